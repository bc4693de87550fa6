/- The types of the program, as a table. -/
import Derived.Test.YtmifdcanokpkiaaSxK
import Derived.Test.YtmifdcanokpkiaaChecked
namespace Go.Proofs.Ytmifdcanokpkiaa
open Go.Sx
def tab : Tab := [
  none,
  some ⟨1, 8, .func, .nilFunc, [], false⟩,
  some ⟨1, 8, .int .i64, .int .i64 0, [], false⟩,
  some ⟨1, 8, .int .i64, .int .i64 0, [], false⟩,
  some ⟨1, 1, .bool, .bool false, [], false⟩,
  some ⟨1, 1, .int .u8, .int .u8 0, [], false⟩,
  none,
  none,
  none,
  some ⟨1, 16, .str, .string ⟨#[]⟩, [], false⟩,
  none,
  none,
  some ⟨1, 8, .int .u64, .int .u64 0, [], false⟩,
  none,
  none,
  none,
  none,
  none,
  none,
  none,
  none,
  some ⟨1, 4, .int .i32, .int .i32 0, [], false⟩,
  some ⟨1, 24, .slice 28, .slice none 0 0, [], false⟩,
  some ⟨1, 8, .func, .nilFunc, [], false⟩,
  some ⟨1, 8, .int .i64, .int .i64 0, [], false⟩,
  none,
  some ⟨1, 8, .func, .nilFunc, [], false⟩,
  some ⟨1, 8, .func, .nilFunc, [], false⟩,
  some ⟨1, 24, .slice 9, .slice none 0 0, [], false⟩,
  some ⟨1, 24, .slice 5, .slice none 0 0, [], false⟩,
  some ⟨1, 8, .func, .nilFunc, [], false⟩,
  some ⟨1, 8, .func, .nilFunc, [], false⟩,
  some ⟨1, 8, .func, .nilFunc, [], false⟩,
  some ⟨1, 8, .func, .nilFunc, [], false⟩,
  some ⟨1, 8, .func, .nilFunc, [], false⟩,
  none,
  none,
  none,
  none,
  none,
  some ⟨1, 8, .func, .nilFunc, [], false⟩,
  some ⟨1, 4, .int .u32, .int .u32 0, [], false⟩,
  none,
  none,
  some ⟨1, 8, .func, .nilFunc, [], false⟩]
set_option maxRecDepth 100000 in
theorem tab_ok : TabOk Try.prog tab := tabOk_of ⟨tyOk_mk (by kernel_rfl) (by kernel_rfl) rfl rfl (.inl rfl), tyOk_mk (by kernel_rfl) (by kernel_rfl) rfl rfl (.inl rfl), tyOk_mk (by kernel_rfl) (by kernel_rfl) rfl rfl (.inl rfl), tyOk_mk (by kernel_rfl) (by kernel_rfl) rfl rfl (.inl rfl), tyOk_mk (by kernel_rfl) (by kernel_rfl) rfl rfl (.inl rfl), tyOk_mk (by kernel_rfl) (by kernel_rfl) rfl rfl (.inl rfl), tyOk_mk (by kernel_rfl) (by kernel_rfl) rfl rfl (.inl rfl), tyOk_mk (by kernel_rfl) (by kernel_rfl) rfl rfl (.inl rfl), tyOk_mk (by kernel_rfl) (by kernel_rfl) rfl rfl (.inl rfl), tyOk_mk (by kernel_rfl) (by kernel_rfl) rfl rfl (.inl rfl), tyOk_mk (by kernel_rfl) (by kernel_rfl) rfl rfl (.inl rfl), tyOk_mk (by kernel_rfl) (by kernel_rfl) rfl rfl (.inl rfl), tyOk_mk (by kernel_rfl) (by kernel_rfl) rfl rfl (.inl rfl), tyOk_mk (by kernel_rfl) (by kernel_rfl) rfl rfl (.inl rfl), tyOk_mk (by kernel_rfl) (by kernel_rfl) rfl rfl (.inl rfl), tyOk_mk (by kernel_rfl) (by kernel_rfl) rfl rfl (.inl rfl), tyOk_mk (by kernel_rfl) (by kernel_rfl) rfl rfl (.inl rfl), tyOk_mk (by kernel_rfl) (by kernel_rfl) rfl rfl (.inl rfl), tyOk_mk (by kernel_rfl) (by kernel_rfl) rfl rfl (.inl rfl), tyOk_mk (by kernel_rfl) (by kernel_rfl) rfl rfl (.inl rfl), tyOk_mk (by kernel_rfl) (by kernel_rfl) rfl rfl (.inl rfl), tyOk_mk (by kernel_rfl) (by kernel_rfl) rfl rfl (.inl rfl), tyOk_mk (by kernel_rfl) (by kernel_rfl) rfl rfl (.inl rfl), trivial⟩
end Go.Proofs.Ytmifdcanokpkiaa
