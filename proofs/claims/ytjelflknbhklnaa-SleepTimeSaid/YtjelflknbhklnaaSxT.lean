/- The types of the program, as a table. -/
import Derived.Test.YtjelflknbhklnaaSxK
import Derived.Test.YtjelflknbhklnaaChecked
namespace Go.Proofs.Ytjelflknbhklnaa
open Go.Sx
def tab : Tab := [
  none,
  none,
  some ⟨1, 8, .int .i64, .int .i64 0, []⟩,
  some ⟨1, 8, .int .i64, .int .i64 0, []⟩,
  some ⟨1, 1, .bool, .bool false, []⟩,
  some ⟨1, 1, .int .u8, .int .u8 0, []⟩,
  none,
  none,
  none,
  some ⟨1, 16, .str, .string ⟨#[]⟩, []⟩,
  none,
  none,
  some ⟨1, 8, .int .u64, .int .u64 0, []⟩,
  none,
  none,
  none,
  none,
  none,
  none,
  none,
  none,
  some ⟨1, 4, .int .i32, .int .i32 0, []⟩,
  some ⟨1, 24, .slice 25, .slice none 0 0, []⟩,
  some ⟨1, 8, .int .u64, .int .u64 0, []⟩,
  some ⟨2, 16, .struct [(0, 23), (1, 3)], .agg #[.int .u64 0, .int .i64 0], [1, 1]⟩,
  some ⟨2, 16, .struct [(0, 23), (1, 3)], .agg #[.int .u64 0, .int .i64 0], [1, 1]⟩,
  some ⟨1, 4, .int .u32, .int .u32 0, []⟩,
  some ⟨6, 64, .struct [(0, 22), (1, 25), (3, 3), (4, 23), (5, 26)], .agg #[.slice none 0 0, .int .u64 0, .int .i64 0, .int .i64 0, .int .u64 0, .int .u32 0], []⟩,
  some ⟨6, 64, .struct [(0, 22), (1, 25), (3, 3), (4, 23), (5, 26)], .agg #[.slice none 0 0, .int .u64 0, .int .i64 0, .int .i64 0, .int .u64 0, .int .u32 0], []⟩,
  none,
  some ⟨1, 24, .slice 3, .slice none 0 0, []⟩,
  none,
  none,
  none,
  none,
  none,
  none,
  none,
  none,
  none,
  some ⟨5, 56, .struct [(0, 22), (1, 25), (3, 3), (4, 23)], .agg #[.slice none 0 0, .int .u64 0, .int .i64 0, .int .i64 0, .int .u64 0], []⟩,
  some ⟨5, 56, .struct [(0, 22), (1, 25), (3, 3), (4, 23)], .agg #[.slice none 0 0, .int .u64 0, .int .i64 0, .int .i64 0, .int .u64 0], []⟩]
set_option maxRecDepth 100000 in
theorem tab_ok : TabOk Try.prog tab := tabOk_of ⟨tyOk_mk (by kernel_rfl) (by kernel_rfl) rfl rfl (.inl rfl), tyOk_mk (by kernel_rfl) (by kernel_rfl) rfl rfl (.inl rfl), tyOk_mk (by kernel_rfl) (by kernel_rfl) rfl rfl (.inl rfl), tyOk_mk (by kernel_rfl) (by kernel_rfl) rfl rfl (.inl rfl), tyOk_mk (by kernel_rfl) (by kernel_rfl) rfl rfl (.inl rfl), tyOk_mk (by kernel_rfl) (by kernel_rfl) rfl rfl (.inl rfl), tyOk_mk (by kernel_rfl) (by kernel_rfl) rfl rfl (.inl rfl), tyOk_mk (by kernel_rfl) (by kernel_rfl) rfl rfl (.inl rfl), tyOk_mk (by kernel_rfl) (by kernel_rfl) rfl rfl (.inl rfl), tyOk_mk (by kernel_rfl) (by kernel_rfl) rfl rfl (.inr ⟨.str (.cons (.one 1) (.cons (.one 1) (.nil))), rfl, by decide, rfl, by kernel_rfl, by kernel_rfl⟩), tyOk_mk (by kernel_rfl) (by kernel_rfl) rfl rfl (.inr ⟨.str (.cons (.one 1) (.cons (.one 1) (.nil))), rfl, by decide, rfl, by kernel_rfl, by kernel_rfl⟩), tyOk_mk (by kernel_rfl) (by kernel_rfl) rfl rfl (.inl rfl), tyOk_mk (by kernel_rfl) (by kernel_rfl) rfl rfl (.inl rfl), tyOk_mk (by kernel_rfl) (by kernel_rfl) rfl rfl (.inl rfl), tyOk_mk (by kernel_rfl) (by kernel_rfl) rfl rfl (.inl rfl), tyOk_mk (by kernel_rfl) (by kernel_rfl) rfl rfl (.inl rfl), tyOk_mk (by kernel_rfl) (by kernel_rfl) rfl rfl (.inl rfl), trivial⟩
end Go.Proofs.Ytjelflknbhklnaa
