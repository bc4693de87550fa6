/- Instructions as values: api.Ins; two of them held against each other. -/
import Derived.Test.YtcdoofjddhlodaaDoorBase
namespace Go.Proofs.YtcdoofjddhlodaaDoor
open Go.RowKit

abbrev insV (o a b i : Int) : Value := .agg #[.int .i64 o, .int .i64 a, .int .i64 b, .int .i64 i]
def insEq (o a b i o' a' b' i' : Int) : Bool := o == o' && (a == a' && (b == b' && i == i'))

set_option maxRecDepth 100000 in
theorem equal_ins (o a b i o' a' b' i' : Int) (w : World) :
    (Op.equalIn 10000 27 (insV o a b i) (insV o' a' b' i')).run Tryd.prog w = .ok (insEq o a b i o' a' b' i') w := by
  have hf : (Tryd.prog.fieldsOf 27).toList = [⟨"Op", 3, 0, false, "", "", 0⟩, ⟨"A", 3, 1, false, "", "", 8⟩, ⟨"B", 3, 2, false, "", "", 16⟩, ⟨"Imm", 3, 3, false, "", "", 24⟩] := by kernel_rfl
  simp only [insV]
  rw [run_equalIn_agg (P := Tryd.prog) w 9999 27 _ _ (by kernel_rfl) (by kernel_rfl), hf]
  have h3 : ∀ (x y : Int) (w : World), (Op.equalIn 9999 3 (.int .i64 x) (.int .i64 y)).run Tryd.prog w = .ok (x == y) w := fun x y w => run_equalIn_int w 9998 3 .i64 .i64 x y Tryd.underlying3
  generalize 9999 = d at h3 ⊢
  simp [Op.eqFields, go_sem, h3, insEq]
  by_cases e1 : o = o' <;> simp [e1]
  by_cases e2 : a = a' <;> simp [e2]
  by_cases e3 : b = b' <;> simp [e3]
  by_cases e4 : i = i' <;> simp [e4]

theorem eql_ins (o a b i o' a' b' i' : Int) (w : World) : (binOp .eql 27 (insV o a b i) (insV o' a' b' i')).run Tryd.prog w = .ok (.bool (insEq o a b i o' a' b' i')) w := by
  simp only [insV]
  rw [run_eql_struct, equal_ins]; rfl
theorem neq_ins (o a b i o' a' b' i' : Int) (w : World) : (binOp .neq 27 (insV o a b i) (insV o' a' b' i')).run Tryd.prog w = .ok (.bool (!insEq o a b i o' a' b' i')) w := by
  simp only [insV]
  rw [run_neq_struct, equal_ins]; rfl
end Go.Proofs.YtcdoofjddhlodaaDoor
