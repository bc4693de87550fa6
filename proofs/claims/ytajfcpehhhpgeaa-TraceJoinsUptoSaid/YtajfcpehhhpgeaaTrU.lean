/- How much there is to read: rows. -/
import Derived.Test.YtajfcpehhhpgeaaTrO
import Derived.Test.YtajfcpehhhpgeaaRows
namespace Go.Proofs.Ytajfcpehhhpgeaa
open Go.Sx Go.RowKit
theorem bulk_one {H : Type} (d : DataW H) : 1 ≤ Rows.uptoBulk d := by
  cases d with
  | lit l => cases l <;> simp [Rows.uptoBulk]
  | _ => simp [Rows.uptoBulk]
theorem bulk_len {H : Type} : ∀ l : List (DataW H), l.length ≤ Rows.uptoBulkAll l
  | [] => Nat.zero_le _
  | d :: l => by
    have h1 := bulk_one d
    have h2 := bulk_len l
    simp only [Rows.uptoBulkAll, List.length_cons]
    omega
theorem bulk_row {H : Type} {d : DataW H} {n : Nat} (hd : (d = .nil ∧ n = 0) ∨ ∃ els sp, d = .slice els sp ∧ els.length = n) : n ≤ Rows.uptoBulk d := by
  rcases hd with ⟨_, rfl⟩ | ⟨els, sp, rfl, rfl⟩
  · exact Nat.zero_le _
  · have := bulk_len els
    simp only [Rows.uptoBulk]
    omega
theorem bulk_l {H : Type} {d d2 e1 e2 : DataW H} {n : Nat} (hk : Rows.uptoBulkAll [.agg [d, d2, e1, e2]] ≤ 1048576) (hd : (d = .nil ∧ n = 0) ∨ ∃ els sp, d = .slice els sp ∧ els.length = n) : n ≤ 1048576 := by
  have := bulk_row hd
  simp only [Rows.uptoBulkAll, Rows.uptoBulk] at hk
  omega
theorem bulk_r {H : Type} {d d2 e1 e2 : DataW H} {n : Nat} (hk : Rows.uptoBulkAll [.agg [d, d2, e1, e2]] ≤ 1048576) (hd : (d2 = .nil ∧ n = 0) ∨ ∃ els sp, d2 = .slice els sp ∧ els.length = n) : n ≤ 1048576 := by
  have := bulk_row hd
  simp only [Rows.uptoBulkAll, Rows.uptoBulk] at hk
  omega
end Go.Proofs.Ytajfcpehhhpgeaa
