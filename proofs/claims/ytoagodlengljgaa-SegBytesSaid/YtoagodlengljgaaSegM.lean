/- Plain facts on texts that are written over. -/
import Derived.Test.YtoagodlengljgaaSegD
namespace Go.Proofs.Ytoagodlengljgaa
open Go.RowKit
set_option linter.unusedVariables false

theorem byteV_spl (m : ByteArray) (a : Nat) (s : ByteArray) (h : a + s.size ≤ m.size) (j : Nat) : byteV (splB m a s) j = if a ≤ j ∧ j < a + s.size then byteV s (j - a) else byteV m j := by
  have hms : m.data.toList.length = m.size := (Lib.size_eq m).symm
  have hss : s.data.toList.length = s.size := (Lib.size_eq s).symm
  have hmn : min a m.size = a := by omega
  unfold byteV
  rw [splB_list]
  simp only [List.getD_eq_getElem?_getD]
  by_cases hin : a ≤ j ∧ j < a + s.size
  · rw [if_pos hin, List.append_assoc, List.getElem?_append_right (by simp; omega), List.getElem?_append_left (by simp; omega)]
    simp [hmn]
  · rw [if_neg hin]
    by_cases hlt : j < a
    · rw [List.append_assoc, List.getElem?_append_left (by simp; omega)]
      simp [hlt]
    · rw [List.getElem?_append_right (by simp; omega)]
      simp [hmn]
      rw [show a + s.size + (j - (a + s.size)) = j by omega]

theorem byteV_byte (v : Int) : byteV ⟨#[byteI v]⟩ 0 = v % 256 := by
  unfold byteV
  exact byteI_toNat v
theorem byteV_word0 (v : Int) : byteV (wordB v) 0 = v % 256 := byteI_toNat v
theorem byteV_word1 (v : Int) : byteV (wordB v) 1 = v / 256 % 256 := byteI_toNat _
theorem byteV_word2 (v : Int) : byteV (wordB v) 2 = v / 65536 % 256 := byteI_toNat _
theorem byteV_word3 (v : Int) : byteV (wordB v) 3 = v / 16777216 % 256 := byteI_toNat _

theorem word_back (m : ByteArray) (a : Nat) (v : Int) (h : a + 4 ≤ m.size) (h0 : 0 ≤ v) (h1 : v < 4294967296) : wordV (splB m a (wordB v)) a = v := by
  have hs : a + (wordB v).size ≤ m.size := by rw [wordB_size]; omega
  unfold wordV
  rw [byteV_spl _ _ _ hs, byteV_spl _ _ _ hs, byteV_spl _ _ _ hs, byteV_spl _ _ _ hs, wordB_size]
  rw [if_pos (by omega), if_pos (by omega), if_pos (by omega), if_pos (by omega)]
  rw [show a - a = 0 by omega, show a + 1 - a = 1 by omega, show a + 2 - a = 2 by omega, show a + 3 - a = 3 by omega, byteV_word0, byteV_word1, byteV_word2, byteV_word3]
  omega
theorem word_other (m : ByteArray) (a b : Nat) (v : Int) (h : a + 4 ≤ m.size) (ha : a % 4 = 0) (hb : b % 4 = 0) (hne : b ≠ a) : wordV (splB m a (wordB v)) b = wordV m b := by
  have hs : a + (wordB v).size ≤ m.size := by rw [wordB_size]; omega
  unfold wordV
  rw [byteV_spl _ _ _ hs, byteV_spl _ _ _ hs, byteV_spl _ _ _ hs, byteV_spl _ _ _ hs, wordB_size]
  rw [if_neg (by omega), if_neg (by omega), if_neg (by omega), if_neg (by omega)]

theorem list_eq {a b : ByteArray} (h : a.data.toList = b.data.toList) : a = b := by
  apply ByteArray.ext
  exact Array.toList_inj.1 h
theorem cut_spl (m : ByteArray) (a : Nat) (s : ByteArray) (h : a + s.size ≤ m.size) : cutB (splB m a s) a s.size = s := by
  have hms : m.data.toList.length = m.size := (Lib.size_eq m).symm
  have hss : s.data.toList.length = s.size := (Lib.size_eq s).symm
  apply list_eq
  unfold cutB
  rw [Lib.extract_data, splB_list, List.append_assoc, List.drop_append_of_le_length (by simp; omega), List.drop_take]
  simp [hss]
theorem cut_ahead (m : ByteArray) (a : Nat) (s : ByteArray) (h : a + s.size ≤ m.size) : cutB (splB m a s) 0 a = cutB m 0 a := by
  have hms : m.data.toList.length = m.size := (Lib.size_eq m).symm
  have hmn : min a m.size = a := by omega
  apply list_eq
  unfold cutB
  rw [Lib.extract_data, Lib.extract_data, splB_list, List.append_assoc]
  simp [hmn]
theorem cut_behind (m : ByteArray) (a : Nat) (s : ByteArray) (h : a + s.size ≤ m.size) : (splB m a s).extract (a + s.size) m.size = m.extract (a + s.size) m.size := by
  have hms : m.data.toList.length = m.size := (Lib.size_eq m).symm
  have hss : s.data.toList.length = s.size := (Lib.size_eq s).symm
  have hmn : min a m.size = a := by omega
  apply list_eq
  rw [Lib.extract_data, Lib.extract_data, splB_list]
  congr 1
  rw [List.drop_append]
  simp [hmn]
end Go.Proofs.Ytoagodlengljgaa
