/- Contracts of List of both sides; the walk of HashLists. -/
import Derived.Test.YtfdaolmjgigcmaaDoorHpair
import Derived.Test.YtfdaolmjgigcmaaDoorStrs
namespace Go.Proofs.YtfdaolmjgigcmaaDoor
open Go.ChangeShapes Go.WideShapes Go.ChangeAt Go.RowKit
set_option linter.unusedVariables false
set_option linter.unusedSimpArgs false

/-- The sizes of the first j strings. -/
def sz (ls : List ByteArray) (j : Nat) : Nat := ((ls.take j).map ByteArray.size).sum
theorem sz_succ (ls : List ByteArray) (j : Nat) (hj : j < ls.length) : sz ls (j + 1) = sz ls j + (ls.getD j ByteArray.empty).size := by
  unfold sz
  rw [List.take_succ_eq_append_getElem hj, List.map_append, List.sum_append]
  simp [List.getD, hj]
theorem sz_le (ls : List ByteArray) (j : Nat) (hj : j ≤ ls.length) : sz ls j ≤ sz ls ls.length := by
  unfold sz
  rw [List.take_length]
  have := List.take_append_drop j ls
  conv => rhs; rw [← this, List.map_append, List.sum_append]
  omega
theorem sz_one (ls : List ByteArray) (j : Nat) (hj : j < ls.length) : (ls.getD j ByteArray.empty).size ≤ sz ls ls.length := by
  have := sz_succ ls j hj
  have := sz_le ls (j + 1) (by omega)
  omega
theorem sz_bound (ls : List ByteArray) (h : ∀ s ∈ ls, s.size ≤ reachBytes) : ∀ j, j ≤ ls.length → sz ls j ≤ j * reachBytes
  | 0, _ => by simp [sz]
  | j + 1, hj => by
    rw [sz_succ ls j (by omega), Nat.succ_mul]
    have := sz_bound ls h j (by omega)
    have e : ls.getD j ByteArray.empty = ls[j] := by simp [List.getD, show j < ls.length by omega]
    have := h ls[j] (List.getElem_mem _)
    rw [e]; omega
/-- What is summed of the first j strings. -/
def listP (ls : List ByteArray) (j : Nat) : List UInt8 := [2] ++ (be4 ls.length ++ (ls.take j).flatMap fun s => be4 s.size ++ s.data.toList)
theorem listP_succ (ls : List ByteArray) (j : Nat) (hj : j < ls.length) : listP ls (j + 1) = listP ls j ++ (be4 (ls.getD j ByteArray.empty).size ++ (ls.getD j ByteArray.empty).data.toList) := by
  unfold listP
  have e : ls.getD j ByteArray.empty = ls[j] := by simp [List.getD, hj]
  rw [List.take_succ_eq_append_getElem hj, e]
  simp only [List.flatMap_append, List.flatMap_cons, List.flatMap_nil, List.append_nil, List.append_assoc]
theorem listP_length (ls : List ByteArray) : ∀ j, j ≤ ls.length → (listP ls j).length = 5 + 4 * j + sz ls j
  | 0, _ => by simp [listP, be4_length, sz]
  | j + 1, hj => by
    rw [listP_succ ls j (by omega), List.length_append, listP_length ls j (by omega), sz_succ ls j (by omega), List.length_append, be4_length]
    have : (ls.getD j ByteArray.empty).data.toList.length = (ls.getD j ByteArray.empty).size := by simp
    rw [this]; omega

set_option maxHeartbeats 800000 in
set_option maxRecDepth 100000 in
theorem list_any (a : Option Addr) (len cap : Nat) (ls : List ByteArray) (w : World) (hI : IsStrs w a len ls) (hlen : len ≤ 1000) (hlc : len ≤ cap) (hcap : cap ≤ maxLen) (htot : sz ls ls.length ≤ 1000000) (hT : STab w) :
    Calls Tryd.prog 14 #[.slice a len cap] w fun e w' => e = .returned (.string ⟨(sumL (listP ls ls.length)).toArray⟩) ∧ Below w.heap.size w w' := by
  unfold maxLen at hcap
  obtain ⟨hl, hcells⟩ := hI
  obtain ⟨R, hR⟩ : ∃ R, R = listP ls ls.length := ⟨_, rfl⟩
  have hRl : R.length ≤ 1099511627776 := by rw [hR, listP_length ls _ (Nat.le_refl _)]; omega
  have hp : (⟨R.toArray⟩ : ByteArray).size ≤ 1099511627776 := by show R.toArray.size ≤ _; simpa using hRl
  obtain ⟨p, hpe⟩ : ∃ p : ByteArray, p = ⟨R.toArray⟩ := ⟨_, rfl⟩
  rw [← hpe] at hp
  have S1 := Lib.hid (fun (wx : World) (h : STab wx) => sum_any p wx hp h)
  rw [show p.data.toList = R by rw [hpe]] at S1
  have AL := Lib.hid (fun (wx : World) (v : Value) (hO : Own wx w.heap.size 5 v 1 [.int .u8 2]) (hB : w.heap.size ≤ wx.heap.size) => appendLength_any w.heap.size v 1 _ len wx hO (by omega) (by omega) hB)
  have AS := Lib.hid (fun (j : Nat) (hj : j < ls.length) (wx : World) (v : Value) (n : Nat) (hn : n ≤ 1099511627776) (hO : Own wx w.heap.size 5 v n (bytesV (listP ls j))) (hB : w.heap.size ≤ wx.heap.size) => appendString_any w.heap.size v n _ (ls.getD j ByteArray.empty) wx hO hn (by have := sz_one ls j hj; omega) hB)
  rw [← hR]
  have HT := Lib.hid hT
  have HP := Lib.hid hpe
  have HRR := Lib.hid hR
  have HC := Lib.hid hcells
  clear hR hpe hT hp hcells
  go_enter Tryd.func14, Tryd.ntmps14
  have hO0 := Own.lit w w.heap.size 5 [.int .u8 2] (Nat.le_refl _) (by decide)
  go_wp2_with (go_at_call 27; (with_reducible refine (AL.out _ _ hO0 (by simp)).mono ?_); rintro e w1 ⟨v1, rfl, hO1, hb1⟩)
  have hB1 := ((Below.refl w.heap.size w).alloc (Nat.le_refl _) _).trans hb1
  have hO1' : Own w1 w.heap.size 5 v1 (listP ls 0).length (bytesV (listP ls 0)) := by
    have e1 : (listP ls 0).length = 1 + 4 := by rw [listP_length ls 0 (by omega)]; simp [sz]
    rw [e1]
    have e2 : bytesV (listP ls 0) = [Value.int .u8 2] ++ bytesV (be4 len) := by
      unfold listP; rw [hl]; simp only [List.take_zero, List.flatMap_nil, List.append_nil, bytesV_append]; rfl
    rw [e2]; exact hO1
  clear hO0 hO1 hb1
  go_loopw [3, 12] (fun v i wr => ∃ j : Nat, ∃ vv : Value, j ≤ len ∧ i = .int .i64 j ∧ v = vv ∧ Own wr w.heap.size 5 vv (listP ls j).length (bytesV (listP ls j)) ∧ Below w.heap.size w wr) (fun _ i _ => len - (intOf i).toNat)
  case atStart => exact ⟨0, v1, by omega, rfl, rfl, hO1', hB1⟩
  case round =>
    clear hO1' hB1
    obtain ⟨j, vv, hj, rfl, hvv, hO, hB⟩ := hrel
    replace hvv := hvv.symm
    subst hvv
    have hbs := hB.size
    by_cases hlt : j < len
    · obtain ⟨b, off, rfl, hbw, hcell⟩ := HC.out j hlt
      rw [← hB.cell (p := ⟨b, off + j, none⟩) hbw] at hcell
      have hpl := listP_length ls j (by omega)
      have hsl := sz_le ls j (by omega)
      have A1 := Lib.hid (AS.out j (by omega) _ _ _ (by omega) hO hbs)
      have hsu := listP_succ ls j (by omega)
      obtain ⟨y, hy⟩ : ∃ y, y = ls.getD j ByteArray.empty := ⟨_, rfl⟩
      rw [← hy] at A1 hcell hsu
      have HSU := Lib.hid hsu
      have hi1 : (j : Int) < (len : Int) := by omega
      clear hsu hpl hsl hy hO
      go_wp2_with (go_at_call 25; (with_reducible refine A1.out.mono ?_); rintro e w2 ⟨v2, rfl, hO2, hb2⟩)
      go_roundw
      case rel =>
        refine ⟨j + 1, v2, by omega, rfl, rfl, ?_, hB.trans hb2⟩
        rw [HSU.out, List.length_append, List.length_append, be4_length, bytesV_append, bytesV_append, ← Nat.add_assoc]
        have : y.data.toList.length = y.size := by simp
        rw [this]
        exact hO2
      case measure => simp [intOf]; omega
    · obtain rfl : j = len := by omega
      have hO' : Own wr w.heap.size 5 vv (listP ls j).length (R.map fun b => Value.int .u8 (b.toNat : Int)) := by
        rw [HRR.out, hl]; exact hO
      have hcv := conv_Own (P := Tryd.prog) wr 24 9 5 w.heap.size _ _ R hO' Tryd.underlying24 Tryd.underlying5 Tryd.underlying9
      rw [← HP.out] at hcv
      clear hO hO'
      go_wp2_with (go_at_call 10; (with_reducible refine (S1.out _ (HT.out.below hB)).mono ?_); rintro e w3 ⟨rfl, hb3⟩)
      go_ret
      exact ⟨rfl, hB.trans (hb3.mono hB.size)⟩
set_option maxHeartbeats 800000 in
set_option maxRecDepth 100000 in
theorem rlist_any (a : Option Addr) (len cap : Nat) (ls : List ByteArray) (w : World) (hI : IsStrs w a len ls) (hlen : len ≤ 1000) (hlc : len ≤ cap) (hcap : cap ≤ maxLen) (htot : sz ls ls.length ≤ 1000000) :
    Calls Tryd.prog 15 #[.slice a len cap] w fun e w' => e = .returned (.string ⟨(sumL (listP ls ls.length)).toArray⟩) ∧ Below w.heap.size w w' := by
  unfold maxLen at hcap
  obtain ⟨hl, hcells⟩ := hI
  have F0 := Lib.hid (fun (wx : World) => four_any len wx (by omega))
  obtain ⟨f0, hf0⟩ : ∃ f : ByteArray, f = ⟨(be4 len).toArray⟩ := ⟨_, rfl⟩
  have hf0s : f0.size = 4 := by rw [hf0]; rfl
  rw [← hf0] at F0
  have FJ := Lib.hid (fun (k : Nat) (hk : k ≤ 1099511627776) (wx : World) => four_any k wx hk)
  have hq0 : ({ data := #[2] } ++ f0 : ByteArray).data.toList = listP ls 0 := by
    rw [hf0]; unfold listP; rw [hl]; simp [ByteArray.data_append]
  have SS := Lib.hid (fun (q : ByteArray) (hq : q.data.toList = listP ls ls.length) (wx : World) => rsum_any q wx (by
    have h1 : q.size = q.data.toList.length := by simp
    rw [h1, hq, listP_length ls _ (Nat.le_refl _)]; omega))
  have HC := Lib.hid hcells
  have HQ0 := Lib.hid hq0
  obtain ⟨OUT, hOUT⟩ : ∃ o : ByteArray, o = ⟨(sumL (listP ls ls.length)).toArray⟩ := ⟨_, rfl⟩
  rw [← hOUT]
  have HO := Lib.hid hOUT
  clear hf0 hcells hq0 hOUT
  go_enter Tryd.func15, Tryd.ntmps15
  go_wp2_with (go_at_call 26; (with_reducible refine (F0.out _).mono ?_); rintro e w1 ⟨rfl, hb1⟩)
  go_loopw [3, 12] (fun v i wr => ∃ j : Nat, ∃ q : ByteArray, j ≤ len ∧ i = .int .i64 j ∧ v = .string q ∧ q.data.toList = listP ls j ∧ Below w.heap.size w wr) (fun _ i _ => len - (intOf i).toNat)
  case atStart => exact ⟨0, _, by omega, rfl, rfl, HQ0.out, hb1⟩
  case round =>
    clear hb1
    obtain ⟨j, q, hj, rfl, rfl, hq, hB⟩ := hrel
    have hbs := hB.size
    by_cases hlt : j < len
    · obtain ⟨b, off, rfl, hbw, hcell⟩ := HC.out j hlt
      rw [← hB.cell (p := ⟨b, off + j, none⟩) hbw] at hcell
      have hpl := listP_length ls j (by omega)
      have hsl := sz_le ls j (by omega)
      have hqs : q.size ≤ 1005005 := by
        have h1 : q.size = q.data.toList.length := by simp
        rw [h1, hq, hpl]; omega
      have hy1 := sz_one ls j (by omega)
      have hsu := listP_succ ls j (by omega)
      obtain ⟨y, hy⟩ : ∃ y, y = ls.getD j ByteArray.empty := ⟨_, rfl⟩
      rw [← hy] at hcell hsu hy1
      have hys : y.size ≤ 1000000 := by omega
      have FY := Lib.hid (FJ.out y.size (by omega))
      obtain ⟨f, hf⟩ : ∃ f : ByteArray, f = ⟨(be4 y.size).toArray⟩ := ⟨_, rfl⟩
      have hfs : f.size = 4 := by rw [hf]; rfl
      rw [← hf] at FY
      have hnx : Hid ((q ++ (f ++ y)).data.toList = listP ls (j + 1)) := Lib.hid (by rw [hsu, hf]; simp [ByteArray.data_append, hq])
      have hi1 : (j : Int) < (len : Int) := by omega
      have HQ := Lib.hid hq
      clear hsu hpl hsl hy hf hq hy1
      go_wp2_with (go_at_call 26; (with_reducible refine (FY.out _).mono ?_); rintro e w2 ⟨rfl, hb2⟩)
      go_roundw
      case rel => exact ⟨j + 1, _, by omega, rfl, rfl, hnx.out, hB.trans (hb2.mono hbs)⟩
      case measure => simp [intOf]; omega
    · obtain rfl : j = len := by omega
      have S1 := Lib.hid (SS.out q (by rw [hq, hl]))
      rw [show q.data.toList = listP ls ls.length by rw [hq, hl], ← HO.out] at S1
      have HQ := Lib.hid hq
      clear hq
      go_wp2_with (go_at_call 11; (with_reducible refine (S1.out _).mono ?_); rintro e w3 ⟨rfl, hb3⟩)
      go_ret
      exact ⟨rfl, hB.trans (hb3.mono hB.size)⟩

end Go.Proofs.YtfdaolmjgigcmaaDoor
