/- Keys that sign eight times, as data: leaves, inner nodes, the way up; what was signed leads to the top. -/
import Derived.Test.YtpophimnoakinaaDoorOrc
namespace Go.Proofs.YtpophimnoakinaaDoor
open Go
set_option linter.unusedVariables false
set_option linter.unusedSimpArgs false

/-- The sum. -/
def smB (s : ByteArray) : ByteArray := ⟨(sumL s.data.toList).toArray⟩
theorem smB_size (s : ByteArray) : (smB s).size = 32 := by show (sumL s.data.toList).toArray.size = 32; rw [List.size_toArray, sumL_length]
def oneB (a : Int) : ByteArray := ⟨#[byteI a]⟩
/-- The seed of a use. -/
def useB (seed : ByteArray) (u : Int) : ByteArray := smB (seed ++ oneB u)
theorem useB_size (seed : ByteArray) (u : Int) : (useB seed u).size = 32 := smB_size _
def lfB (p : ByteArray) : ByteArray := shB (⟨#[0]⟩ ++ p)
def leafB (seed : ByteArray) (u : Int) : ByteArray := lfB (pubB (useB seed u))
def nodB (a b : ByteArray) : ByteArray := shB (⟨#[1]⟩ ++ a ++ b)
/-- The node with number i of a level. -/
def lvB (seed : ByteArray) : Nat → Nat → ByteArray
  | 0, i => leafB seed i
  | k + 1, i => nodB (lvB seed k (2 * i)) (lvB seed k (2 * i + 1))
theorem lvB_size (seed : ByteArray) (k i : Nat) : (lvB seed k i).size = 16 := by cases k <;> exact shB_size _
def topB (t : ByteArray) : ByteArray := smB (⟨#[2]⟩ ++ t)
def pkB (seed : ByteArray) : ByteArray := topB (lvB seed 3 0)
/-- The number of the node beside. -/
def besN (u k : Nat) : Nat := if u / 2 ^ k % 2 = 0 then u / 2 ^ k + 1 else u / 2 ^ k - 1
def besB (seed : ByteArray) (u k : Nat) : ByteArray := lvB seed k (besN u k)
def sgB (seed : ByteArray) (u : Nat) (m : ByteArray) : ByteArray := oneB u ++ signB (useB seed u) m ++ besB seed u 0 ++ besB seed u 1 ++ besB seed u 2
theorem sgB_size (seed : ByteArray) (u : Nat) (m : ByteArray) : (sgB seed u m).size = 625 := by
  unfold sgB besB
  simp only [ByteArray.size_append, lvB_size, signB_size]
  rfl
/-- One level up, by the bit of the use. -/
def upB (u k : Nat) (x y : ByteArray) : ByteArray := if u / 2 ^ k % 2 = 0 then nodB x y else nodB y x
theorem up_step (seed : ByteArray) (u k : Nat) : upB u k (lvB seed k (u / 2 ^ k)) (besB seed u k) = lvB seed (k + 1) (u / 2 ^ (k + 1)) := by
  have e : u / 2 ^ (k + 1) = u / 2 ^ k / 2 := by rw [Nat.pow_succ, Nat.div_div_eq_div_mul]
  unfold upB besB besN
  rw [e]
  show _ = nodB (lvB seed k (2 * (u / 2 ^ k / 2))) (lvB seed k (2 * (u / 2 ^ k / 2) + 1))
  by_cases h : u / 2 ^ k % 2 = 0
  · rw [if_pos h, if_pos h, show 2 * (u / 2 ^ k / 2) = u / 2 ^ k by omega]
  · rw [if_neg h, if_neg h, show 2 * (u / 2 ^ k / 2) + 1 = u / 2 ^ k by omega, show 2 * (u / 2 ^ k / 2) = u / 2 ^ k - 1 by omega]
/-- What a signature leads to. -/
def clB (u : Nat) (m raw : ByteArray) : ByteArray := upB u 2 (upB u 1 (upB u 0 (lfB (recB m (raw.extract 1 577))) (raw.extract 577 593)) (raw.extract 593 609)) (raw.extract 609 625)
theorem cat_mid (a b c : ByteArray) (i j : Nat) (ha : a.size = i) (hb : i + b.size = j) : (a ++ b ++ c).extract i j = b := by
  apply bytes_ext
  rw [toList_extract, ByteArray.data_append, ByteArray.data_append, Array.toList_append, Array.toList_append]
  have la : a.data.toList.length = i := ha
  have lb : b.data.toList.length = b.size := rfl
  rw [List.take_left' (by rw [List.length_append]; omega), List.drop_left' la]
theorem cat_end (a b : ByteArray) (i j : Nat) (ha : a.size = i) (hb : i + b.size = j) : (a ++ b).extract i j = b := by
  have := cat_mid a b ByteArray.empty i j ha hb
  rwa [ByteArray.append_empty] at this
theorem sign_up (seed : ByteArray) (u : Nat) (m : ByteArray) (hu : u < 8) : clB u m (sgB seed u m) = lvB seed 3 0 := by
  have s0 : (oneB u).size = 1 := rfl
  have s1 := signB_size (useB seed u) m
  have b0 : (besB seed u 0).size = 16 := lvB_size _ _ _
  have b1 : (besB seed u 1).size = 16 := lvB_size _ _ _
  have b2 : (besB seed u 2).size = 16 := lvB_size _ _ _
  have e1 : (sgB seed u m).extract 1 577 = signB (useB seed u) m := by
    unfold sgB
    rw [ByteArray.append_assoc, ByteArray.append_assoc]
    exact cat_mid _ _ _ 1 577 s0 (by omega)
  have e2 : (sgB seed u m).extract 577 593 = besB seed u 0 := by
    unfold sgB
    rw [ByteArray.append_assoc (c := besB seed u 2)]
    exact cat_mid _ _ _ 577 593 (by rw [ByteArray.size_append]; omega) (by omega)
  have e3 : (sgB seed u m).extract 593 609 = besB seed u 1 := by
    unfold sgB
    exact cat_mid _ _ _ 593 609 (by rw [ByteArray.size_append, ByteArray.size_append]; omega) (by omega)
  have e4 : (sgB seed u m).extract 609 625 = besB seed u 2 := by
    unfold sgB
    exact cat_end _ _ 609 625 (by rw [ByteArray.size_append, ByteArray.size_append, ByteArray.size_append]; omega) (by omega)
  unfold clB
  rw [e1, e2, e3, e4, rec_sign]
  have h0 := up_step seed u 0
  have h1 := up_step seed u 1
  have h2 := up_step seed u 2
  rw [show u / 2 ^ 0 = u by simp] at h0
  rw [show lfB (pubB (useB seed u)) = lvB seed 0 u from rfl, h0, h1, h2, show u / 2 ^ (2 + 1) = 0 by omega]
end Go.Proofs.YtpophimnoakinaaDoor
/- The document's keys: the seed of a use, leaves, inner nodes, the tree, the public key. -/
namespace Go.Proofs.YtpophimnoakinaaDoor
open Go.ChangeShapes Go.WideShapes Go.ChangeAt Go.RowKit
set_option linter.unusedVariables false
set_option linter.unusedSimpArgs false

theorem oneB_of (a : Int) {F : List UInt8} (hF : F = [byteI a]) : (⟨F.toArray⟩ : ByteArray) = oneB a := by rw [hF]; rfl
/-- A string of one number's byte. -/
theorem one_conv (w : World) (u : Int) : (convert 35 9 (.slice (some ⟨w.heap.size, 0, none⟩) 1 1)).run Tryd.prog (w.alloc (.cells #[.int .u8 (u % 256)] 5)) = .ok (.string (oneB u)) (w.alloc (.cells #[.int .u8 (u % 256)] 5)) := by
  obtain ⟨F, hF⟩ : ∃ F, F = [byteI u] := ⟨_, rfl⟩
  have hrow : Row (w.alloc (.cells #[.int .u8 (u % 256)] 5)) w.heap.size 5 1 (F.map fun b => Value.int .u8 (b.toNat : Int)) := by
    have hv : bytesV [byteI u] = [Value.int .u8 (u % 256)] := by simp only [bytesV, List.map_cons, List.map_nil, byteI_val]
    rw [show (F.map fun b => Value.int .u8 (b.toNat : Int)) = bytesV F from rfl, hF, hv]
    exact Row.new w _ _ _ (by simp) (by simp)
  have hcv := conv_row (P := Tryd.prog) _ 35 9 5 w.heap.size 5 1 1 F (by rw [hF]; rfl) hrow Tryd.underlying35 Tryd.underlying5 Tryd.underlying9
  rwa [oneB_of u hF] at hcv
set_option maxRecDepth 100000 in
theorem rsecret12_any (s : ByteArray) (u : Int) (w : World) (hs : s.size ≤ 999990) : Calls Tryd.prog 29 #[.string s, .int .i64 u] w fun e w' => e = .returned (.string (useB s u)) ∧ Below w.heap.size w w' := by
  have hcv := one_conv w u
  have h1 : (oneB u).size = 1 := rfl
  unfold useB
  obtain ⟨t, ht⟩ : ∃ t, t = oneB u := ⟨_, rfl⟩
  rw [← ht] at hcv h1 ⊢
  obtain ⟨p, hp⟩ : ∃ p, s ++ t = p := ⟨_, rfl⟩
  have hps : p.size ≤ 1000000 := by rw [← hp, ByteArray.size_append, h1]; omega
  rw [hp]
  have S1 : Hid (∀ wx, Calls Tryd.prog 24 #[.string p] wx fun e w' => e = .returned (.string (smB p)) ∧ Below wx.heap.size wx w') := Lib.hid (fun wx => rsum_any p wx (by omega))
  have b0 := (Below.refl w.heap.size w).alloc (o := .cells #[.int .u8 (u % 256)] 5) (Nat.le_refl _)
  clear ht
  go_enter Tryd.func29, Tryd.ntmps29
  go_wp2_with (go_at_call 24; (with_reducible refine (S1.out _).mono ?_); rintro e w1 ⟨rfl, hb1⟩)
  go_ret
  exact ⟨rfl, b0.trans (hb1.mono b0.size)⟩
set_option maxRecDepth 100000 in
theorem rleaf12_any (s : ByteArray) (u : Int) (w : World) (hs : s.size ≤ 999990) : Calls Tryd.prog 9 #[.string s, .int .i64 u] w fun e w' => e = .returned (.string (leafB s u)) ∧ Below w.heap.size w w' := by
  have A1 := Lib.hid (rsecret12_any s u w hs)
  have hz := useB_size s u
  unfold leafB lfB
  obtain ⟨t, ht⟩ : ∃ t, t = useB s u := ⟨_, rfl⟩
  rw [← ht] at A1 hz ⊢
  have A2 := Lib.hid (fun wx => rpublic_b t wx (by omega))
  have hq := pubB_size t
  obtain ⟨q, hqe⟩ : ∃ q, q = pubB t := ⟨_, rfl⟩
  rw [← hqe] at A2 hq ⊢
  obtain ⟨p, hp⟩ : ∃ p : ByteArray, { data := #[0] } ++ q = p := ⟨_, rfl⟩
  have hps : p.size ≤ 1000000 := by rw [← hp, ByteArray.size_append, hq]; decide
  rw [hp]
  have A3 := Lib.hid (fun wx => rshort_b p wx hps)
  clear ht hqe hz
  go_enter Tryd.func9, Tryd.ntmps9
  go_wp2_with (first
    | (go_at_call 29; (with_reducible refine A1.out.mono ?_); rintro e w1 ⟨rfl, hb1⟩)
    | (go_at_call 28; (with_reducible refine (A2.out _).mono ?_); rintro e w2 ⟨rfl, hb2⟩)
    | (go_at_call 23; (with_reducible refine (A3.out _).mono ?_); rintro e w3 ⟨rfl, hb3⟩))
  go_ret
  exact ⟨rfl, (hb1.trans (hb2.mono hb1.size)).trans (hb3.mono (Nat.le_trans hb1.size hb2.size))⟩
set_option maxRecDepth 100000 in
theorem rnode12_any (a b : ByteArray) (w : World) (ha : a.size ≤ 1000) (hb : b.size ≤ 1000) : Calls Tryd.prog 47 #[.string a, .string b] w fun e w' => e = .returned (.string (nodB a b)) ∧ Below w.heap.size w w' := by
  unfold nodB
  obtain ⟨q, hq⟩ : ∃ q : ByteArray, { data := #[1] } ++ a = q := ⟨_, rfl⟩
  have hqs : q.size = 1 + a.size := by rw [← hq, ByteArray.size_append]; rfl
  obtain ⟨p, hp⟩ : ∃ p : ByteArray, q ++ b = p := ⟨_, rfl⟩
  have hps : p.size ≤ 1000000 := by rw [← hp, ByteArray.size_append, hqs]; omega
  rw [hq, hp]
  have A3 := Lib.hid (rshort_b p w hps)
  have hqz : q.size ≤ 2000 := by omega
  clear hqs
  go_enter Tryd.func47, Tryd.ntmps47
  go_wp2_with (go_at_call 23; (with_reducible refine (A3.out).mono ?_); rintro e w3 ⟨rfl, hb3⟩)
  go_ret
  exact ⟨rfl, hb3⟩
end Go.Proofs.YtpophimnoakinaaDoor
