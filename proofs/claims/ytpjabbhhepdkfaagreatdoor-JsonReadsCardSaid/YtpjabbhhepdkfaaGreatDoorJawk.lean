/- The sanity check of the statements of json; nodes that a law asks about. -/
import Derived.Test.YtpjabbhhepdkfaaGreatDoorJen
import Derived.Test.YtpjabbhhepdkfaaGreatDoorNawk
namespace Go.Proofs.YtpjabbhhepdkfaaGreatDoor
open Go Go.ChangeShapes Go.WideShapes Go.ChangeAt Go.RowKit
set_option linter.unusedVariables false
set_option linter.unusedSimpArgs false

theorem numsB_up : ∀ {d e : Nat} {x : ND}, d ≤ e → validN d x = true → numsB d x = true → numsB e x = true
  | 0, _, _, _, h, _ => by cases h
  | d + 1, 0, _, h, _, _ => by omega
  | d + 1, e + 1, x, hd, hv, hn => by
    rw [validN_succ, Bool.and_eq_true, List.all_eq_true] at hv
    rw [numsB_succ, Bool.and_eq_true, List.all_eq_true] at hn ⊢
    exact ⟨hn.1, fun y hy => numsB_up (by omega) (hv.2 y hy) (hn.2 y hy)⟩
theorem numsB_down : ∀ {d e : Nat} {x : ND}, d ≤ e → numsB e x = true → numsB d x = true
  | 0, _, _, _, _ => rfl
  | d + 1, 0, _, h, _ => by omega
  | d + 1, e + 1, x, hd, hn => by
    rw [numsB_succ, Bool.and_eq_true, List.all_eq_true] at hn ⊢
    exact ⟨hn.1, fun y hy => numsB_down (by omega) (hn.2 y hy)⟩
theorem lowV_of_valid : ∀ (d e : Nat) (x : ND), validN d x = true → lowV e x := fun d e x h => lowV_of_lowN (lowN_of_valid d e x h)
/-- If it is valid, it is so at depth 4, and its numbers are ints. -/
def FineN (x : ND) : Prop := validN 8 x = true → validN 4 x = true ∧ numsB 8 x = true
theorem FineN.len {x : ND} (h : FineN x) (hv : validN 8 x = true) : numsB 8 x = true ∧ (writeN 8 x).length ≤ 35184372088832 := by
  obtain ⟨h4, h8⟩ := h hv
  refine ⟨h8, ?_⟩
  rw [writeN_same (e := 4) (d := 8) (by decide) h4]
  exact Nat.le_trans (writeN_len 4 x h4 (numsB_down (by decide) h8)) (Nat.le_trans lenB_4 (by decide))
theorem FineN.of {d : Nat} {x : ND} (hd : d ≤ 4) (hv : validN d x = true) (hn : numsB d x = true) : FineN x := fun _ => ⟨validN_mono hd hv, numsB_up (by omega) hv hn⟩
theorem FineN.flat {x : ND} (h : ∀ y, y ∈ x.items → y.items = []) (hn : numsB 8 x = true) : FineN x := fun hv => by
  refine ⟨?_, hn⟩
  rw [validN_succ, Bool.and_eq_true, List.all_eq_true] at hv ⊢
  refine ⟨hv.1, fun y hy => ?_⟩
  have hy7 := hv.2 y hy
  rw [validN_succ, Bool.and_eq_true] at hy7 ⊢
  refine ⟨hy7.1, ?_⟩
  rw [h y hy]; rfl
def awkJ : ND := .mk 5 false 0 ⟨#[]⟩ [⟨#[97]⟩, ⟨#[98]⟩] [.mk 2 false 1 ⟨#[]⟩ [] [], .mk 4 false 0 ⟨#[]⟩ [] [nd0]]
theorem awkJ_valid : validN 8 awkJ = true := by decide +kernel
theorem awkJ_nums : numsB 8 awkJ = true := by decide +kernel
theorem awkJ_low : lowV 3 awkJ := lowV_of_valid 8 3 awkJ awkJ_valid
theorem awkJ_text : writeN 8 awkJ = [123, 34, 97, 34, 58, 49, 44, 34, 98, 34, 58, 91, 110, 117, 108, 108, 93, 125] := by decide +kernel
theorem awkJ_enc : jsS awkJ = ⟨#[123, 34, 97, 34, 58, 49, 44, 34, 98, 34, 58, 91, 110, 117, 108, 108, 93, 125]⟩ ∧ jsE awkJ = 0 := by
  obtain ⟨h1, h2⟩ := jse_good awkJ_valid (by rw [awkJ_text]; decide)
  rw [h1, h2, awkJ_text]; exact ⟨rfl, rfl⟩
/-- The literal's node. -/
theorem awkJ_in (w : World) (g0 g1 g2 : Nat) (T0 T1 T2 : TypeId) (h0 : w.heap[g0]? = some (.cells #[.string ⟨#[97]⟩, .string ⟨#[98]⟩] T0 (0, 0))) (h1 : w.heap[g1]? = some (.cells #[.int .i64 0, .bool false, .int .i64 0, .string ⟨#[]⟩, .slice none 0 0, .slice none 0 0] T1 (0, 0)))
    (h2 : w.heap[g2]? = some (.cells #[.int .i64 2, .bool false, .int .i64 1, .string ⟨#[]⟩, .slice none 0 0, .slice none 0 0, .int .i64 4, .bool false, .int .i64 0, .string ⟨#[]⟩, .slice none 0 0, .slice (some ⟨g1, 0, none⟩) 1 1] T2 (0, 0))) :
    NodeIn 3 (fun b => b < w.heap.size) w [.int .i64 5, .bool false, .int .i64 0, .string ⟨#[]⟩, .slice (some ⟨g0, 0, none⟩) 2 2, .slice (some ⟨g2, 0, none⟩) 2 2] awkJ := by
  have n1 : NodeIn 2 (fun b => b < w.heap.size) w [.int .i64 2, .bool false, .int .i64 1, .string ⟨#[]⟩, .slice none 0 0, .slice none 0 0] (.mk 2 false 1 ⟨#[]⟩ [] []) := (node_leaf _ w 2 false 1 ⟨#[]⟩ (by decide)).deeper (by decide)
  have n2 : NodeIn 2 (fun b => b < w.heap.size) w [.int .i64 4, .bool false, .int .i64 0, .string ⟨#[]⟩, .slice none 0 0, .slice (some ⟨g1, 0, none⟩) 1 1] (.mk 4 false 0 ⟨#[]⟩ [] [nd0]) :=
    ⟨_, _, rfl, Nat.zero_le _, StrsIn.nil _ _, nodes_of_block (d := 1) [([.int .i64 0, .bool false, .int .i64 0, .string ⟨#[]⟩, .slice none 0 0, .slice none 0 0], nd0)] h1 rfl (lt_of_block h1) (by decide) (fun y hy => by cases List.mem_singleton.1 hy; exact node_leaf _ w 0 false 0 ⟨#[]⟩ (by decide))⟩
  refine ⟨_, _, rfl, Nat.zero_le _, ?_, ?_⟩
  · exact strs_of_block [⟨#[97]⟩, ⟨#[98]⟩] h0 rfl (lt_of_block h0) (show 2 ≤ maxLen by decide) (fun s hs => by simp only [List.mem_cons, List.not_mem_nil, or_false] at hs; rcases hs with rfl | rfl <;> decide)
  · exact nodes_of_block (d := 2) [(_, _), (_, _)] h2 rfl (lt_of_block h2) (show 2 ≤ maxLen by decide) (fun y hy => by
      simp only [List.mem_cons, List.not_mem_nil, or_false] at hy
      rcases hy with rfl | rfl
      · exact n1
      · exact n2)
set_option maxHeartbeats 1600000 in
set_option maxRecDepth 100000 in
theorem awake6_any (w : World) (hT : Utab w) (hI : Itab w) : Calls Tryz.prog 5 #[] w fun e w' => e = .returned (.bool true) ∧ Below w.heap.size w w' := by
  obtain ⟨w1, hw1⟩ : ∃ W, W = w.alloc (.cells #[.string ⟨#[97]⟩, .string ⟨#[98]⟩] 9) := ⟨_, rfl⟩
  have b1 : Below w.heap.size w w1 := by rw [hw1]; exact (Below.refl _ _).alloc (Nat.le_refl _) _
  have k1 : w1.heap[w.heap.size]? = some (.cells #[.string ⟨#[97]⟩, .string ⟨#[98]⟩] 9 (0, 0)) := by rw [hw1]; exact heap_alloc_new _ _
  have z1 : w1.heap.size = w.heap.size + 1 := by rw [hw1]; simp
  obtain ⟨w2, hw2⟩ : ∃ W, W = w1.alloc (.cells #[.int .i64 0, .bool false, .int .i64 0, .string ⟨#[]⟩, .slice none 0 0, .slice none 0 0] 31) := ⟨_, rfl⟩
  have b2 : Below w1.heap.size w1 w2 := by rw [hw2]; exact (Below.refl _ _).alloc (Nat.le_refl _) _
  have k2 : w2.heap[w1.heap.size]? = some (.cells #[.int .i64 0, .bool false, .int .i64 0, .string ⟨#[]⟩, .slice none 0 0, .slice none 0 0] 31 (0, 0)) := by rw [hw2]; exact heap_alloc_new _ _
  have z2 : w2.heap.size = w1.heap.size + 1 := by rw [hw2]; simp
  obtain ⟨w3, hw3⟩ : ∃ W, W = w2.alloc (.cells #[.int .i64 2, .bool false, .int .i64 1, .string ⟨#[]⟩, .slice none 0 0, .slice none 0 0, .int .i64 4, .bool false, .int .i64 0, .string ⟨#[]⟩, .slice none 0 0, .slice (some ⟨w1.heap.size, 0, none⟩) 1 1] 31) := ⟨_, rfl⟩
  have b3 : Below w2.heap.size w2 w3 := by rw [hw3]; exact (Below.refl _ _).alloc (Nat.le_refl _) _
  have k3 : w3.heap[w2.heap.size]? = some (.cells #[.int .i64 2, .bool false, .int .i64 1, .string ⟨#[]⟩, .slice none 0 0, .slice none 0 0, .int .i64 4, .bool false, .int .i64 0, .string ⟨#[]⟩, .slice none 0 0, .slice (some ⟨w1.heap.size, 0, none⟩) 1 1] 31 (0, 0)) := by rw [hw3]; exact heap_alloc_new _ _
  have k2' := (b3.block _ (lt_of_block k2)).trans k2
  have k1' := (b3.block _ (Nat.lt_of_lt_of_le (lt_of_block k1) b2.size)).trans ((b2.block _ (lt_of_block k1)).trans k1)
  have hb := (b1.trans (b2.mono b1.size)).trans (b3.mono (Nat.le_trans b1.size b2.size))
  have E := Lib.hid (jenc_any _ awkJ w3 (awkJ_in w3 _ _ _ _ _ _ k1' k2' k3) (fun b h => h) awkJ_low (fun _ => awkJ_nums) (hT.below hb) (hI.below hb))
  unfold EncPost at E
  rw [awkJ_enc.1, awkJ_enc.2] at E
  have HB := Lib.hid hb
  rw [z2, z1] at E
  rw [z1] at hw3
  clear b1 k1 b2 k2 b3 k3 k2' k1' hb hT hI z1 z2
  subst hw1
  subst hw2
  subst hw3
  have es : (ByteArray.toList { data := #[123, 34, 97, 34, 58, 49, 44, 34, 98, 34, 58, 91, 110, 117, 108, 108, 93, 125] } == ByteArray.toList { data := #[123, 34, 97, 34, 58, 49, 44, 34, 98, 34, 58, 91, 110, 117, 108, 108, 93, 125] }) = true := beq_self_eq_true _
  go_enter Tryz.func5, Tryz.ntmps5
  go_wp2_with (go_at_call 14; (with_reducible refine (E.out).mono ?_); rintro e w4 ⟨rfl, hb4⟩)
  go_ret
  exact ⟨rfl, HB.out.trans (hb4.mono HB.out.size)⟩
end Go.Proofs.YtpjabbhhepdkfaaGreatDoor
