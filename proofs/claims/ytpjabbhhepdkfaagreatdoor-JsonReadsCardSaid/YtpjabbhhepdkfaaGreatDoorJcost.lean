/- How long a node's text is at most, and what is encoded is decoded. No program. -/
import Derived.Test.YtpjabbhhepdkfaaGreatDoorJdec
import Derived.Test.YtpjabbhhepdkfaaGreatDoorJwr
namespace Go.Proofs.YtpjabbhhepdkfaaGreatDoor
open Go.Lib
set_option linter.unusedVariables false

theorem sepL_sum : ∀ l : List (List UInt8), (sepL l).length ≤ (l.map fun a => a.length + 1).sum
  | [] => Nat.zero_le _
  | [a] => by simp [sepL]
  | a :: b :: t => by
    have := sepL_sum (b :: t)
    show (a ++ 44 :: sepL (b :: t)).length ≤ _
    rw [List.length_append, List.length_cons, List.map_cons, List.sum_cons]
    omega
theorem zip_sum {W : ND → List UInt8} {c : ND → Nat} : ∀ (ns : List ByteArray) (its : List ND), (∀ y, y ∈ its → (W y).length ≤ c y) → ((List.zipWith (fun s y => quoteL s.data.toList ++ 58 :: W y) ns its).map fun a => a.length + 1).sum ≤ (ns.map fun s => 6 * s.size + 8).sum + (its.map fun y => c y + 1).sum
  | [], _, _ => by simp
  | _ :: _, [], _ => by simp
  | s :: ss, y :: ys, h => by
    have ih := zip_sum ss ys (fun z hz => h z (by simp [hz]))
    have h1 := quoteL_len s.data.toList
    have h2 : s.data.toList.length = s.size := by rw [Array.length_toList]; rfl
    have h3 := h y (by simp)
    rw [List.zipWith_cons_cons, List.map_cons, List.sum_cons, List.map_cons, List.sum_cons, List.map_cons, List.sum_cons, List.length_append, List.length_cons]
    omega
theorem map_sum {W : ND → List UInt8} {c : ND → Nat} : ∀ (its : List ND), (∀ y, y ∈ its → (W y).length ≤ c y) → ((its.map W).map fun a => a.length + 1).sum ≤ (its.map fun y => c y + 1).sum
  | [], _ => Nat.le_refl _
  | y :: ys, h => by
    have ih := map_sum ys (fun z hz => h z (by simp [hz]))
    have h3 := h y (by simp)
    rw [List.map_cons, List.map_cons, List.sum_cons, List.map_cons, List.sum_cons]
    omega
theorem writeN_cost : ∀ (d : Nat) (x : ND), validN d x = true → numsB d x = true → (writeN d x).length ≤ costN d x
  | 0, _, h, _ => by cases h
  | d + 1, x, h, hn => by
    obtain ⟨hi, hl, htx, hns⟩ := validN_parts h
    obtain ⟨hw, hni⟩ := numsB_parts hn
    have ih : ∀ y, y ∈ x.items → (writeN d y).length ≤ costN d y := fun y hy => writeN_cost d y (hi y hy) (hni y hy)
    have hts : x.text.data.toList.length = x.text.size := by rw [Array.length_toList]; rfl
    rw [costN_succ]
    rcases kinds h with e | e | e | e | e | ⟨e, hlen⟩
    · rw [e]; exact (show 4 ≤ 24 by decide)
    · rw [e]
      cases x.bool
      · exact (show 5 ≤ 24 by decide)
      · exact (show 4 ≤ 24 by decide)
    · rw [e]
      show (itoa x.num).length ≤ 24 + 0 + 0 + 0
      unfold wideI at hw
      rw [Bool.and_eq_true, decide_eq_true_eq, decide_eq_true_eq] at hw
      have := itoa_length_le x.num hw.1 hw.2
      omega
    · rw [e]
      show (quoteL x.text.data.toList).length ≤ 24 + 6 * x.text.size + 0 + 0
      have := quoteL_len x.text.data.toList
      omega
    · rw [e, writeN_4]
      have h1 := sepL_sum (x.items.map (writeN d))
      have h2 := map_sum x.items ih
      rw [List.length_cons, List.length_append, List.length_singleton]
      show _ ≤ 24 + 0 + 0 + (x.items.map fun y => costN d y + 1).sum
      omega
    · rw [e, writeN_5]
      have h1 := sepL_sum (List.zipWith (fun s y => quoteL s.data.toList ++ 58 :: writeN d y) x.names x.items)
      have h2 := zip_sum (W := writeN d) (c := costN d) x.names x.items ih
      rw [List.length_cons, List.length_append, List.length_singleton]
      show _ ≤ 24 + 0 + (x.names.map fun s => 6 * s.size + 8).sum + (x.items.map fun y => costN d y + 1).sum
      omega
theorem bndN_4 : ∀ d, d ≤ 4 → bndN d ≤ 65536 := by
  have : ∀ d : Fin 5, bndN d.1 ≤ 65536 := by decide
  exact fun d hd => this ⟨d, by omega⟩
/-- What is known of the kit's nodes. -/
structure KitJ (x : ND) : Prop where
  err : jsE x = 0
  txt : jsS x = bA (writeN 8 x)
  len : (writeN 8 x).length ≤ 65536
  valid : validN 8 x = true
  nums : numsB 8 x = true
theorem KitJ.of {d : Nat} {x : ND} (hd : d ≤ 4) (h : validW d x = true) (hc : costN d x ≤ bndN d) : KitJ x := by
  have h8 : validN 8 x = true := validN_mono (by omega) (validW_valid h)
  have hn8 : numsB 8 x = true := numsB_up (by omega) (validW_valid h) (validW_nums h)
  have hl : (writeN 8 x).length ≤ 65536 := by
    rw [writeN_same (e := d) (by omega) (validW_valid h)]
    have := writeN_cost d x (validW_valid h) (validW_nums h)
    have := bndN_4 d hd
    omega
  obtain ⟨e1, e2⟩ := jse_good h8 (show ¬ 65536 < (writeN 8 x).length by omega)
  exact ⟨e2, e1, hl, h8, hn8⟩
theorem kitMap_valid {d : Nat} {x : ND} (hd : 1 ≤ d) (h : MapOk (d - 1) x) (hi : ∀ y, y ∈ x.items → validW (d - 1) y = true) : validW d x = true := by
  obtain ⟨m, rfl⟩ : ∃ m, d = m + 1 := ⟨d - 1, by omega⟩
  exact validW_mk ((mapOk_iff h.kind).2 h) (by rw [h.num]; decide) hi
theorem KitJ.ofMap {d : Nat} {x : ND} (h1 : 1 ≤ d) (hd : d ≤ 4) (h : MapOk (d - 1) x) (hi : ∀ y, y ∈ x.items → validK (d - 1) y = true) (hc : costN d x ≤ bndN d) : KitJ x :=
  KitJ.of hd (kitMap_valid h1 h fun y hy => validK_w (hi y hy)) hc
theorem KitJ.w {x : ND} (h : KitJ x) : validW 8 x = true := by unfold validW; rw [h.valid, h.nums]; rfl
/-- What was encoded is decoded. -/
theorem KitJ.dec {x n : ND} {er : Int} (h : KitJ x) (hd : DecIs (jsS x) n er) : er = 0 ∧ n = x := by
  rw [h.txt] at hd
  rcases hd with ⟨h0, h1, h2, h3, -⟩ | ⟨-, -, h4⟩
  · refine ⟨h0, writeN_inj (d := 8) ?_ h.w ?_⟩
    · unfold validW; rw [h1, h2]; rfl
    · rw [h3, bA_data]
  · exact absurd (by rw [bA_data]) (h4 x h.valid h.nums (by rw [bA_size]; exact h.len))
/-- The texts are equal just if the nodes are. -/
theorem KitJ.inj {x y : ND} (h : KitJ x) (k : KitJ y) : jsS x = jsS y ↔ x = y := by
  refine ⟨fun e => ?_, fun e => by rw [e]⟩
  rw [h.txt, k.txt] at e
  refine writeN_inj (d := 8) h.w k.w ?_
  have := congrArg (fun b : ByteArray => b.data.toList) e
  simpa only [bA_data] using this
end Go.Proofs.YtpjabbhhepdkfaaGreatDoor
