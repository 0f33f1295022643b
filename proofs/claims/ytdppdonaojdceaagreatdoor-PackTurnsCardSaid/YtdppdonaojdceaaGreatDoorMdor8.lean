/- How long a node's text is at most, and what is encoded is decoded. No program. -/
import Derived.Test.YtdppdonaojdceaaGreatDoorCpd
import Derived.Test.YtdppdonaojdceaaGreatDoorCpo
import Derived.Test.YtdppdonaojdceaaGreatDoorMkit
import Derived.Test.YtdppdonaojdceaaGreatDoorJdec
import Derived.Test.YtdppdonaojdceaaGreatDoorJdor7
import Derived.Test.YtdppdonaojdceaaGreatDoorMdc
import Derived.Test.YtdppdonaojdceaaGreatDoorMdoa
import Derived.Test.YtdppdonaojdceaaGreatDoorNkn
import Derived.Test.YtdppdonaojdceaaGreatDoorMfc
import Derived.Test.YtdppdonaojdceaaGreatDoorPlan
namespace Go.Proofs.YtdppdonaojdceaaGreatDoor
open Go.Lib
set_option linter.unusedVariables false

theorem sepL_sum : ∀ l : List (List UInt8), (sepL l).length ≤ (l.map fun a => a.length + 1).sum
 | [] => Nat.zero_le _
 | [a] => by simp [sepL]
 | a :: b :: t => by
  have := sepL_sum (b :: t)
  show (a ++ 44 :: sepL (b :: t)).length ≤ _
  rw [List.length_append, List.length_cons, List.map_cons, List.sum_cons]
  omega
theorem zip_sum {W : ND → List UInt8} {c : ND → Nat} : ∀ (ns : List ByteArray) (its : List ND), (∀ y, y ∈ its → (W y).length ≤ c y) → ((List.zipWith (fun s y => quoteL s.data.toList ++ 58 :: W y) ns its).map fun a => a.length + 1).sum ≤ (ns.map fun s => 6 * s.size + 8).sum + (its.map fun y => c y + 1).sum
 | [], _, _ => by simp
 | _ :: _, [], _ => by simp
 | s :: ss, y :: ys, h => by
  have ih := zip_sum ss ys (fun z hz => h z (by simp [hz]))
  have h1 := quoteL_len s.data.toList
  have h2 : s.data.toList.length = s.size := by rw [Array.length_toList]; rfl
  have h3 := h y (by simp)
  rw [List.zipWith_cons_cons, List.map_cons, List.sum_cons, List.map_cons, List.sum_cons, List.map_cons, List.sum_cons, List.length_append, List.length_cons]
  omega
theorem map_sum {W : ND → List UInt8} {c : ND → Nat} : ∀ (its : List ND), (∀ y, y ∈ its → (W y).length ≤ c y) → ((its.map W).map fun a => a.length + 1).sum ≤ (its.map fun y => c y + 1).sum
 | [], _ => Nat.le_refl _
 | y :: ys, h => by
  have ih := map_sum ys (fun z hz => h z (by simp [hz]))
  have h3 := h y (by simp)
  rw [List.map_cons, List.map_cons, List.sum_cons, List.map_cons, List.sum_cons]
  omega
theorem writeN_cost : ∀ (d : Nat) (x : ND), validN d x = true → numsB d x = true → (writeN d x).length ≤ costN d x
 | 0, _, h, _ => by cases h
 | d + 1, x, h, hn => by
  obtain ⟨hi, hl, htx, hns⟩ := validN_parts h
  obtain ⟨hw, hni⟩ := numsB_parts hn
  have ih : ∀ y, y ∈ x.items → (writeN d y).length ≤ costN d y := fun y hy => writeN_cost d y (hi y hy) (hni y hy)
  have hts : x.text.data.toList.length = x.text.size := by rw [Array.length_toList]; rfl
  rw [costN_succ]
  rcases kinds h with e | e | e | e | e | ⟨e, hlen⟩
  ·rw [e]; exact (show 4 ≤ 24 by decide)
  ·rw [e]
   cases x.bool
   ·exact (show 5 ≤ 24 by decide)
   ·exact (show 4 ≤ 24 by decide)
  ·rw [e]
   show (itoa x.num).length ≤ 24 + 0 + 0 + 0
   unfold wideI at hw
   rw [Bool.and_eq_true, decide_eq_true_eq, decide_eq_true_eq] at hw
   have := itoa_length_le x.num hw.1 hw.2
   omega
  ·rw [e]
   show (quoteL x.text.data.toList).length ≤ 24 + 6 * x.text.size + 0 + 0
   have := quoteL_len x.text.data.toList
   omega
  ·rw [e, writeN_4]
   have h1 := sepL_sum (x.items.map (writeN d))
   have h2 := map_sum x.items ih
   rw [List.length_cons, List.length_append, List.length_singleton]
   show _ ≤ 24 + 0 + 0 + (x.items.map fun y => costN d y + 1).sum
   omega
  ·rw [e, writeN_5]
   have h1 := sepL_sum (List.zipWith (fun s y => quoteL s.data.toList ++ 58 :: writeN d y) x.names x.items)
   have h2 := zip_sum (W := writeN d) (c := costN d) x.names x.items ih
   rw [List.length_cons, List.length_append, List.length_singleton]
   show _ ≤ 24 + 0 + (x.names.map fun s => 6 * s.size + 8).sum + (x.items.map fun y => costN d y + 1).sum
   omega
theorem bndN_4 : ∀ d, d ≤ 4 → bndN d ≤ 65536 := by
 have : ∀ d : Fin 5, bndN d.1 ≤ 65536 := by decide
 exact fun d hd => this ⟨d, by omega⟩
/-- What is known of the kit's nodes. -/
structure KitJ (x : ND) : Prop where
 err : jsE x = 0
 txt : jsS x = bA (writeN 8 x)
 len : (writeN 8 x).length ≤ 65536
 valid : validN 8 x = true
 nums : numsB 8 x = true
theorem KitJ.of {d : Nat} {x : ND} (hd : d ≤ 4) (h : validW d x = true) (hc : costN d x ≤ bndN d) : KitJ x := by
 have h8 : validN 8 x = true := validN_mono (by omega) (validW_valid h)
 have hn8 : numsB 8 x = true := numsB_up (by omega) (validW_valid h) (validW_nums h)
 have hl : (writeN 8 x).length ≤ 65536 := by
  rw [writeN_same (e := d) (by omega) (validW_valid h)]
  have := writeN_cost d x (validW_valid h) (validW_nums h)
  have := bndN_4 d hd
  omega
 obtain ⟨e1, e2⟩ := jse_good h8 (show ¬ 65536 < (writeN 8 x).length by omega)
 exact ⟨e2, e1, hl, h8, hn8⟩
theorem KitJ.w {x : ND} (h : KitJ x) : validW 8 x = true := by unfold validW; rw [h.valid, h.nums]; rfl
/-- What was encoded is decoded. -/
theorem KitJ.dec {x n : ND} {er : Int} (h : KitJ x) (hd : DecIs (jsS x) n er) : er = 0 ∧ n = x := by
 rw [h.txt] at hd
 rcases hd with ⟨h0, h1, h2, h3, -⟩ | ⟨-, -, h4⟩
 ·refine ⟨h0, writeN_inj (d := 8) ?_ h.w ?_⟩
  ·unfold validW; rw [h1, h2]; rfl
  ·rw [h3, bA_data]
 ·exact absurd (by rw [bA_data]) (h4 x h.valid h.nums (by rw [bA_size]; exact h.len))
end Go.Proofs.YtdppdonaojdceaaGreatDoor
/- The three serialisations by their numbers, the program's own: serialisationOf, EncodeAs, DecodeAs, Guess. -/
namespace Go.Proofs.YtdppdonaojdceaaGreatDoor
open Go Go.ChangeShapes Go.WideShapes Go.ChangeAt Go.RowKit
set_option linter.unusedVariables false
set_option linter.unusedSimpArgs false

/-- The bytes of a node in a serialisation, and the error. -/
def foS (k : Int) (x : ND) : ByteArray := if k = 1 then jsS x else if k = 2 then csS x else if k = 3 then mpS x else ⟨#[]⟩
def foE (k : Int) (x : ND) : Int := if k = 1 then jsE x else if k = 2 then csE x else if k = 3 then mpE x else 2
/-- The node that some bytes are in a serialisation, or the error. -/
def FoIs (k : Int) (s : ByteArray) (x : ND) (er : Int) : Prop := (k = 1 ∧ DecIs s x er) ∨ (k = 2 ∧ CDecIs s x er) ∨ (k = 3 ∧ MDecIs s x er) ∨ ((k < 1 ∨ 3 < k) ∧ x = nd0 ∧ er = 2)
/-- The tables that the three read. -/
structure Ftab (w : World) : Prop where
 u : Utab w
 i : Itab w
 e : EVars w
 s : Scl w
theorem Ftab.below {w w' : World} (h : Ftab w) (hb : Below w.heap.size w w') : Ftab w' := ⟨h.u.below hb, h.i.below hb, h.e.below hb, h.s.to hb⟩
theorem Ftab.p {w : World} (h : Ftab w) : Ptab w := ⟨h.u, h.s⟩
theorem fo_split (k : Int) : k = 1 ∨ k = 2 ∨ k = 3 ∨ (k < 1 ∨ 3 < k) := by omega
theorem foS_none {k : Int} (x : ND) (h : k < 1 ∨ 3 < k) : foS k x = ⟨#[]⟩ ∧ foE k x = 2 := by
 unfold foS foE
 exact ⟨by rw [if_neg (by omega), if_neg (by omega), if_neg (by omega)], by rw [if_neg (by omega), if_neg (by omega), if_neg (by omega)]⟩
theorem encas_any {D : Nat} {S : Nat → Prop} (k : Int) (cs : List Value) (x : ND) (w : World) (h : NodeIn D S w cs x) (hS : ∀ b, S b → b < w.heap.size) (hl : lowV D x) (hw : validN 8 x = true → numsB 8 x = true) (hT : Ftab w) : Calls Tryz.prog 9 #[.int .i64 k, .agg cs.toArray] w (EncW (foS k x) (foE k x) w) := by
 have h' : ∀ wx, Below w.heap.size w wx → NodeIn D S wx cs x := fun wx hb => h.same fun b q => hb.block b (hS b q)
 have hS' : ∀ wx, Below w.heap.size w wx → ∀ b, S b → b < wx.heap.size := fun wx hb b q => Nat.lt_of_lt_of_le (hS b q) hb.size
 rcases fo_split k with rfl | rfl | rfl | hk
 ·exact encas_at 1 _ _ _ cs x w _ _ h (.inl rfl) ⟨rfl, rfl⟩ fun wx hb => jenc_any cs x wx (h' wx hb) (hS' wx hb) hl hw (hT.below hb).u (hT.below hb).i
 ·exact encas_at 2 _ _ _ cs x w _ _ h (.inr (.inl rfl)) ⟨rfl, rfl⟩ fun wx hb => cenc_any cs x wx (h' wx hb) (hS' wx hb) hl hw (hT.below hb).u
 ·exact encas_at 3 _ _ _ cs x w _ _ h (.inr (.inr rfl)) ⟨rfl, rfl⟩ fun wx hb => mpenc_any cs x wx (h' wx hb) (hS' wx hb) hl hw (hT.below hb).p
 ·rw [(foS_none x hk).1, (foS_none x hk).2]
  exact encas_no k cs x w h hk
theorem decas_any (k : Int) (s : ByteArray) (w : World) (hT : Ftab w) : Calls Tryz.prog 13 #[.int .i64 k, .string s] w (DecW (FoIs k s) w) := by
 rcases fo_split k with rfl | rfl | rfl | hk
 ·refine decas_at 1 _ _ _ s w _ (.inl rfl) ⟨rfl, rfl⟩ fun wx hb => (jdec_any s wx (hT.below hb).u (hT.below hb).i (hT.below hb).e).mono ?_
  rintro e w' ⟨cs, x, er, h1, h2, h3, h4⟩
  exact ⟨cs, x, er, h1, h2, h3, .inl ⟨rfl, h4⟩⟩
 ·refine decas_at 2 _ _ _ s w _ (.inr (.inl rfl)) ⟨rfl, rfl⟩ fun wx hb => (cdec_any s wx (hT.below hb).u).mono ?_
  rintro e w' ⟨cs, x, er, h1, h2, h3, h4⟩
  exact ⟨cs, x, er, h1, h2, h3, .inr (.inl ⟨rfl, h4⟩)⟩
 ·refine decas_at 3 _ _ _ s w _ (.inr (.inr rfl)) ⟨rfl, rfl⟩ fun wx hb => (mpdec_any s wx (hT.below hb).p).mono ?_
  rintro e w' ⟨cs, x, er, h1, h2, h3, h4⟩
  exact ⟨cs, x, er, h1, h2, h3, .inr (.inr (.inl ⟨rfl, h4⟩))⟩
 ·exact decas_no k s w _ hk (.inr (.inr (.inr ⟨hk, rfl, rfl⟩)))
/-- What is known of the kit's nodes. -/
structure KitF (x : ND) : Prop where
 j : KitJ x
 c : KitC x
 m : KitM x
theorem KitF.valid {x : ND} (h : KitF x) : validN 8 x = true := h.j.valid
theorem KitF.nums {x : ND} (h : KitF x) : numsB 8 x = true := h.j.nums
theorem KitF.err {x : ND} (h : KitF x) {k : Int} (h1 : 1 ≤ k) (h3 : k ≤ 3) : foE k x = 0 := by
 rcases (by omega : k = 1 ∨ k = 2 ∨ k = 3) with rfl | rfl | rfl
 ·exact h.j.err
 ·exact h.c.err
 ·exact h.m.err
theorem KitF.dec {x n : ND} {er k : Int} (h : KitF x) (hd : FoIs k (foS k x) n er) (h1 : 1 ≤ k) (h3 : k ≤ 3) : er = 0 ∧ x = n := by
 rcases hd with ⟨rfl, g⟩ | ⟨rfl, g⟩ | ⟨rfl, g⟩ | ⟨g, -⟩
 ·exact ⟨(h.j.dec g).1, (h.j.dec g).2.symm⟩
 ·exact ⟨(h.c.dec g).1, (h.c.dec g).2.symm⟩
 ·exact ⟨(h.m.dec g).1, (h.m.dec g).2.symm⟩
 ·omega
theorem KitF.of {d : Nat} {x : ND} (hd : d ≤ 4) (h : validW d x = true) (hc : costN d x ≤ bndN d) : KitF x := ⟨KitJ.of hd h hc, KitC.of hd h hc, KitM.of hd h hc⟩
end Go.Proofs.YtdppdonaojdceaaGreatDoor
/- The door of the statements that read all three serialisations: eight variables. -/
namespace Go.Proofs.YtdppdonaojdceaaGreatDoor
open Go Go.RowKit Go.Shelf Go.Lib
set_option linter.unusedVariables false

theorem jt8_of_laid {w : World} (h : laidMetH Tryz.prog [("math/bits.deBruijn32tab", Rows.laid_math_bits_deBruijn32tab), ("math/bits.deBruijn64tab", Rows.laid_math_bits_deBruijn64tab), ("internal/strconv.uint64pow10", Rows.laid_internal_strconv_uint64pow10), ("unicode/utf8.acceptRanges", Rows.laid_unicode_utf8_acceptRanges), ("strconv.ErrRange", Rows.laid_strconv_ErrRange), ("strconv.ErrSyntax", Rows.laid_strconv_ErrSyntax), ("keyevent/pack.scales", Rows.laid_keyevent_pack_scales), ("unicode/utf8.first", Rows.laid_unicode_utf8_first)] w) : Ftab w := by
 rw [MakeChecks.laidMetH_plain _ _ _ (by kernel_rfl)] at h
 obtain ⟨a, sa, hva, -, -, -⟩ := laid_sentinel h.tail.tail.tail.tail (g := 5) (ti := 163) (tp := 212) (te := 214) (ts := 9) (by kernel_rfl) (by kernel_rfl) Tryz.underlying163 row_err Tryz.underlying212 Tryz.underlying214 rfl rfl Tryz.underlying9 (by kernel_rfl) (by kernel_rfl)
 obtain ⟨b, sb, hvb, -, -, -⟩ := laid_sentinel h.tail.tail.tail.tail.tail (g := 4) (ti := 163) (tp := 212) (te := 214) (ts := 9) (by kernel_rfl) (by kernel_rfl) Tryz.underlying163 row_err Tryz.underlying212 Tryz.underlying214 rfl rfl Tryz.underlying9 (by kernel_rfl) (by kernel_rfl)
 have e1 : w.cell? ⟨4, 0, none⟩ = some (.iface 212 (.pointer (some b))) := by
  have := World.var?_cell (g := 4) (by kernel_rfl) hvb 0
  simpa using this
 have e2 : w.cell? ⟨5, 0, none⟩ = some (.iface 212 (.pointer (some a))) := by
  have := World.var?_cell (g := 5) (by kernel_rfl) hva 0
  simpa using this
 have hs : Scl w := by
  obtain ⟨g', t', cs, fuel, p, hg', ht', hvar, hd⟩ := Lib.laidMet.reads h (.tail _ (.tail _ (.tail _ (.tail _ (.tail _ (.tail _ (.head _)))))))
  have e1 : Tryz.prog.globalNamed "keyevent/pack.scales" = some 2 := by kernel_rfl
  obtain rfl := Option.some.inj (e1.symm.trans hg')
  have e2 : (Tryz.prog.globals[2]?).map (·.type) = some 156 := by kernel_rfl
  obtain rfl := Option.some.inj (e2.symm.trans ht')
  exact scl_of_reads hvar hd
 exact ⟨Utab.of (jlaid_first ▸ Lib.laidMet.reads h (.tail _ (.tail _ (.tail _ (.tail _ (.tail _ (.tail _ (.tail _ (.head _))))))))) (jlaid_accept ▸ Lib.laidMet.reads h (.tail _ (.tail _ (.tail _ (.head _))))), jitab_of h.tail.tail, ⟨⟨_, _, e1⟩, ⟨_, _, e2⟩⟩, hs⟩
theorem door_met8 (os : Os) (args : Array Value) : laidMetH Tryz.prog [("math/bits.deBruijn32tab", Rows.laid_math_bits_deBruijn32tab), ("math/bits.deBruijn64tab", Rows.laid_math_bits_deBruijn64tab), ("internal/strconv.uint64pow10", Rows.laid_internal_strconv_uint64pow10), ("unicode/utf8.acceptRanges", Rows.laid_unicode_utf8_acceptRanges), ("strconv.ErrRange", Rows.laid_strconv_ErrRange), ("strconv.ErrSyntax", Rows.laid_strconv_ErrSyntax), ("keyevent/pack.scales", Rows.laid_keyevent_pack_scales), ("unicode/utf8.first", Rows.laid_unicode_utf8_first)] ((World.laidAll Tryz.prog os [("math/bits.deBruijn32tab", Rows.laid_math_bits_deBruijn32tab), ("math/bits.deBruijn64tab", Rows.laid_math_bits_deBruijn64tab), ("internal/strconv.uint64pow10", Rows.laid_internal_strconv_uint64pow10), ("unicode/utf8.acceptRanges", Rows.laid_unicode_utf8_acceptRanges), ("strconv.ErrRange", Rows.laid_strconv_ErrRange), ("strconv.ErrSyntax", Rows.laid_strconv_ErrSyntax), ("keyevent/pack.scales", Rows.laid_keyevent_pack_scales), ("unicode/utf8.first", Rows.laid_unicode_utf8_first)]).forCall (fun _ _ => 0) ⟨#[], args, []⟩).memory := by
 rw [MakeChecks.laidMetH_plain _ _ _ (by kernel_rfl)]
 exact laidMet_laidAll _ (by kernel_rfl) (by kernel_rfl)
end Go.Proofs.YtdppdonaojdceaaGreatDoor
