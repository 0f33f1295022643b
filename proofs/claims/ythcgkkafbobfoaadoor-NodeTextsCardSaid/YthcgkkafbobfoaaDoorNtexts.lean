/- The walk of the statement NodeTexts. -/
import Derived.Test.YthcgkkafbobfoaaDoorNputs
import Derived.Test.YthcgkkafbobfoaaDoorNtx
import Derived.Test.YthcgkkafbobfoaaDoorNrd
import Derived.Test.YthcgkkafbobfoaaDoorSpoil
import Derived.Test.YthcgkkafbobfoaaDoorStrs
namespace Go.Proofs.YthcgkkafbobfoaaDoor
open Go Go.ChangeShapes Go.WideShapes Go.ChangeAt Go.RowKit
set_option linter.unusedVariables false
set_option linter.unusedSimpArgs false

theorem strs_open {w : World} {a : Option Addr} {len cap : Nat} {ls : List ByteArray} (h : IsStrs w a len ls) (hc : len ≤ cap) (hm : cap ≤ maxLen) (hs : ∀ s ∈ ls, s.size ≤ maxLen - 2) : StrsIn (fun b => b < w.heap.size) w (.slice a len cap) ls := by
  obtain ⟨h1, h2⟩ := h
  refine ⟨a, cap, by rw [h1], by omega, hm, fun j s hj => ?_⟩
  obtain ⟨b, off, e, hb, hcell⟩ := h2 j (by have := lt_of_some hj; omega)
  refine ⟨b, off, e, hb, ?_, hs s (List.mem_of_getElem? hj)⟩
  rw [hcell, List.getD, hj]; rfl
theorem texts_inj {a b : List ByteArray} (h : ND.mk 4 false 0 ⟨#[]⟩ [] (a.map textN) = ND.mk 4 false 0 ⟨#[]⟩ [] (b.map textN)) : a = b := by
  have := congrArg (fun x => x.items.map ND.text) h
  simpa [ND.items, List.map_map, Function.comp_def, textN, ND.text] using this
theorem read_good {w w' : World} {ns : List ByteArray} {e : Ending} (h : ReadNew w (ns.map textN) e w') : (∃ v, e = .returned (.tuple #[v, .bool true]) ∧ SRow 9 w.heap.size w' v ns) ∧ Below w.heap.size w w' := by
  obtain ⟨h, hb⟩ := h
  refine ⟨?_, hb⟩
  rcases h with ⟨v, e, -, h⟩ | ⟨-, y, hy, hk⟩
  · have : (ns.map textN).map ND.text = ns := by simp [List.map_map, Function.comp_def, textN, ND.text]
    rw [this] at h
    exact ⟨v, e, h⟩
  · obtain ⟨s, -, rfl⟩ := List.mem_map.1 hy
    exact absurd rfl hk
theorem StrsIn.cell {S : Nat → Prop} {w : World} {b o l cap : Nat} {ns : List ByteArray} (h : StrsIn S w (.slice (some ⟨b, o, none⟩) l cap) ns) {j : Nat} {s : ByteArray} (hj : ns[j]? = some s) : w.cell? ⟨b, o + j, none⟩ = some (.string s) := by
  obtain ⟨b', o', e, _, hc⟩ := h.get hj
  cases e
  exact hc
theorem set_same {α : Type} {l : List α} {k : Nat} {x : α} (h : l[k]? = some x) : l.set k x = l := by
  apply List.ext_getElem?
  intro i
  rw [List.getElem?_set]
  split
  · rename_i e; subst e
    split
    · exact h.symm
    · rename_i h2; exact absurd (lt_of_some h) h2
  · rfl
theorem texts_key {ns ms : List ByteArray} {k : Nat} {r s : ByteArray} (hs : ns[k]? = some s) (hm : ms = ns.set k r) : (r.toList == s.toList) = true ↔ ND.mk 4 false 0 ⟨#[]⟩ [] (ns.map textN) = ND.mk 4 false 0 ⟨#[]⟩ [] (ms.map textN) := by
  by_cases hrs : r = s
  · subst hrs
    rw [hm, set_same hs]
    exact ⟨fun _ => rfl, fun _ => str_beq rfl⟩
  · rw [str_bne hrs]
    refine ⟨(fun h => by cases h), fun h => ?_⟩
    have e := texts_inj h
    have h1 : ms[k]? = some r := by rw [hm, List.getElem?_set_self (lt_of_some hs)]
    rw [← e, hs] at h1
    exact absurd (Option.some.inj h1).symm hrs
def oddN : ND := .mk 4 false 0 ⟨#[]⟩ [] [txt sA, num 1]
theorem read_odd {w w' : World} {e : Ending} (h : ReadNew w oddN.items e w') : e = .returned (.tuple #[.slice none 0 0, .bool false]) ∧ Below w.heap.size w w' := by
  obtain ⟨h, hb⟩ := h
  refine ⟨?_, hb⟩
  rcases h with ⟨v, e, h, -⟩ | ⟨e, -⟩
  · exact absurd (h (num 1) (by simp [oddN, ND.items])) (by decide)
  · exact e
theorem odd_list (w9 : World) (T : TypeId) :
    Calls Tryd.prog 7 #[.slice (some ⟨w9.heap.size, 0, none⟩) 2 2] (w9.alloc (.cells #[.int .i64 3, .bool false, .int .i64 0, .string { data := #[97] }, .slice none 0 0, .slice none 0 0, .int .i64 2, .bool false, .int .i64 1, .string ⟨#[]⟩, .slice none 0 0, .slice none 0 0] T)) (fun e w' => (∃ cs : List Value, e = .returned (.agg cs.toArray) ∧ NodeIn 2 (fun b => b < w'.heap.size) w' cs oddN) ∧ Below w9.heap.size w9 w') := by
  obtain ⟨w4, hw4⟩ : ∃ W, W = w9.alloc (.cells #[.int .i64 3, .bool false, .int .i64 0, .string sA, .slice none 0 0, .slice none 0 0, .int .i64 2, .bool false, .int .i64 1, .string ⟨#[]⟩, .slice none 0 0, .slice none 0 0] T) := ⟨_, rfl⟩
  have hk := heap_alloc_new w9 (.cells #[.int .i64 3, .bool false, .int .i64 0, .string sA, .slice none 0 0, .slice none 0 0, .int .i64 2, .bool false, .int .i64 1, .string ⟨#[]⟩, .slice none 0 0, .slice none 0 0] T)
  have b4 := (Below.refl w9.heap.size w9).alloc (o := .cells #[.int .i64 3, .bool false, .int .i64 0, .string sA, .slice none 0 0, .slice none 0 0, .int .i64 2, .bool false, .int .i64 1, .string ⟨#[]⟩, .slice none 0 0, .slice none 0 0] T) (Nat.le_refl _)
  rw [← hw4] at hk b4
  change Calls _ _ _ (w9.alloc (.cells #[.int .i64 3, .bool false, .int .i64 0, .string sA, .slice none 0 0, .slice none 0 0, .int .i64 2, .bool false, .int .i64 1, .string ⟨#[]⟩, .slice none 0 0, .slice none 0 0] T)) _
  rw [← hw4]
  refine (nlist_any 1 (fun b => b < w4.heap.size) _ [txt sA, num 1] w4 (nodes_of_block [([.int .i64 3, .bool false, .int .i64 0, .string sA, .slice none 0 0, .slice none 0 0], txt sA), ([.int .i64 2, .bool false, .int .i64 1, .string ⟨#[]⟩, .slice none 0 0, .slice none 0 0], num 1)] hk rfl (lt_of_block hk) (by decide) ?_) (fun b hb => hb) (by decide) ?_).mono ?_
  · intro y hy
    rcases List.mem_cons.1 hy with rfl | hy
    · exact txt_in _ _ sA (by decide)
    · cases List.mem_singleton.1 hy; exact num_in _ _ 1
  · intro y hy
    rcases List.mem_cons.1 hy with rfl | hy
    · exact ⟨Nat.zero_le _, Nat.zero_le _, fun y hy => by cases hy⟩
    · cases List.mem_singleton.1 hy; exact ⟨Nat.zero_le _, Nat.zero_le _, fun y hy => by cases hy⟩
  · rintro e w' ⟨cs, rfl, hn, hb'⟩
    exact ⟨⟨cs, rfl, hn.mono fun b hb => hb.2.1⟩, b4.trans (hb'.mono b4.size)⟩
set_option maxHeartbeats 3200000 in
set_option maxRecDepth 100000 in
theorem texts_walk (a : Option Addr) (len cap : Nat) (ns : List ByteArray) (p q : Int) (w : World) (hI : IsStrs w a len ns) (hlc : len ≤ cap) (hcm : cap ≤ maxLen) (hre : ∀ s ∈ ns, s.size ≤ reachBytes) (hp1 : -9223372036854775808 ≤ p) (hp2 : p ≤ 9223372036854775807) (hT : Utab w) :
    Calls Tryd.prog 5 #[.slice a len cap, .int .i64 p, .int .i64 q] w fun e w' => e = .returned (.bool true) ∧ Below w.heap.size w w' := by
  obtain ⟨iq, hiq, hy0, hy1, hy2⟩ := infos
  have hus := Tryd.underlying23
  have HIQ := Lib.hid hiq
  have AW := Lib.hid (fun (wx : World) (hb : Below w.heap.size w wx) => awake5_any wx (hT.below hb))
  have hrb : reachBytes = 140737488351232 := rfl
  rw [hrb] at hre
  have hI2 : StrsIn (fun b => b < w.heap.size) w (.slice a len cap) ns := strs_open hI hlc hcm (fun s hs => by have := hre s hs; unfold maxLen; omega)
  have hln : len = ns.length := hI.1.symm
  have HRE := Lib.hid hre
  have hB := Below.refl w.heap.size w
  clear hI hrb hre hT hiq
  by_cases h40 : (40 : Int) < (len : Int)
  · clear hI2 hln
    go_enter Tryd.func5, Tryd.ntmps5
    go_wp2_with (go_at_call 9; (with_reducible refine (AW.out _ hB).mono ?_); rintro e w4 ⟨rfl, hb4⟩)
    go_ret
    exact ⟨rfl, hb4⟩
  · have h40' : decide ((40 : Int) < (len : Int)) = false := decide_eq_false h40
    have h41 : (ns.length : Int) ≤ 40 := by omega
    subst hln
    have HI := Lib.hid (fun (wx : World) (hb : Below w.heap.size w wx) => (hI2.same (w' := wx) fun b hb' => hb.block b hb'))
    have TX0 := Lib.hid (ntexts_any _ ns w hI2 (fun b hb => hb) (by omega))
    have HP1 := Lib.hid hp1
    have HP2 := Lib.hid hp2
    clear hI2 hB h40 hp1 hp2
    go_enter Tryd.func5, Tryd.ntmps5
    go_upto_region 4 with (go_at_call 18; (with_reducible refine (TX0.out).mono ?_); rintro e w1 ⟨cn, rfl, hn1, hb1⟩; obtain ⟨a1, l1, c1, a2, l2, c2, rfl⟩ : ∃ a1 l1 c1 a2 l2 c2, cn = [.int .i64 4, .bool false, .int .i64 0, .string ⟨#[]⟩, .slice a1 l1 c1, .slice a2 l2 c2] := hn1.slices)
    have k2 := heap_alloc_new w1 (.cells #[.int .i64 4, .bool false, .int .i64 0, .string ⟨#[]⟩, .slice a1 l1 c1, .slice a2 l2 c2] 26)
    have b2 := (Below.refl w1.heap.size w1).alloc (o := .cells #[.int .i64 4, .bool false, .int .i64 0, .string ⟨#[]⟩, .slice a1 l1 c1, .slice a2 l2 c2] 26) (Nat.le_refl _)
    generalize w1.alloc (.cells #[.int .i64 4, .bool false, .int .i64 0, .string ⟨#[]⟩, .slice a1 l1 c1, .slice a2 l2 c2] 26) = w2 at k2 b2 ⊢
    have hN2 : Hel 26 2 w2 w1.heap.size [.int .i64 4, .bool false, .int .i64 0, .string ⟨#[]⟩, .slice a1 l1 c1, .slice a2 l2 c2] (.mk 4 false 0 ⟨#[]⟩ [] (ns.map textN)) := ⟨k2, (hn1.same fun b hb => b2.block b hb.2.1).mono fun b hb => Nat.lt_of_lt_of_le hb.2.1 b2.size⟩
    have B2 : Below w.heap.size w w2 := hb1.trans (b2.mono hb1.size)
    have qN := six_of hN2.blk
    have RD : Hid (Calls Tryd.prog 19 #[.agg #[.int .i64 4, .bool false, .int .i64 0, .string ⟨#[]⟩, .slice a1 l1 c1, .slice a2 l2 c2]] w2 (ReadNew w2 (ns.map textN))) := Lib.hid (rtexts_any (d := 1) _ _ w2 hN2.nod (fun b hb => hb) rfl (by simp only [ND.items, List.length_map]; omega))
    have HN := Lib.hid (fun (wx : World) (hb : Below w2.heap.size w2 wx) => hN2.below hb)
    have HB2 := Lib.hid B2
    clear hb1 hn1 k2 b2 hN2 B2 TX0
    go_upto_region 5 with (go_at_call 19; (with_reducible refine (RD.out).mono ?_); intro e w3 hrd; obtain ⟨⟨v3, rfl, hrow3⟩, hb3⟩ := read_good hrd; clear hrd; obtain ⟨a3, c3, rfl⟩ := hrow3.form)
    have HR3 := Lib.hid hrow3
    have HB3 := Lib.hid hb3
    clear qN RD hrow3 hb3
    go_wp2
    go_loopw [38] (fun i wr => ∃ j : Nat, i = .int .i64 j ∧ j ≤ ns.length ∧ wr = w3) (fun i _ => ns.length - (intOf i).toNat)
    case atStart => exact ⟨0, rfl, Nat.zero_le _, rfl⟩
    case round =>
      obtain ⟨j, rfl, hj, hw⟩ := hrel
      subst hw
      have B3 := HB2.out.trans (HB3.out.mono HB2.out.size)
      by_cases hlt : j < ns.length
      · have hlt' : (j : Int) < (ns.length : Int) := by omega
        have hj0 : (0 : Int) ≤ (j : Int) := by omega
        obtain ⟨t, ht⟩ : ∃ t, ns[j]? = some t := ⟨_, List.getElem?_eq_getElem hlt⟩
        obtain ⟨bl, ol, e1, -, kl⟩ := (HI.out _ B3).get ht
        obtain ⟨bm, om, e2, -, km⟩ := (HR3.out.strs).get ht
        subst e1 e2
        have htt : (t.toList != t.toList) = false := by simp
        clear ht B3
        go_wp2
        go_roundw
        case rel => exact ⟨j + 1, by go_num, by omega, by first | rfl | trivial⟩
        case measure => simp [intOf]; omega
      · have hlt' : ¬ (j : Int) < (ns.length : Int) := by omega
        have HB3' := Lib.hid B3
        by_cases hz : (ns.length : Int) = 0
        · clear B3 hj
          go_wp2_with (go_at_call 9; (with_reducible refine (AW.out _ HB3'.out).mono ?_); rintro e w4 ⟨rfl, hb4⟩)
          go_ret
          exact ⟨rfl, HB3'.out.trans (hb4.mono HB3'.out.size)⟩
        · obtain ⟨k, hk⟩ : ∃ k : Nat, p % (ns.length : Int) = (k : Int) := ⟨(p % (ns.length : Int)).toNat, by have := Int.emod_nonneg p (b := (ns.length : Int)) (by omega); omega⟩
          have hkL : k < ns.length := by have := Int.emod_lt_of_pos p (b := (ns.length : Int)) (by omega); omega
          have MD := mod_any p ns.length wr (by omega) (by omega) HP1.out HP2.out
          rw [hk] at MD
          obtain ⟨s, hs⟩ : ∃ s, ns[k]? = some s := ⟨_, List.getElem?_eq_getElem hkL⟩
          have HMD := Lib.hid MD
          have HK := Lib.hid hk
          have HKL := Lib.hid hkL
          have HS := Lib.hid hs
          have hk0 : (0 : Int) ≤ (k : Int) := by omega
          have hkl : (k : Int) < (ns.length : Int) := by omega
          have hl6 : ns.length ≤ 1000000 := by omega
          clear B3 hj MD hk hkL hs hlt
          go_upto_region 17 with (first
            | (go_at_call 20; (with_reducible refine (HMD.out).mono ?_); rintro e w4 ⟨rfl, rfl⟩)
            | (refine wpList_append_strs _ rfl (.const (.slice none 0 0)) (.tmp 58) 23 rfl 9 iq hus HIQ.out hy0 hy1 hy2 rfl (.slice a ns.length cap) ns rfl (HI.out _ HB3'.out) hl6 ?_; intro v5 w5 hown hgrow))
          have B35 := below_of_grown hgrow
          have B5 : Below w2.heap.size w2 w5 := HB3.out.trans (B35.mono HB3.out.size)
          have BW5 : Below w.heap.size w w5 := HB2.out.trans (B5.mono HB2.out.size)
          have hrow5 : SRow 9 wr.heap.size w5 v5 ns := ⟨hown, (HI.out _ HB3'.out).sizes⟩
          obtain ⟨g, c5, rfl, hgb⟩ : ∃ g c5, v5 = .slice (some ⟨g, 0, none⟩) ns.length c5 ∧ wr.heap.size ≤ g := by
            rcases hown.2 with ⟨_, h0⟩ | ⟨g, cap, cur, e, hb, _⟩
            · omega
            · exact ⟨g, cap, e, hb⟩
          obtain ⟨bl, ol, e1, hbl, kl⟩ := (HI.out w5 BW5).get HS.out
          subst e1
          have SP := Lib.hid (spoil_any s p q w5 (by have := HRE.out s (List.mem_of_getElem? HS.out); omega) HP1.out HP2.out)
          have KG := Lib.hid (fun (wx : World) (hb : Below w5.heap.size w5 wx) => (And.intro (((hrow5.below hb).1.cellAt k (by have := HKL.out; omega)).trans (by rw [List.getElem?_map, HS.out]; rfl)) ((hrow5.below hb).1.frozenAt k) : wx.cell? ⟨g, k, none⟩ = some (.string s) ∧ wx.frozen? ⟨g, k, none⟩ = false))
          have HR5 := Lib.hid hrow5
          have HB5 := Lib.hid B5
          have HBW5 := Lib.hid BW5
          have h2r := HB3.out.size
          clear hown hgrow B35 B5 BW5 hrow5 HMD HK
          go_upto_region 18 with (go_at_call 21; (with_reducible refine (SP.out).mono ?_); rintro e w6 ⟨r, rfl, hr, hb6⟩; obtain ⟨kg, fg⟩ := KG.out w6 hb6)
          have hst := ((HR5.out.below hb6).1.stored k (.string r)).1
          have B7 : Below w2.heap.size w2 (w6.setCell ⟨g, k, none⟩ (.string r)) := (HB5.out.trans (hb6.mono HB5.out.size)).setCell (Nat.le_trans h2r hgb) _
          obtain ⟨w7, hw7⟩ : ∃ W, W = w6.setCell ⟨g, k, none⟩ (.string r) := ⟨_, rfl⟩
          rw [← hw7] at hst B7
          rw [← hw7]
          obtain ⟨ms, hms⟩ : ∃ ms, ms = ns.set k r := ⟨_, rfl⟩
          have hml : ms.length = ns.length := by rw [hms, List.length_set]
          have hsz := (HI.out _ HB3'.out).sizes
          have hrow7 : SRow 9 wr.heap.size w7 (.slice (some ⟨g, 0, none⟩) ns.length c5) ms := ⟨by rw [hml, hms, List.map_set]; exact hst, fun t ht => by
            rw [hms] at ht
            rcases List.mem_or_eq_of_mem_set ht with h | h
            · exact hsz t h
            · rw [h, hr]; exact hsz s (List.mem_of_getElem? HS.out)⟩
          have hmk : ms[k]? = some r := by rw [hms, List.getElem?_set_self (by exact HKL.out)]
          have O7 : StrsIn (fun b => b < w7.heap.size) w7 (.slice (some ⟨g, 0, none⟩) ns.length c5) ms := (hrow7.strs).mono fun b hb => hb.2
          have BW7 : Below w.heap.size w w7 := HB2.out.trans (B7.mono HB2.out.size)
          have HO := Lib.hid (fun (wx : World) (hb : Below w7.heap.size w7 wx) => (O7.same (w' := wx) fun b hb' => hb.block b hb'))
          have HB7 := Lib.hid B7
          have HBW7 := Lib.hid BW7
          have HMK := Lib.hid hmk
          have HMS := Lib.hid hms
          have HML := Lib.hid hml
          clear hst B7 hw7 hrow7 hmk O7 BW7 hms hml hsz kg fg kl KG SP HR5 hb6 HB5 HBW5 hr
          go_upto_region 19 with (first
            | (go_at_call 22; (with_reducible refine (ntext_any _ _).mono ?_); rintro e w8 ⟨rfl, hb8⟩)
            | (go_at_call 23; (with_reducible refine (nnum_any 1 _).mono ?_); rintro e w9 ⟨rfl, hb9⟩)
            | (go_at_call 7; refine (odd_list w9 26).mono ?_; rintro e w10 ⟨⟨cs, rfl, hod⟩, hb10⟩; obtain ⟨a6, l6, c6, a7, l7, c7, rfl⟩ : ∃ a6 l6 c6 a7 l7 c7, cs = [.int .i64 4, .bool false, .int .i64 0, .string ⟨#[]⟩, .slice a6 l6 c6, .slice a7 l7 c7] := hod.slices)
            | (go_at_call 19; refine (show Calls Tryd.prog 19 #[.agg #[.int .i64 4, .bool false, .int .i64 0, .string ⟨#[]⟩, .slice a6 l6 c6, .slice a7 l7 c7]] w10 (ReadNew w10 oddN.items) from rtexts_any (d := 1) _ oddN w10 hod (fun b hb => hb) rfl (by decide)).mono ?_; intro e w11 hrd; obtain ⟨rfl, hb11⟩ := read_odd hrd; clear hrd))
          have B9 : Below w7.heap.size w7 w11 := hb8.trans ((hb9.trans ((hb10.trans (hb11.mono hb10.size)).mono hb9.size)).mono hb8.size)
          have hbd : Below w7.heap.size w7 w11.drew := B9.drew
          have CK := Lib.hid (fun (wx : World) (hb : Below w7.heap.size w7 wx) => (And.intro (six_of (HN.out wx (HB7.out.trans (hb.mono HB7.out.size))).blk) (And.intro (by have := (HO.out wx hb).cell HMK.out; rwa [Nat.zero_add] at this) ((HI.out wx (HBW7.out.trans (hb.mono HBW7.out.size))).cell HS.out)) : (wx.cell? ⟨w1.heap.size, 0, none⟩ = some (.int .i64 4) ∧ wx.cell? ⟨w1.heap.size, 1, none⟩ = some (.bool false) ∧ wx.cell? ⟨w1.heap.size, 2, none⟩ = some (.int .i64 0) ∧ wx.cell? ⟨w1.heap.size, 3, none⟩ = some (.string ⟨#[]⟩) ∧ wx.cell? ⟨w1.heap.size, 4, none⟩ = some (.slice a1 l1 c1) ∧ wx.cell? ⟨w1.heap.size, 5, none⟩ = some (.slice a2 l2 c2)) ∧ wx.cell? ⟨g, k, none⟩ = some (.string r) ∧ wx.cell? ⟨bl, ol + k, none⟩ = some (.string s)))
          have TXO := Lib.hid (fun (wx : World) (hb : Below w7.heap.size w7 wx) => ntexts_any _ ms wx (HO.out wx hb) (fun b hb' => Nat.lt_of_lt_of_le hb' hb.size) (by have := HML.out; omega))
          have key := texts_key HS.out HMS.out
          obtain ⟨bb, hbb⟩ : ∃ bb, (r.toList == s.toList) = bb := ⟨_, rfl⟩
          rw [hbb] at key
          have HKEY := Lib.hid key
          clear key B9 hb8 hb9 hb10 hb11 hod
          refine wp_region_plan (fun wx => (wx.cell? ⟨w1.heap.size, 0, none⟩ = some (.int .i64 4) ∧ wx.cell? ⟨w1.heap.size, 1, none⟩ = some (.bool false) ∧ wx.cell? ⟨w1.heap.size, 2, none⟩ = some (.int .i64 0) ∧ wx.cell? ⟨w1.heap.size, 3, none⟩ = some (.string ⟨#[]⟩) ∧ wx.cell? ⟨w1.heap.size, 4, none⟩ = some (.slice a1 l1 c1) ∧ wx.cell? ⟨w1.heap.size, 5, none⟩ = some (.slice a2 l2 c2)) ∧ wx.cell? ⟨g, k, none⟩ = some (.string r) ∧ wx.cell? ⟨bl, ol + k, none⟩ = some (.string s)) [0, 7, 11] (.take 0 (.take 1 (.take 4 (.take 5 (.take 6 (.take 7 (.take 8 (.take 9 (.take 10 (.take 11 (.take 12 (.ask 2 true (.ask 3 true (.ask 13 false (.take 14 (.ask 15 false (.ask 16 false (.take 17 (.take 18 (.ask 19 false (.take 20 (.ask 21 false .stop .stop)) .stop))) .stop) .stop)) .stop) .stop) .stop)))))))))))) (by kernel_rfl) (by kernel_rfl) (fun _ d _ _ _ h => by cases d <;> exact h) (CK.out _ hbd) ?_
          generalize w11.drew = wd at hbd ⊢
          refine take_held _ ?_ rfl rfl (by decide) ?_ (fun K hK => ?_); rotate_left; (intro w0 hw0; go_simp; (try rfl)); (go_simp; refine hK _ ?_; clear hK K)
          refine take_any _ ?_ rfl rfl ?_ (fun K hK => ?_); rotate_left; (intro w0; go_simp; (try rfl)); (go_simp; refine hK _ ?_; clear hK K)
          refine take_any _ ?_ rfl rfl ?_ (fun K hK => ?_); rotate_left; (intro w0; go_simp; (try rfl)); (go_simp; refine hK _ ?_; clear hK K)
          refine take_any _ ?_ rfl rfl ?_ (fun K hK => ?_); rotate_left; (intro w0; go_simp; (try rfl)); (go_simp; refine hK _ ?_; clear hK K)
          refine take_any _ ?_ rfl rfl ?_ (fun K hK => ?_); rotate_left; (intro w0; go_simp; (try rfl)); (go_simp; refine hK _ ?_; clear hK K)
          refine take_held _ ?_ rfl rfl (by decide) ?_ (fun K hK => ?_); rotate_left; (intro w0 hw0; go_simp; (try rfl)); (go_simp; refine hK _ ?_; clear hK K)
          refine take_any _ ?_ rfl rfl ?_ (fun K hK => ?_); rotate_left; (intro w0; go_simp; (try rfl)); (go_simp; refine hK _ ?_; clear hK K)
          refine take_any _ ?_ rfl rfl ?_ (fun K hK => ?_); rotate_left; (intro w0; go_simp; (try rfl)); (go_simp; refine hK _ ?_; clear hK K)
          refine take_any _ ?_ rfl rfl ?_ (fun K hK => ?_); rotate_left; (intro w0; go_simp; (try rfl)); (go_simp; refine hK _ ?_; clear hK K)
          refine take_held _ ?_ rfl rfl (by decide) ?_ (fun K hK => ?_); rotate_left; (intro w0 hw0; go_simp; (try rfl)); (go_simp; refine hK _ ?_; clear hK K)
          refine take_any _ ?_ rfl rfl ?_ (fun K hK => ?_); rotate_left; (intro w0; go_simp; (try rfl)); (go_simp; refine hK _ ?_; clear hK K)
          refine ask_step _ rfl trivial ?_
          go_wp2_with (go_at_call 18; (with_reducible refine (TXO.out _ hbd).mono ?_); rintro e W2 ⟨co, rfl, hno, hb2⟩; obtain ⟨a8, l8, c8, a9, l9, c9, rfl⟩ : ∃ a8 l8 c8 a9 l9 c9, co = [.int .i64 4, .bool false, .int .i64 0, .string ⟨#[]⟩, .slice a8 l8 c8, .slice a9 l9 c9] := hno.slices)
          have B2 := hbd.trans (hb2.mono hbd.size)
          refine Seg.mk ⟨CK.out _ B2, ?_⟩
          have SM := Lib.hid (same_any 2 2 _ _ _ _ _ _ W2 (HN.out W2 (HB7.out.trans (B2.mono HB7.out.size))).nod hno (fun b hb => hb) (fun b hb => hb.2.1))
          refine ask_step _ rfl trivial ?_
          go_wp2_with (go_at_call 17; refine (SM.out).mono ?_; rintro e W3 ⟨b0, rfl, hb0, hb3⟩; obtain rfl : b0 = bb := Bool.eq_iff_iff.2 (hb0.trans HKEY.out.symm))
          have B3 := B2.trans (hb3.mono B2.size)
          refine Seg.mk ⟨CK.out _ B3, ?_⟩
          have BW3 : Below w.heap.size w W3 := HBW7.out.trans (B3.mono HBW7.out.size)
          refine ask_late _ rfl trivial ?_; go_wp2_with fail; refine Seg.mk ?_
          refine take_any _ ?_ rfl rfl ?_ (fun K hK => ?_); rotate_left; (intro w0; go_simp; (try rfl)); (go_simp; refine hK _ ?_; clear hK K)
          refine ask_late _ rfl trivial ?_; go_wp2_with fail; refine Seg.mk ?_
          refine ask_late _ rfl trivial ?_; go_wp2_with fail; refine Seg.mk ?_
          refine take_any _ ?_ rfl rfl ?_ (fun K hK => ?_); rotate_left; (intro w0; go_simp; (try rfl)); (go_simp; refine hK _ ?_; clear hK K)
          refine take_any _ ?_ rfl rfl ?_ (fun K hK => ?_); rotate_left; (intro w0; go_simp; (try rfl)); (go_simp; refine hK _ ?_; clear hK K)
          refine ask_late _ rfl trivial ?_; go_wp2_with (go_at_call 9; (with_reducible refine (AW.out _ BW3).mono ?_); rintro e W4 ⟨rfl, hb4⟩); refine Seg.mk ?_
          refine take_any _ ?_ rfl rfl ?_ (fun K hK => ?_); rotate_left; (intro w0; go_simp; (try rfl)); (go_simp; refine hK _ ?_; clear hK K)
          refine ask_last _ rfl trivial ?_
          go_wp2
          go_ret
          refine ⟨?_, BW3.trans (hb4.mono BW3.size)⟩
          rfl
end Go.Proofs.YthcgkkafbobfoaaDoor
