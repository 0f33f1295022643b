/- The walk of the statement StreamActs in the main case: an input that is not passed over. -/
import Derived.Test.YtdmgmfdmakheiaaDoorLmarks
import Derived.Test.YtdmgmfdmakheiaaDoorLback
namespace Go.Proofs.YtdmgmfdmakheiaaDoor
open Go.ChangeShapes Go.WideShapes Go.ChangeAt Go.RowKit
set_option linter.unusedVariables false
set_option linter.unusedSimpArgs false

theorem encGS_few {G : List Grp} (hl : G.length ≤ 3) (hc : cntG G ≤ 12) : (encGS G).size ≤ 10044 := by
  by_cases h : encGE G = 0
  · obtain ⟨_, _, e⟩ := enc_ok h
    rw [e, strL_size]; exact few_size hl hc
  · rw [enc_empty h]; exact Nat.zero_le _
theorem cnt_few {G : List Grp} (m : Nat) (h : ∀ (j : Nat) (k : Int) (L : List Prim), G[j]? = some (k, L) → L.length ≤ m) : cntG G ≤ m * G.length := by
  induction G with
  | nil => exact Nat.zero_le _
  | cons g t ih =>
    have h0 := h 0 g.1 g.2 rfl
    have h1 := ih fun j k L hj => h (j + 1) k L (by simpa using hj)
    rw [cnt_cons, List.length_cons, Nat.mul_succ]; omega
/-- The two lists of the first loop. -/
def Two (w : World) (x : Nat) (G D : List Grp) : Prop :=
  ∀ j, j < 2 → ∃ v, w.cell? ⟨x, j, none⟩ = some v ∧ GroupsAt w.heap.size w v (if j = 0 then G else D)
theorem Two.go {w w' : World} {x : Nat} {G D : List Grp} (h : Two w x G D) (hx : x < w.heap.size) (hb : Below w.heap.size w w') : Two w' x G D := fun j hj => by
  obtain ⟨v, h1, h2⟩ := h j hj
  exact ⟨v, (hb.cell (p := ⟨x, j, none⟩) hx).trans h1, h2.go hb⟩
/-- The strings of the second loop. -/
def Four (w : World) (x : Nat) : Prop := ∀ j, j < 4 → ∃ s : ByteArray, w.cell? ⟨x, j, none⟩ = some (.string s) ∧ s.size ≤ 1000000
theorem Four.go {w w' : World} {x : Nat} (h : Four w x) (hx : x < w.heap.size) (hb : Below w.heap.size w w') : Four w' x := fun j hj => by
  obtain ⟨s, h1, h2⟩ := h j hj
  exact ⟨s, (hb.cell (p := ⟨x, j, none⟩) hx).trans h1, h2⟩
/-- The pairs of the third loop. -/
def Three (w : World) (x : Nat) : Prop := ∀ j, j < 3 → ∃ k n : Int, w.cell? ⟨x, j * 2, none⟩ = some (.int .i64 k) ∧ w.cell? ⟨x, j * 2 + 1, none⟩ = some (.int .i64 n) ∧ n ≤ 9223372036854775807
theorem Three.go {w w' : World} {x : Nat} (h : Three w x) (hx : x < w.heap.size) (hb : Below w.heap.size w w') : Three w' x := fun j hj => by
  obtain ⟨k, n, h1, h2, h3⟩ := h j hj
  exact ⟨k, n, (hb.cell (p := ⟨x, j * 2, none⟩) hx).trans h1, (hb.cell (p := ⟨x, j * 2 + 1, none⟩) hx).trans h2, h3⟩
theorem IntsAt.go {w w' : World} {v : Value} {l : List Int} (h : IntsAt w.heap.size w v l) (hb : Below w.heap.size w w') : IntsAt w'.heap.size w' v l := h.same hb.block hb.size

theorem NumsB.go {w w' : World} {a : Option Addr} {len cap : Nat} {zs : List Int} (h : NumsB w.heap.size w a len cap zs) (hb : Below w.heap.size w w') : NumsB w'.heap.size w' a len cap zs := by
  obtain ⟨h1, h2, h3, h4⟩ := h.same hb.block
  refine ⟨h1, h2, fun i hi => ?_, h4⟩
  obtain ⟨b, off, e, hB, hc⟩ := h3 i hi
  exact ⟨b, off, e, Nat.lt_of_lt_of_le hB hb.size, hc⟩
set_option maxHeartbeats 6400000 in
set_option maxRecDepth 100000 in
theorem acts4_walk (a : Option Addr) (len cap : Nat) (zs : List Int) (ar : Option Addr) (lr cr : Nat) (D : List Grp) (text : ByteArray) (kind count at_ by_ : Int) (w : World) (hn : NumsB w.heap.size w a len cap zs) (hD : GroupsAt w.heap.size w (.slice ar lr cr) D) (h500 : (len : Int) ≤ 500) (hr10 : lr ≤ 10) (htx : text.size ≤ 3000)
    (q1 : -9223372036854775808 ≤ kind) (q2 : kind ≤ 9223372036854775807) (c1 : -9223372036854775808 ≤ count) (c2 : count ≤ 9223372036854775807) (a1 : -9223372036854775808 ≤ at_) (a2 : at_ ≤ 9223372036854775807) (hT : Tbs w) :
    Calls Tryd.prog 3 #[.slice a len cap, .slice ar lr cr, .string text, .int .i64 kind, .int .i64 count, .int .i64 at_, .int .i64 by_] w fun e w' => e = .returned (.bool true) ∧ Below w.heap.size w w' := by
  have AW := Lib.hid (fun (wx : World) (hx : Tbs wx) => awake4_any wx hx)
  have LI := Lib.hid (fun wx : World => light_any a len cap wx)
  rw [decide_eq_true h500] at LI
  obtain ⟨ap, cp, e, hlc, hcm, -⟩ := id hD
  cases e
  have HN := Lib.hid hn
  have HT := Lib.hid hT
  have HDD := Lib.hid hD
  have hr10' : ¬ (10 : Int) < (D.length : Int) := by omega
  have htx' : ¬ (3000 : Int) < (text.size : Int) := by omega
  have hB := Below.refl w.heap.size w
  unfold maxLen at hcm
  clear hT hn hD h500
  go_enter Tryd.func3, Tryd.ntmps3
  go_wp2_with (first
    | (go_at_call 8; (with_reducible refine (LI.out _).mono ?_); rintro e w3 ⟨rfl, rfl⟩))
  -- loop 1: no group has more than ten primitives
  go_loopw [66] (fun i wr => ∃ j : Nat, j ≤ D.length ∧ i = .int .i64 j ∧ Below w.heap.size w wr ∧ ∀ q k L, q < j → D[q]? = some (k, L) → L.length ≤ 10) (fun i _ => D.length - (intOf i).toNat)
  case atStart => exact ⟨0, Nat.zero_le _, rfl, hB, fun q k L hq => absurd hq (Nat.not_lt_zero _)⟩
  case round =>
    clear hB
    obtain ⟨j, hj, rfl, hB, hno⟩ := hrel
    by_cases hlt : j < D.length
    · obtain ⟨_, _, e, _, _, hrd⟩ := id HDD.out
      cases e
      obtain ⟨b, off, k, L, vi, e1, e2, hbw, ce1, ce2, hp⟩ := hrd j hlt
      subst e2
      obtain ⟨ai, ci, rfl, hli, hci, _⟩ := hp
      unfold maxLen at hci
      replace ce1 := (hB.cell (p := ⟨b, off + j * 2, none⟩) hbw).trans ce1
      replace ce2 := (hB.cell (p := ⟨b, off + j * 2 + 1, none⟩) hbw).trans ce2
      have hx := two_new wr (.int .i64 k) (.slice ai L.length ci) 28
      have bA := (Below.refl wr.heap.size wr).alloc (o := .cells #[.int .i64 k, .slice ai L.length ci] 28) (Nat.le_refl _)
      have hB2 := hB.trans (bA.mono hB.size)
      obtain ⟨x1, x2⟩ := hx
      clear hrd bA hB
      by_cases hl : L.length ≤ 10
      · have hl' : ¬ (10 : Int) < (L.length : Int) := by omega
        have HNO := Lib.hid (show ∀ q k L, q < j + 1 → D[q]? = some (k, L) → L.length ≤ 10 from fun q k' L' hq h => by
          rcases Nat.lt_or_ge q j with h' | h'
          · exact hno q k' L' h' h
          · obtain rfl : q = j := by omega
            rw [e1] at h; cases h; exact hl)
        clear hno e1
        go_wp2
        go_roundw
        case rel => exact ⟨j + 1, by omega, by go_num, hB2, HNO.out⟩
        case measure => simp [intOf]; omega
      · have hl' : (10 : Int) < (L.length : Int) := by omega
        have hB := hB2
        clear hno e1 hB2
        go_wp2_with (go_at_call 9; (with_reducible refine (AW.out _ (HT.out.at hB)).mono ?_); rintro e wn ⟨rfl, hb⟩; replace hB := hB.trans (hb.mono hB.size); clear hb)
        go_ret
        exact ⟨rfl, hB⟩
    · obtain rfl : j = D.length := by omega
      have hcD : cntG D ≤ 100 := by
        have h := cnt_few (G := D) 10 fun q k L h => hno q k L (at_lt h) h
        omega
      have hDr := HDD.out.same hB.block hB.size
      have RO := Lib.hid (roll_any a len cap zs wr (HN.out.go hB))
      clear hno
      go_upto_region 10 with (first
        | (go_at_call 11; (with_reducible refine (RO.out).mono ?_); rintro e w1 ⟨rfl, hb1, hd1⟩)
        | (go_at_call 10; (with_reducible refine (groups_row _ _ _ hd1).mono ?_); rintro e w2 ⟨⟨ao1, cap1, A1, rfl, hr1, hl1, hc1⟩, hg2, hd2⟩))
      have hDr2 := hDr.same (C := w2.heap.size) (w' := w2) (fun j hj => (hg2.block j (Nat.lt_of_lt_of_le hj hb1.size) (by intro e; cases e; omega)).trans (hb1.block j hj)) (Nat.le_trans hb1.size hg2.size)
      replace hB := gbelow (hB.trans (hb1.mono hB.size)) hg2 (Nat.le_trans hB.size hb1.size) hB.size
      have hG := hr1.groups
      have hl3 : (grpsOf A1).length ≤ 3 := by simp [grpsOf]; omega
      obtain ⟨G, hGe⟩ : ∃ G, G = grpsOf A1 := ⟨_, rfl⟩
      rw [← hGe] at hG hl3 hc1
      obtain ⟨V, hV⟩ : ∃ V, V = Value.slice ao1 A1.length cap1 := ⟨_, rfl⟩
      rw [← hV] at hG
      rw [← hV]
      obtain ⟨U, hU⟩ : ∃ U, U = Value.slice ar D.length cr := ⟨_, rfl⟩
      rw [← hU] at hDr2
      have hTw : Two (w2.alloc (.cells #[V, U] 23)) w2.heap.size G D := fun j hj => by
        have bA := (Below.refl w2.heap.size w2).alloc (o := .cells #[V, U] 23) (Nat.le_refl _)
        have h2 := two_new w2 V U 23
        obtain rfl | rfl : j = 0 ∨ j = 1 := by omega
        · exact ⟨V, h2.1, hG.go bA⟩
        · exact ⟨U, h2.2, hDr2.go bA⟩
      have bA := (Below.refl w2.heap.size w2).alloc (o := .cells #[V, U] 23) (Nat.le_refl _)
      replace hB := hB.trans (bA.mono hB.size)
      replace hG := hG.go bA
      have hxx : w2.heap.size < (w2.alloc (.cells #[V, U] 23)).heap.size := by simp
      rw [hU] at bA hTw hB hG hxx
      rw [hV] at hTw hB hG hxx
      have HTW := Lib.hid hTw
      have HB1 := Lib.hid hB
      have HG1 := Lib.hid hG
      have HXX := Lib.hid hxx
      rw [hV]
      obtain ⟨x, hx⟩ : ∃ x, x = w2.heap.size := ⟨_, rfl⟩
      have HX := Lib.hid hx
      rw [← hx] at HTW HXX
      clear hTw hB hG hxx bA hr1 hb1 hd1 hg2 hd2 hDr hDr2 RO hGe hV hU
      go_upto_region 11 with fail
      rw [← hx]
      clear hx
      go_loopw [83] (fun i wr => ∃ j : Nat, j ≤ 2 ∧ i = .int .i64 j ∧ Below w.heap.size w wr ∧ Two wr x G D ∧ x < wr.heap.size ∧ GroupsAt wr.heap.size wr (.slice ao1 A1.length cap1) G) (fun i _ => 2 - (intOf i).toNat)
      case atStart => exact ⟨0, Nat.zero_le _, rfl, HB1.out, HTW.out, HXX.out, HG1.out⟩
      case round =>
        clear HTW HB1 HG1 HXX HX
        obtain ⟨j, hj, rfl, hB, hTw, hxx, hG⟩ := hrel
        by_cases hlt : j < 2
        · have hj2 : decide ((j : Int) < 2) = true := decide_eq_true (by omega)
          have hj2' : (j : Int) < 2 := by omega
          have hj0 : (0 : Int) ≤ (j : Int) := by omega
          obtain ⟨v, cv, gv⟩ := hTw j hlt
          obtain ⟨X, hX⟩ : ∃ X, X = if j = 0 then G else D := ⟨_, rfl⟩
          rw [← hX] at gv
          have hXl : X.length ≤ 1000000 ∧ cntG X ≤ 1000000 := by
            rw [hX]; split <;> omega
          obtain ⟨hXl1, hXl2⟩ := hXl
          have EN0 := fun (wx : World) (h : GroupsAt wx.heap.size wx v X) (hx : Tbs wx) => enc_any v X wx h hXl1 hXl2 hx
          have RN0 := fun (wx : World) (h : GroupsAt wx.heap.size wx v X) => renc_any v X wx h hXl1 hXl2
          have BI0 := fun (wx : World) (h : GroupsAt wx.heap.size wx v X) (hx : Tbs wx) => binG_any v X wx h hXl1 hXl2 hx
          have RB0 := fun (wx : World) (h : GroupsAt wx.heap.size wx v X) => rbinG_any v X wx h hXl1 hXl2
          obtain ⟨S1, hS1⟩ : ∃ y, y = encGS X := ⟨_, rfl⟩
          obtain ⟨E1, hE1⟩ : ∃ y, y = encGE X := ⟨_, rfl⟩
          obtain ⟨S2, hS2⟩ : ∃ y, y = binGS X := ⟨_, rfl⟩
          obtain ⟨E2, hE2⟩ : ∃ y, y = binGE X := ⟨_, rfl⟩
          rw [← hS1, ← hE1] at EN0 RN0
          rw [← hS2, ← hE2] at BI0 RB0
          have EN := Lib.hid EN0
          have RN := Lib.hid RN0
          have BI := Lib.hid BI0
          have RB := Lib.hid RB0
          have t1 := same_str (a := S1) (b := S1) rfl
          have t2 := same_str (a := S2) (b := S2) rfl
          have t3 : (E1 != E1) = false := by simp
          have t4 : (E2 != E2) = false := by simp
          clear EN0 RN0 BI0 RB0 hS1 hE1 hS2 hE2 hX
          go_wp2_with (first
            | (go_at_call 12; (with_reducible refine (EN.out _ gv (HT.out.at hB)).mono ?_); rintro e wn ⟨rfl, hb⟩; replace gv := gv.go hb; replace hG := hG.go hb; replace hTw := hTw.go hxx hb; replace hxx := Nat.lt_of_lt_of_le hxx hb.size; replace hB := hB.trans (hb.mono hB.size); clear hb)
            | (go_at_call 13; (with_reducible refine (RN.out _ gv).mono ?_); rintro e wn ⟨rfl, hb⟩; replace gv := gv.go hb; replace hG := hG.go hb; replace hTw := hTw.go hxx hb; replace hxx := Nat.lt_of_lt_of_le hxx hb.size; replace hB := hB.trans (hb.mono hB.size); clear hb)
            | (go_at_call 14; (with_reducible refine (BI.out _ gv (HT.out.at hB)).mono ?_); rintro e wn ⟨rfl, hb⟩; replace gv := gv.go hb; replace hG := hG.go hb; replace hTw := hTw.go hxx hb; replace hxx := Nat.lt_of_lt_of_le hxx hb.size; replace hB := hB.trans (hb.mono hB.size); clear hb)
            | (go_at_call 15; (with_reducible refine (RB.out _ gv).mono ?_); rintro e wn ⟨rfl, hb⟩; replace gv := gv.go hb; replace hG := hG.go hb; replace hTw := hTw.go hxx hb; replace hxx := Nat.lt_of_lt_of_le hxx hb.size; replace hB := hB.trans (hb.mono hB.size); clear hb))
          go_roundw
          case rel => exact ⟨j + 1, by omega, by go_num, hB, hTw, hxx, hG⟩
          case measure => simp [intOf]; omega
        · have hj2 : decide ((j : Int) < 2) = false := decide_eq_false (by omega)
          have hj2' : ¬ (j : Int) < 2 := by omega
          clear hTw hxx
          have RE0 := renc_any _ G wr hG (by omega) (by omega)
          have hS0 := encGS_few hl3 hc1
          obtain ⟨S, hSe⟩ : ∃ y, y = encGS G := ⟨_, rfl⟩
          obtain ⟨E, hEe⟩ : ∃ y, y = encGE G := ⟨_, rfl⟩
          rw [← hSe, ← hEe] at RE0
          rw [← hSe] at hS0
          have RE := Lib.hid RE0
          have SP := Lib.hid (fun wx : World => spoil_any S at_ by_ wx (by omega) a1 a2)
          obtain ⟨m, hm⟩ : ∃ m : Nat, at_ % ((S.size + 1 : Nat) : Int) = (m : Int) := ⟨(at_ % ((S.size + 1 : Nat) : Int)).toNat, by have := Int.emod_nonneg at_ (b := ((S.size + 1 : Nat) : Int)) (by omega); omega⟩
          have hmS : m ≤ S.size := by have := Int.emod_lt_of_pos at_ (b := ((S.size + 1 : Nat) : Int)) (by omega); omega
          have MD0 := fun wx : World => mod_any at_ (S.size + 1) wx (by omega) (by omega) a1 a2
          rw [hm, show ((S.size + 1 : Nat) : Int) = (S.size : Int) + 1 by omega] at MD0
          have MD := Lib.hid MD0
          have hm0 : (0 : Int) ≤ (m : Int) := by omega
          have hmS' : (m : Int) ≤ (S.size : Int) := by omega
          have hcz : (S.extract 0 m).size ≤ 1000000 := by rw [ByteArray.size_extract]; omega
          obtain ⟨Cu, hCu⟩ : ∃ y, y = S.extract 0 m := ⟨_, rfl⟩
          rw [← hCu] at hcz
          have hCC := hCu.symm
          clear RE0 hSe hEe MD0 hm hCu hj2 hj2' hG
          go_upto_region 22 with (first
            | (go_at_call 13; (with_reducible refine (RE.out).mono ?_); rintro e wn ⟨rfl, hb⟩; replace hB := hB.trans (hb.mono hB.size); clear hb)
            | (go_at_call 16; (with_reducible refine (SP.out _).mono ?_); rintro e ws ⟨sp, rfl, hsp, hb⟩; replace hB := hB.trans (hb.mono hB.size); clear hb)
            | (go_at_call 17; (with_reducible refine (MD.out _).mono ?_); rintro e wq ⟨rfl, rfl⟩))
          have hFo : Four (ws.alloc (.cells #[.string S, .string text, .string sp, .string Cu] 9)) ws.heap.size := fun j hj => by
            have h0 := heap_alloc_new ws (.cells #[.string S, .string text, .string sp, .string Cu] 9)
            have hc := fun (q : Nat) => cell_of_row (ws.alloc (.cells #[.string S, .string text, .string sp, .string Cu] 9)) ws.heap.size q _ _ _ h0
            obtain rfl | rfl | rfl | rfl : j = 0 ∨ j = 1 ∨ j = 2 ∨ j = 3 := by omega
            · exact ⟨S, hc 0, by omega⟩
            · exact ⟨text, hc 1, by omega⟩
            · exact ⟨sp, hc 2, by omega⟩
            · exact ⟨Cu, hc 3, hcz⟩
          have bA := (Below.refl ws.heap.size ws).alloc (o := .cells #[.string S, .string text, .string sp, .string Cu] 9) (Nat.le_refl _)
          have hB2 := hB.trans (bA.mono hB.size)
          have hyy : ws.heap.size < (ws.alloc (.cells #[.string S, .string text, .string sp, .string Cu] 9)).heap.size := by simp
          have HFO := Lib.hid hFo
          have HB2 := Lib.hid hB2
          have HYY := Lib.hid hyy
          obtain ⟨y, hy⟩ : ∃ y, y = ws.heap.size := ⟨_, rfl⟩
          rw [← hy] at HFO HYY
          rw [← hy]
          clear hFo hB2 hyy bA hy hB RE SP MD hmS hmS' hm0 hcz hCC hS0 hsp
          go_loopw [146] (fun i wr => ∃ j : Nat, j ≤ 4 ∧ i = .int .i64 j ∧ Below w.heap.size w wr ∧ Four wr y ∧ y < wr.heap.size) (fun i _ => 4 - (intOf i).toNat)
          case atStart => exact ⟨0, Nat.zero_le _, rfl, HB2.out, HFO.out, HYY.out⟩
          case round =>
            clear HFO HB2 HYY
            obtain ⟨j, hj, rfl, hB, hFo, hyy⟩ := hrel
            by_cases hlt : j < 4
            · have hj2 : decide ((j : Int) < 4) = true := decide_eq_true (by omega)
              have hj2' : (j : Int) < 4 := by omega
              have hj0 : (0 : Int) ≤ (j : Int) := by omega
              obtain ⟨s, cs, hs⟩ := hFo j hlt
              have DE0 := fun (wx : World) (hx : Tbs wx) => decG_any s wx hs hx
              have RD0 := fun (wx : World) => rdecG_any s wx hs
              have FB0 := fun (wx : World) (hx : Tbs wx) => fbG_any s wx (by unfold maxLen; omega) hx
              have RF0 := fun (wx : World) => rfbG_any s wx (by unfold maxLen; omega)
              unfold DecPost at DE0 RD0
              unfold FbPost at FB0 RF0
              obtain ⟨E1, hE1⟩ : ∃ y, y = decGE s := ⟨_, rfl⟩
              obtain ⟨L1, hL1⟩ : ∃ y, y = decGL s := ⟨_, rfl⟩
              obtain ⟨E2, hE2⟩ : ∃ y, y = fbE s := ⟨_, rfl⟩
              obtain ⟨L2, hL2⟩ : ∃ y, y = fbL s := ⟨_, rfl⟩
              rw [← hE1, ← hL1] at DE0 RD0
              rw [← hE2, ← hL2] at FB0 RF0
              have DE := Lib.hid DE0
              have RD := Lib.hid RD0
              have FB := Lib.hid FB0
              have RF := Lib.hid RF0
              have t3 : (E1 != E1) = false := by simp
              have t4 : (E2 != E2) = false := by simp
              clear DE0 RD0 FB0 RF0 hE1 hL1 hE2 hL2
              go_wp2_with (first
                | (go_at_call 18; (with_reducible refine (DE.out _ (HT.out.at hB)).mono ?_); rintro e wn ⟨hb, v1, rfl, hv1⟩; replace hFo := hFo.go hyy hb; replace hyy := Nat.lt_of_lt_of_le hyy hb.size; replace hB := hB.trans (hb.mono hB.size); clear hb)
                | (go_at_call 19; (with_reducible refine (RD.out _).mono ?_); rintro e wn ⟨hb, u1, rfl, hu1⟩; replace hv1 := hv1.go hb; replace hFo := hFo.go hyy hb; replace hyy := Nat.lt_of_lt_of_le hyy hb.size; replace hB := hB.trans (hb.mono hB.size); clear hb)
                | (go_at_call 20; (with_reducible refine (FB.out _ (HT.out.at hB)).mono ?_); rintro e wn ⟨hb, v2, rfl, hv2⟩; replace hv1 := hv1.go hb; replace hu1 := hu1.go hb; replace hFo := hFo.go hyy hb; replace hyy := Nat.lt_of_lt_of_le hyy hb.size; replace hB := hB.trans (hb.mono hB.size); clear hb)
                | (go_at_call 21; (with_reducible refine (RF.out _).mono ?_); rintro e wn ⟨hb, u2, rfl, hu2⟩; replace hv1 := hv1.go hb; replace hu1 := hu1.go hb; replace hv2 := hv2.go hb; replace hFo := hFo.go hyy hb; replace hyy := Nat.lt_of_lt_of_le hyy hb.size; replace hB := hB.trans (hb.mono hB.size); clear hb)
                | (go_at_call 22; (first | (with_reducible refine (same_true _ _ _ _ hv1 hu1).mono ?_) | (with_reducible refine (same_true _ _ _ _ hv2 hu2).mono ?_)); rintro e wn ⟨rfl, hb⟩; replace hv1 := hv1.go hb; replace hu1 := hu1.go hb; replace hv2 := hv2.go hb; replace hu2 := hu2.go hb; replace hFo := hFo.go hyy hb; replace hyy := Nat.lt_of_lt_of_le hyy hb.size; replace hB := hB.trans (hb.mono hB.size); clear hb))
              go_roundw
              case rel => exact ⟨j + 1, by omega, by go_num, hB, hFo, hyy⟩
              case measure => simp [intOf]; omega
            · have hj2 : decide ((j : Int) < 4) = false := decide_eq_false (by omega)
              have hj2' : ¬ (j : Int) < 4 := by omega
              clear hFo hyy
              obtain ⟨r6', hr6⟩ : ∃ r : Nat, kind % 6 = (r : Int) := ⟨(kind % 6).toNat, by omega⟩
              obtain ⟨r3, hr3⟩ : ∃ r : Nat, count % 3 = (r : Int) := ⟨(count % 3).toNat, by omega⟩
              obtain ⟨r70, hr70⟩ : ∃ r : Nat, count % 70 = (r : Int) := ⟨(count % 70).toNat, by omega⟩
              have b6 : r6' < 6 := by omega
              have b3 : r3 < 3 := by omega
              have b70 : r70 < 70 := by omega
              have M60 := fun wx : World => mod_any kind 6 wx (by decide) (by decide) q1 q2
              rw [show ((6 : Nat) : Int) = 6 from rfl, hr6] at M60
              have M30 := fun wx : World => mod_any count 3 wx (by decide) (by decide) c1 c2
              rw [show ((3 : Nat) : Int) = 3 from rfl, hr3] at M30
              have M700 := fun wx : World => mod_any count 70 wx (by decide) (by decide) c1 c2
              rw [show ((70 : Nat) : Int) = 70 from rfl, hr70] at M700
              have M6 := Lib.hid M60
              have M3 := Lib.hid M30
              have M70 := Lib.hid M700
              clear hr6 hr3 hr70 M60 M30 M700 hj2 hj2'
              go_upto_region 32 with (go_at_call 17; (first | (with_reducible refine (M6.out _).mono ?_) | (with_reducible refine (M3.out _).mono ?_) | (with_reducible refine (M70.out _).mono ?_)); rintro e wq ⟨rfl, rfl⟩)
              have hTh : Three (wr.alloc (.cells #[.int .i64 kind, .int .i64 count, .int .i64 (r6' : Int), .int .i64 (4094 + (r3 : Int)), .int .i64 (r6' : Int), .int .i64 ((r70 : Int) - 1)] 42)) wr.heap.size := fun j hj => by
                have h0 := heap_alloc_new wr (.cells #[.int .i64 kind, .int .i64 count, .int .i64 (r6' : Int), .int .i64 (4094 + (r3 : Int)), .int .i64 (r6' : Int), .int .i64 ((r70 : Int) - 1)] 42)
                have hc := fun (q : Nat) => cell_of_row (wr.alloc (.cells #[.int .i64 kind, .int .i64 count, .int .i64 (r6' : Int), .int .i64 (4094 + (r3 : Int)), .int .i64 (r6' : Int), .int .i64 ((r70 : Int) - 1)] 42)) wr.heap.size q _ _ _ h0
                obtain rfl | rfl | rfl : j = 0 ∨ j = 1 ∨ j = 2 := by omega
                · exact ⟨kind, count, hc 0, hc 1, c2⟩
                · exact ⟨r6', 4094 + r3, hc 2, hc 3, by omega⟩
                · exact ⟨r6', r70 - 1, hc 4, hc 5, by omega⟩
              have bA := (Below.refl wr.heap.size wr).alloc (o := .cells #[.int .i64 kind, .int .i64 count, .int .i64 (r6' : Int), .int .i64 (4094 + (r3 : Int)), .int .i64 (r6' : Int), .int .i64 ((r70 : Int) - 1)] 42) (Nat.le_refl _)
              have hB2 := hB.trans (bA.mono hB.size)
              have hzz : wr.heap.size < (wr.alloc (.cells #[.int .i64 kind, .int .i64 count, .int .i64 (r6' : Int), .int .i64 (4094 + (r3 : Int)), .int .i64 (r6' : Int), .int .i64 ((r70 : Int) - 1)] 42)).heap.size := by simp
              have HTH := Lib.hid hTh
              have HB2 := Lib.hid hB2
              have HZZ := Lib.hid hzz
              obtain ⟨z, hz⟩ : ∃ z, z = wr.heap.size := ⟨_, rfl⟩
              rw [← hz] at HTH HZZ
              rw [← hz]
              clear hTh hB2 hzz bA hz hB M6 M3 M70
              go_loopw [208] (fun i wr => ∃ j : Nat, j ≤ 3 ∧ i = .int .i64 j ∧ Below w.heap.size w wr ∧ Three wr z ∧ z < wr.heap.size) (fun i _ => 3 - (intOf i).toNat)
              case atStart => exact ⟨0, Nat.zero_le _, rfl, HB2.out, HTH.out, HZZ.out⟩
              case round =>
                clear HTH HB2 HZZ
                obtain ⟨j, hj, rfl, hB, hTh, hzz⟩ := hrel
                by_cases hlt : j < 3
                · have hj2 : decide ((j : Int) < 3) = true := decide_eq_true (by omega)
                  have hj2' : (j : Int) < 3 := by omega
                  have hj0 : (0 : Int) ≤ (j : Int) := by omega
                  obtain ⟨k, n, ck, cn, hn63⟩ := hTh j hlt
                  have bA := (Below.refl wr.heap.size wr).alloc (o := .cells #[.int .i64 k, .int .i64 n] 42) (Nat.le_refl _)
                  have hx := two_new wr (.int .i64 k) (.int .i64 n) 42
                  have hxs : wr.heap.size < (wr.alloc (.cells #[.int .i64 k, .int .i64 n] 42)).heap.size := by simp
                  have MK0 := fun (wx : World) (h : Shp wx) => mark_any k n wx hn63 h
                  have RM0 := fun (wx : World) => rmark_any k n wx
                  obtain ⟨MS, hMS⟩ : ∃ y, y = markS k n := ⟨_, rfl⟩
                  obtain ⟨ME, hME⟩ : ∃ y, y = markE k n := ⟨_, rfl⟩
                  rw [← hMS, ← hME] at MK0 RM0
                  have MK := Lib.hid MK0
                  have RM := Lib.hid RM0
                  have t1 := same_str (a := MS) (b := MS) rfl
                  have t3 : (ME != ME) = false := by simp
                  have hPl := permL_len k
                  have PE0 := fun (wx : World) (h : Shp wx) => perm_any k wx h
                  have RP0 := fun (wx : World) => rperm_any k wx
                  unfold PermPost at PE0 RP0
                  obtain ⟨P, hP⟩ : ∃ y, y = permL k := ⟨_, rfl⟩
                  rw [← hP] at PE0 RP0 hPl
                  have PE := Lib.hid PE0
                  have RP := Lib.hid RP0
                  clear MK0 RM0 hMS hME PE0 RP0 hP hn63
                  go_upto_region 34 with fail
                  replace hTh := hTh.go hzz bA
                  replace hzz := Nat.lt_of_lt_of_le hzz bA.size
                  replace hB := hB.trans (bA.mono hB.size)
                  obtain ⟨W, hW⟩ : ∃ y, y = wr.alloc (.cells #[.int .i64 k, .int .i64 n] 42) := ⟨_, rfl⟩
                  rw [← hW] at hTh hzz hB hx hxs
                  rw [← hW]
                  obtain ⟨p, hp⟩ : ∃ y, y = wr.heap.size := ⟨_, rfl⟩
                  rw [← hp] at hx hxs
                  rw [← hp]
                  clear hW hp bA ck cn
                  go_upto_region 36 with (first
                    | (go_at_call 23; (with_reducible refine (MK.out _ (HT.out.at hB).shp).mono ?_); rintro e wn ⟨rfl, hb⟩; replace hx := two_keep hb hxs hx; replace hxs := Nat.lt_of_lt_of_le hxs hb.size; replace hTh := hTh.go hzz hb; replace hzz := Nat.lt_of_lt_of_le hzz hb.size; replace hB := hB.trans (hb.mono hB.size); clear hb)
                    | (go_at_call 24; (with_reducible refine (RM.out _).mono ?_); rintro e wn ⟨rfl, hb⟩; replace hx := two_keep hb hxs hx; replace hxs := Nat.lt_of_lt_of_le hxs hb.size; replace hTh := hTh.go hzz hb; replace hzz := Nat.lt_of_lt_of_le hzz hb.size; replace hB := hB.trans (hb.mono hB.size); clear hb))
                  have hBd := hB.drew
                  have hd0 := (Below.refl wn.heap.size wn).drew
                  go_region_held3 (fun w' => w'.cell? ⟨p, 0, none⟩ = some (.int .i64 k) ∧ w'.cell? ⟨p, 1, none⟩ = some (.int .i64 n)) (first | exact hx | exact hx4 | exact hx5)
                    (first
                      | (go_at_call 25; (with_reducible refine (PE.out _ (HT.out.at hBd).shp).mono ?_); rintro e wa ⟨va, rfl, hba, hIa⟩; have hx4 := two_keep hba hxs hx; have hxs4 := Nat.lt_of_lt_of_le hxs hba.size; obtain ⟨ax, cx, rfl⟩ := ints_form hIa)
                      | (go_at_call 26; (with_reducible refine (RP.out _).mono ?_); rintro e wb ⟨vb, rfl, hbb, hIb⟩; have hx5 := two_keep hbb hxs4 hx4; obtain ⟨ay, cy, rfl⟩ := ints_form hIb))
                  replace hIa := hIa.go hbb
                  have hd1 := hd0.trans (hba.mono hd0.size)
                  have hd2 := hd1.trans (hbb.mono hd1.size)
                  replace hB := hB.trans (hd2.mono hB.size)
                  replace hTh := hTh.go hzz hd2
                  replace hzz := Nat.lt_of_lt_of_le hzz hd2.size
                  have HB3 := Lib.hid hB
                  have HTH3 := Lib.hid hTh
                  have HZZ3 := Lib.hid hzz
                  have HIA := Lib.hid hIa
                  have HIB := Lib.hid hIb
                  clear hBd hd0 hd1 hd2 hba hbb hx hx4 hx5 hxs hxs4 hB hTh hzz hIa hIb MK RM PE RP
                  go_wp2
                  go_loop [251] (fun i => ∃ q : Nat, q ≤ P.length ∧ i = .int .i64 q) (fun i => P.length - (intOf i).toNat)
                  case atStart => exact ⟨0, Nat.zero_le _, rfl⟩
                  case round =>
                    obtain ⟨q, hq, rfl⟩ := hrel
                    by_cases hqm : q < P.length
                    · obtain ⟨_, _, e, _, rda⟩ := id HIA.out
                      cases e
                      obtain ⟨_, _, e, _, rdb⟩ := id HIB.out
                      cases e
                      obtain ⟨xa, oa, rfl, _, ca⟩ := rda q hqm
                      obtain ⟨xb, ob, rfl, _, cb⟩ := rdb q hqm
                      obtain ⟨pv, hpv⟩ : ∃ y, y = P.getD q 0 := ⟨_, rfl⟩
                      rw [← hpv] at ca cb
                      have t5 : (pv != pv) = false := by simp
                      clear rda rdb hpv
                      go_wp2
                      go_round
                      case rel => exact ⟨q + 1, by omega, by go_num⟩
                      case measure => simp [intOf]; omega
                    · go_wp2
                      go_roundw
                      case rel => exact ⟨j + 1, by omega, by go_num, HB3.out, HTH3.out, HZZ3.out⟩
                      case measure => simp [intOf]; omega
                · have hj2 : decide ((j : Int) < 3) = false := decide_eq_false (by omega)
                  have hj2' : ¬ (j : Int) < 3 := by omega
                  clear hTh hzz
                  go_wp2_with (go_at_call 9; (with_reducible refine (AW.out _ (HT.out.at hB)).mono ?_); rintro e wn ⟨rfl, hb⟩; replace hB := hB.trans (hb.mono hB.size); clear hb)
                  go_ret
                  exact ⟨rfl, hB⟩

end Go.Proofs.YtdmgmfdmakheiaaDoor
