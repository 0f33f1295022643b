/- The walk of KeytreeActs: both sides return the same. -/
import Derived.Test.YtpophimnoakinaaDoorKlw
namespace Go.Proofs.YtpophimnoakinaaDoor
open Go.ChangeShapes Go.WideShapes Go.ChangeAt Go.RowKit
set_option linter.unusedVariables false
set_option linter.unusedSimpArgs false

theorem sign12_both (seed m : ByteArray) (u : Int) (hs : seed.size ≤ 999990) (hm : m.size ≤ 999990) : ∃ (r : ByteArray) (e0 : Int), r.size ≤ 625 ∧
    (∀ w, STab w → Calls Tryd.prog 17 #[.string seed, .int .i64 u, .string m] w fun e w' => e = .returned (.tuple #[.string r, .int .i64 e0]) ∧ Below w.heap.size w w') ∧
    (∀ w, Calls Tryd.prog 18 #[.string seed, .int .i64 u, .string m] w fun e w' => e = .returned (.tuple #[.string r, .int .i64 e0]) ∧ Below w.heap.size w w') := by
  by_cases h : u < 0 ∨ 8 ≤ u
  · exact ⟨⟨#[]⟩, 25, by decide, fun w _ => sign12_no seed m u w h, fun w => rsign12_no seed m u w h⟩
  · obtain ⟨k, rfl⟩ : ∃ k : Nat, u = (k : Int) := ⟨u.toNat, by omega⟩
    have hk : k < 8 := by omega
    exact ⟨sgB seed k m, 0, by rw [sgB_size]; decide, fun w hT => sign12_ok seed m k w hs hm hk hT, fun w => rsign12_ok seed m k w hs hm hk⟩
theorem same_bool (b : Bool) : (b != b) = false := by cases b <;> rfl
theorem same_boolE (b : Bool) : (b == b) = true := by cases b <;> rfl
set_option maxHeartbeats 1600000 in
set_option maxRecDepth 100000 in
theorem acts12_walk (seed m raw key : ByteArray) (use at_ by_ : Int) (w : World) (h1 : -9223372036854775808 ≤ use) (h2 : use ≤ 9223372036854775807) (h3 : -9223372036854775808 ≤ at_) (h4 : at_ ≤ 9223372036854775807) (hK : Ktab w) :
    Calls Tryd.prog 3 #[.string seed, .string m, .string raw, .string key, .int .i64 use, .int .i64 at_, .int .i64 by_] w fun e w' => e = .returned (.bool true) ∧ Below w.heap.size w w' := by
  have AW := Lib.hid (fun (wx : World) (h : Ktab wx) => awake12_any wx h)
  have HK := Lib.hid hK
  clear hK
  by_cases k1 : 200 < seed.size
  · have hi1 : (200 : Int) < (seed.size : Int) := by omega
    go_enter Tryd.func3, Tryd.ntmps3
    go_wp2_with (go_at_call 7; (with_reducible refine (AW.out _ HK.out).mono ?_); rintro e w1 ⟨rfl, hb1⟩)
    go_ret
    exact ⟨rfl, hb1⟩
  have hi1 : ¬ (200 : Int) < (seed.size : Int) := by omega
  by_cases k2 : 300 < m.size
  · have hi2 : (300 : Int) < (m.size : Int) := by omega
    go_enter Tryd.func3, Tryd.ntmps3
    go_wp2_with (go_at_call 7; (with_reducible refine (AW.out _ HK.out).mono ?_); rintro e w1 ⟨rfl, hb1⟩)
    go_ret
    exact ⟨rfl, hb1⟩
  have hi2 : ¬ (300 : Int) < (m.size : Int) := by omega
  by_cases k3 : 1000 < raw.size
  · have hi3 : (1000 : Int) < (raw.size : Int) := by omega
    go_enter Tryd.func3, Tryd.ntmps3
    go_wp2_with (go_at_call 7; (with_reducible refine (AW.out _ HK.out).mono ?_); rintro e w1 ⟨rfl, hb1⟩)
    go_ret
    exact ⟨rfl, hb1⟩
  have hi3 : ¬ (1000 : Int) < (raw.size : Int) := by omega
  by_cases k4 : 100 < key.size
  · have hi4 : (100 : Int) < (key.size : Int) := by omega
    go_enter Tryd.func3, Tryd.ntmps3
    go_wp2_with (go_at_call 7; (with_reducible refine (AW.out _ HK.out).mono ?_); rintro e w1 ⟨rfl, hb1⟩)
    go_ret
    exact ⟨rfl, hb1⟩
  have hi4 : ¬ (100 : Int) < (key.size : Int) := by omega
  have L1 := Lib.hid (leaf12_any seed use w (by omega) HK.out.st)
  have L2 := Lib.hid (fun (wx : World) => rleaf12_any seed use wx (by omega))
  have P1 := Lib.hid (fun (wx : World) (h : Ktab wx) => public12_any seed wx (by omega) h.st)
  have P2 := Lib.hid (fun (wx : World) => rpublic12_any seed wx (by omega))
  have K1 := Lib.hid (fun (wx : World) (h : Ktab wx) => key12_any seed wx (by omega) h)
  have K2 := Lib.hid (fun (wx : World) => rkey12_any seed wx (by omega))
  have W1 := Lib.hid (fun (wx : World) (h : Ktab wx) => witness12_any seed wx (by omega) h)
  have W2 := Lib.hid (fun (wx : World) => rwitness12_any seed wx (by omega))
  have V1 := Lib.hid (fun (wx : World) (p x s : ByteArray) (hp : p.size ≤ 100) (hx : x.size ≤ 400) (hs : s.size ≤ 1000) (h : Ktab wx) => verify12_any p x s wx (by omega) (by omega) (by omega) h)
  have V2 := Lib.hid (fun (wx : World) (p x s : ByteArray) (hp : p.size ≤ 100) (hx : x.size ≤ 400) (hs : s.size ≤ 1000) => rverify12_any p x s wx (by omega) (by omega) (by omega))
  have MA := Lib.hid (fun wx : World => mod_any use 10 wx (by decide) (by decide) h1 h2)
  rw [show ((10 : Nat) : Int) = 10 from rfl] at MA
  obtain ⟨k, hk⟩ : ∃ k : Int, k = use % 10 - 1 := ⟨_, rfl⟩
  obtain ⟨k', hk'⟩ : ∃ k' : Int, k' = use % 10 := ⟨_, rfl⟩
  rw [← hk'] at MA hk
  have kb : 0 ≤ k' ∧ k' < 10 := by omega
  have i1 : k' - 1 = k := by omega
  obtain ⟨g, e0, hgs, G1, G2⟩ := sign12_both seed m k (by omega) (by omega)
  have G1 := Lib.hid G1
  have G2 := Lib.hid G2
  have hos := keyB_size seed
  have hws := witB_size seed
  obtain ⟨lf, hlf⟩ : ∃ lf, lf = leafB seed use := ⟨_, rfl⟩
  rw [← hlf] at L1 L2
  obtain ⟨pk, hpk⟩ : ∃ pk, pk = pkB seed := ⟨_, rfl⟩
  rw [← hpk] at P1 P2
  obtain ⟨o, ho⟩ : ∃ o, o = keyB seed := ⟨_, rfl⟩
  rw [← ho] at K1 K2 hos
  obtain ⟨s, hs⟩ : ∃ s, s = witB seed := ⟨_, rfl⟩
  rw [← hs] at W1 W2 hws
  have SG := Lib.hid (fun (wx : World) => spoil_any g at_ by_ wx (by omega) h3 h4)
  have SZ := Lib.hid (fun (wx : World) => spoil_any g 0 by_ wx (by omega) (by decide) (by decide))
  have SO := Lib.hid (fun (wx : World) => spoil_any o at_ by_ wx (by omega) h3 h4)
  have tl : (lf.toList != lf.toList) = false := by simp
  have tp : (pk.toList != pk.toList) = false := by simp
  have tk : (o.toList != o.toList) = false := by simp
  have tw : (s.toList != s.toList) = false := by simp
  have tg : (g.toList != g.toList) = false := by simp
  have te : (e0 != e0) = false := by simp
  have kb1 := kb.1
  have kb2 := kb.2
  clear hlf hpk ho hs h1 h2 h3 h4 hk' hk kb
  go_enter Tryd.func3, Tryd.ntmps3
  go_wp2_with (first
    | (go_at_call 8; (with_reducible refine L1.out.mono ?_); rintro e w1 ⟨rfl, hb1⟩; have b := hb1; clear hb1)
    | (go_at_call 9; (with_reducible refine (L2.out _).mono ?_); rintro e w1 ⟨rfl, hb1⟩; replace b := b.trans (hb1.mono b.size); clear hb1)
    | (go_at_call 10; (with_reducible refine (P1.out _ (HK.out.below b)).mono ?_); rintro e w1 ⟨rfl, hb1⟩; replace b := b.trans (hb1.mono b.size); clear hb1)
    | (go_at_call 11; (with_reducible refine (P2.out _).mono ?_); rintro e w1 ⟨rfl, hb1⟩; replace b := b.trans (hb1.mono b.size); clear hb1)
    | (go_at_call 12; (with_reducible refine (K1.out _ (HK.out.below b)).mono ?_); rintro e w1 ⟨rfl, hb1⟩; replace b := b.trans (hb1.mono b.size); clear hb1)
    | (go_at_call 13; (with_reducible refine (K2.out _).mono ?_); rintro e w1 ⟨rfl, hb1⟩; replace b := b.trans (hb1.mono b.size); clear hb1)
    | (go_at_call 14; (with_reducible refine (W1.out _ (HK.out.below b)).mono ?_); rintro e w1 ⟨rfl, hb1⟩; replace b := b.trans (hb1.mono b.size); clear hb1)
    | (go_at_call 15; (with_reducible refine (W2.out _).mono ?_); rintro e w1 ⟨rfl, hb1⟩; replace b := b.trans (hb1.mono b.size); clear hb1)
    | (go_at_call 16; (with_reducible refine (MA.out _).mono ?_); rintro e w3 ⟨rfl, rfl⟩)
    | (go_at_call 17; (with_reducible refine (G1.out _ (HK.out.below b).st).mono ?_); rintro e w1 ⟨rfl, hb1⟩; replace b := b.trans (hb1.mono b.size); clear hb1)
    | (go_at_call 18; (with_reducible refine (G2.out _).mono ?_); rintro e w1 ⟨rfl, hb1⟩; replace b := b.trans (hb1.mono b.size); clear hb1)
    | (go_at_call 19; (with_reducible refine (SG.out _).mono ?_); rintro e w1 ⟨sp, rfl, hsp, hb1⟩; replace b := b.trans (hb1.mono b.size); clear hb1)
    | (go_at_call 19; (with_reducible refine (SZ.out _).mono ?_); rintro e w1 ⟨sq, rfl, hsq, hb1⟩; replace b := b.trans (hb1.mono b.size); clear hb1))
  have bW := b.alloc (o := .cells #[.string g, .string raw, .string sp, .string sq] 9) b.size
  have CE : Hid (∀ j : Nat, j < 4 → ∃ s : ByteArray, s.size ≤ 1000 ∧ (w1.alloc (.cells #[.string g, .string raw, .string sp, .string sq] 9)).cell? ⟨w1.heap.size, j, none⟩ = some (.string s)) := Lib.hid (fun j hj => by
    have hc := cells_new w1 #[.string g, .string raw, .string sp, .string sq] 9 _ rfl j
    simp only [Addr.add, Nat.zero_add] at hc
    rcases (show j = 0 ∨ j = 1 ∨ j = 2 ∨ j = 3 by omega) with rfl | rfl | rfl | rfl
    · exact ⟨_, by omega, hc _ rfl⟩
    · exact ⟨_, by omega, hc _ rfl⟩
    · exact ⟨_, by omega, hc _ rfl⟩
    · exact ⟨_, by omega, hc _ rfl⟩)
  have hgl : w1.heap.size < (w1.alloc (.cells #[.string g, .string raw, .string sp, .string sq] 9)).heap.size := by simp
  have CB : Hid (o.size ≤ 100 ∧ s.size ≤ 100 ∧ key.size ≤ 100 ∧ m.size ≤ 300 ∧ g.size ≤ 1000) := Lib.hid ⟨by omega, by omega, by omega, by omega, by omega⟩
  generalize w1.alloc (.cells #[.string g, .string raw, .string sp, .string sq] 9) = wq at bW CE hgl ⊢
  generalize w1.heap.size = gl at CE hgl ⊢
  have HGL := Lib.hid hgl
  clear hgl b hsp hsq hos hws
  obtain ⟨mx, hmx⟩ : ∃ mx, m ++ { data := #[120] } = mx := ⟨_, rfl⟩
  have hmxs : mx.size ≤ 400 := by have := CB.out; rw [← hmx, ByteArray.size_append]; show m.size + 1 ≤ 400; omega
  go_loopw [113] (fun i wr => ∃ j : Nat, j ≤ 4 ∧ i = .int .i64 j ∧ Below wq.heap.size wq wr ∧ Below w.heap.size w wr) (fun i _ => 4 - (intOf i).toNat)
  case atStart => exact ⟨0, Nat.zero_le _, rfl, Below.refl _ _, bW⟩
  case round =>
    clear bW
    obtain ⟨j, hj, rfl, hbq, hb⟩ := hrel
    by_cases hlt : j < 4
    · obtain ⟨x, hxs, hx⟩ := CE.out j hlt
      have hcell := (hbq.cell (p := ⟨gl, j, none⟩) HGL.out).trans hx
      have HXS := Lib.hid hxs
      clear hx hxs
      go_upto_region 15 with (go_at_call 19; (with_reducible refine (SO.out _).mono ?_); rintro e w2 ⟨so, rfl, hso, hb2⟩)
      have HSO := Lib.hid hso
      clear hso
      have b2 := hb.trans (hb2.mono hb.size)
      have q2 := hbq.trans (hb2.mono hbq.size)
      have b3 := b2.alloc (o := .cells #[.string o, .string s, .string key, .string so] 9) b2.size
      have q3 := q2.alloc (o := .cells #[.string o, .string s, .string key, .string so] 9) q2.size
      have CF : Hid (∀ j : Nat, j < 4 → ∃ s' : ByteArray, s'.size ≤ 100 ∧ (w2.alloc (.cells #[.string o, .string s, .string key, .string so] 9)).cell? ⟨w2.heap.size, j, none⟩ = some (.string s')) := Lib.hid (fun j hj => by
        have hc := cells_new w2 #[.string o, .string s, .string key, .string so] 9 _ rfl j
        simp only [Addr.add, Nat.zero_add] at hc
        have cb := CB.out
        have hso := HSO.out
        rcases (show j = 0 ∨ j = 1 ∨ j = 2 ∨ j = 3 by omega) with rfl | rfl | rfl | rfl
        · exact ⟨_, cb.1, hc _ rfl⟩
        · exact ⟨_, cb.2.1, hc _ rfl⟩
        · exact ⟨_, cb.2.2.1, hc _ rfl⟩
        · exact ⟨_, by omega, hc _ rfl⟩)
      have hgk : w2.heap.size < (w2.alloc (.cells #[.string o, .string s, .string key, .string so] 9)).heap.size := by simp
      generalize w2.alloc (.cells #[.string o, .string s, .string key, .string so] 9) = wp at b3 q3 CF hgk ⊢
      generalize w2.heap.size = gk at CF hgk ⊢
      have HGK := Lib.hid hgk
      clear hgk b2 q2 hb2 hb hbq
      obtain ⟨ij, hij⟩ : ∃ ij : Value, ij = .int .i64 (j : Int) := ⟨_, rfl⟩
      go_loopw [126] (fun i wr => ∃ t : Nat, t ≤ 4 ∧ i = .int .i64 t ∧ Below wp.heap.size wp wr ∧ Below wq.heap.size wq wr ∧ Below w.heap.size w wr) (fun i _ => 4 - (intOf i).toNat)
      case atStart => exact ⟨0, Nat.zero_le _, rfl, Below.refl _ _, q3, b3⟩
      case round =>
        clear b3 q3
        obtain ⟨t, ht, rfl, hbp, hbq, hb⟩ := hrel
        by_cases hlt2 : t < 4
        · obtain ⟨p, hps, hp⟩ := CF.out t hlt2
          have hcell2 := (hbp.cell (p := ⟨gk, t, none⟩) HGK.out).trans hp
          have Q1 := Lib.hid (V1.out wr p m x hps (by have := CB.out; omega) HXS.out (HK.out.below hb))
          have Q2 := Lib.hid (fun wx => V2.out wx p m x hps (by have := CB.out; omega) HXS.out)
          generalize verB p m x = v at Q1 Q2
          have tv := same_bool v
          clear hp hps
          go_wp2_with (first
            | (go_at_call 20; (with_reducible refine Q1.out.mono ?_); rintro e w3 ⟨rfl, hb3⟩)
            | (go_at_call 21; (with_reducible refine (Q2.out _).mono ?_); rintro e w4 ⟨rfl, hb4⟩; have hb34 := hb3.trans (hb4.mono hb3.size)))
          go_roundw
          case rel => exact ⟨t + 1, by omega, by go_num, hbp.trans (hb34.mono hbp.size), hbq.trans (hb34.mono hbq.size), hb.trans (hb34.mono hb.size)⟩
          case measure => simp [intOf]; omega
        · obtain rfl : t = 4 := by omega
          go_wp2
          go_roundw
          case rel => exact ⟨j + 1, by omega, by go_num, hbq, hb⟩
          case measure => simp [intOf]; omega
    · obtain rfl : j = 4 := by omega
      have Q1 := Lib.hid (V1.out wr o mx g CB.out.1 hmxs CB.out.2.2.2.2 (HK.out.below hb))
      have Q2 := Lib.hid (fun wx => V2.out wx o mx g CB.out.1 hmxs CB.out.2.2.2.2)
      generalize verB o mx g = v at Q1 Q2
      have tv := same_boolE v
      have hms : m.size ≤ 300 := CB.out.2.2.2.1
      go_wp2_with (first
        | (go_at_call 20; (with_reducible refine Q1.out.mono ?_); rintro e w3 ⟨rfl, hb3⟩)
        | (go_at_call 21; (with_reducible refine (Q2.out _).mono ?_); rintro e w4 ⟨rfl, hb4⟩; have b4 := hb.trans ((hb3.trans (hb4.mono hb3.size)).mono hb.size))
        | (go_at_call 7; (with_reducible refine (AW.out _ (HK.out.below b4)).mono ?_); rintro e w5 ⟨rfl, hb5⟩))
      go_ret
      exact ⟨rfl, b4.trans (hb5.mono b4.size)⟩
end Go.Proofs.YtpophimnoakinaaDoor
