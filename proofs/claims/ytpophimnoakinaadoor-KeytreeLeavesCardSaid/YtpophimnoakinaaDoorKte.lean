/- Verify of both sides. -/
import Derived.Test.YtpophimnoakinaaDoorKtc
namespace Go.Proofs.YtpophimnoakinaaDoor
open Go.ChangeShapes Go.WideShapes Go.ChangeAt Go.RowKit
set_option linter.unusedVariables false
set_option linter.unusedSimpArgs false

theorem ext_in (s : ByteArray) (a b i j : Nat) (h : a + j ≤ b) : (s.extract a b).extract i j = s.extract (a + i) (a + j) := by
  apply bytes_ext
  rw [toList_extract, toList_extract, toList_extract]
  rw [List.take_drop, List.drop_drop, List.take_take, Nat.min_eq_left h]
/-- One step up by the nodes beside, one after the other. -/
def clN (u : Nat) (leaf ns : ByteArray) : Nat → ByteArray
  | 0 => leaf
  | k + 1 => upB u k (clN u leaf ns k) (ns.extract (16 * k) (16 * k + 16))
theorem clN_size (u : Nat) (leaf ns : ByteArray) (h : leaf.size = 16) (k : Nat) : (clN u leaf ns k).size = 16 := by
  cases k with
  | zero => exact h
  | succ k => exact upB_size _ _ _ _
theorem clN_clP (u : Nat) (m raw : ByteArray) : ∀ k, k ≤ 3 → clN u (lfB (recB m (raw.extract 1 577))) (raw.extract 577 625) k = clP u m raw k
  | 0, _ => rfl
  | k + 1, h => by
    show upB u k (clN _ _ _ k) _ = upB u k (clP u m raw k) _
    rw [clN_clP u m raw k (by omega), ext_in _ _ _ _ _ (by omega), show 577 + (16 * k + 16) = 593 + 16 * k by omega]
theorem clN_three (u : Nat) (m raw : ByteArray) : clN u (lfB (recB m (raw.extract 1 577))) (raw.extract 577 625) 3 = clB u m raw := by rw [clN_clP u m raw 3 (by decide), clP_three]
theorem pl_bit (u k : Nat) (hu : u < 8) (hk : k < 3) : (8 + u) / 2 ^ k % 2 = u / 2 ^ k % 2 := by
  have : ∀ u : Fin 8, ∀ k : Fin 3, (8 + u.1) / 2 ^ k.1 % 2 = u.1 / 2 ^ k.1 % 2 := by decide
  exact this ⟨u, hu⟩ ⟨k, hk⟩
set_option maxHeartbeats 1600000 in
set_option maxRecDepth 100000 in
theorem climb_any (leaf ns : ByteArray) (u : Nat) (w : World) (hl : leaf.size = 16) (hn : ns.size = 48) (hu : u < 8) (hT : STab w) : Calls Tryd.prog 44 #[.string leaf, .int .i64 u, .string ns] w fun e w' => e = .returned (.string (clN u leaf ns 3)) ∧ Below w.heap.size w w' := by
  obtain ⟨P, hP⟩ : ∃ P : Nat → Nat, P = fun k => (8 + u) / 2 ^ k := ⟨_, rfl⟩
  have P0 : Hid ((8 : Int) + (u : Int) = ((P 0 : Nat) : Int)) := Lib.hid (by rw [hP]; simp)
  have P3 : Hid (P 3 = 1) := Lib.hid (by rw [hP]; exact pl_end u hu)
  have PH : Hid (∀ k, P k / 2 = P (k + 1)) := Lib.hid (fun k => by rw [hP]; exact pl_half u k)
  have PW : Hid (∀ k, k < 3 → 1 < P k ∧ P k < 16) := Lib.hid (fun k hk => by rw [hP]; exact ⟨(pl_walk u k hu hk).2.1, pl_small u k hu⟩)
  have PB : Hid (∀ k, k < 3 → P k % 2 = u / 2 ^ k % 2) := Lib.hid (fun k hk => by rw [hP]; exact pl_bit u k hu hk)
  clear hP
  obtain ⟨C, hC⟩ : ∃ C : Nat → ByteArray, C = clN u leaf ns := ⟨_, rfl⟩
  obtain ⟨O, hO⟩ : ∃ O : Nat → ByteArray, O = fun k => ns.extract (16 * k) (16 * k + 16) := ⟨_, rfl⟩
  obtain ⟨R, hR⟩ : ∃ R : Nat → ByteArray, R = fun k => ns.extract (16 * k) 48 := ⟨_, rfl⟩
  have C0 : Hid (leaf = C 0) := Lib.hid (by rw [hC]; rfl)
  have CS : Hid (∀ k, (C k).size = 16) := Lib.hid (fun k => by rw [hC]; exact clN_size u leaf ns hl k)
  have CU : Hid (∀ k, C (k + 1) = if u / 2 ^ k % 2 = 0 then nodB (C k) (O k) else nodB (O k) (C k)) := Lib.hid (fun k => by rw [hC, hO]; rfl)
  have OS : Hid (∀ k, k < 3 → (O k).size = 16) := Lib.hid (fun k hk => by rw [hO]; show (ns.extract _ _).size = 16; rw [ByteArray.size_extract]; omega)
  have R0 : Hid (ns = R 0) := Lib.hid (by rw [hR, ← hn]; simp)
  have RS : Hid (∀ k, k < 3 → (R k).size = 48 - 16 * k) := Lib.hid (fun k hk => by rw [hR]; show (ns.extract _ _).size = _; rw [ByteArray.size_extract]; omega)
  have RO : Hid (∀ k, k < 3 → (R k).extract 0 16 = O k) := Lib.hid (fun k hk => by rw [hR, hO]; show (ns.extract _ _).extract _ _ = _; rw [ext_in _ _ _ _ _ (by omega)]; rfl)
  have RR : Hid (∀ k, k < 3 → (R k).extract 16 (R k).size = R (k + 1)) := Lib.hid (fun k hk => by rw [RS.out k hk, hR]; show (ns.extract _ _).extract _ _ = ns.extract _ _; rw [ext_in _ _ _ _ _ (by omega), show 16 * k + (48 - 16 * k) = 48 by omega, show 16 * k + 16 = 16 * (k + 1) by omega])
  rw [← hC]
  clear hC hO hR
  have JN := Lib.hid (fun (wx : World) (a b : ByteArray) (ha : a.size = 16) (hb : b.size = 16) (h : STab wx) => join_any a b wx (by omega) (by omega) h)
  have HT := Lib.hid hT
  rw [C0.out, R0.out]
  clear hT hl hn C0 R0
  go_enter Tryd.func44, Tryd.ntmps44
  go_wp2
  rw [P0.out]
  go_loopw [2, 7, 8] (fun n x i wr => ∃ j : Nat, j ≤ 3 ∧ n = .string (R j) ∧ x = .string (C j) ∧ i = .int .i64 (P j) ∧ Below w.heap.size w wr) (fun _ _ i _ => (intOf i).toNat)
  case atStart => exact ⟨0, by omega, rfl, rfl, rfl, Below.refl _ _⟩
  case round =>
    obtain ⟨j, hj, rfl, rfl, rfl, hb⟩ := hrel
    by_cases hlt : j < 3
    · obtain ⟨p1, p4⟩ := PW.out j hlt
      have hhf := PH.out j
      have hbt := PB.out j hlt
      have hcu := CU.out j
      have hcs := CS.out j
      have hos := OS.out j hlt
      have hrs := RS.out j hlt
      have hro := RO.out j hlt
      have hrr := RR.out j hlt
      have BE := Lib.hid (fun (wx : World) => beside_any (P j) wx p4)
      have AB := Lib.hid (fun (wx : World) => above_any (P j) wx (by omega))
      rw [hhf] at AB
      obtain ⟨p, hp⟩ : ∃ p, p = P j := ⟨_, rfl⟩
      obtain ⟨p', hp'⟩ : ∃ p', p' = P (j + 1) := ⟨_, rfl⟩
      rw [← hp] at p1 p4 BE AB hhf hbt ⊢
      rw [← hp'] at AB hhf
      obtain ⟨r, hr⟩ : ∃ r, r = R j := ⟨_, rfl⟩
      obtain ⟨r', hr'⟩ : ∃ r', r' = R (j + 1) := ⟨_, rfl⟩
      obtain ⟨o, ho⟩ : ∃ o, o = O j := ⟨_, rfl⟩
      obtain ⟨x, hx⟩ : ∃ x, x = C j := ⟨_, rfl⟩
      obtain ⟨x', hx'⟩ : ∃ x', x' = C (j + 1) := ⟨_, rfl⟩
      rw [← hr] at hrs hro hrr ⊢
      rw [← hr'] at hrr
      rw [← ho] at hro hos hcu
      rw [← hx] at hcu hcs ⊢
      rw [← hx'] at hcu
      have hr16 : (16 : Int) ≤ (r.size : Int) := by omega
      have p1i : (1 : Int) < (p : Int) := by omega
      have HHF : Hid (p' < p) := Lib.hid (by omega)
      have HP' := Lib.hid hp'
      have HR' := Lib.hid hr'
      have HX' := Lib.hid hx'
      have T1 := Lib.hid (stab_of HT.out hb (Nat.le_refl _))
      obtain ⟨b, hb'⟩ : ∃ b, b = bsN p := ⟨_, rfl⟩
      rw [← hb'] at BE
      by_cases hbit : u / 2 ^ j % 2 = 0
      · rw [if_pos hbit] at hcu
        have hlb : (p : Int) < (b : Int) := by rw [hb']; unfold bsN; rw [if_pos (by omega)]; omega
        have J1 := Lib.hid (JN.out _ x o hcs hos T1.out)
        rw [← hcu] at J1
        clear hbit hcu hcs hos hhf hbt hp hp' hr hr' ho hx hx' hb' p1 p4 hrs
        go_wp2_with (first
          | (go_at_call 39; (with_reducible refine (BE.out _).mono ?_); rintro e w1 ⟨rfl, rfl⟩)
          | (go_at_call 58; (with_reducible refine J1.out.mono ?_); rintro e w4 ⟨rfl, hb4⟩)
          | (go_at_call 38; (with_reducible refine (AB.out _).mono ?_); rintro e w1 ⟨rfl, rfl⟩))
        exact ⟨⟨j + 1, by omega, by rw [HR'.out], by rw [HX'.out], by rw [HP'.out], hb.trans (hb4.mono hb.size)⟩, by have := HHF.out; simp only [intOf]; omega⟩
      · rw [if_neg hbit] at hcu
        have hlb : ¬ ((p : Int) < (b : Int)) := by rw [hb']; unfold bsN; rw [if_neg (by omega)]; omega
        have J1 := Lib.hid (JN.out _ o x hos hcs T1.out)
        rw [← hcu] at J1
        clear hbit hcu hcs hos hhf hbt hp hp' hr hr' ho hx hx' hb' p1 p4 hrs
        go_wp2_with (first
          | (go_at_call 39; (with_reducible refine (BE.out _).mono ?_); rintro e w1 ⟨rfl, rfl⟩)
          | (go_at_call 58; (with_reducible refine J1.out.mono ?_); rintro e w4 ⟨rfl, hb4⟩)
          | (go_at_call 38; (with_reducible refine (AB.out _).mono ?_); rintro e w1 ⟨rfl, rfl⟩))
        exact ⟨⟨j + 1, by omega, by rw [HR'.out], by rw [HX'.out], by rw [HP'.out], hb.trans (hb4.mono hb.size)⟩, by have := HHF.out; simp only [intOf]; omega⟩
    · obtain rfl : j = 3 := by omega
      rw [P3.out]
      go_wp2
      go_ret
      exact ⟨rfl, hb⟩
theorem head_get : ∀ (l : List UInt8) (h : 0 < l.length), l.headD 0 = l[0]
  | [], h => absurd h (by simp)
  | a :: l, _ => rfl
theorem use_get (raw : ByteArray) (h0 : 0 < raw.size) : (raw[0]'h0).toNat = useN raw := by
  unfold useN
  have e : raw.data.toList.headD 0 = raw[0]'h0 := by
    show raw.data.toList.headD 0 = raw.data[0]'h0
    rw [← Array.getElem_toList]
    exact head_get _ _
  rw [e]
theorem neq_of {a : Int} (h : ¬ a = 0) : (a != 0) = true := by simp [h]
theorem eq_of {a : Int} (h : ¬ a = 0) : (a == 0) = false := by simp [h]
set_option maxRecDepth 100000 in
theorem open12_any (key : ByteArray) (w : World) (hk : key.size ≤ 100000) (hK : Ktab w) : Calls Tryd.prog 42 #[.string key] w fun e w' => e = .returned (.tuple #[.string (kvS key), .bool (kvE key == 0)]) ∧ Below w.heap.size w w' := by
  have O2 := Lib.hid (fun (wx : World) (h : Ktab wx) => yopen_any 2 key wx (by unfold maxLen; omega) h.tab h.lay)
  have O3 := Lib.hid (fun (wx : World) (h : Ktab wx) => yopen_any 3 key wx (by unfold maxLen; omega) h.tab h.lay)
  have HK := Lib.hid hK
  unfold kvS kvE
  by_cases h2 : opnE 2 key = 0
  · rw [if_pos h2, if_pos h2]
    rw [h2] at O2
    generalize opnS 2 key = s2 at O2 ⊢
    clear h2 O3 hK
    go_enter Tryd.func42, Tryd.ntmps42
    go_wp2_with (go_at_call 64; (with_reducible refine (O2.out _ HK.out).mono ?_); rintro e w1 ⟨rfl, hb1⟩)
    go_ret2
    exact ⟨rfl, hb1⟩
  · rw [if_neg h2, if_neg h2]
    have hn := neq_of h2
    generalize opnS 2 key = s2 at O2 ⊢
    generalize opnS 3 key = s3 at O3 ⊢
    generalize opnE 2 key = e2 at O2 hn ⊢
    generalize opnE 3 key = e3 at O3 ⊢
    clear h2 hK
    go_enter Tryd.func42, Tryd.ntmps42
    go_wp2_with (first
      | (go_at_call 64; (with_reducible refine (O2.out _ HK.out).mono ?_); rintro e w1 ⟨rfl, hb1⟩)
      | (go_at_call 64; (with_reducible refine (O3.out _ (HK.out.below hb1)).mono ?_); rintro e w2 ⟨rfl, hb2⟩))
    go_ret2
    exact ⟨rfl, hb1.trans (hb2.mono hb1.size)⟩
set_option maxHeartbeats 1600000 in
set_option maxRecDepth 100000 in
theorem verify12_any (key m raw : ByteArray) (w : World) (hk : key.size ≤ 100000) (hm : m.size ≤ 999990) (hr : raw.size ≤ 100000) (hK : Ktab w) : Calls Tryd.prog 20 #[.string key, .string m, .string raw] w fun e w' => e = .returned (.bool (verB key m raw)) ∧ Below w.heap.size w w' := by
  have OP := Lib.hid (open12_any key w hk hK)
  by_cases h1 : kvE key = 0
  rotate_left
  · rw [verB_no (fun h => h1 h.1)]
    rw [eq_of h1] at OP
    clear hK h1
    go_enter Tryd.func20, Tryd.ntmps20
    go_wp2_with (go_at_call 42; (with_reducible refine OP.out.mono ?_); rintro e w1 ⟨rfl, hb1⟩)
    go_ret
    exact ⟨rfl, hb1⟩
  by_cases h2 : raw.size = 625
  rotate_left
  · rw [verB_no (fun h => h2 h.2.1)]
    rw [h1, show ((0 : Int) == 0) = true from rfl] at OP
    have h2i : ((raw.size : Int) != 625) = true := by simp; omega
    clear hK h1
    go_enter Tryd.func20, Tryd.ntmps20
    go_wp2_with (go_at_call 42; (with_reducible refine OP.out.mono ?_); rintro e w1 ⟨rfl, hb1⟩)
    go_ret
    exact ⟨rfl, hb1⟩
  rw [h1, show ((0 : Int) == 0) = true from rfl] at OP
  have h2i : ((raw.size : Int) != 625) = false := by rw [h2]; rfl
  have h0 : 0 < raw.size := by omega
  have hix : (raw[0]'h0).toNat = useN raw := use_get raw h0
  by_cases h3 : useN raw < 8
  rotate_left
  · rw [verB_no (fun h => h3 h.2.2)]
    obtain ⟨u, hu⟩ : ∃ u, u = useN raw := ⟨_, rfl⟩
    rw [← hu] at hix h3
    have hu256 : u < 256 := by rw [← hix]; exact UInt8.toNat_lt _
    have hw : wrap64 (u : Int) = (u : Int) := by unfold wrap64; omega
    have h3i : (8 : Int) ≤ (u : Int) := by omega
    clear hK h1 hu h3
    go_enter Tryd.func20, Tryd.ntmps20
    go_wp2_with (go_at_call 42; (with_reducible refine OP.out.mono ?_); rintro e w1 ⟨rfl, hb1⟩)
    go_ret
    exact ⟨rfl, hb1⟩
  rw [verB_ok ⟨h1, h2, h3⟩]
  obtain ⟨u, hu⟩ : ∃ u, u = useN raw := ⟨_, rfl⟩
  rw [← hu] at hix h3 ⊢
  have hw : wrap64 (u : Int) = (u : Int) := by unfold wrap64; omega
  have h3i : ¬ ((8 : Int) ≤ (u : Int)) := by omega
  have hv : (raw.extract 1 577).size = 576 := by rw [ByteArray.size_extract, h2]; rfl
  have hn : (raw.extract 577 625).size = 48 := by rw [ByteArray.size_extract, h2]; rfl
  have RC := Lib.hid (fun (wx : World) (h : Ktab wx) => recover_b m (raw.extract 1 577) wx hm h.st)
  rw [recV_ok hv] at RC
  have hz := recB_size m (raw.extract 1 577)
  rw [← clN_three]
  obtain ⟨v, hve⟩ : ∃ v, v = raw.extract 1 577 := ⟨_, rfl⟩
  rw [← hve] at RC hz ⊢
  obtain ⟨n, hne⟩ : ∃ n, n = raw.extract 577 625 := ⟨_, rfl⟩
  rw [← hne] at hn ⊢
  obtain ⟨p, hp⟩ : ∃ p, p = recB m v := ⟨_, rfl⟩
  rw [← hp] at RC hz ⊢
  have LO := Lib.hid (fun (wx : World) (h : Ktab wx) => leafOf_any p wx hz h.st)
  have hlz : (lfB p).size = 16 := shB_size _
  obtain ⟨l, hl⟩ : ∃ l, l = lfB p := ⟨_, rfl⟩
  rw [← hl] at LO hlz ⊢
  have CL := Lib.hid (fun (wx : World) (h : Ktab wx) => climb_any l n u wx hlz hn h3 h.st)
  have hcz := clN_size u l n hlz 3
  obtain ⟨c, hc⟩ : ∃ c, c = clN u l n 3 := ⟨_, rfl⟩
  rw [← hc] at CL hcz ⊢
  have KO := Lib.hid (fun (wx : World) (h : Ktab wx) => keyOf_any c wx hcz h.st)
  generalize topB c = t at KO ⊢
  generalize kvS key = ks at OP ⊢
  have HK := Lib.hid hK
  have hve' := hve.symm
  have hne' := hne.symm
  clear hK h1 hu h3 hv hn hz hlz hcz hve hne hp hl hc
  go_enter Tryd.func20, Tryd.ntmps20
  go_upto_region 5 with (first
    | (go_at_call 42; (with_reducible refine OP.out.mono ?_); rintro e w1 ⟨rfl, hb1⟩)
    | (go_at_call 43; (with_reducible refine (RC.out _ (HK.out.below hb1)).mono ?_); rintro e w2 ⟨rfl, hb2⟩; have b2 := hb1.trans (hb2.mono hb1.size)))
  refine wp_region_plan (fun w' => True) [] (.take 0 (.take 1 (.take 2 (.take 3 (.take 5 (.take 6 (.take 7 (.take 8 (.take 9 (.take 12 (.ask 4 false (.ask 10 false (.ask 11 false (.take 13 (.take 14 (.take 15 .stop))) .stop) .stop) .stop))))))))))) (by kernel_rfl) (by kernel_rfl) (fun _ d _ _ _ h => by cases d <;> exact h) trivial ?_
  have hbd := b2.drew
  generalize w2.drew = wd at hbd ⊢
  refine take_any _ ?_ rfl rfl ?_ (fun K hK => ?_); rotate_left; (intro w0; go_simp; (try rfl)); (go_simp; refine hK _ ?_; clear hK K)
  refine take_any _ ?_ rfl rfl ?_ (fun K hK => ?_); rotate_left; (intro w0; go_simp; (try rfl)); (go_simp; refine hK _ ?_; clear hK K)
  refine take_any _ ?_ rfl rfl ?_ (fun K hK => ?_); rotate_left; (intro w0; go_simp; (try rfl)); (go_simp; refine hK _ ?_; clear hK K)
  refine take_any _ ?_ rfl rfl ?_ (fun K hK => ?_); rotate_left; (intro w0; go_simp; (try rfl)); (go_simp; refine hK _ ?_; clear hK K)
  refine take_any _ ?_ rfl rfl ?_ (fun K hK => ?_); rotate_left; (intro w0; go_simp; (try rfl)); (go_simp; refine hK _ ?_; clear hK K)
  refine take_any _ ?_ rfl rfl ?_ (fun K hK => ?_); rotate_left; (intro w0; go_simp; (try rfl)); (go_simp; refine hK _ ?_; clear hK K)
  refine take_any _ ?_ rfl rfl ?_ (fun K hK => ?_); rotate_left; (intro w0; go_simp; (try rfl)); (go_simp; refine hK _ ?_; clear hK K)
  refine take_any _ ?_ rfl rfl ?_ (fun K hK => ?_); rotate_left; (intro w0; go_simp; (try rfl)); (go_simp; refine hK _ ?_; clear hK K)
  refine take_any _ ?_ rfl rfl ?_ (fun K hK => ?_); rotate_left; (intro w0; go_simp; (try rfl)); (go_simp; refine hK _ ?_; clear hK K)
  refine take_any _ ?_ rfl rfl ?_ (fun K hK => ?_); rotate_left; (intro w0; go_simp; (try rfl)); (go_simp; refine hK _ ?_; clear hK K)
  refine ask_late _ rfl trivial ?_; go_wp2_with (go_at_call 25; (with_reducible refine (LO.out _ (HK.out.below hbd)).mono ?_); rintro e w3 ⟨rfl, hb3⟩); refine Seg.mk ?_
  have b3 := hbd.trans (hb3.mono hbd.size)
  refine ask_late _ rfl trivial ?_; go_wp2_with (go_at_call 44; (with_reducible refine (CL.out _ (HK.out.below b3)).mono ?_); rintro e w4 ⟨rfl, hb4⟩); refine Seg.mk ?_
  have b4 := b3.trans (hb4.mono b3.size)
  refine ask_late _ rfl trivial ?_; go_wp2_with (go_at_call 30; (with_reducible refine (KO.out _ (HK.out.below b4)).mono ?_); rintro e w5 ⟨rfl, hb5⟩); refine Seg.mk ?_
  have b5 := b4.trans (hb5.mono b4.size)
  refine take_any _ ?_ rfl rfl ?_ (fun K hK => ?_); rotate_left; (intro w0; go_simp; (try rfl)); (go_simp; refine hK _ ?_; clear hK K)
  refine take_any _ ?_ rfl rfl ?_ (fun K hK => ?_); rotate_left; (intro w0; go_simp; (try rfl)); (go_simp; refine hK _ ?_; clear hK K)
  refine take_any _ ?_ rfl rfl ?_ (fun K hK => ?_); rotate_left; (intro w0; go_simp; (try rfl)); (go_simp; refine hK _ ?_; clear hK K)
  unfold wpPlan
  go_wp2
  go_ret
  exact ⟨rfl, b5⟩
end Go.Proofs.YtpophimnoakinaaDoor
