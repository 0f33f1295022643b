/- The walk of the statement VersionPlaces. -/
import Derived.Test.YtmlmdidaldcoiaaDoorVback
namespace Go.Proofs.YtmlmdidaldcoiaaDoor
open Go Go.Maps Go.ChangeShapes Go.WideShapes Go.ChangeAt Go.RowKit
set_option linter.unusedVariables false
set_option linter.unusedSimpArgs false

theorem cap_drop {l : List UInt8} {j : Nat} {c : UInt8} (hc : l[j]? = some c) (hn : c.toNat < 65 ∨ 90 < c.toNat) : parseV ((l.drop j).take 17) = none := by
  refine parse_cap (cap_no (i := 0) (c := c) ?_ (by omega))
  rw [List.getElem?_take, if_pos (by decide), List.getElem?_take, if_pos (by decide), List.getElem?_drop]
  exact hc
/-- Behind bytes that are no capital letters the version is found at its place. -/
theorem find_at {pre rest : List UInt8} {v : VD} (hv : validV v = true) (hp : pre.length ≤ 24) (hn : ∀ c, c ∈ pre → c.toNat < 65 ∨ 90 < c.toNat) : findV (pre ++ (textV v ++ rest)) 25 0 = some (v, pre.length) := by
  have hl : (pre ++ (textV v ++ rest)).length = pre.length + (17 + rest.length) := by rw [List.length_append, List.length_append, textV_length hv]
  have h := findV_skip (pre ++ (textV v ++ rest)) pre.length (25 - pre.length) 0 (fun j _ hj => by
    have hj' : j < pre.length := by omega
    exact cap_drop (c := pre[j]) (by rw [List.getElem?_append_left hj', List.getElem?_eq_getElem hj']) (hn _ (List.getElem_mem hj'))) (by omega)
  rw [show pre.length + (25 - pre.length) = 25 by omega] at h
  rw [h, show 25 - pre.length = (24 - pre.length) + 1 by omega, findV, if_pos (by omega), Nat.zero_add, List.drop_left, List.take_append_of_le_length (by rw [textV_length hv]; exact Nat.le_refl _), List.take_of_length_le (by rw [textV_length hv]; exact Nat.le_refl _), parse_text hv]
/-- Behind more of them it is not found. -/
theorem find_no {l : List UInt8} (h : ∀ j, j < 25 → ∃ c, l[j]? = some c ∧ (c.toNat < 65 ∨ 90 < c.toNat)) : findV l 25 0 = none := by
  suffices key : ∀ n i, n + i = 25 → findV l n i = none from key 25 0 rfl
  intro n
  induction n with
  | zero => intro i _; rfl
  | succ n ih =>
    intro i hi
    obtain ⟨c, hc, hn⟩ := h i (by omega)
    rw [findV]
    split
    · rw [cap_drop hc hn]; exact ih (i + 1) (by omega)
    · rfl
def dots (n : Nat) : ByteArray := bV (List.replicate n 46)
theorem dots_succ (n : Nat) : dots n ++ ⟨#[46]⟩ = dots (n + 1) := by
  show bV _ ++ bV [46] = _
  rw [bV_app]; unfold dots; rw [← List.replicate_succ']
theorem dots_size (n : Nat) : (dots n).size = n := by unfold dots; rw [bV_size, List.length_replicate]
theorem place_fd {n : Nat} {V : VD} (hv : validV V = true) : (n ≤ 24 → fdV ((dots n ++ vtS V) ++ ⟨#[116, 97, 105, 108]⟩).data.toList = V ∧ fdP ((dots n ++ vtS V) ++ ⟨#[116, 97, 105, 108]⟩).data.toList = (n : Int) ∧ fdE ((dots n ++ vtS V) ++ ⟨#[116, 97, 105, 108]⟩).data.toList = 0) ∧ (24 < n → fdV ((dots n ++ vtS V) ++ ⟨#[116, 97, 105, 108]⟩).data.toList = v0 ∧ fdP ((dots n ++ vtS V) ++ ⟨#[116, 97, 105, 108]⟩).data.toList = 0 ∧ fdE ((dots n ++ vtS V) ++ ⟨#[116, 97, 105, 108]⟩).data.toList = 10) := by
  have e : ((dots n ++ vtS V) ++ ⟨#[116, 97, 105, 108]⟩).data.toList = List.replicate n 46 ++ (textV V ++ [116, 97, 105, 108]) := by
    rw [ByteArray.data_append, Array.toList_append, ByteArray.data_append, Array.toList_append, vt_ok' hv]
    unfold dots
    rw [bV_data, List.append_assoc]
  rw [e]
  refine ⟨fun h => fd_some ?_, fun h => fd_none (find_no fun j hj => ⟨46, ?_, .inl (by decide)⟩)⟩
  · have := find_at (pre := List.replicate n 46) (rest := [116, 97, 105, 108]) hv (by rw [List.length_replicate]; exact h) (fun c hc => by rw [(List.mem_replicate.1 hc).2]; exact .inl (by decide))
    rw [List.length_replicate] at this
    exact this
  · rw [List.getElem?_append_left (by rw [List.length_replicate]; omega), List.getElem?_replicate, if_pos (by omega)]
set_option maxHeartbeats 6400000 in
set_option maxRecDepth 100000 in
theorem places9_walk (a : Option Addr) (len cap : Nat) (zs : List Int) (o : Int) (ho : 0 ≤ o ∧ o < 256) (w : World) (hn : NumsB w.heap.size w a len cap zs) (hT : DB w) (hE : VErr w) :
    Calls Tryd.prog 6 #[.slice a len cap, .int .u8 o] w fun e w' => e = .returned (.bool true) ∧ Below w.heap.size w w' := by
  have AW := Lib.hid (fun (wx : World) (hb : Below w.heap.size w wx) => awake9_any wx (hT.below hb))
  have LI := Lib.hid (fun wx : World => light_any a len cap wx)
  have HT := Lib.hid hT
  have HE := Lib.hid hE
  have RO := Lib.hid (roll_any a len cap zs w hn)
  clear hn hT hE
  by_cases h500 : (len : Int) ≤ 500
  · rw [decide_eq_true h500] at LI
    clear h500
    go_enter Tryd.func6, Tryd.ntmps6
    go_upto_region 4 with (first
      | (go_at_call 7; (with_reducible refine (LI.out _).mono ?_); rintro e w3 ⟨rfl, rfl⟩)
      | (go_at_call 10; (with_reducible refine (RO.out).mono ?_); rintro e w2 ⟨rfl, hb2, hd2⟩; (have hg2 := hd2.lt))
      | (go_at_call 9; (with_reducible refine (some_any w.heap.size w.heap.size _ hd2).mono ?_); rintro e w4 ⟨⟨V, hV, hp5, rfl⟩, hg4, hd4⟩; unfold vcs))
    have hB4 : Below w.heap.size w w4 := hb2.grown hg4 hb2.size (fun k hk => by cases hk; exact Nat.le_refl _)
    have b5 := (Below.refl w4.heap.size w4).alloc (o := .cells #[.string V.p, .int .i64 V.a, .int .i64 V.b, .int .i64 V.f, .int .i64 V.z] 24) (Nat.le_refl _)
    have k5 := heap_alloc_new w4 (.cells #[.string V.p, .int .i64 V.a, .int .i64 V.b, .int .i64 V.f, .int .i64 V.z] 24)
    generalize w4.alloc _ = w5 at b5 k5 ⊢
    have hB5 := hB4.trans (b5.mono hB4.size)
    generalize w4.heap.size = g5 at k5 ⊢
    have HB5 := Lib.hid hB5
    have HK5 := Lib.hid k5
    have c5 := five_of k5
    have HV := Lib.hid hV
    clear hb2 hd2 hg2 hg4 hd4 hB4 b5 k5 hB5 hV RO LI hp5
    have TX : Hid (Calls Tryd.prog 11 #[.agg #[.string V.p, .int .i64 V.a, .int .i64 V.b, .int .i64 V.f, .int .i64 V.z]] w5 (TxPostV V w5)) := Lib.hid (vtext_any V w5 HV.out (HT.out.below HB5.out))
    unfold TxPostV at TX
    cases hval : validV V with
    | false =>
      rw [(vt_bad hval).1, (vt_bad hval).2] at TX
      clear hval
      go_upto_region 6 with (go_at_call 11; (with_reducible refine (TX.out).mono ?_); rintro e w6 ⟨rfl, hb6⟩)
      have HB6 := Lib.hid (HB5.out.trans (hb6.mono HB5.out.size))
      clear hb6 c5
      go_wp2_with (go_at_call 8; (with_reducible refine (AW.out _ HB6.out).mono ?_); rintro e w8 ⟨rfl, hb8⟩)
      go_ret
      exact ⟨rfl, HB6.out.trans (hb8.mono HB6.out.size)⟩
    | true =>
      obtain ⟨-, -, t3, t4⟩ := vt_text hval
      rw [t3] at TX
      have PF := Lib.hid (fun n => place_fd (n := n) hval)
      obtain ⟨S, hS⟩ : ∃ S, S = vtS V := ⟨_, rfl⟩
      rw [← hS] at t4 TX PF
      clear hS hval t3
      have H4 := Lib.hid t4
      go_upto_region 7 with (go_at_call 11; (with_reducible refine (TX.out).mono ?_); rintro e w6 ⟨rfl, hb6⟩)
      have HB6 := Lib.hid (HB5.out.trans (hb6.mono HB5.out.size))
      have HK6 := Lib.hid ((hb6.block _ (lt_of_block HK5.out)).trans HK5.out)
      clear hb6 c5 HK5 TX t4
      go_upto_region 10 with fail
      obtain ⟨n, hn⟩ : ∃ n : Nat, o % 40 = (n : Int) := ⟨(o % 40).toNat, by omega⟩
      have hn40 : n < 40 := by omega
      rw [hn]
      clear hn
      go_loopw [9, 32] (fun vb vc wr => ∃ j : Nat, vb = .string (dots j) ∧ vc = .int .i64 (j : Int) ∧ j ≤ n ∧ wr = w6) (fun _ vc _ => n - (intOf vc).toNat)
      case atStart => exact ⟨0, rfl, rfl, Nat.zero_le _, rfl⟩
      case round =>
        obtain ⟨j, rfl, rfl, hjn, rfl⟩ := hrel
        by_cases hj : j < n
        · have hjI : (j : Int) < (n : Int) := by omega
          have hds := dots_succ j
          have hlim : ¬ 9223372036854775807 < (dots j).size + 1 := by rw [dots_size]; omega
          go_wp2
          go_roundw
          case rel => exact ⟨j + 1, rfl, by go_num, by omega, by first | exact rfl | trivial⟩
          case measure => simp [intOf]; omega
        · obtain rfl : j = n := by omega
          have l1 : ¬ 9223372036854775807 < (dots j).size + S.size := by rw [dots_size, H4.out]; omega
          obtain ⟨T1, hT1⟩ : ∃ T1, T1 = dots j ++ S := ⟨_, rfl⟩
          obtain ⟨T2, hT2⟩ : ∃ T2, T2 = T1 ++ ⟨#[116, 97, 105, 108]⟩ := ⟨_, rfl⟩
          have l2 : ¬ 9223372036854775807 < T1.size + 4 := by rw [hT1, ByteArray.size_append, dots_size, H4.out]; omega
          have hsz : T2.size ≤ 1000000 := by rw [hT2, ByteArray.size_append, hT1, ByteArray.size_append, dots_size, H4.out]; show _ + 4 ≤ _; omega
          have PP := PF.out j
          rw [← hT1, ← hT2] at PP
          have FI : Hid (Calls Tryd.prog 18 #[.string T2] wr (FiPost T2 wr)) := Lib.hid (vfind_any T2 wr hsz (HT.out.below HB6.out) (HE.out.below HB6.out))
          unfold FiPost at FI
          have HP := Lib.hid PP
          replace hT1 := hT1.symm
          replace hT2 := hT2.symm
          generalize fdV T2.data.toList = U at FI HP
          generalize fdP T2.data.toList = Pq at FI HP
          generalize fdE T2.data.toList = E at FI HP
          unfold vcs at FI
          clear PP hsz PF hjn hj
          go_upto_region 14 with (go_at_call 18; (with_reducible refine (FI.out).mono ?_); rintro e w7 ⟨rfl, hb7⟩)
          have HB7 := Lib.hid (HB6.out.trans (hb7.mono HB6.out.size))
          have k7 := (hb7.block _ (lt_of_block HK6.out)).trans HK6.out
          have b8 := (Below.refl w7.heap.size w7).alloc (o := .cells #[.string U.p, .int .i64 U.a, .int .i64 U.b, .int .i64 U.f, .int .i64 U.z] 24) (Nat.le_refl _)
          have k8 := heap_alloc_new w7 (.cells #[.string U.p, .int .i64 U.a, .int .i64 U.b, .int .i64 U.f, .int .i64 U.z] 24)
          have x8 := five_of ((b8.block _ (lt_of_block k7)).trans k7)
          have HB8 := Lib.hid (HB7.out.trans (b8.mono HB7.out.size))
          generalize w7.alloc _ = w8 at k8 x8 HB8 ⊢
          generalize w7.heap.size = g8 at k8 ⊢
          have y8 := five_of k8
          have VE := fun wx => vers_eql wx V.p V.a V.b V.f V.z
          have VG := fun wx op x y => vers_guard wx op x y #[.string V.p, .int .i64 V.a, .int .i64 V.b, .int .i64 V.f, .int .i64 V.z] #[.string V.p, .int .i64 V.a, .int .i64 V.b, .int .i64 V.f, .int .i64 V.z]
          clear hb7 k7 b8 k8 HB7 FI HK6 hT1 hT2
          by_cases h24 : j ≤ 24
          · obtain ⟨rfl, rfl, rfl⟩ := HP.out.1 h24
            have hg : ¬ (24 : Int) < (j : Int) := by omega
            clear HP h24
            go_wp2_with (go_at_call 8; (with_reducible refine (AW.out _ HB8.out).mono ?_); rintro e w13 ⟨rfl, hb13⟩)
            go_ret
            exact ⟨rfl, HB8.out.trans (hb13.mono HB8.out.size)⟩
          · obtain ⟨-, rfl, rfl⟩ := HP.out.2 (by omega)
            have hg : (24 : Int) < (j : Int) := by omega
            clear HP h24
            go_wp2_with (go_at_call 8; (with_reducible refine (AW.out _ HB8.out).mono ?_); rintro e w13 ⟨rfl, hb13⟩)
            go_ret
            exact ⟨rfl, HB8.out.trans (hb13.mono HB8.out.size)⟩
  · rw [decide_eq_false h500] at LI
    clear h500
    go_enter Tryd.func6, Tryd.ntmps6
    go_wp2_with (first
      | (go_at_call 7; (with_reducible refine (LI.out _).mono ?_); rintro e w3 ⟨rfl, rfl⟩)
      | (go_at_call 8; (with_reducible refine (AW.out _ (Below.refl _ _)).mono ?_); rintro e w1 ⟨rfl, hb⟩))
    go_ret
    exact ⟨rfl, hb⟩
end Go.Proofs.YtmlmdidaldcoiaaDoor
