/- What the texts of primitives and their values say of one another: a text is read again whatever follows, and what is read is written again just so. -/
import Derived.Test.YtpophimnoakinaaDoorQdec
namespace Go.Proofs.YtpophimnoakinaaDoor
open Go.RowKit
set_option linter.unusedVariables false
set_option linter.unusedSimpArgs false

theorem decQ_first (t : ByteArray) : decQ t = if firstP t = 0 then ⟨0, ⟨#[]⟩, 0, 7⟩ else outQ t (firstP t) := by
  unfold decQ firstP
  cases (List.range 8).find? (fun i => hitP t (i + 1)) with
  | none => rfl
  | some i => simp
theorem allD_code (c : Nat) (h1 : 1 ≤ c) (h8 : c ≤ 8) : allD (codeL c) = true := by
  rcases eight_codes h1 h8 with rfl | rfl | rfl | rfl | rfl | rfl | rfl | rfl <;> decide
theorem allD_drop (l : List UInt8) (k : Nat) (h : allD l = true) : allD (l.drop k) = true := by
  unfold allD at h ⊢
  rw [List.all_eq_true] at h ⊢
  exact fun x hx => h x (List.mem_of_mem_drop hx)
theorem allD_take (l : List UInt8) (k : Nat) (h : allD l = true) : allD (l.take k) = true := by
  unfold allD at h ⊢
  rw [List.all_eq_true] at h ⊢
  exact fun x hx => h x (List.mem_of_mem_take hx)

/-- The digits of a lead of zeros. -/
theorem lead_digits (k : Nat) (hk : k ≤ 2) (raw : List UInt8) (h : 1 ≤ raw.length) (hm : (k + raw.length) % 3 = 0) : (encL (List.replicate k 0 ++ raw)).take k = List.replicate k 65 := by
  obtain rfl | rfl | rfl : k = 0 ∨ k = 1 ∨ k = 2 := by omega
  · rfl
  · match raw, h with
    | [a], _ => simp at hm
    | a :: b :: r, _ =>
      show (encL (0 :: a :: b :: r)).take 1 = [65]
      rw [encL, digsL_four]
      have h1 := UInt8.toNat_lt a
      have h2 := UInt8.toNat_lt b
      rw [show ((0 : UInt8).toNat * 65536 + a.toNat * 256 + b.toNat) / 262144 = 0 by show (0 * 65536 + a.toNat * 256 + b.toNat) / 262144 = 0; omega]
      rfl
  · match raw, h with
    | a :: r, _ =>
      show (encL (0 :: 0 :: a :: r)).take 2 = [65, 65]
      rw [encL, digsL_four]
      have h1 := UInt8.toNat_lt a
      have e : ((0 : UInt8).toNat * 65536 + (0 : UInt8).toNat * 256 + a.toNat) = a.toNat := by show 0 * 65536 + 0 * 256 + a.toNat = _; omega
      rw [e, show a.toNat / 262144 = 0 by omega, show a.toNat / 4096 = 0 by omega]
      rfl

structure IsPrim (c : Nat) (raw : ByteArray) : Prop where
  c1 : 1 ≤ c
  c8 : c ≤ 8
  size : raw.size = rawN c
theorem IsPrim.len {c : Nat} {raw : ByteArray} (h : IsPrim c raw) : raw.data.toList.length = rawN c := by rw [len_is]; exact h.size
theorem IsPrim.rawpos {c : Nat} {raw : ByteArray} (h : IsPrim c raw) : 1 ≤ rawN c ∧ rawN c ≤ 626 := by
  have h1 := h.c1
  have h8 := h.c8
  rcases eight_codes h1 h8 with rfl | rfl | rfl | rfl | rfl | rfl | rfl | rfl <;> decide
/-- The text of a primitive. -/
def txt (c : Nat) (raw : ByteArray) : ByteArray := ⟨(textL c raw.data.toList).toArray⟩
theorem txt_list (c : Nat) (raw : ByteArray) : (txt c raw).data.toList = textL c raw.data.toList := rfl
theorem IsPrim.txt_size {c : Nat} {raw : ByteArray} (h : IsPrim c raw) : (txt c raw).size = sizeN c := by
  rw [← len_is, txt_list]; exact textL_length c h.c1 h.c8 _ h.len
theorem IsPrim.primS {c : Nat} {raw : ByteArray} (h : IsPrim c raw) : primS (c : Int) raw = txt c raw := by
  unfold Go.Proofs.YtpophimnoakinaaDoor.primS
  rw [if_pos ⟨⟨by have := h.c1; omega, by have := h.c8; omega⟩, h.size⟩]
  rfl
theorem IsPrim.primE {c : Nat} {raw : ByteArray} (h : IsPrim c raw) : primE (c : Int) raw = 0 := by
  unfold Go.Proofs.YtpophimnoakinaaDoor.primE
  rw [if_pos ⟨by have := h.c1; omega, by have := h.c8; omega⟩, if_pos (show raw.size = rawN ((c : Int)).toNat from h.size)]
theorem IsPrim.allD {c : Nat} {raw : ByteArray} (h : IsPrim c raw) : allD (textL c raw.data.toList) = true := by
  unfold textL
  rw [allD_append, allD_code c h.c1 h.c8]
  have hm := lead_raw c
  exact allD_drop _ _ (allD_encL ((leadN c + rawN c) / 3) _ (by rw [List.length_append, List.length_replicate, h.len]; omega))
theorem size_four (c : Nat) (h1 : 1 ≤ c) (h8 : c ≤ 8) : sizeN c % 4 = 0 ∧ 4 ≤ sizeN c ∧ sizeN c ≤ 836 ∧ (codeL c).length < sizeN c := by
  rcases eight_codes h1 h8 with rfl | rfl | rfl | rfl | rfl | rfl | rfl | rfl <;> decide

/-- A text begins with the text of a primitive: its code is the one that it begins with. -/
theorem IsPrim.first {c : Nat} {raw : ByteArray} (h : IsPrim c raw) (t : ByteArray) (k : Nat) (hk : (codeL c).length ≤ k) (ht : t.data.toList.take k = (textL c raw.data.toList).take k) : firstP t = c := by
  refine firstP_hit t c h.c1 h.c8 ?_
  rw [hit_take, decide_eq_true_eq]
  have e : t.data.toList.take (codeL c).length = (t.data.toList.take k).take (codeL c).length := by rw [List.take_take, Nat.min_eq_left hk]
  rw [e, ht, List.take_take, Nat.min_eq_left hk]
  unfold textL
  rw [List.take_append_of_le_length (Nat.le_refl _), List.take_length]

theorem body_list (t : ByteArray) (c : Nat) : (bodyP t c).data.toList = List.replicate (leadN c) 65 ++ (t.data.toList.take (sizeN c)).drop (codeL c).length := by
  unfold bodyP
  rw [ByteArray.data_append, Array.toList_append, ext_data, ext_data, List.drop_zero]
  congr 1
  have := lead_le c
  obtain h | h | h : leadN c = 0 ∨ leadN c = 1 ∨ leadN c = 2 := by omega
  all_goals (rw [h]; rfl)
theorem zeros_two (l : Nat) (h : l ≤ 2) : (⟨#[0, 0]⟩ : ByteArray).extract 0 l = strL (List.replicate l 0) := by
  obtain rfl | rfl | rfl : l = 0 ∨ l = 1 ∨ l = 2 := by omega
  all_goals (apply ByteArray.ext; rfl)
theorem strL_ext (l : List UInt8) (a b : Nat) : (strL l).extract a b = strL ((l.take b).drop a) := by
  apply ByteArray.ext
  apply Array.toList_inj.1
  rw [ext_data]
  rfl
theorem strL_size (l : List UInt8) : (strL l).size = l.length := by show l.toArray.size = _; simp
theorem strL_list (s : ByteArray) : strL s.data.toList = s := by apply ByteArray.ext; apply Array.toList_inj.1; rfl
theorem dec_fours (l : List UInt8) (q : Nat) (hl : l.length = 4 * q) (hq : q ≤ 32768) (ha : allD l = true) : decFE l = 0 ∧ decFS l = strL (decL l) := by
  constructor
  · unfold decFE decE
    rw [hl, if_neg (by omega), if_neg (by omega), if_pos ha]
  · unfold decFS decS
    rw [hl, if_neg (by omega), if_pos ha]
theorem enc_threes (l : List UInt8) (q : Nat) (hl : l.length = 3 * q) (hq : q ≤ 21845) : encE l = 0 ∧ encS l = strL (encL l) := by
  constructor
  · unfold encE
    rw [hl, if_neg (by omega), if_neg (by omega)]
  · unfold encS
    rw [hl, if_neg (by omega)]
theorem raw_blocks (c : Nat) (h1 : 1 ≤ c) (h8 : c ≤ 8) : (leadN c + rawN c) / 3 ≤ 209 := by
  rcases eight_codes h1 h8 with rfl | rfl | rfl | rfl | rfl | rfl | rfl | rfl <;> decide

/-- A text is read again, whatever follows. -/
theorem IsPrim.back {c : Nat} {raw : ByteArray} (h : IsPrim c raw) (t : ByteArray) (ht : t.data.toList.take (sizeN c) = textL c raw.data.toList) : decQ t = ⟨c, raw, sizeN c, 0⟩ := by
  have hl2 := lead_le c
  have hm := lead_raw c
  have hq := raw_blocks c h.c1 h.c8
  have hp := h.rawpos
  have hsz : sizeN c ≤ t.size := by
    have := congrArg List.length ht
    rw [List.length_take, textL_length c h.c1 h.c8 _ h.len, len_is] at this
    omega
  obtain ⟨X, hX⟩ : ∃ X, X = List.replicate (leadN c) 0 ++ raw.data.toList := ⟨_, rfl⟩
  have hXl : X.length = 3 * ((leadN c + rawN c) / 3) := by rw [hX, List.length_append, List.length_replicate, h.len]; omega
  have hlead : (encL X).take (leadN c) = List.replicate (leadN c) 65 := by rw [hX]; exact lead_digits (leadN c) hl2 _ (by rw [h.len]; omega) (by rw [h.len]; exact hm)
  have hbody : (bodyP t c).data.toList = encL X := by
    rw [body_list, ht]
    unfold textL
    rw [List.drop_append_of_le_length (Nat.le_refl _), List.drop_length, List.nil_append, ← hX, ← hlead, List.take_append_drop]
  have hdec := dec_fours (encL X) _ (encL_length _ X hXl) (by omega) (allD_encL _ X hXl)
  have hE : rawE t c = 0 := by unfold rawE; rw [hbody]; exact hdec.1
  have hR : rawP t c = strL X := by unfold rawP; rw [hbody, hdec.2, decL_encL _ X hXl]
  have hf := h.first t (sizeN c) (Nat.le_of_lt (size_four c h.c1 h.c8).2.2.2) (by rw [ht, List.take_of_length_le]; rw [textL_length c h.c1 h.c8 _ h.len]; exact Nat.le_refl _)
  rw [decQ_first, hf, if_neg (by have := h.c1; omega)]
  unfold outQ
  rw [if_neg (by omega), hE, hR, zeros_two _ hl2, strL_ext, strL_ext, strL_size, List.drop_zero]
  have e1 : X.take (leadN c) = List.replicate (leadN c) 0 := by rw [hX, List.take_append_of_le_length (by simp), List.take_of_length_le (by simp)]
  have e2 : (X.take X.length).drop (leadN c) = raw.data.toList := by rw [List.take_length, hX, List.drop_append_of_le_length (by simp), List.drop_of_length_le (by simp), List.nil_append]
  rw [e1, e2, if_neg (by simp), strL_list]

/-- What is read is a primitive, and its text is just what was read. -/
theorem once_read (t : ByteArray) (h : (decQ t).e = 0) : ∃ c : Nat, (decQ t).c = (c : Int) ∧ IsPrim c (decQ t).raw ∧ (decQ t).n = (sizeN c : Int) ∧ sizeN c ≤ t.size ∧ t.data.toList.take (sizeN c) = textL c (decQ t).raw.data.toList := by
  rw [decQ_first] at h ⊢
  by_cases hf : firstP t = 0
  · rw [if_pos hf] at h; cases h
  · rw [if_neg hf] at h ⊢
    have hc8 := firstP_le t
    obtain ⟨c, hc⟩ : ∃ c, c = firstP t := ⟨_, rfl⟩
    rw [← hc] at hf h hc8 ⊢
    have hc1 : 1 ≤ c := by omega
    unfold outQ at h ⊢
    by_cases hs : t.size < sizeN c
    · rw [if_pos hs] at h; cases h
    · rw [if_neg hs] at h ⊢
      by_cases hz : rawE t c ≠ 0 ∨ (rawP t c).extract 0 (leadN c) ≠ (⟨#[0, 0]⟩ : ByteArray).extract 0 (leadN c)
      · rw [if_pos hz] at h; cases h
      · rw [if_neg hz]
        have hE : rawE t c = 0 := Classical.not_not.1 fun e => hz (.inl e)
        have hZ : (rawP t c).extract 0 (leadN c) = (⟨#[0, 0]⟩ : ByteArray).extract 0 (leadN c) := Classical.not_not.1 fun e => hz (.inr e)
        have hl2 := lead_le c
        have hm := lead_raw c
        have hq := raw_blocks c hc1 hc8
        have hRs := rawP_size t c hc1 hc8 (by omega) hE
        obtain ⟨hb, hcl, hs836⟩ := bodyP_size t c hc1 hc8 (by omega)
        have hbl : (bodyP t c).data.toList.length = 4 * ((leadN c + rawN c) / 3) := by rw [len_is]; exact hb
        have ha : allD (bodyP t c).data.toList = true := by
          unfold rawE decFE decE at hE
          rw [hbl, if_neg (by omega), if_neg (by omega)] at hE
          by_cases ha : allD (bodyP t c).data.toList = true
          · exact ha
          · rw [if_neg ha] at hE; cases hE
        have hR : (rawP t c).data.toList = decL (bodyP t c).data.toList := by
          unfold rawP
          rw [(dec_fours _ _ hbl (by omega) ha).2]
          rfl
        have hraw : ((rawP t c).extract (leadN c) (rawP t c).size).data.toList = (rawP t c).data.toList.drop (leadN c) := by
          rw [ext_data, ← len_is, List.take_length]
        have hzl : (rawP t c).data.toList.take (leadN c) = List.replicate (leadN c) 0 := by
          have := congrArg (fun b : ByteArray => b.data.toList) hZ
          simp only [ext_data, List.drop_zero] at this
          rw [this]
          obtain e | e | e : leadN c = 0 ∨ leadN c = 1 ∨ leadN c = 2 := by omega
          all_goals (rw [e]; rfl)
        refine ⟨c, rfl, ⟨hc1, hc8, ?_⟩, rfl, by omega, ?_⟩
        · show ((rawP t c).extract (leadN c) (rawP t c).size).size = rawN c
          rw [ext_size _ _ _ (by omega) (Nat.le_refl _)]; omega
        · show _ = textL c ((rawP t c).extract (leadN c) (rawP t c).size).data.toList
          unfold textL
          rw [hraw, ← hzl, List.take_append_drop, hR, encL_decL _ _ hbl ha, body_list, List.drop_append_of_le_length (by simp), List.drop_of_length_le (by simp), List.nil_append]
          have hhit : hitP t c = true := by
            have : firstP t = c := hc.symm
            unfold firstP at this
            cases hf' : (List.range 8).find? (fun i => hitP t (i + 1)) with
            | none => rw [hf'] at this; simp at this; omega
            | some i =>
              rw [hf'] at this
              simp only at this
              rw [← this]
              exact (find_hit hf').1
          rw [hit_take, decide_eq_true_eq] at hhit
          have e := List.take_append_drop (codeL c).length (t.data.toList.take (sizeN c))
          rw [List.take_take, Nat.min_eq_left hcl, hhit] at e
          exact e.symm
/-- An error comes with the length 0 and nothing else. -/
theorem err_read (t : ByteArray) (h : (decQ t).e ≠ 0) : (decQ t).n = 0 := by
  rw [decQ_first] at h ⊢
  by_cases hf : firstP t = 0
  · rw [if_pos hf]
  · rw [if_neg hf] at h ⊢
    unfold outQ at h ⊢
    by_cases hs : t.size < sizeN (firstP t)
    · rw [if_pos hs]
    · rw [if_neg hs] at h ⊢
      by_cases hz : rawE t (firstP t) ≠ 0 ∨ (rawP t (firstP t)).extract 0 (leadN (firstP t)) ≠ (⟨#[0, 0]⟩ : ByteArray).extract 0 (leadN (firstP t))
      · rw [if_pos hz]
      · rw [if_neg hz] at h; exact absurd rfl h
/-- A text that lacks something is too short. -/
theorem IsPrim.short {c : Nat} {raw : ByteArray} (h : IsPrim c raw) (t : ByteArray) (k : Nat) (hk : (codeL c).length ≤ k) (ht : t.data.toList.take k = (textL c raw.data.toList).take k) (hs : t.size < sizeN c) : decQ t = ⟨0, ⟨#[]⟩, 0, 8⟩ := by
  rw [decQ_first, h.first t k hk ht, if_neg (by have := h.c1; omega)]
  unfold outQ
  rw [if_pos hs]

theorem IsPrim.txt_take {c : Nat} {raw : ByteArray} (h : IsPrim c raw) : (txt c raw).data.toList.take (sizeN c) = textL c raw.data.toList := by
  rw [txt_list, List.take_of_length_le]
  rw [textL_length c h.c1 h.c8 _ h.len]; exact Nat.le_refl _
theorem IsPrim.add_take {c : Nat} {raw : ByteArray} (h : IsPrim c raw) (after : ByteArray) : (txt c raw ++ after).data.toList.take (sizeN c) = textL c raw.data.toList := by
  rw [ByteArray.data_append, Array.toList_append, txt_list, List.take_append_of_le_length (by rw [textL_length c h.c1 h.c8 _ h.len]; exact Nat.le_refl _), List.take_of_length_le]
  rw [textL_length c h.c1 h.c8 _ h.len]; exact Nat.le_refl _
theorem IsPrim.txt_dec {c : Nat} {raw : ByteArray} (h : IsPrim c raw) : decQ (txt c raw) = ⟨c, raw, sizeN c, 0⟩ := h.back _ h.txt_take
theorem IsPrim.add_dec {c : Nat} {raw : ByteArray} (h : IsPrim c raw) (after : ByteArray) : decQ (txt c raw ++ after) = ⟨c, raw, sizeN c, 0⟩ := h.back _ (h.add_take after)
theorem IsPrim.cut_dec {c : Nat} {raw : ByteArray} (h : IsPrim c raw) (k : Nat) (h1 : (codeL c).length ≤ k) (h2 : k < sizeN c) : decQ ((txt c raw).extract 0 k) = ⟨0, ⟨#[]⟩, 0, 8⟩ := by
  refine h.short _ k h1 ?_ ?_
  · rw [ext_data, List.drop_zero, List.take_take, Nat.min_self, txt_list]
  · rw [ext_size _ _ _ (by omega) (by rw [h.txt_size]; omega)]; omega
theorem IsPrim.open_own {c : Nat} {raw : ByteArray} (h : IsPrim c raw) : opnE (c : Int) (txt c raw) = 0 ∧ opnS (c : Int) (txt c raw) = raw := by
  unfold opnE opnS
  rw [h.txt_dec, h.txt_size]
  simp
theorem IsPrim.open_other {c : Nat} {raw : ByteArray} (h : IsPrim c raw) (k : Int) (hk : (c : Int) ≠ k) : opnE k (txt c raw) = 7 ∧ opnS k (txt c raw) = ⟨#[]⟩ := by
  unfold opnE opnS
  rw [h.txt_dec]
  simp [hk]
theorem IsPrim.open_longer {c : Nat} {raw : ByteArray} (h : IsPrim c raw) (after : ByteArray) (ha : 1 ≤ after.size) : opnE (c : Int) (txt c raw ++ after) = 8 ∧ opnS (c : Int) (txt c raw ++ after) = ⟨#[]⟩ := by
  unfold opnE opnS
  have hs : (txt c raw ++ after).size = sizeN c + after.size := by rw [ByteArray.size_append, h.txt_size]
  have hne : ((sizeN c : Nat) : Int) ≠ (((txt c raw ++ after).size : Nat) : Int) := by rw [hs]; omega
  rw [h.add_dec]
  dsimp only
  exact ⟨by rw [if_neg (by simp), if_neg (by simp), if_pos hne], by rw [if_pos (.inr (.inr hne))]⟩
theorem IsPrim.open_shorter {c : Nat} {raw : ByteArray} (h : IsPrim c raw) (k : Nat) (h1 : (codeL c).length ≤ k) (h2 : k < sizeN c) (q : Int) : opnE q ((txt c raw).extract 0 k) = 8 ∧ opnS q ((txt c raw).extract 0 k) = ⟨#[]⟩ := by
  unfold opnE opnS
  rw [h.cut_dec k h1 h2]
  simp
theorem notPrim {c : Nat} {raw : ByteArray} (c1 : 1 ≤ c) (c8 : c ≤ 8) (h : raw.size ≠ rawN c) : primS (c : Int) raw = ⟨#[]⟩ ∧ primE (c : Int) raw = 8 := by
  constructor
  · unfold primS
    rw [if_neg fun g => h g.2]
  · unfold primE
    rw [if_pos (by omega), if_neg (show ¬ raw.size = rawN ((c : Int)).toNat from h)]

end Go.Proofs.YtpophimnoakinaaDoor
