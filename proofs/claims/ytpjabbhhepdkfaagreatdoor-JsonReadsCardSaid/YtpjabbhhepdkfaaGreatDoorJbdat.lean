/- What a word or a number is, as data: the strict reader's word is found by the parser. -/
import Derived.Test.YtpjabbhhepdkfaaGreatDoorJpar
import Derived.Test.YtpjabbhhepdkfaaGreatDoorJback
namespace Go.Proofs.YtpjabbhhepdkfaaGreatDoor
open Go.Lib
set_option linter.unusedVariables false
set_option linter.unusedSimpArgs false

def ends3 : List UInt8 := [44, 93, 125]
/-- What may follow a node. -/
def endR (t : List UInt8) : Prop := ∀ c, t.head? = some c → ends3.contains c = true
theorem upTo_app {l t : List UInt8} (hl : ∀ c, c ∈ l → ends3.contains c = false) (ht : endR t) : upTo ends3 (l ++ t) = l ∧ from' ends3 (l ++ t) = t := by
  have h : upTo ends3 t = [] ∧ from' ends3 t = t := by
    cases t with
    | nil => exact ⟨rfl, rfl⟩
    | cons c r =>
      have := ht c rfl
      unfold upTo from'
      rw [List.takeWhile_cons, List.dropWhile_cons, this]
      exact ⟨rfl, rfl⟩
  unfold upTo from' at h ⊢
  rw [List.takeWhile_append_of_pos (fun c hc => by rw [hl c hc]; rfl), List.dropWhile_append_of_pos (fun c hc => by rw [hl c hc]; rfl), h.1, h.2, List.append_nil]
  exact ⟨rfl, rfl⟩
theorem parse_digs : ∀ (ds : List UInt8) (acc k : Nat), (∀ c, c ∈ ds → isDig c = true) → acc < 10 ^ k → k + ds.length ≤ 19 → parseUint10 acc ds = .ok (ds.foldl (fun a c => a * 10 + (c.toNat - 48)) acc)
  | [], acc, k, _, _, _ => rfl
  | c :: ds, acc, k, hd, ha, hk => by
    have hc := isDig_ne (hd c (by simp))
    simp only [List.length_cons] at hk
    have h18 : acc < 10 ^ 18 := Nat.lt_of_lt_of_le ha (Nat.pow_le_pow_right (by decide) (by omega))
    have hn : acc * 10 + (c.toNat - 48) < 10 ^ (k + 1) := by rw [Nat.pow_succ]; omega
    rw [parseUint10, if_pos hc, if_neg (by omega), if_neg (by omega)]
    rw [parse_digs ds _ (k + 1) (fun x hx => hd x (by simp [hx])) hn (by omega)]
    rfl
theorem parse_dec {ds : List UInt8} (hd : ∀ c, c ∈ ds → isDig c = true) (h0 : ds ≠ []) (hl : ds.length ≤ 19) : parseMag ds = .ok (decVal ds) := by
  unfold parseMag decVal
  rw [if_neg h0, parse_digs ds 0 0 hd (by decide) (by omega)]
theorem dig_free {c : UInt8} (h : isDig c = true) : ends3.contains c = false := by
  have := isDig_ne h
  have h1 : c ≠ 44 := fun e => by subst e; revert this; decide
  have h2 : c ≠ 93 := fun e => by subst e; revert this; decide
  have h3 : c ≠ 125 := fun e => by subst e; revert this; decide
  simp [ends3, h1, h2, h3]
theorem word_no {c : UInt8} {l : List UInt8} (h : c = 45 ∨ isDig c = true) : wordZ (c :: l) = none := by
  have h1 : c ≠ 116 ∧ c ≠ 102 ∧ c ≠ 110 := by
    rcases h with rfl | h
    · decide
    · have := isDig_ne h
      refine ⟨?_, ?_, ?_⟩ <;> (intro e; subst e; revert this; decide)
  unfold wordZ
  rw [if_neg (by intro e; cases e; exact h1.1 rfl), if_neg (by intro e; cases e; exact h1.2.1 rfl), if_neg (by intro e; cases e; exact h1.2.2 rfl)]
/-- What the parser finds where the strict reader finds a word or a number. -/
def BareIs (r : List UInt8) (y : ND) (t : List UInt8) : Prop := from' ends3 r = t ∧ (wordZ (upTo ends3 r) = some y ∨ (wordZ (upTo ends3 r) = none ∧ ∃ u : Int, atoiAll (upTo ends3 r) = .ok u ∧ y = .mk 2 false u ⟨#[]⟩ [] []))
theorem takeWhile_all : ∀ (l : List UInt8), ∀ c, c ∈ l.takeWhile isDig → isDig c = true
  | [], c, h => by simp at h
  | b :: l, c, h => by
    rw [List.takeWhile_cons] at h
    cases hb : isDig b with
    | true =>
      rw [hb] at h
      rcases List.mem_cons.1 h with rfl | h
      · exact hb
      · exact takeWhile_all l c h
    | false => rw [hb] at h; simp at h
theorem digs_bare {neg : Bool} {q t : List UInt8} {y : ND} (h : digsP neg q = some (y, t)) (ht : endR t) : BareIs (if neg then 45 :: q else q) y t := by
  unfold digsP at h
  split at h
  · cases h
  · rename_i h1
    split at h
    · cases h
    · rename_i h2
      cases h
      obtain ⟨ds, hds⟩ : ∃ ds, ds = q.takeWhile isDig := ⟨_, rfl⟩
      obtain ⟨tt, htt⟩ : ∃ tt, tt = q.dropWhile isDig := ⟨_, rfl⟩
      have hq : q = ds ++ tt := by rw [hds, htt, List.takeWhile_append_dropWhile]
      rw [← hds] at h1 h2 ⊢
      rw [← htt] at ht ⊢
      have hall : ∀ c, c ∈ ds → isDig c = true := by rw [hds]; exact takeWhile_all q
      have h0 : ds ≠ [] := fun e => h1 (.inl (by rw [e]; rfl))
      have hl : ds.length ≤ 19 := by omega
      have hpm := parse_dec hall h0 hl
      obtain ⟨c, ds', hcd⟩ : ∃ c ds', ds = c :: ds' := by
        cases ds with
        | nil => exact absurd rfl h0
        | cons c ds' => exact ⟨c, ds', rfl⟩
      have hcdig := hall c (by rw [hcd]; simp)
      cases neg with
      | true =>
        have e : (if true = true then 45 :: q else q) = (45 :: ds) ++ tt := by rw [if_pos rfl, hq]; rfl
        rw [e]
        obtain ⟨u1, u2⟩ := upTo_app (l := 45 :: ds) (t := tt) (fun c hc => by
          rcases List.mem_cons.1 hc with rfl | hc
          · rfl
          · exact dig_free (hall c hc)) ht
        refine ⟨u2, .inr ⟨by rw [u1]; exact word_no (.inl rfl), -(decVal ds : Int), ?_, by rw [if_pos rfl]⟩⟩
        rw [u1, atoiAll_minus, hpm]
        unfold signed
        simp only
        rw [if_neg (by omega)]
      | false =>
        have e : (if false = true then 45 :: q else q) = ds ++ tt := by rw [if_neg (by decide), hq]
        rw [e]
        obtain ⟨u1, u2⟩ := upTo_app (l := ds) (t := tt) (fun c hc => dig_free (hall c hc)) ht
        have hcn := isDig_ne hcdig
        refine ⟨u2, .inr ⟨by rw [u1, hcd]; exact word_no (.inr hcdig), (decVal ds : Int), ?_, by rw [if_neg (by decide)]⟩⟩
        rw [u1, hcd, atoiAll_plain c ds' (by omega) (by omega), ← hcd, hpm]
        unfold signless
        simp only
        have h3 : ¬ 9223372036854775807 < decVal ds := fun h => h2 (.inl ⟨rfl, h⟩)
        rw [if_neg (by omega)]
theorem bare_val {d : Nat} {c : UInt8} {r : List UInt8} {y : ND} {t : List UInt8} (h : valueP (d + 1) (c :: r) = some (y, t)) (h1 : c ≠ 34) (h2 : c ≠ 91) (h3 : c ≠ 123) (ht : endR t) : BareIs (c :: r) y t := by
  rw [valueP_cons, if_neg h1, if_neg h2, if_neg h3] at h
  split at h
  · rename_i hp
    have hr := prefix_split (r := c :: r) (p := nullB) hp
    cases h
    obtain ⟨u1, u2⟩ := upTo_app (l := nullB) (t := (c :: r).drop 4) (by decide) ht
    rw [show (c :: r).drop nullB.length = (c :: r).drop 4 from rfl] at hr
    rw [← hr] at u1 u2
    exact ⟨u2, .inl (by rw [u1]; rfl)⟩
  · split at h
    · rename_i hp
      have hr := prefix_split (r := c :: r) (p := trueB) hp
      cases h
      obtain ⟨u1, u2⟩ := upTo_app (l := trueB) (t := (c :: r).drop 4) (by decide) ht
      rw [show (c :: r).drop trueB.length = (c :: r).drop 4 from rfl] at hr
      rw [← hr] at u1 u2
      exact ⟨u2, .inl (by rw [u1]; rfl)⟩
    · split at h
      · rename_i hp
        have hr := prefix_split (r := c :: r) (p := falseB) hp
        cases h
        obtain ⟨u1, u2⟩ := upTo_app (l := falseB) (t := (c :: r).drop 5) (by decide) ht
        rw [show (c :: r).drop falseB.length = (c :: r).drop 5 from rfl] at hr
        rw [← hr] at u1 u2
        exact ⟨u2, .inl (by rw [u1]; rfl)⟩
      · unfold numberP at h
        split at h
        · rename_i hc
          have hc : c = 45 := by simpa using hc
          subst hc
          exact digs_bare (neg := true) h ht
        · exact digs_bare (neg := false) h ht
end Go.Proofs.YtpjabbhhepdkfaaGreatDoor
