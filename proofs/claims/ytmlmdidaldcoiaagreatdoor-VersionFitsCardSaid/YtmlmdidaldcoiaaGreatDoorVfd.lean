/- Fit as data: the map with the text of its version in front. No program. -/
import Derived.Test.YtmlmdidaldcoiaaGreatDoorMff
namespace Go.Proofs.YtmlmdidaldcoiaaGreatDoor
open Go
set_option linter.unusedVariables false
set_option linter.unusedSimpArgs false

def sV : ByteArray := ⟨#[118]⟩
def tN (t : ByteArray) : ND := .mk 3 false 0 t [] []
/-- The items that are not v. -/
def keepL (ns : List ByteArray) (its : List ND) : List (ByteArray × ND) := (ns.zip its).filter fun q => decide (q.1 ≠ sV)
def withV (n : ND) (t : ByteArray) : ND := .mk 5 false 0 ⟨#[]⟩ (sV :: (keepL n.names n.items).map (·.1)) (tN t :: (keepL n.names n.items).map (·.2))
def fitT (p : ByteArray) (k z : Int) : ByteArray := vtS ⟨p, 1, 0, k, z⟩
def vfZ (n : ND) (p : ByteArray) (k : Int) : Int := ((foS k (withV n (fitT p k 0))).size : Nat)
def fitN (n : ND) (p : ByteArray) (k : Int) : ND := withV n (fitT p k (vfZ n p k))
def fitE (n : ND) (p : ByteArray) (k : Int) : Int := if validV ⟨p, 1, 0, k, 0⟩ then (if n.kind = 5 ∧ validN 8 n = true then foE k (withV n (fitT p k 0)) else 1) else 2
def fitX (n : ND) (p : ByteArray) (k : Int) : ND := if fitE n p k = 0 then fitN n p k else nd0
def fitS (n : ND) (p : ByteArray) (k : Int) : ByteArray := if fitE n p k = 0 then foS k (fitN n p k) else ⟨#[]⟩
theorem keep_length (ns : List ByteArray) (its : List ND) : (keepL ns its).length ≤ its.length := by
 have h1 : (keepL ns its).length ≤ (ns.zip its).length := List.length_filter_le _ _
 rw [List.length_zip] at h1
 omega
theorem keep_mem {ns : List ByteArray} {its : List ND} {q : ByteArray × ND} (h : q ∈ keepL ns its) : q.1 ∈ ns ∧ q.2 ∈ its ∧ q.1 ≠ sV := by
 obtain ⟨h1, h2⟩ := List.mem_filter.1 h
 have := List.of_mem_zip h1
 exact ⟨this.1, this.2, of_decide_eq_true h2⟩
theorem zip_fst_sub {α β : Type} : ∀ (l : List α) (m : List β), ((l.zip m).map (·.1)).Sublist l
 | [], _ => by simp
 | a :: l, [] => by simp
 | a :: l, b :: m => by simpa using zip_fst_sub l m
theorem keep_nodup {ns : List ByteArray} {its : List ND} (h : ns.Nodup) : ((keepL ns its).map (·.1)).Nodup := by
 have hs : ((keepL ns its).map (·.1)).Sublist ((ns.zip its).map (·.1)) := (List.filter_sublist).map _
 exact hs.nodup ((zip_fst_sub ns its).nodup h)
theorem keep_fst (n : ND) (t : ByteArray) : (withV n t).names.length = (keepL n.names n.items).length + 1 ∧ (withV n t).items.length = (keepL n.names n.items).length + 1 := by
 unfold withV ND.names ND.items
 simp
/-- Names and items of a map with a version in front. -/
theorem withV_ok {d : Nat} {n : ND} {t : ByteArray} (h : MapOk d n) (hd : 1 ≤ d) (ht : textOk t = true) (hl : (keepL n.names n.items).length + 1 ≤ 256) : MapOk d (withV n t) := by
 refine ⟨rfl, rfl, rfl, rfl, ?_, ?_, ?_, ?_, ?_⟩
 ·rw [(keep_fst n t).1, (keep_fst n t).2]
 ·rw [(keep_fst n t).2]; exact hl
 ·intro s hs
  rcases List.mem_cons.1 hs with rfl | hs
  ·decide
  ·obtain ⟨q, hq, rfl⟩ := List.mem_map.1 hs
   exact h.texts _ (keep_mem hq).1
 ·refine List.nodup_cons.2 ⟨fun hm => ?_, keep_nodup h.nodup⟩
  obtain ⟨q, hq, e⟩ := List.mem_map.1 hm
  exact (keep_mem hq).2.2 e
 ·intro y hy
  rcases List.mem_cons.1 hy with rfl | hy
  ·obtain ⟨m, rfl⟩ : ∃ m, d = m + 1 := ⟨d - 1, by omega⟩
   rw [validN_succ]
   show (flatOk (tN t) && true) = true
   rw [Bool.and_true]
   unfold flatOk tN
   simp [ND.kind, ND.bool, ND.num, ND.text, ND.names, ND.items, ht]
  ·obtain ⟨q, hq, rfl⟩ := List.mem_map.1 hy
   exact h.items _ (keep_mem hq).2.1
theorem withV_len {n : ND} {t : ByteArray} (h : validN 8 (withV n t) = true) : (keepL n.names n.items).length + 1 ≤ 256 := by
 have := ((mapOk_iff (d := 7) rfl).1 h).most
 rwa [(keep_fst n t).2] at this
/-- The text of a version in a node. -/
theorem vt_ok {v : VD} (h : validV v = true) : (vtS v).data.toList = textV v ∧ (vtS v).size = 17 ∧ ∀ c, c ∈ textV v → 48 ≤ c.toNat ∧ c.toNat ≤ 122 ∧ c.toNat ≠ 92 := by
 have e : vtS v = ⟨(textV v).toArray⟩ := by unfold vtS; rw [if_pos h]
 refine ⟨by rw [e], by rw [e]; show (textV v).toArray.size = 17; rw [List.size_toArray]; exact textV_length h, fun c hc => ?_⟩
 obtain ⟨h1, h2, h3, h4, h5⟩ := validV_parts h
 have hx : ∀ k n c, c ∈ vhL k n → 48 ≤ c.toNat ∧ c.toNat ≤ 102 ∧ c.toNat ≠ 92 := by
  intro k
  induction k with
  | zero => intro n c hc; cases hc
  | succ k ih =>
   intro n c hc
   rw [vhL] at hc
   rcases List.mem_append.1 hc with hc | hc
   ·exact ih _ _ hc
   ·cases List.mem_singleton.1 hc
    have : ∀ n : Fin 16, 48 ≤ (vhC n.1).toNat ∧ (vhC n.1).toNat ≤ 102 ∧ (vhC n.1).toNat ≠ 92 := by decide
    exact this ⟨n % 16, Nat.mod_lt _ (by decide)⟩
 unfold textV at hc
 simp only [List.mem_append] at hc
 rcases hc with hc | hc | hc | hc | hc | hc
 ·unfold validV capL at h
  simp only [Bool.and_eq_true, List.all_eq_true, decide_eq_true_eq] at h
  have := h.1.1.1.1.2 c hc
  omega
 ·have := hx _ _ _ hc; omega
 ·have := hx _ _ _ hc; omega
 ·rcases h2 with h2 | h2 | h2 <;> rw [h2] at hc <;> revert c <;> decide
 ·have := hx _ _ _ hc; omega
 ·cases List.mem_singleton.1 hc; decide
theorem vt_textOk {v : VD} (h : validV v = true) : textOk (vtS v) = true := by
 obtain ⟨h1, h2, h3⟩ := vt_ok h
 unfold textOk
 rw [h2, h1, Lib.validD_ascii (textV v).length (textV v) (fun c hc => by have := h3 c (List.mem_of_mem_take hc); omega), List.drop_length]
 rfl

/-- How long the bytes are does not depend on the version. -/
theorem quote_plain {l : List UInt8} (h : ∀ c, c ∈ l → 48 ≤ c.toNat ∧ c.toNat ≤ 122 ∧ c.toNat ≠ 92) : quoteL l = 34 :: (l ++ [34]) := by
 have e : l.flatMap jEsc = l := by
  induction l with
  | nil => rfl
  | cons c t ih =>
   rw [List.flatMap_cons, ih fun c hc => h c (by simp [hc])]
   have hj : jEsc c = [c] := by
    have : ∀ k : Fin 256, 48 ≤ k.1 → k.1 ≤ 122 → k.1 ≠ 92 → jEsc (UInt8.ofNat k.1) = [UInt8.ofNat k.1] := by decide +kernel
    have hc := h c (by simp)
    have := this ⟨c.toNat, c.toNat_lt⟩ hc.1 hc.2.1 hc.2.2
    rwa [show UInt8.ofNat c.toNat = c from UInt8.ofNat_toNat] at this
   rw [hj]; rfl
 unfold quoteL
 rw [e]
theorem sepL_pre (a : List UInt8) (l : List (List UInt8)) : ∃ r, ∀ a : List UInt8, sepL (a :: l) = a ++ r := by
 cases l with
 | nil => exact ⟨[], fun a => (List.append_nil a).symm⟩
 | cons b t => exact ⟨44 :: sepL (b :: t), fun a => rfl⟩
/-- The bytes: what stands ahead of the version's text, and behind it. -/
theorem withV_json (n : ND) : ∃ r, ∀ v, validV v = true → writeN 8 (withV n (vtS v)) = [123, 34, 118, 34, 58, 34] ++ (textV v ++ r) := by
 obtain ⟨r, hr⟩ := sepL_pre [] (List.zipWith (fun s y => quoteL s.data.toList ++ 58 :: writeN 7 y) ((keepL n.names n.items).map (·.1)) ((keepL n.names n.items).map (·.2)))
 refine ⟨34 :: (r ++ [125]), fun v hv => ?_⟩
 obtain ⟨h1, h2, h3⟩ := vt_ok hv
 have e : writeN 8 (withV n (vtS v)) = 123 :: (sepL ((quoteL sV.data.toList ++ 58 :: writeN 7 (tN (vtS v))) :: List.zipWith (fun s y => quoteL s.data.toList ++ 58 :: writeN 7 y) ((keepL n.names n.items).map (·.1)) ((keepL n.names n.items).map (·.2))) ++ [125]) := rfl
 have e2 : writeN 7 (tN (vtS v)) = quoteL (vtS v).data.toList := rfl
 rw [e, hr, e2, h1, quote_plain h3, show quoteL sV.data.toList = [34, 118, 34] from rfl]
 simp
theorem withV_cbor (n : ND) (hl : (keepL n.names n.items).length + 1 ≤ 256) : ∃ h r, ((keepL n.names n.items).length + 1 < 16 → ∀ c, c ∈ h → c.toNat < 65 ∨ 90 < c.toNat) ∧ h.length ≤ 6 ∧ ∀ v, validV v = true → writeC 8 (withV n (vtS v)) = h ++ (textV v ++ r) := by
 refine ⟨headL 5 ((keepL n.names n.items).length + 1) ++ [97, 118, 113], (List.zipWith (fun s y => cText s ++ writeC 7 y) ((keepL n.names n.items).map (·.1)) ((keepL n.names n.items).map (·.2))).flatten, ?_, ?_, fun v hv => ?_⟩
 ·intro h c hc
  have e : headL 5 ((keepL n.names n.items).length + 1) = [UInt8.ofNat (32 * 5 + ((keepL n.names n.items).length + 1))] := by
   unfold headL headV headK
   rw [if_pos (by omega), if_pos (by omega)]; rfl
  rw [e] at hc
  rcases List.mem_append.1 hc with hc | hc
  ·cases List.mem_singleton.1 hc
   rw [UInt8.toNat_ofNat', Nat.mod_eq_of_lt (by omega)]
   exact .inr (by omega)
  ·have : ∀ c, c ∈ ([97, 118, 113] : List UInt8) → 90 < c.toNat := by decide
   exact .inr (this c hc)
 ·rw [List.length_append, headL_length]
  have : headK ((keepL n.names n.items).length + 1) ≤ 2 := by unfold headK; (repeat' split) <;> omega
  show _ + 1 + 3 ≤ 6
  omega
 ·obtain ⟨h1, h2, h3⟩ := vt_ok hv
  have e : writeC 8 (withV n (vtS v)) = headL 5 (withV n (vtS v)).items.length ++ (((cText sV ++ writeC 7 (tN (vtS v))) :: List.zipWith (fun s y => cText s ++ writeC 7 y) ((keepL n.names n.items).map (·.1)) ((keepL n.names n.items).map (·.2))).flatten) := rfl
  have e2 : writeC 7 (tN (vtS v)) = headL 3 (vtS v).size ++ (vtS v).data.toList := rfl
  rw [e, (keep_fst n (vtS v)).2, List.flatten_cons, e2, h1, h2, show cText sV = [97, 118] from rfl, show headL 3 17 = [113] from rfl]
  simp
theorem withV_pack (n : ND) (hl : (keepL n.names n.items).length + 1 ≤ 256) : ∃ h r, ((keepL n.names n.items).length + 1 < 16 → ∀ c, c ∈ h → c.toNat < 65 ∨ 90 < c.toNat) ∧ h.length ≤ 6 ∧ ∀ v, validV v = true → writeP 8 (withV n (vtS v)) = h ++ (textV v ++ r) := by
 refine ⟨headP (mapH ((keepL n.names n.items).length + 1)) ((keepL n.names n.items).length + 1) ++ [161, 118, 177], (List.zipWith (fun s y => pText s ++ writeP 7 y) ((keepL n.names n.items).map (·.1)) ((keepL n.names n.items).map (·.2))).flatten, ?_, ?_, fun v hv => ?_⟩
 ·intro h c hc
  have e : headP (mapH ((keepL n.names n.items).length + 1)) ((keepL n.names n.items).length + 1) = [UInt8.ofNat (128 + ((keepL n.names n.items).length + 1))] := by
   unfold headP mapH
   rw [if_pos h]; rfl
  rw [e] at hc
  rcases List.mem_append.1 hc with hc | hc
  ·cases List.mem_singleton.1 hc
   rw [UInt8.toNat_ofNat', Nat.mod_eq_of_lt (by omega)]
   exact .inr (by omega)
  ·have : ∀ c, c ∈ ([161, 118, 177] : List UInt8) → 90 < c.toNat := by decide
   exact .inr (this c hc)
 ·unfold headP
  rw [List.length_append, List.length_cons, bigL_length]
  have : (mapH ((keepL n.names n.items).length + 1)).2 ≤ 2 := by unfold mapH; split <;> first | exact Nat.zero_le _ | decide
  show _ + 1 + 3 ≤ 6
  omega
 ·obtain ⟨h1, h2, h3⟩ := vt_ok hv
  have e : writeP 8 (withV n (vtS v)) = headP (mapH (withV n (vtS v)).items.length) (withV n (vtS v)).items.length ++ (((pText sV ++ writeP 7 (tN (vtS v))) :: List.zipWith (fun s y => pText s ++ writeP 7 y) ((keepL n.names n.items).map (·.1)) ((keepL n.names n.items).map (·.2))).flatten) := rfl
  have e2 : writeP 7 (tN (vtS v)) = headP (txtH (vtS v).size) (vtS v).size ++ (vtS v).data.toList := rfl
  rw [e, (keep_fst n (vtS v)).2, List.flatten_cons, e2, h1, h2, show pText sV = [161, 118] from rfl, show headP (txtH 17) 17 = [177] from rfl]
  simp
/-- In each serialisation. -/
theorem withV_fo (n : ND) (hl : (keepL n.names n.items).length + 1 ≤ 256) {k : Int} (h1 : 1 ≤ k) (h3 : k ≤ 3) : ∃ h r, ((keepL n.names n.items).length + 1 < 16 → ∀ c, c ∈ h → c.toNat < 65 ∨ 90 < c.toNat) ∧ h.length ≤ 6 ∧ ∀ v, validV v = true → KitF (withV n (vtS v)) → (foS k (withV n (vtS v))).data.toList = h ++ (textV v ++ r) := by
 rcases (by omega : k = 1 ∨ k = 2 ∨ k = 3) with rfl | rfl | rfl
 ·obtain ⟨r, hr⟩ := withV_json n
  refine ⟨[123, 34, 118, 34, 58, 34], r, fun _ => by decide, by decide, fun v hv K => ?_⟩
  show (jsS _).data.toList = _
  rw [K.j.txt, bA_data, hr v hv]
 ·obtain ⟨h, r, a, b, hr⟩ := withV_cbor n hl
  refine ⟨h, r, a, b, fun v hv K => ?_⟩
  show (csS _).data.toList = _
  rw [K.c.txt, bC_data, hr v hv]
 ·obtain ⟨h, r, a, b, hr⟩ := withV_pack n hl
  refine ⟨h, r, a, b, fun v hv K => ?_⟩
  show (mpS _).data.toList = _
  rw [K.m.txt, bC_data, hr v hv]
/-- The kit's nodes with a version in front. -/
theorem sum_filter {α : Type} (p : α → Bool) (f : α → Nat) : ∀ l : List α, ((l.filter p).map f).sum ≤ (l.map f).sum
 | [] => Nat.le_refl _
 | a :: t => by
  have := sum_filter p f t
  rw [List.filter_cons]
  split
  ·rw [List.map_cons, List.sum_cons, List.map_cons, List.sum_cons]; omega
  ·rw [List.map_cons, List.sum_cons]; omega
/-- What is asked of a map that is fitted. -/
def FitOk (n : ND) : Prop := ∃ m, 1 ≤ m ∧ m ≤ 3 ∧ validW (m + 1) n = true ∧ costN (m + 1) n ≤ 65000
theorem withV_w {n : ND} {v : VD} {m : Nat} (h1m : 1 ≤ m) (hw : validW (m + 1) n = true) (h5 : n.kind = 5) (hv : validV v = true) (hl : (keepL n.names n.items).length + 1 ≤ 256) : validW (m + 1) (withV n (vtS v)) = true ∧ costN (m + 1) (withV n (vtS v)) ≤ costN (m + 1) n + 141 := by
 have hm : MapOk m n := (mapOk_iff h5).1 (validW_valid hw)
 obtain ⟨h1, h2, h3⟩ := vt_ok hv
 have hm2 := withV_ok hm h1m (vt_textOk hv) hl
 obtain ⟨q, rfl⟩ : ∃ q, m = q + 1 := ⟨m - 1, by omega⟩
 constructor
 ·refine validW_mk ((mapOk_iff rfl).2 hm2) (show wideI 0 = true by decide) fun y hy => ?_
  rcases List.mem_cons.1 hy with rfl | hy
  ·unfold validW
   rw [hm2.items _ hy, Bool.true_and, numsB_succ]
   rfl
  ·obtain ⟨q', hq, rfl⟩ := List.mem_map.1 hy
   unfold validW
   rw [hm2.items _ (List.mem_cons_of_mem _ hy)]
   have := validW_nums hw
   rw [numsB_succ, Bool.and_eq_true, List.all_eq_true] at this
   rw [this.2 _ (keep_mem hq).2.1]; rfl
 ·have e : costN (q + 2) (withV n (vtS v)) = 24 + 0 + ((6 * 1 + 8) + (((keepL n.names n.items).map (·.1)).map fun s => 6 * s.size + 8).sum) + ((costN (q + 1) (tN (vtS v)) + 1) + (((keepL n.names n.items).map (·.2)).map fun y => costN (q + 1) y + 1).sum) := rfl
  have e2 : costN (q + 1) (tN (vtS v)) = 24 + 6 * (vtS v).size + 0 + 0 := rfl
  have e3 : costN (q + 2) n = _ := costN_succ (q + 1) n
  have s1 := sum_filter (fun q : ByteArray × ND => decide (q.1 ≠ sV)) (fun q => 6 * q.1.size + 8) (n.names.zip n.items)
  have s2 := sum_filter (fun q : ByteArray × ND => decide (q.1 ≠ sV)) (fun z => costN (q + 1) z.2 + 1) (n.names.zip n.items)
  have z1 : (n.names.zip n.items).map (fun q => 6 * q.1.size + 8) = n.names.map fun s => 6 * s.size + 8 := by
   rw [show (fun q : ByteArray × ND => 6 * q.1.size + 8) = (fun s : ByteArray => 6 * s.size + 8) ∘ Prod.fst from rfl, ← List.map_map, List.map_fst_zip (by rw [hm.len]; exact Nat.le_refl _)]
  have z2 : (n.names.zip n.items).map (fun z => costN (q + 1) z.2 + 1) = n.items.map fun y => costN (q + 1) y + 1 := by
   rw [show (fun z : ByteArray × ND => costN (q + 1) z.2 + 1) = (fun y : ND => costN (q + 1) y + 1) ∘ Prod.snd from rfl, ← List.map_map, List.map_snd_zip (by rw [hm.len]; exact Nat.le_refl _)]
  rw [z1] at s1
  rw [z2] at s2
  rw [List.map_map, List.map_map] at e
  have s1' : ((keepL n.names n.items).map ((fun s : ByteArray => 6 * s.size + 8) ∘ fun q => q.1)).sum ≤ (n.names.map fun s => 6 * s.size + 8).sum := s1
  have s2' : ((keepL n.names n.items).map ((fun y : ND => costN (q + 1) y + 1) ∘ fun q => q.2)).sum ≤ (n.items.map fun y => costN (q + 1) y + 1).sum := s2
  show costN (q + 2) (withV n (vtS v)) ≤ costN (q + 2) n + 141
  omega
theorem withV_kit {n : ND} {v : VD} (h : FitOk n) (h5 : n.kind = 5) (hv : validV v = true) (hl : (keepL n.names n.items).length + 1 ≤ 256) : KitF (withV n (vtS v)) := by
 obtain ⟨m, h1, h3, hw, hc⟩ := h
 obtain ⟨e1, e2⟩ := withV_w h1 hw h5 hv hl
 exact KitF.ofc (d := m + 1) (by omega) e1 (by omega)
/-- A fit: what is known of the draft holds of the map itself. -/
theorem fit_valid {n : ND} {p : ByteArray} {k : Int} (hv : validV ⟨p, 1, 0, k, 0⟩ = true) {z : Int} (h0 : 0 ≤ z) (h1 : z ≤ 65536) : validV ⟨p, 1, 0, k, z⟩ = true := by
 unfold validV at hv ⊢
 simp only [Bool.and_eq_true] at hv ⊢
 refine ⟨hv.1, ?_⟩
 unfold inR
 rw [decide_eq_true h0, decide_eq_true (by omega : z ≤ 16777215)]; rfl
theorem fo_size (k : Int) (x : ND) : (foS k x).size ≤ 65536 := by
 unfold foS
 (repeat' split)
 ·exact jse_size x
 ·exact cse_size x
 ·exact mpse_size x
 ·exact Nat.zero_le _
theorem fo_bad {k : Int} {x : ND} (h1 : 1 ≤ k) (h3 : k ≤ 3) (h : validN 8 x = false) : foE k x = 1 := by
 rcases (by omega : k = 1 ∨ k = 2 ∨ k = 3) with rfl | rfl | rfl
 ·exact (jse_bad h).2
 ·exact (cse_bad h).2
 ·exact (mpse_bad h).2
/-- The cases of Fit. -/
theorem fit_cases (n : ND) (p : ByteArray) (k : Int) (h : validN 8 n = true → n.kind = 5 → FitOk n) :
  (validV ⟨p, 1, 0, k, 0⟩ = false ∧ fitE n p k = 2) ∨ (validV ⟨p, 1, 0, k, 0⟩ = true ∧ ¬ (n.kind = 5 ∧ validN 8 n = true) ∧ fitE n p k = 1) ∨ (validV ⟨p, 1, 0, k, 0⟩ = true ∧ n.kind = 5 ∧ validN 8 n = true ∧ validN 8 (withV n (fitT p k 0)) = false ∧ foE k (withV n (fitT p k 0)) = 1 ∧ fitE n p k = 1)
  ∨ (validV ⟨p, 1, 0, k, 0⟩ = true ∧ n.kind = 5 ∧ validN 8 n = true ∧ (1 ≤ k ∧ k ≤ 3) ∧ KitF (withV n (fitT p k 0)) ∧ validV ⟨p, 1, 0, k, vfZ n p k⟩ = true ∧ KitF (fitN n p k) ∧ (foS k (fitN n p k)).size = (foS k (withV n (fitT p k 0))).size ∧ fitE n p k = 0) := by
 cases hv : validV ⟨p, 1, 0, k, 0⟩ with
 | false => exact .inl ⟨rfl, by unfold fitE; rw [hv]; rfl⟩
 | true =>
  refine .inr ?_
  have hk : 1 ≤ k ∧ k ≤ 3 := by
   have := (validV_parts hv).2.1
   simp only at this
   omega
  by_cases hn : n.kind = 5 ∧ validN 8 n = true
  ·refine .inr ?_
   have hE : fitE n p k = foE k (withV n (fitT p k 0)) := by unfold fitE; rw [hv, if_pos rfl, if_pos hn]
   cases hd : validN 8 (withV n (fitT p k 0)) with
   | false =>
    have := fo_bad hk.1 hk.2 hd
    exact .inl ⟨rfl, hn.1, hn.2, rfl, this, hE.trans this⟩
   | true =>
    have hl := withV_len hd
    have FO := h hn.2 hn.1
    have K0 := withV_kit (v := ⟨p, 1, 0, k, 0⟩) FO hn.1 hv hl
    have hz : validV ⟨p, 1, 0, k, vfZ n p k⟩ = true := fit_valid (n := n) hv (by unfold vfZ; omega) (by have := fo_size k (withV n (fitT p k 0)); unfold vfZ; omega)
    have K1 := withV_kit (v := ⟨p, 1, 0, k, vfZ n p k⟩) FO hn.1 hz hl
    obtain ⟨a, r, -, -, hf⟩ := withV_fo n hl hk.1 hk.2
    have e0 := congrArg List.length (hf _ hv K0)
    have e1 := congrArg List.length (hf _ hz K1)
    rw [List.length_append, List.length_append, textV_length hv, Array.length_toList] at e0
    rw [List.length_append, List.length_append, textV_length hz, Array.length_toList] at e1
    exact .inr ⟨rfl, hn.1, hn.2, hk, K0, hz, K1, e1.trans e0.symm, hE.trans (K0.err hk.1 hk.2)⟩
  ·exact .inl ⟨rfl, hn, by unfold fitE; rw [hv, if_pos rfl, if_neg hn]⟩
end Go.Proofs.YtmlmdidaldcoiaaGreatDoor
