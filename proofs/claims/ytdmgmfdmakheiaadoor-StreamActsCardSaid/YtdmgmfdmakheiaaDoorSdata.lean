/- Groups as plain data: what Encode writes, Decode reads, and the other way round; Decode as data; marks with another count. -/
import Derived.Test.YtdmgmfdmakheiaaDoorSread
import Derived.Test.YtdmgmfdmakheiaaDoorPmath
namespace Go.Proofs.YtdmgmfdmakheiaaDoor
open Go Go.RowKit
set_option linter.unusedVariables false
set_option linter.unusedSimpArgs false

theorem strL_join (a b : List UInt8) : strL a ++ strL b = strL (a ++ b) := by
  apply ByteArray.ext
  apply Array.toList_inj.1
  rw [ByteArray.data_append, Array.toList_append]
  rfl
theorem strL_data (l : List UInt8) : (strL l).data.toList = l := rfl
/-- A primitive that can be written. -/
def OkP (x : Prim) : Prop := ∃ c : Nat, x.1 = (c : Int) ∧ IsPrim c x.2
theorem okP_of {x : Prim} (h : primE x.1 x.2 = 0) : OkP x := by
  unfold primE at h
  by_cases h1 : 1 ≤ x.1 ∧ x.1 ≤ 8
  · rw [if_pos h1] at h
    by_cases h2 : x.2.size = rawN x.1.toNat
    · exact ⟨x.1.toNat, by omega, ⟨by omega, by omega, h2⟩⟩
    · rw [if_neg h2] at h; cases h
  · rw [if_neg h1] at h; cases h
theorem items_ok : ∀ {L : List Prim}, itemsE L = 0 → ∀ x, x ∈ L → OkP x
  | [], _, x, hx => by cases hx
  | y :: t, h, x, hx => by
    rw [itemsE] at h
    by_cases h1 : primE y.1 y.2 = 0
    · rw [if_pos h1] at h
      rcases List.mem_cons.1 hx with e | hx
      · rw [e]; exact okP_of h1
      · exact items_ok h x hx
    · rw [if_neg h1] at h; exact absurd h h1
theorem items_cons (x : Prim) (t : List Prim) : itemsL (x :: t) = (primS x.1 x.2).data.toList ++ itemsL t := by simp [itemsL]
theorem grps_cons (g : Grp) (t : List Grp) : grpsL (g :: t) = grpL g ++ grpsL t := by simp [grpsL]
theorem grps_append (a b : List Grp) : grpsL (a ++ b) = grpsL a ++ grpsL b := by simp [grpsL]
theorem cnt_append (a b : List Grp) : cntG (a ++ b) = cntG a + cntG b := by simp [cntG]
theorem cnt_cons (g : Grp) (t : List Grp) : cntG (g :: t) = g.2.length + cntG t := by simp [cntG]
theorem rest_of (l m : List UInt8) (t : ByteArray) (h : t = strL (l ++ m)) : t.extract l.length t.size = strL m := by
  subst h
  rw [strL_ext, strL_size, List.take_length, List.drop_left]
/-- What is written of primitives is read under their codes. -/
theorem read_items : ∀ (L : List Prim) (rest : List UInt8), (∀ x, x ∈ L → OkP x) → gE (L.map (·.1)) (strL (itemsL L ++ rest)) = 0 ∧ gL (L.map (·.1)) (strL (itemsL L ++ rest)) = L ∧ gR (L.map (·.1)) (strL (itemsL L ++ rest)) = strL rest
  | [], rest, _ => ⟨rfl, rfl, rfl⟩
  | x :: t, rest, h => by
    obtain ⟨c, hc, hp⟩ := h x (by simp)
    obtain ⟨i1, i2, i3⟩ := read_items t rest fun y hy => h y (by simp [hy])
    have hs : (primS x.1 x.2).data.toList = textL c x.2.data.toList := by rw [hc, hp.primS]; rfl
    have hl := textL_length c hp.c1 hp.c8 _ hp.len
    obtain ⟨tt, htt⟩ : ∃ tt, tt = strL (textL c x.2.data.toList ++ (itemsL t ++ rest)) := ⟨_, rfl⟩
    have hd : decQ tt = ⟨c, x.2, sizeN c, 0⟩ := hp.back tt (by
      rw [htt, strL_data, List.take_append_of_le_length (by omega), List.take_of_length_le (by omega)])
    have hr : restQ tt = strL (itemsL t ++ rest) := by
      unfold restQ
      rw [hd]
      show tt.extract (sizeN c) tt.size = _
      rw [← hl]
      exact rest_of _ _ tt htt
    rw [items_cons, hs, List.append_assoc, ← htt, List.map_cons]
    refine ⟨?_, ?_, ?_⟩
    · rw [gE, hd, hr, if_neg (by simp), if_neg (by rw [hc]; simp)]; exact i1
    · rw [gL, hd, hr, i2, ← hc]
    · rw [gR, hr]; exact i3
theorem codesN_length (k : Int) (n : Nat) : (codesN k n).length = n * (permL k).length := by
  induction n with
  | zero => simp [codesN]
  | succ n ih => rw [codes_cons, List.length_append, ih, Nat.succ_mul, Nat.add_comm]
theorem codesN_get (k : Int) : ∀ (n i : Nat), i < n * (permL k).length → (codesN k n)[i]? = some ((permL k).getD (i % (permL k).length) 0)
  | 0, i, h => by omega
  | n + 1, i, h => by
    rw [codes_cons]
    rw [Nat.succ_mul] at h
    by_cases hi : i < (permL k).length
    · rw [List.getElem?_append_left hi, Nat.mod_eq_of_lt hi, List.getD, List.getElem?_eq_getElem hi]; rfl
    · rw [List.getElem?_append_right (by omega), codesN_get k n (i - (permL k).length) (by omega)]
      congr 2
      conv => rhs; rw [show i = (i - (permL k).length) + (permL k).length by omega]
      rw [Nat.add_mod_right]
theorem foll_parts {k : Int} {L : List Prim} (h : follL k L = true) : (permL k).length ≠ 0 ∧ L.length % (permL k).length = 0 ∧ ∀ i, i < L.length → (L.getD i (0, ⟨#[]⟩)).1 = (permL k).getD (i % (permL k).length) 0 := by
  unfold follL at h
  simp only [Bool.and_eq_true, decide_eq_true_eq, List.all_eq_true] at h
  exact ⟨fun e => h.1.1 (List.length_eq_zero_iff.1 e), h.1.2, fun i hi => h.2 i (List.mem_range.2 hi)⟩
theorem codes_of {k : Int} {L : List Prim} (h : follL k L = true) : L.map (·.1) = codesN k (L.length / (permL k).length) := by
  obtain ⟨h0, h1, h2⟩ := foll_parts h
  have hlen : L.length / (permL k).length * (permL k).length = L.length := by
    have := Nat.div_add_mod L.length (permL k).length
    rw [Nat.mul_comm]; omega
  apply List.ext_getElem?
  intro i
  by_cases hi : i < L.length
  · rw [codesN_get k _ i (by omega), ← h2 i hi, List.getElem?_map, List.getElem?_eq_getElem hi, List.getD, List.getElem?_eq_getElem hi]
    rfl
  · rw [List.getElem?_eq_none (by rw [List.length_map]; omega), List.getElem?_eq_none (by rw [codesN_length]; omega)]
theorem foll_of {k : Int} {L : List Prim} {n : Nat} (h0 : (permL k).length ≠ 0) (h : L.map (·.1) = codesN k n) : follL k L = true ∧ L.length / (permL k).length = n := by
  have hl : L.length = n * (permL k).length := by have := congrArg List.length h; rw [List.length_map, codesN_length] at this; exact this
  refine ⟨foll_good h0 (by rw [hl]; exact Nat.mul_mod_left _ _) fun j c r hj e => ?_, by rw [hl]; exact Nat.mul_div_cancel _ (by omega)⟩
  have := congrArg (fun l : List Int => l[j]?) h
  simp only [List.getElem?_map, e, Option.map_some] at this
  rw [codesN_get k n j (by omega)] at this
  exact Option.some.inj this
theorem kind_back (k : Int) (h1 : 1 ≤ k) (h4 : k ≤ 4) : kindB (kindC k) = k := by
  obtain rfl | rfl | rfl | rfl : k = 1 ∨ k = 2 ∨ k = 3 ∨ k = 4 := by omega
  all_goals decide
theorem kind_once (b : UInt8) (h : kindB b ≠ 0) : kindC (kindB b) = b ∧ 1 ≤ kindB b ∧ kindB b ≤ 4 := by
  unfold kindB at h ⊢
  by_cases h1 : b = 65
  · subst h1; decide
  · by_cases h2 : b = 66
    · subst h2; decide
    · by_cases h3 : b = 67
      · subst h3; decide
      · by_cases h4 : b = 71
        · subst h4; decide
        · simp [h1, h2, h3, h4] at h
/-- A mark is read. -/
theorem mark_ok (k : Int) (n : Nat) (rest : List UInt8) (h1 : 1 ≤ k) (h4 : k ≤ 4) (hn : n ≤ 4095) (t : ByteArray) (ht : t = strL (markL k (n : Int) ++ rest)) : markOk t = true ∧ markK t = k ∧ markC t = n ∧ t.extract 4 t.size = strL rest := by
  have hd : (digsL n 2).length = 2 := digsL_length n 2
  obtain ⟨a, b, hab⟩ : ∃ a b, digsL n 2 = [a, b] := by
    match digsL n 2, hd with
    | [a, b], _ => exact ⟨a, b, rfl⟩
  have hm : markL k (n : Int) = [45, kindC k, a, b] := by unfold markL; rw [Int.toNat_natCast, hab]
  have hl : t.data.toList = [45, kindC k, a, b] ++ rest := by rw [ht, strL_data, hm]
  have he : (t.extract 2 4).data.toList = [a, b] := by rw [ext_data, hl]; rfl
  have hall : allD [a, b] = true := by rw [← hab]; exact allD_digsL n 2
  have hnum : numL [a, b] = n := by rw [← hab]; exact numL_digsL 2 n (by omega)
  have hk : t.data.toList.getD 1 0 = kindC k := by rw [hl]; rfl
  have hsz : 4 ≤ t.size := by rw [← len_is, hl]; simp
  refine ⟨?_, ?_, ?_, ?_⟩
  · unfold markOk
    rw [decide_eq_true hsz, decide_eq_true (show t.data.toList.getD 0 0 = 45 by rw [hl]; rfl), hk, kind_back k h1 h4, decide_eq_true (by omega : k ≠ 0), he]
    have : parE [a, b] = 0 := by
      unfold parE
      rw [if_neg (by simp), if_pos hall]
    rw [this]; rfl
  · unfold markK; rw [hk, kind_back k h1 h4]
  · unfold markC
    rw [he]
    unfold parN rnum
    rw [if_neg (by simp), if_pos hall, hnum]; rfl
  · have : (markL k (n : Int)).length = 4 := markL_length _ _
    rw [← this]
    exact rest_of _ _ t ht
theorem digs_num (a b : UInt8) (h : allD [a, b] = true) : digsL (numL [a, b]) 2 = [a, b] := by
  have h' : val1 a.toNat ≠ 0 ∧ val1 b.toNat ≠ 0 := by
    simp only [allD, List.all_cons, List.all_nil, Bool.and_true, Bool.and_eq_true, decide_eq_true_eq] at h
    exact h
  have ha := dig_of_val a h'.1
  have hb := dig_of_val b h'.2
  have la := val1_le a.toNat
  have lb := val1_le b.toNat
  have e : numL [a, b] = (val1 a.toNat - 1) * 64 + (val1 b.toNat - 1) := by simp [numL]
  have d0 : digsL ((val1 a.toNat - 1) % 64 / 64) 0 = [] := rfl
  have h1 := h'.1
  have h2 := h'.2
  have q1 : ((val1 a.toNat - 1) * 64 + (val1 b.toNat - 1)) / 64 = val1 a.toNat - 1 := by omega
  have q2 : ((val1 a.toNat - 1) * 64 + (val1 b.toNat - 1)) % 64 = val1 b.toNat - 1 := by omega
  have q3 : (val1 a.toNat - 1) % 64 = val1 a.toNat - 1 := by omega
  rw [e, show (2 : Nat) = 1 + 1 from rfl, digsL_succ, q1, q2, hb, show (1 : Nat) = 0 + 1 from rfl, digsL_succ, q3, ha]
  rfl
/-- A mark that is read is just what stands there. -/
theorem mark_once {t : ByteArray} (h : markOk t = true) : 1 ≤ markK t ∧ markK t ≤ 4 ∧ markC t ≤ 4095 ∧ t.data.toList = markL (markK t) (markC t : Int) ++ (t.extract 4 t.size).data.toList ∧ 4 ≤ t.size := by
  unfold markOk at h
  simp only [Bool.and_eq_true, decide_eq_true_eq] at h
  obtain ⟨⟨⟨h4, h0⟩, hk⟩, hp⟩ := h
  obtain ⟨k1, k2, k3⟩ := kind_once _ hk
  have hl : 4 ≤ t.data.toList.length := by rw [len_is]; exact h4
  obtain ⟨x, y, a, b, rest, hL⟩ : ∃ x y a b rest, t.data.toList = x :: y :: a :: b :: rest := by
    match t.data.toList, hl with
    | x :: y :: a :: b :: rest, _ => exact ⟨x, y, a, b, rest, rfl⟩
  have he : (t.extract 2 4).data.toList = [a, b] := by rw [ext_data, hL]; rfl
  rw [he] at hp
  have hall : allD [a, b] = true := by
    unfold parE at hp
    rw [if_neg (by simp)] at hp
    by_cases ha : allD [a, b] = true
    · exact ha
    · rw [if_neg ha] at hp; cases hp
  have hlt : numL [a, b] < 4096 := numL_lt_of _ 2 4096 (by simp) (by decide)
  have hC : markC t = numL [a, b] := by
    unfold markC
    rw [he]
    unfold parN rnum
    rw [if_neg (by simp), if_pos hall]; rfl
  refine ⟨k2, k3, by omega, ?_, h4⟩
  have e4 : (t.extract 4 t.size).data.toList = rest := by
    rw [ext_data, ← len_is, List.take_length, hL]; rfl
  rw [e4]
  have hx : x = 45 := by rw [hL] at h0; exact h0
  have hy : t.data.toList.getD 1 0 = y := by rw [hL]; rfl
  have hK : markK t = kindB y := by unfold markK; rw [hy]
  rw [hy] at k1
  unfold markL
  rw [hK, k1, hC, Int.toNat_natCast, digs_num a b hall, hL, hx]
  rfl
/-- A group that is written is read. -/
theorem read_grp (g : Grp) (rest : List UInt8) (hf : follL g.1 g.2 = true) (he : itemsE g.2 = 0) (hl : g.2.length ≤ 1024) (t : ByteArray) (ht : t = strL (grpL g ++ rest)) : grpE t = 0 ∧ markK t = g.1 ∧ grpItems t = g.2 ∧ grpR t = strL rest ∧ 4 ≤ t.size := by
  obtain ⟨h0, h1, -⟩ := foll_parts hf
  have hk : ¬ (g.1 < 1 ∨ 4 < g.1) := fun e => h0 (by rw [(permL_none g.1).2 e]; rfl)
  have hd : g.2.length / (permL g.1).length ≤ g.2.length := Nat.div_le_self _ _
  have htt : t = strL (markL g.1 ((g.2.length / (permL g.1).length : Nat) : Int) ++ (itemsL g.2 ++ rest)) := by rw [ht, grpL, List.append_assoc]
  obtain ⟨m1, m2, m3, m4⟩ := mark_ok g.1 (g.2.length / (permL g.1).length) (itemsL g.2 ++ rest) (by omega) (by omega) (by omega) t htt
  obtain ⟨r1, r2, r3⟩ := read_items g.2 rest (items_ok he)
  rw [codes_of hf] at r1 r2 r3
  have e : grpE t = 0 := by unfold grpE; rw [if_neg (by rw [m1]; decide), m2, m3, m4]; exact r1
  refine ⟨e, m2, ?_, ?_, ?_⟩
  · unfold grpItems; rw [m2, m3, m4]; exact r2
  · unfold grpR; rw [e, if_neg (by decide), m2, m3, m4]; exact r3
  · rw [htt, strL_size, List.length_append, markL_length]; omega

/-- Decode as data: the error, and the groups, by so many groups at most. -/
def dE : Nat → ByteArray → Int
  | 0, _ => 0
  | f + 1, t => if t.size = 0 then 0 else if grpE t ≠ 0 then grpE t else dE f (grpR t)
def dL : Nat → ByteArray → List Grp
  | 0, _ => []
  | f + 1, t => if t.size = 0 then [] else (markK t, grpItems t) :: dL f (grpR t)
def decGE (t : ByteArray) : Int := if dE t.size t ≠ 0 then dE t.size t else if 1024 < cntG (dL t.size t) then 3 else 0
def decGL (t : ByteArray) : List Grp := if decGE t ≠ 0 then [] else dL t.size t

theorem restQ_size (t : ByteArray) : (restQ t).size ≤ t.size := by unfold restQ; rw [ByteArray.size_extract]; omega
theorem gR_size : ∀ (cs : List Int) (t : ByteArray), (gR cs t).size ≤ t.size
  | [], t => Nat.le_refl _
  | c :: cs, t => by rw [gR]; exact Nat.le_trans (gR_size cs _) (restQ_size t)
theorem grpR_size {t : ByteArray} (h : grpE t = 0) : (grpR t).size + 4 ≤ t.size := by
  have hm : markOk t = true := by
    cases hm : markOk t with
    | true => rfl
    | false => unfold grpE at h; rw [if_pos hm] at h; cases h
  have h4 := (mark_once hm).2.2.2.2
  unfold grpR
  rw [h, if_neg (by decide)]
  have := gR_size (codesN (markK t) (markC t)) (t.extract 4 t.size)
  rw [ByteArray.size_extract] at this
  omega
/-- How far a reading of groups has come. -/
def FarG (t0 : ByteArray) (acc : List Grp) (f : Nat) (t : ByteArray) : Prop :=
  t.size ≤ f ∧ dE t0.size t0 = dE f t ∧ (dE t0.size t0 = 0 → dL t0.size t0 = acc ++ dL f t)
theorem farG_start (t0 : ByteArray) : FarG t0 [] t0.size t0 := ⟨Nat.le_refl _, rfl, fun _ => rfl⟩
theorem farG_err {t0 : ByteArray} {acc : List Grp} {f : Nat} {t : ByteArray} (h : FarG t0 acc f t) (hn : t.size ≠ 0) (he : grpE t ≠ 0) : decGE t0 = grpE t ∧ decGL t0 = [] := by
  obtain ⟨h1, h2, -⟩ := h
  obtain ⟨f', rfl⟩ : ∃ f', f = f' + 1 := ⟨f - 1, by omega⟩
  rw [dE, if_neg hn, if_pos he] at h2
  have e : decGE t0 = grpE t := by unfold decGE; rw [h2, if_pos he]
  exact ⟨e, by unfold decGL; rw [e, if_pos he]⟩
theorem farG_next {t0 : ByteArray} {acc : List Grp} {f : Nat} {t : ByteArray} (h : FarG t0 acc f t) (hn : t.size ≠ 0) (he : grpE t = 0) : FarG t0 (acc ++ [(markK t, grpItems t)]) (f - 1) (grpR t) := by
  obtain ⟨h1, h2, h3⟩ := h
  obtain ⟨f', rfl⟩ : ∃ f', f = f' + 1 := ⟨f - 1, by omega⟩
  have hs := grpR_size he
  rw [dE, if_neg hn, if_neg (fun h => h he)] at h2
  refine ⟨by omega, h2, fun h0 => ?_⟩
  rw [h3 h0, dL, if_neg hn, List.append_assoc]
  rfl
theorem farG_end {t0 : ByteArray} {acc : List Grp} {f : Nat} {t : ByteArray} (h : FarG t0 acc f t) (hn : t.size = 0) : decGE t0 = (if 1024 < cntG acc then 3 else 0) ∧ decGL t0 = (if 1024 < cntG acc then [] else acc) := by
  obtain ⟨h1, h2, h3⟩ := h
  have hz : dE t0.size t0 = 0 := by
    rw [h2]
    cases f with
    | zero => rfl
    | succ f => rw [dE, if_pos hn]
  have hl : dL t0.size t0 = acc := by
    rw [h3 hz]
    cases f with
    | zero => rw [dL, List.append_nil]
    | succ f => rw [dL, if_pos hn, List.append_nil]
  have e : decGE t0 = (if 1024 < cntG acc then 3 else 0) := by unfold decGE; rw [hz, if_neg (by decide), hl]
  refine ⟨e, ?_⟩
  unfold decGL
  rw [e, hl]
  by_cases hc : 1024 < cntG acc
  · rw [if_pos hc, if_pos (by decide), if_pos hc]
  · rw [if_neg hc, if_neg (by decide), if_neg hc]
/-- Groups that can be written. -/
def OkG (G : List Grp) : Prop := ∀ g, g ∈ G → follL g.1 g.2 = true ∧ itemsE g.2 = 0 ∧ g.2.length ≤ 1024
theorem read_grps : ∀ (G : List Grp) (f : Nat), OkG G → (grpsL G).length ≤ f → dE f (strL (grpsL G)) = 0 ∧ dL f (strL (grpsL G)) = G
  | [], 0, _, _ => ⟨rfl, rfl⟩
  | [], f + 1, _, _ => by
    have e : (strL (grpsL [])).size = 0 := rfl
    exact ⟨by rw [dE, if_pos e], by rw [dL, if_pos e]⟩
  | g :: G, f, h, hf => by
    obtain ⟨h1, h2, h3⟩ := h g (by simp)
    obtain ⟨r1, r2, r3, r4, r5⟩ := read_grp g (grpsL G) h1 h2 h3 _ (by rw [← grps_cons])
    have hl : (grpsL (g :: G)).length = (strL (grpsL (g :: G))).size := (strL_size _).symm
    have hs := grpR_size r1
    rw [r4, strL_size] at hs
    obtain ⟨f', rfl⟩ : ∃ f', f = f' + 1 := ⟨f - 1, by omega⟩
    obtain ⟨i1, i2⟩ := read_grps G f' (fun y hy => h y (by simp [hy])) (by omega)
    refine ⟨?_, ?_⟩
    · rw [dE, if_neg (by omega), if_neg (fun h => h r1), r4]; exact i1
    · rw [dL, if_neg (by omega), r2, r3, r4, i2]
theorem grpsE_ok : ∀ {G : List Grp}, grpsE G = 0 → ∀ g, g ∈ G → itemsE g.2 = 0
  | [], _, x, hx => by cases hx
  | y :: t, h, x, hx => by
    rw [grpsE] at h
    by_cases h1 : itemsE y.2 = 0
    · rw [if_pos h1] at h
      rcases List.mem_cons.1 hx with e | hx
      · rw [e]; exact h1
      · exact grpsE_ok h x hx
    · rw [if_neg h1] at h; exact absurd h h1
theorem cnt_mem : ∀ {G : List Grp} {g : Grp}, g ∈ G → g.2.length ≤ cntG G
  | [], _, h => by cases h
  | y :: t, g, h => by
    rw [cnt_cons]
    rcases List.mem_cons.1 h with e | h
    · rw [e]; omega
    · have := cnt_mem h; omega
/-- What no error forbids. -/
theorem enc_ok {G : List Grp} (h : encGE G = 0) : cntG G ≤ 1024 ∧ OkG G ∧ encGS G = strL (grpsL G) := by
  unfold encGE at h
  by_cases h1 : 1024 < cntG G
  · rw [if_pos h1] at h; cases h
  · rw [if_neg h1] at h
    by_cases h2 : allF G = false
    · rw [if_pos h2] at h; cases h
    · rw [if_neg h2] at h
      have h3 : allF G = true := by simpa using h2
      refine ⟨by omega, fun g hg => ⟨List.all_eq_true.1 h3 g hg, grpsE_ok h g hg, by have := cnt_mem hg; omega⟩, ?_⟩
      unfold encGS
      rw [if_neg h1, if_neg h2, if_neg (fun e => e h)]
theorem enc_of {G : List Grp} (hc : cntG G ≤ 1024) (h : OkG G) : encGE G = 0 ∧ encGS G = strL (grpsL G) := by
  have h3 : allF G = true := List.all_eq_true.2 fun g hg => (h g hg).1
  have := enc_good (G := G) (by omega) h3 fun p k L hp => (h _ (List.mem_of_getElem? hp)).2.1
  exact ⟨this.2, this.1⟩
/-- Groups come back from their text. -/
theorem dec_grps {G : List Grp} (hc : cntG G ≤ 1024) (h : OkG G) : decGE (strL (grpsL G)) = 0 ∧ decGL (strL (grpsL G)) = G := by
  obtain ⟨r1, r2⟩ := read_grps G (strL (grpsL G)).size h (by rw [strL_size]; exact Nat.le_refl _)
  have e : decGE (strL (grpsL G)) = 0 := by unfold decGE; rw [r1, if_neg (by decide), r2, if_neg (by omega)]
  exact ⟨e, by unfold decGL; rw [e, if_neg (by decide), r2]⟩
theorem okG_append {a b : List Grp} (ha : OkG a) (hb : OkG b) : OkG (a ++ b) := fun g hg => by
  rcases List.mem_append.1 hg with h | h
  · exact ha g h
  · exact hb g h
/-- What is read of primitives is just what is written of them. -/
theorem once_items : ∀ (cs : List Int) (t : ByteArray), gE cs t = 0 → t.data.toList = itemsL (gL cs t) ++ (gR cs t).data.toList ∧ (gL cs t).map (·.1) = cs ∧ itemsE (gL cs t) = 0
  | [], t, _ => ⟨rfl, rfl, rfl⟩
  | c :: cs, t, h => by
    rw [gE] at h
    by_cases he : (decQ t).e = 0
    · rw [if_neg (fun h => h he)] at h
      by_cases hc : (decQ t).c = c
      · rw [if_neg (fun h => h hc)] at h
        obtain ⟨i1, i2, i3⟩ := once_items cs _ h
        obtain ⟨n, n1, n2, n3, n4, n5⟩ := once_read t he
        have hs : (primS (decQ t).c (decQ t).raw).data.toList = textL n (decQ t).raw.data.toList := by rw [n1, n2.primS]; rfl
        have hr : (restQ t).data.toList = t.data.toList.drop (sizeN n) := by
          unfold restQ
          rw [n3, Int.toNat_natCast, ext_data, ← len_is, List.take_length]
        refine ⟨?_, ?_, ?_⟩
        · rw [gL, gR, items_cons, hs, List.append_assoc, ← i1, hr, ← n5, List.take_append_drop]
        · rw [gL, List.map_cons, i2, hc]
        · rw [gL, itemsE, if_pos (by show primE (decQ t).c (decQ t).raw = 0; rw [n1]; exact n2.primE)]; exact i3
      · rw [if_pos hc] at h; cases h
    · rw [if_pos he] at h; exact absurd h he
theorem once_grp {t : ByteArray} (h : grpE t = 0) : t.data.toList = grpL (markK t, grpItems t) ++ (grpR t).data.toList ∧ follL (markK t) (grpItems t) = true ∧ itemsE (grpItems t) = 0 := by
  have hm : markOk t = true := by
    cases hm : markOk t with
    | true => rfl
    | false => unfold grpE at h; rw [if_pos hm] at h; cases h
  have hR : grpR t = gR (codesN (markK t) (markC t)) (t.extract 4 t.size) := by unfold grpR; rw [h, if_neg (by decide)]
  obtain ⟨k1, k2, k3, k4, k5⟩ := mark_once hm
  unfold grpE at h
  rw [if_neg (by rw [hm]; decide)] at h
  obtain ⟨i1, i2, i3⟩ := once_items _ _ h
  have h0 : (permL (markK t)).length ≠ 0 := fun e => by
    have := (permL_none (markK t)).1 (List.length_eq_zero_iff.1 e)
    omega
  obtain ⟨f1, f2⟩ := foll_of h0 i2
  refine ⟨?_, f1, i3⟩
  rw [hR, grpL]
  show _ = (markL (markK t) (((grpItems t).length / (permL (markK t)).length : Nat) : Int) ++ itemsL (grpItems t)) ++ _
  have f2' : (grpItems t).length / (permL (markK t)).length = markC t := f2
  rw [f2', List.append_assoc]
  show _ = _ ++ (itemsL (gL (codesN (markK t) (markC t)) (t.extract 4 t.size)) ++ _)
  rw [← i1]
  exact k4
theorem once_grps : ∀ (f : Nat) (t : ByteArray), t.size ≤ f → dE f t = 0 → t.data.toList = grpsL (dL f t) ∧ ∀ g, g ∈ dL f t → follL g.1 g.2 = true ∧ itemsE g.2 = 0
  | 0, t, hs, _ => by
    have : t.data.toList = [] := List.length_eq_zero_iff.1 (by rw [len_is]; omega)
    exact ⟨by rw [this]; rfl, fun g hg => by cases hg⟩
  | f + 1, t, hs, h => by
    rw [dE] at h
    by_cases hn : t.size = 0
    · have : t.data.toList = [] := List.length_eq_zero_iff.1 (by rw [len_is]; omega)
      rw [dL, if_pos hn]
      exact ⟨by rw [this]; rfl, fun g hg => by cases hg⟩
    · rw [if_neg hn] at h
      by_cases he : grpE t = 0
      · rw [if_neg (fun h => h he)] at h
        have hs' := grpR_size he
        obtain ⟨i1, i2⟩ := once_grps f (grpR t) (by omega) h
        obtain ⟨o1, o2, o3⟩ := once_grp he
        rw [dL, if_neg hn]
        refine ⟨by rw [grps_cons, ← i1]; exact o1, fun g hg => ?_⟩
        rcases List.mem_cons.1 hg with e | hg
        · rw [e]; exact ⟨o2, o3⟩
        · exact i2 g hg
      · rw [if_pos he] at h; exact absurd h he
/-- A text that is read is written again just so. -/
theorem enc_dec {t : ByteArray} (h : decGE t = 0) : encGE (decGL t) = 0 ∧ encGS (decGL t) = t := by
  have hl : decGL t = dL t.size t := by unfold decGL; rw [h, if_neg (by decide)]
  unfold decGE at h
  by_cases he : dE t.size t = 0
  · rw [if_neg (fun h => h he)] at h
    by_cases hc : 1024 < cntG (dL t.size t)
    · rw [if_pos hc] at h; cases h
    · obtain ⟨o1, o2⟩ := once_grps t.size t (Nat.le_refl _) he
      obtain ⟨e1, e2⟩ := enc_of (G := dL t.size t) (by omega) fun g hg => ⟨(o2 g hg).1, (o2 g hg).2, by have := cnt_mem hg; omega⟩
      rw [hl]
      refine ⟨e1, ?_⟩
      rw [e2, ← o1]; exact strL_list t
  · rw [if_pos he] at h; exact absurd h he
/-- The groups of a text that is read are no more than the limit says, and so is each. -/
theorem decGL_cnt (t : ByteArray) : cntG (decGL t) ≤ 1024 := by
  unfold decGL
  by_cases h : decGE t = 0
  · rw [if_neg (fun e => e h)]
    unfold decGE at h
    by_cases he : dE t.size t = 0
    · rw [if_neg (fun h => h he)] at h
      by_cases hc : 1024 < cntG (dL t.size t)
      · rw [if_pos hc] at h; cases h
      · omega
    · rw [if_pos he] at h; exact absurd h he
  · rw [if_pos h]; exact Nat.zero_le _
theorem dL_length : ∀ (f : Nat) (t : ByteArray), dE f t = 0 → t.size ≤ f → (dL f t).length ≤ t.size
  | 0, t, _, _ => Nat.zero_le _
  | f + 1, t, h, hs => by
    rw [dL]
    rw [dE] at h
    by_cases hn : t.size = 0
    · rw [if_pos hn]; exact Nat.zero_le _
    · rw [if_neg hn] at h ⊢
      by_cases he : grpE t = 0
      · rw [if_neg (fun h => h he)] at h
        have hs' := grpR_size he
        have := dL_length f (grpR t) h (by omega)
        rw [List.length_cons]; omega
      · rw [if_pos he] at h; exact absurd h he
theorem decGL_length (t : ByteArray) : (decGL t).length ≤ t.size := by
  unfold decGL
  by_cases h : decGE t = 0
  · rw [if_neg (fun e => e h)]
    unfold decGE at h
    by_cases he : dE t.size t = 0
    · exact dL_length _ t he (Nat.le_refl _)
    · rw [if_pos he] at h; exact absurd h he
  · rw [if_pos h]; exact Nat.zero_le _
theorem gE_append : ∀ (cs ds : List Int) (t : ByteArray), gE (cs ++ ds) t = if gE cs t ≠ 0 then gE cs t else gE ds (gR cs t)
  | [], ds, t => by rw [List.nil_append, gE, gR, if_neg (by decide)]
  | c :: cs, ds, t => by
    rw [List.cons_append, gE, gE, gR]
    by_cases he : (decQ t).e = 0
    · by_cases hc : (decQ t).c = c
      · simp only [he, hc, ne_eq, not_true_eq_false, if_false]
        exact gE_append cs ds _
      · simp [he, hc]
    · simp [he]
theorem codes_add (k : Int) (a b : Nat) : codesN k (a + b) = codesN k a ++ codesN k b := by
  unfold codesN
  rw [← List.replicate_append_replicate, List.flatten_append]
theorem dec_nothing : (decQ ⟨#[]⟩).e = 7 := by decide +kernel
/-- A mark with a greater count: there is an error. -/
theorem marks_err {k : Int} {L : List Prim} {n m : Nat} (hf : follL k L = true) (he : itemsE L = 0) (hn : L.length / (permL k).length = n) (hlt : n < m) (hm : m ≤ 4095) (t : ByteArray) (ht : t = strL (markL k (m : Int) ++ itemsL L)) : decGE t ≠ 0 := by
  obtain ⟨h0, h1, -⟩ := foll_parts hf
  have hk : ¬ (k < 1 ∨ 4 < k) := fun e => h0 (by rw [(permL_none k).2 e]; rfl)
  obtain ⟨m1, m2, m3, m4⟩ := mark_ok k m (itemsL L) (by omega) (by omega) hm t ht
  obtain ⟨r1, r2, r3⟩ := read_items L [] (items_ok he)
  rw [List.append_nil, codes_of hf, hn] at r1 r2 r3
  have hg : grpE t = 7 := by
    unfold grpE
    rw [if_neg (by rw [m1]; decide), m2, m3, m4, show m = n + (m - n) by omega, codes_add, gE_append, r1, if_neg (by decide), r3]
    obtain ⟨q, hq⟩ : ∃ q, m - n = q + 1 := ⟨m - n - 1, by omega⟩
    rw [hq, codes_cons]
    cases hp : permL k with
    | nil => exact absurd (by rw [hp]; rfl) h0
    | cons c cs =>
      rw [List.cons_append, gE]
      have : (decQ (strL [])).e = 7 := dec_nothing
      rw [this, if_pos (by decide)]
  have hs : t.size ≠ 0 := by rw [ht, strL_size, List.length_append, markL_length]; omega
  obtain ⟨f, hfz⟩ : ∃ f, t.size = f + 1 := ⟨t.size - 1, by omega⟩
  have hd : dE t.size t = 7 := by rw [hfz, dE, if_neg hs, hg, if_pos (by decide)]
  unfold decGE
  rw [hd, if_pos (by decide)]
  decide
/-- The text of groups has fours of digits. -/
theorem items_fours : ∀ (L : List Prim), (∀ x, x ∈ L → OkP x) → ∃ q, q ≤ 209 * L.length ∧ (itemsL L).length = 4 * q ∧ allD (itemsL L) = true
  | [], _ => ⟨0, Nat.zero_le _, rfl, rfl⟩
  | x :: L, h => by
    obtain ⟨c, hc, hp⟩ := h x (by simp)
    obtain ⟨q, hq, hl, ha⟩ := items_fours L (fun p hm => h p (by simp [hm]))
    obtain ⟨s4, s5, s6, _⟩ := size_four c hp.c1 hp.c8
    have ht := textL_length c hp.c1 hp.c8 _ hp.len
    have hs : (primS x.1 x.2).data.toList = textL c x.2.data.toList := by rw [hc, hp.primS]; rfl
    refine ⟨sizeN c / 4 + q, by rw [List.length_cons]; omega, ?_, ?_⟩
    · rw [items_cons, hs, List.length_append, ht, hl]; omega
    · rw [items_cons, hs, allD_append, hp.allD, ha]; rfl
theorem kindC_dig (k : Int) : val1 (kindC k).toNat ≠ 0 := by
  unfold kindC
  (repeat' split) <;> decide
theorem grps_fours : ∀ (G : List Grp), OkG G → ∃ q, q ≤ G.length + 209 * cntG G ∧ (grpsL G).length = 4 * q ∧ allD (grpsL G) = true
  | [], _ => ⟨0, Nat.zero_le _, rfl, rfl⟩
  | g :: G, h => by
    obtain ⟨q, hq, hl, ha⟩ := grps_fours G (fun p hm => h p (by simp [hm]))
    obtain ⟨p, hp, hpl, hpa⟩ := items_fours g.2 (items_ok (h g (by simp)).2.1)
    refine ⟨1 + p + q, by rw [List.length_cons, cnt_cons]; omega, ?_, ?_⟩
    · rw [grps_cons, grpL, List.length_append, List.length_append, markL_length, hpl, hl]; omega
    · rw [grps_cons, grpL, allD_append, allD_append, hpa, ha]
      unfold markL
      rw [allD_cons, allD_cons, allD_digsL, decide_eq_true (kindC_dig g.1)]
      rfl

end Go.Proofs.YtdmgmfdmakheiaaDoor
