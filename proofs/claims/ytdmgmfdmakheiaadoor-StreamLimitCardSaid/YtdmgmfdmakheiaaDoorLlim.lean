/- The walk of the statement StreamLimit: for each number the Go text returns true, provided that the three tables read as the program lays them. -/
import Derived.Test.YtdmgmfdmakheiaaDoorLback
import Derived.Test.YtdmgmfdmakheiaaDoorPawk
namespace Go.Proofs.YtdmgmfdmakheiaaDoor
open Go.ChangeShapes Go.WideShapes Go.ChangeAt Go.RowKit
set_option linter.unusedVariables false
set_option linter.unusedSimpArgs false

/-- The items of the statement's long group. -/
abbrev r6 : ByteArray := { data := #[0, 0, 0, 0, 0, 1] }
def z32 : ByteArray := ⟨(List.replicate 32 (0 : UInt8)).toArray⟩
def pairs : Nat → List Prim
  | 0 => []
  | q + 1 => pairs q ++ [(8, r6), (1, z32)]
theorem pairs_length (q : Nat) : (pairs q).length = 2 * q := by
  induction q with
  | zero => rfl
  | succ q ih => rw [pairs, List.length_append, ih]; show 2 * q + 2 = _; omega
/-- What the inner loop holds. -/
def LSt (TG TP : TypeId) (WL wr : World) (vi : Value) (L : List Prim) : Prop :=
  Below WL.heap.size WL wr ∧ wr.heap[WL.heap.size]? = some (.cells #[.int .i64 4, vi] TG (0, 0)) ∧ wr.ownsRow (WL.heap.size + 1) TP 2 vi L.length (primCells L)
theorem grow_free {a b : World} (h : a.grownBy b none) (row : Option Nat) : a.grownBy b row := ⟨h.os, h.tape, h.output, h.size, fun i hi _ => h.block i hi (by simp)⟩
theorem LSt.push {TG TP : TypeId} {WL wr w2 : World} {vi v' : Value} {L : List Prim} {r s : ByteArray} {c d : Int} (h : LSt TG TP WL wr vi L)
    (hown : w2.ownsRow (WL.heap.size + 1) TP 2 v' (L.length + 2) (primCells L ++ [.int .i64 c, .string r, .int .i64 d, .string s])) (hg : wr.grownBy w2 vi.ownBlock) : LSt TG TP WL (w2.setCell ⟨WL.heap.size, 1, none⟩ v') v' (L ++ [(c, r), (d, s)]) := by
  obtain ⟨h1, h2, h3⟩ := h
  have hlt := lt_of_block h2
  have k2 : w2.heap[WL.heap.size]? = some (.cells #[.int .i64 4, vi] TG (0, 0)) := (own_kept h3 hg _ (by omega) hlt).trans h2
  have hb2 : Below WL.heap.size WL w2 := h1.grown hg h1.size (fun b e => by have := (h3.lt b e).1; omega)
  refine ⟨hb2.setCell (Nat.le_refl _) _, two_set1 k2 v', ?_⟩
  have hgs : w2.grownBy (w2.setCell ⟨WL.heap.size, 1, none⟩ v') (some WL.heap.size) := grown_set1 _ _ _
  have hp := owns_grown hown hgs (by omega)
  rw [List.length_append, primCells_append]
  exact hp
theorem pairs_ok : ∀ (q : Nat) (x : Prim), x ∈ pairs q → x = (8, r6) ∨ x = (1, z32)
  | 0, x, h => by cases h
  | q + 1, x, h => by
    rw [pairs] at h
    rcases List.mem_append.1 h with h | h
    · exact pairs_ok q x h
    · simpa using h
theorem two_texts : (primS 8 r6).data.toList.length = 12 ∧ (primS 1 z32).data.toList.length = 44 ∧ primE 8 r6 = 0 ∧ primE 1 z32 = 0 := by decide +kernel
theorem pairs_raws (q : Nat) : ∀ x, x ∈ pairs q → x.2.size ≤ maxLen - 2 := fun x h => by
  rcases pairs_ok q x h with rfl | rfl
  · show r6.size ≤ _; decide +kernel
  · show z32.size ≤ _; decide +kernel
theorem items_app : ∀ (L M : List Prim), itemsL (L ++ M) = itemsL L ++ itemsL M := fun L M => by simp [itemsL]
theorem pairs_items (q : Nat) : (itemsL (pairs q)).length = 56 * q := by
  induction q with
  | zero => rfl
  | succ q ih =>
    rw [pairs, items_app, List.length_append, ih]
    have : (itemsL [(8, r6), (1, z32)]).length = 56 := by
      rw [items_cons, items_cons, List.length_append, List.length_append, two_texts.1, two_texts.2.1]; rfl
    rw [this]; omega
theorem pairs_zero (q : Nat) : itemsE (pairs q) = 0 := items_zero fun p c r h => by
  rcases pairs_ok q _ (List.mem_of_getElem? h) with e | e
  · cases e; exact two_texts.2.2.1
  · cases e; exact two_texts.2.2.2
theorem pairs_codes (q : Nat) : (pairs q).map (·.1) = codesN 4 q := by
  induction q with
  | zero => rfl
  | succ q ih =>
    rw [pairs, List.map_append, ih, codes_add]
    rfl
theorem pairs_foll (q : Nat) : follL 4 (pairs q) = true := (foll_of (by decide) (pairs_codes q)).1
def longG : List Grp := [(4, pairs 256), (4, pairs 256)]
theorem cnt_two (L : List Prim) : cntG [(4, L), (4, L)] = 2 * L.length := by
  rw [cnt_cons, cnt_cons]
  simp [cntG]; omega
theorem longG_cnt : cntG longG = 1024 := by unfold longG; rw [cnt_two, pairs_length]
theorem longG_ok : OkG longG := fun g hg => by
  have : g = (4, pairs 256) := by unfold longG at hg; simpa using hg
  subst this
  exact ⟨pairs_foll 256, pairs_zero 256, by show (pairs 256).length ≤ 1024; rw [pairs_length]; decide⟩
theorem grp_len (L : List Prim) : (grpsL [(4, L), (4, L)]).length = 8 + 2 * (itemsL L).length := by
  rw [grps_cons, grps_cons, List.length_append, List.length_append, grpL, List.length_append, markL_length]
  simp [grpsL]; omega
theorem longG_size : (grpsL longG).length = 28680 := by unfold longG; rw [grp_len, pairs_items]
theorem pairs_first (q : Nat) : (pairs (q + 1)).take 2 = [(8, r6), (1, z32)] := by
  induction q with
  | zero => rfl
  | succ q ih => rw [pairs, List.take_append_of_le_length (by rw [pairs_length]; omega), ih]
theorem moreG_enc : encGE (longG ++ [(4, [(8, r6), (1, z32)])]) = 3 ∧ encGS (longG ++ [(4, [(8, r6), (1, z32)])]) = ⟨#[]⟩ := by
  have h : 1024 < cntG (longG ++ [(4, [(8, r6), (1, z32)])]) := by rw [cnt_append, longG_cnt]; decide
  exact ⟨(enc_over h).2, (enc_over h).1⟩
theorem moreG_take : List.take 2 (longG ++ [(4, [(8, r6), (1, z32)])]) = longG := rfl
theorem PrimsAt.take {B : Nat} {w : World} {ao : Option Addr} {n cap : Nat} {L : List Prim} (h : PrimsAt B w (.slice ao n cap) L) (m : Nat) (hm : m ≤ L.length) : PrimsAt B w (.slice ao m cap) (L.take m) := by
  obtain ⟨ao', cap', e, h2, h3, h4⟩ := h
  cases e
  have hl : (L.take m).length = m := by rw [List.length_take]; omega
  refine ⟨ao, cap, by rw [hl], by omega, h3, fun j hj => ?_⟩
  obtain ⟨b, off, c, r, e1, e2⟩ := h4 j (by omega)
  exact ⟨b, off, c, r, by rw [List.getElem?_take, if_pos (by omega)]; exact e1, e2⟩
theorem GroupsAt.take {B : Nat} {w : World} {ao : Option Addr} {n cap : Nat} {G : List Grp} (h : GroupsAt B w (.slice ao n cap) G) (m : Nat) (hm : m ≤ G.length) : GroupsAt B w (.slice ao m cap) (G.take m) := by
  obtain ⟨ao', cap', e, h2, h3, h4⟩ := h
  cases e
  have hl : (G.take m).length = m := by rw [List.length_take]; omega
  refine ⟨ao, cap, by rw [hl], by omega, h3, fun j hj => ?_⟩
  obtain ⟨b, off, k, L, vi, e1, e2⟩ := h4 j (by omega)
  exact ⟨b, off, k, L, vi, by rw [List.getElem?_take, if_pos (by omega)]; exact e1, e2⟩
set_option maxHeartbeats 3200000 in
set_option maxRecDepth 100000 in
theorem limit4_walk (more : Int) (w : World) (m0 : 0 ≤ more) (m1 : more ≤ 255) (hT : Tbs w) :
    Calls Tryd.prog 4 #[.int .u8 more] w fun e w' => e = .returned (.bool true) ∧ Below w.heap.size w w' := by
  obtain ⟨b, hb⟩ : ∃ b : Nat, more % 2 = (b : Int) := ⟨(more % 2).toNat, by omega⟩
  have hb2 : b < 2 := by omega
  have hq : ((512 + (b : Int)) / 2) = 256 := by omega
  have hq2 : (512 + (b : Int)).tdiv 2 = 256 := by rw [Int.tdiv_eq_ediv_of_nonneg (by omega)]; exact hq
  have hr2 : more.tmod 2 = (b : Int) := by rw [Int.tmod_eq_emod_of_nonneg m0]; exact hb
  have hB := Below.refl w.heap.size w
  obtain ⟨ipg, hipg, hg0, hg1, hg2⟩ := infog
  have hug := Tryd.underlying23
  obtain ⟨ip, hip, hz0, hz1, hz2⟩ := infop
  have hup := Tryd.underlying26
  obtain ⟨i0, hi, hy0, hy1, hy2⟩ := info_parts Tryd.info5
  obtain ⟨Z, hZ⟩ : ∃ z : ByteArray, z = z32 := ⟨_, rfl⟩
  have C1 : Hid (∀ (w1 : World) (B : Nat) (v : Value), w1.ownsRow B 5 1 v 32 (madeCells (Value.int .u8 0).cells (32 * 1)).toList → (convert 49 9 v).run Tryd.prog w1 = .ok (.string Z) w1) := Lib.hid (fun w1 B v h => by rw [hZ]; exact zeros_string h)
  have HZ := Lib.hid hZ
  have HT := Lib.hid hT
  clear hT hZ
  go_enter Tryd.func4, Tryd.ntmps4
  go_wp2
  go_loopw [4, 20] (fun v i wr => ∃ (j : Nat) (A : List Trip) (ao : Option Addr) (cap : Nat), j ≤ 2 ∧ i = .int .i64 j ∧ v = .slice ao A.length cap ∧ grpsOf A = List.replicate j (4, pairs 256) ∧ GRow 28 w.heap.size wr (.slice ao A.length cap) A ∧ Below w.heap.size w wr) (fun _ i _ => 2 - (intOf i).toNat)
  case atStart => exact ⟨0, [], none, 0, Nat.zero_le _, rfl, rfl, rfl, GRow.nil _ _ _, hB⟩
  case round =>
    clear hB
    obtain ⟨j, A, ao, cap, hj, rfl, rfl, hA, hrow, hB⟩ := hrel
    by_cases hlt : j < 2
    · obtain ⟨WL, rfl⟩ : ∃ WL, WL = wr := ⟨_, rfl⟩
      have hj2 : decide ((j : Int) < 2) = true := decide_eq_true (by omega)
      have p0 : (WL.alloc (.cells #[.int .i64 4, .slice none 0 0] 28)).heap[WL.heap.size]? = some (.cells #[.int .i64 4, .slice none 0 0] 28 (0, 0)) := heap_alloc_new _ _
      have hS0 : LSt 28 48 WL (WL.alloc (.cells #[.int .i64 4, .slice none 0 0] 28)) (.slice none 0 0) [] := ⟨(Below.refl _ _).alloc (Nat.le_refl _) _, p0, World.ownsRow_nil _ _ _ _⟩
      have HS0 := Lib.hid hS0
      have HROW := Lib.hid hrow
      have HBB := Lib.hid hB
      have HA := Lib.hid hA
      clear p0 hS0 hrow hB hA
      go_wp2
      go_loopw [25] (fun i wz => ∃ (q : Nat) (L : List Prim) (ai : Option Addr) (ci : Nat), q ≤ 256 ∧ i = .int .i64 q ∧ L = pairs q ∧ LSt 28 48 WL wz (.slice ai L.length ci) L) (fun i _ => 256 - (intOf i).toNat)
      case atStart => exact ⟨0, [], none, 0, Nat.zero_le _, rfl, rfl, HS0.out⟩
      case round =>
        clear HS0
        obtain ⟨q, L, ai, ci, hq256, rfl, hL, hst⟩ := hrel
        by_cases hqm : q < 256
        · have HST := Lib.hid hst
          obtain ⟨s1, s2, s3⟩ := hst
          have hgl := lt_of_block s2
          obtain ⟨c1, c2⟩ := two_of s2
          obtain ⟨WM, hmk0, mo, mg⟩ := run_make_full (P := Tryd.prog) wr.drew wr.heap.size 49 5 i0 (.int .u8 0) 1 Tryd.underlying49 hi hy0 hy1 .i64 .i64 32 (by rw [hy2]; decide) (by unfold maxLen; decide) (Nat.le_refl _)
          have hmk : (Instr.makeSlice 49 (.int .i64 32) (.int .i64 32)).run Tryd.prog wr.drew = .ok (.slice (some ⟨wr.heap.size, 0, none⟩) 32 32) WM := hmk0
          have hcv : (convert 49 9 (.slice (some ⟨wr.heap.size, 0, none⟩) 32 32)).run Tryd.prog WM = .ok (.string Z) WM := C1.out _ _ _ mo
          have gm : wr.grownBy WM none := gtrans (gdrew (World.grownBy.refl _ _)) mg
          have bm : Below wr.heap.size wr WM := ⟨gm.os, gm.tape, gm.output, gm.size, fun i hi => gm.block i hi (by simp)⟩
          have s2m := keepB bm hgl s2
          have hgm : WL.heap.size < WM.heap.size := Nat.lt_of_lt_of_le hgl gm.size
          obtain ⟨e1, e2⟩ := two_of s2m
          have s2d : wr.drew.heap[WL.heap.size]? = some (.cells #[.int .i64 4, .slice ai L.length ci] 28 (0, 0)) := s2
          obtain ⟨d1, d2⟩ := two_of s2d
          have bA := (Below.refl WM.heap.size WM).alloc (o := .cells #[.int .i64 8, .string { data := #[0, 0, 0, 0, 0, 1] }, .int .i64 1, .string Z] 48) (Nat.le_refl _)
          have s2a := keepB bA hgm s2m
          obtain ⟨a1, a2⟩ := two_of s2a
          have s3m : WM.ownsRow (WL.heap.size + 1) 48 2 (.slice ai L.length ci) L.length (primCells L) := owns_below s3 bm
          have hO : Hid ((WM.alloc (.cells #[.int .i64 8, .string { data := #[0, 0, 0, 0, 0, 1] }, .int .i64 1, .string Z] 48)).ownsRow (WL.heap.size + 1) 48 2 (.slice ai L.length ci) L.length (primCells L)) := s3m.alloc _
          have hNw := Lib.hid (World.news_of_block (heap_alloc_new WM (.cells #[.int .i64 8, .string { data := #[0, 0, 0, 0, 0, 1] }, .int .i64 1, .string Z] 48)))
          have HS2 : Hid (∀ w' : World, (WM.alloc (.cells #[.int .i64 8, .string { data := #[0, 0, 0, 0, 0, 1] }, .int .i64 1, .string Z] 48)).grownBy w' (Value.slice ai L.length ci).ownBlock → w'.heap[WL.heap.size]? = some (.cells #[.int .i64 4, .slice ai L.length ci] 28 (0, 0))) :=
            fun w' hg => (own_kept hO.out hg _ (by omega) (lt_of_block s2a)).trans s2a
          have hll : L.length ≤ 512 := by rw [hL, pairs_length]; omega
          have hbs : WL.heap.size + 1 ≤ (WM.alloc (.cells #[.int .i64 8, .string { data := #[0, 0, 0, 0, 0, 1] }, .int .i64 1, .string Z] 48)).heap.size := by have := bA.size; omega
          have HL := Lib.hid hL
          have GM := Lib.hid gm
          clear hL hmk0 mo mg gm bm s2m s2d s2a bA s3m s1 s2 s3
          go_wp2
          go_region_law
            (first
              | (refine step_append_lies _ rfl (.tmp 28) (.tmp 33) 26 rfl (WL.heap.size + 1) 48 ip _ 2 24 hup hip hz0 hz1 hz2 rfl (by decide) _ L.length (primCells L) (by simp [Act.eval, Act.put]) hO.out ⟨WM.heap.size, 0, none⟩ 2 2 [.int .i64 8, .string { data := #[0, 0, 0, 0, 0, 1] }, .int .i64 1, .string Z] (by simp [Act.eval, Act.put]) rfl hNw.out (by intro u hu; simp at hu; rcases hu with rfl | rfl | rfl | rfl <;> rfl) (by decide) (by unfold maxLen; omega) (by omega) hbs _ rfl ?_; intro g' cap' w' hown hgrow hat hlt; obtain ⟨z1, z2⟩ := free_two (HS2.out w' hgrow); obtain ⟨z3, z4⟩ := two_of (HS2.out w' hgrow)))
          all_goals
            try go_simp
            go_wp2
            have hgw : wr.grownBy w' (Value.slice ai L.length ci).ownBlock := gtrans (gtrans (grow_free GM.out _) (galloc WM _ _)) hgrow
            have HPU := Lib.hid (HST.out.push hown hgw)
            clear hown hgrow hgw
            go_roundw
            case rel => exact ⟨q + 1, L ++ [(8, { data := #[0, 0, 0, 0, 0, 1] }), (1, Z)], some ⟨g', 0, none⟩, cap', by omega, by go_num, by rw [HL.out, HZ.out]; rfl, by rw [List.length_append]; exact HPU.out⟩
            case measure => simp [intOf]; omega
        · have hqe : q = 256 := by omega
          have hqf : ¬ (q : Int) < 256 := by omega
          obtain ⟨s1, s2, s3⟩ := hst
          obtain ⟨c1, c2⟩ := two_of s2
          have hrow2 := HROW.out.below s1
          have hB2 := HBB.out.trans (s1.mono HBB.out.size)
          have hlt1 : ∀ b, (Value.slice ao A.length cap).ownBlock = some b → w.heap.size ≤ b ∧ b < WL.heap.size := fun b e => HROW.out.1.lt b e
          have hA2 : A.length ≤ 2 := by have := congrArg List.length HA.out; simp [grpsOf] at this; omega
          have hP : PrimsAt wr.heap.size wr (.slice ai L.length ci) (pairs 256) := by
            have h := prims_of_owns s3 (by rw [hL]; exact pairs_raws q)
            rw [hL, hqe] at h
            rw [hL, hqe]
            exact h
          have hWL := HBB.out.size
          have hpn : ∀ b, (Value.slice ai L.length ci).ownBlock = some b → WL.heap.size + 1 ≤ b := fun b e => (s3.lt b e).1
          have hown := hrow2.1
          have hbw := hB2.size
          have HR2 := Lib.hid hrow2
          have HB2 := Lib.hid hB2
          have HP := Lib.hid hP
          have HPN := Lib.hid hpn
          have HLT := Lib.hid hlt1
          clear hrow2 hB2 hP hpn hlt1 s1 s2 s3 hL hqe
          go_wp2_with (at_builtin; refine wpList_append_lies _ rfl (.tmp 37) (.tmp 39) 23 rfl w.heap.size 28 ipg _ 2 32 hug hipg hg0 hg1 hg2 rfl (by decide) _ A.length (gCells A) rfl (hown.alloc _) ⟨wr.heap.size, 0, none⟩ 1 1 [.int .i64 4, .slice ai L.length ci] rfl rfl (cells_new _ _ _ _ rfl) (by intro u hu; simp at hu; rcases hu with rfl | rfl <;> rfl) (by decide) (by unfold maxLen; omega) (by omega) (by simp; omega) _ rfl ?_; intro g' cap' w3 hown3 hgrow hat hlt3)
          have hat2 : (Value.slice ao A.length cap).ownBlock = some g' ∨ g' = (wr.alloc (.cells #[.int .i64 4, .slice ai L.length ci] 28)).heap.size := hat
          have hgw3 : wr.grownBy w3 (Value.slice ao A.length cap).ownBlock := gtrans (galloc wr _ _) hgrow
          have hpush := HR2.out.push (v' := .slice (some ⟨g', 0, none⟩) (A.length + 1) cap') (k := 4) hown3 hgw3 (by
            rcases hat2 with h | h
            · exact .inl (by rw [h]; rfl)
            · refine .inr fun b e => ?_
              cases e
              show wr.heap.size ≤ g'
              rw [h]; simp) HP.out (fun hn b e => ⟨by have := HPN.out b e; omega, fun e' => by have h1 := HPN.out b e; have h2 := (HLT.out b e').2; omega⟩)
          have hbel : Below w.heap.size w w3 := HB2.out.grown hgw3 HB2.out.size (fun b e => (HLT.out b e).1)
          have HPU := Lib.hid hpush
          have HBE := Lib.hid hbel
          clear hpush hbel hown3 hgrow hgw3 hat hat2
          go_roundw
          case rel => exact ⟨j + 1, A ++ [(4, .slice ai L.length ci, pairs 256)], some ⟨g', 0, none⟩, cap', by omega, by go_num, by rw [List.length_append]; rfl, by rw [grpsOf_append, HA.out, List.replicate_succ'], by rw [List.length_append]; exact HPU.out, HBE.out⟩
          case measure => simp [intOf]; omega
    · have hj2 : j = 2 := by omega
      have hjf : decide ((j : Int) < 2) = false := decide_eq_false (by omega)
      rw [hj2] at hA
      have hlen : A.length = 2 := by have := congrArg List.length hA; simpa [grpsOf] using this
      have hGG : grpsOf A = longG := hA
      obtain ⟨x0, x1, hAe⟩ : ∃ x0 x1, A = [x0, x1] := by
        match A, hlen with
        | [x0, x1], _ => exact ⟨x0, x1, rfl⟩
      have hx0 : (x0.1, x0.2.2) = ((4 : Int), pairs 256) := by
        have := congrArg (·[0]?) hA
        rw [hAe] at this
        simpa [grpsOf] using this
      obtain ⟨hx01, hx02⟩ := Prod.mk.inj hx0
      have hmem : x0 ∈ A := by rw [hAe]; simp
      obtain ⟨hp0, hq0⟩ := hrow.2 x0 hmem
      rw [hx02] at hp0 hq0
      obtain ⟨gl, capl, hve, hgl1, hgl2⟩ := hrow.1.form (by omega)
      cases hve
      have hcell : wr.cell? ⟨gl, 1, none⟩ = some x0.2.1 := by
        have h := hrow.1.cells (g := gl) rfl 1 x0.2.1 (by rw [hAe]; rfl)
        rwa [Addr.add_lit, Nat.zero_add] at h
      have hcap : 2 ≤ cap := by
        rcases hrow.1.2 with ⟨h, -⟩ | ⟨g, c, cur, h, -, -, hnc, -⟩
        · cases h
        · cases h; omega
      obtain ⟨v0, hv0⟩ : ∃ v, v = x0.2.1 := ⟨_, rfl⟩
      rw [← hv0] at hcell hp0 hq0
      have hp0' := hp0
      obtain ⟨a0, c0, hv0e, hc0, -⟩ := hp0'
      rw [pairs_length, show 2 * 256 = 512 from rfl] at hv0e hc0
      subst hv0e
      have hp2 := hp0.take 2 (by rw [pairs_length]; decide)
      rw [pairs_first 255] at hp2
      have hG := hrow.groups
      rw [hGG, hlen] at hG
      have hown : wr.ownsRow w.heap.size 28 2 (.slice (some ⟨gl, 0, none⟩) 2 cap) 2 (gCells A) := by have := hrow.1; rwa [hlen] at this
      have hlg : longG.length = 2 := rfl
      obtain ⟨e1, e2⟩ := enc_of (G := longG) (by rw [longG_cnt]; decide) longG_ok
      have hXz : (encGS longG).size = 28680 := by rw [e2, strL_size, longG_size]
      have RN0 := fun (v : Value) (wx : World) (h : GroupsAt wx.heap.size wx v longG) => renc_any v longG wx h (by decide) (by rw [longG_cnt]; decide)
      rw [e1] at RN0
      have EN0 := fun (v : Value) (wx : World) (h : GroupsAt wx.heap.size wx v longG) (hx : Tbs wx) => enc_any v longG wx h (by decide) (by rw [longG_cnt]; decide) hx
      rw [e1] at EN0
      obtain ⟨X, hX⟩ : ∃ X, X = encGS longG := ⟨_, rfl⟩
      rw [← hX] at RN0 EN0 hXz
      have hx60 : (60 : Int) ≤ (X.size : Int) := by omega
      have hes : (X.extract 0 60).size = 60 := by rw [ByteArray.size_extract]; omega
      have DE0 := fun (wx : World) (hx : Tbs wx) => decG_any (X ++ X.extract 0 60) wx (by rw [ByteArray.size_append, hes]; omega) hx
      have RD0 := fun (wx : World) => rdecG_any (X ++ X.extract 0 60) wx (by rw [ByteArray.size_append, hes]; omega)
      unfold DecPost at DE0 RD0
      obtain ⟨Y, hY⟩ : ∃ Y, Y = X.extract 0 60 := ⟨_, rfl⟩
      rw [← hY] at DE0 RD0 hes
      have hcat : ¬ 9223372036854775807 < X.size + Y.size := by omega
      obtain ⟨D, hD⟩ : ∃ v, v = decGL (X ++ Y) := ⟨_, rfl⟩
      obtain ⟨E, hE⟩ : ∃ v, v = decGE (X ++ Y) := ⟨_, rfl⟩
      rw [← hD, ← hE] at DE0 RD0
      have DE := Lib.hid DE0
      have RD := Lib.hid RD0
      have EN := Lib.hid EN0
      have RN := Lib.hid RN0
      have AW := Lib.hid (fun (wx : World) (hx : Tbs wx) => awake4_any wx hx)
      have hYY := hY.symm
      have hcap' : (2 : Int) ≤ (cap : Int) := by omega
      have hEE : (E == E) = true := by simp
      rw [hlen]
      have HROW := Lib.hid hrow
      have HGG := Lib.hid hGG
      have HX01 := Lib.hid hx01
      have HP2 := Lib.hid hp2
      have HQ0 := Lib.hid hq0
      have HLN := Lib.hid hlen
      clear hrow hA hGG hAe hx0 hx01 hx02 hmem hp0 hq0 hv0 hp2 RN0 EN0 DE0 RD0 hX hY hD hE e1 e2 hes hgl1 hgl2 C1 hlen
      obtain rfl | rfl : b = 0 ∨ b = 1 := by omega
      · go_wp2_with (first
          | (go_at_call 12; (with_reducible refine (EN.out _ _ hG (HT.out.at hB)).mono ?_); rintro e wn ⟨rfl, hbn⟩; replace hG := hG.go hbn; replace hB := hB.trans (hbn.mono hB.size); clear hbn)
          | (go_at_call 13; (with_reducible refine (RN.out _ _ hG).mono ?_); rintro e wn ⟨rfl, hbn⟩; replace hG := hG.go hbn; replace hB := hB.trans (hbn.mono hB.size); clear hbn)
          | (go_at_call 18; (with_reducible refine (DE.out _ (HT.out.at hB)).mono ?_); rintro e wn ⟨hbn, v, rfl, hv⟩; replace hB := hB.trans (hbn.mono hB.size); clear hbn)
          | (go_at_call 19; (with_reducible refine (RD.out _).mono ?_); rintro e wn ⟨hbn, u, rfl, hu⟩; replace hv := hv.go hbn; replace hB := hB.trans (hbn.mono hB.size); clear hbn)
          | (go_at_call 22; (with_reducible refine (same_true _ _ _ _ hv hu).mono ?_); rintro e wn ⟨rfl, hbn⟩; replace hB := hB.trans (hbn.mono hB.size); clear hbn)
          | (go_at_call 9; (with_reducible refine (AW.out _ (HT.out.at hB)).mono ?_); rintro e wn ⟨rfl, hbn⟩; replace hB := hB.trans (hbn.mono hB.size); clear hbn))
        go_ret
        exact ⟨rfl, hB⟩
      · obtain ⟨m1e, m1s⟩ := moreG_enc
        have RM0 := fun (v : Value) (wx : World) (h : GroupsAt wx.heap.size wx v (longG ++ [(4, [(8, r6), (1, z32)])])) => renc_any v _ wx h (by decide) (by rw [cnt_append, longG_cnt]; decide)
        rw [m1e, m1s] at RM0
        have EM0 := fun (v : Value) (wx : World) (h : GroupsAt wx.heap.size wx v (longG ++ [(4, [(8, r6), (1, z32)])])) (hx : Tbs wx) => enc_any v _ wx h (by decide) (by rw [cnt_append, longG_cnt]; decide) hx
        rw [m1e, m1s] at EM0
        have RM := Lib.hid RM0
        have EM := Lib.hid EM0
        have hbw := hB.size
        have hq1 := empty_str (a := ⟨#[]⟩) rfl
        have hq2 := same_str (a := ⟨#[]⟩) (b := ⟨#[]⟩) rfl
        have hg5 : (5 : Nat) ≤ 5 := Nat.le_refl _
        clear RM0 EM0 m1e m1s hG
        go_upto_region 14 with (at_builtin; refine wpList_append_lies _ rfl (.tmp 45) (.tmp 52) 23 rfl w.heap.size 28 ipg _ 2 32 hug hipg hg0 hg1 hg2 rfl (by decide) _ 2 (gCells A) rfl (hown.alloc _) ⟨wr.heap.size, 0, none⟩ 1 1 [.int .i64 4, .slice a0 2 c0] rfl rfl (cells_new _ _ _ _ rfl) (by intro u hu; simp at hu; rcases hu with rfl | rfl <;> rfl) (by decide) (by unfold maxLen; omega) (by omega) (by simp; omega) _ rfl ?_; intro g' cap' w3 hown3 hgrow hat hlt3)
        have hat2 : (Value.slice (some ⟨gl, 0, none⟩) A.length cap).ownBlock = some g' ∨ g' = (wr.alloc (.cells #[.int .i64 4, .slice a0 2 c0] 28)).heap.size := hat
        have hgw3 : wr.grownBy w3 (Value.slice (some ⟨gl, 0, none⟩) A.length cap).ownBlock := gtrans (galloc wr _ _) hgrow
        have hown4 : w3.ownsRow w.heap.size 28 2 (.slice (some ⟨g', 0, none⟩) (A.length + 1) cap') (A.length + 1) (gCells A ++ [.int .i64 4, .slice a0 2 c0]) := by rw [HLN.out]; exact hown3
        have hpush := HROW.out.push (v' := .slice (some ⟨g', 0, none⟩) (A.length + 1) cap') (k := 4) hown4 hgw3 (by
          rcases hat2 with h | h
          · exact .inl (by rw [h]; rfl)
          · refine .inr fun b e => ?_
            cases e
            show wr.heap.size ≤ g'
            rw [h]; simp) HP2.out (fun hn b e => by
              refine HQ0.out (fun h => ?_) b ?_
              · have := congrArg List.length h
                rw [pairs_length] at this
                cases this
              · rw [← e]; cases a0 <;> rfl)
        have hcap3 : 3 ≤ cap' := by
          rcases hown3.2 with ⟨h, -⟩ | ⟨g, c, cur, h, -, -, hnc, -⟩
          · cases h
          · cases h; omega
        have hB3 : Below w.heap.size w w3 := hB.grown hgw3 hB.size (fun b e => (HROW.out.1.lt b e).1)
        have hG3 := hpush.groups
        rw [grpsOf_append, HGG.out, HLN.out] at hG3
        have hG2 := hG3.take 2 (by decide)
        rw [moreG_take] at hG2
        have hcc : (2 : Int) ≤ (cap' : Int) := by omega
        clear hB hpush hown3 hown4 hgrow hgw3 hat hat2 hown hcell
        have hB := hB3
        clear hB3
        go_wp2_with (first
          | (go_at_call 12; (with_reducible refine (EM.out _ _ hG3 (HT.out.at hB)).mono ?_); rintro e wn ⟨rfl, hbn⟩; replace hG3 := hG3.go hbn; replace hG2 := hG2.go hbn; replace hB := hB.trans (hbn.mono hB.size); clear hbn)
          | (go_at_call 13; (first | (with_reducible refine (RM.out _ _ hG3).mono ?_) | (with_reducible refine (RN.out _ _ hG2).mono ?_)); rintro e wn ⟨rfl, hbn⟩; replace hG3 := hG3.go hbn; replace hG2 := hG2.go hbn; replace hB := hB.trans (hbn.mono hB.size); clear hbn)
          | (go_at_call 18; (with_reducible refine (DE.out _ (HT.out.at hB)).mono ?_); rintro e wn ⟨hbn, v, rfl, hv⟩; replace hB := hB.trans (hbn.mono hB.size); clear hbn)
          | (go_at_call 19; (with_reducible refine (RD.out _).mono ?_); rintro e wn ⟨hbn, u, rfl, hu⟩; replace hv := hv.go hbn; replace hB := hB.trans (hbn.mono hB.size); clear hbn)
          | (go_at_call 22; (with_reducible refine (same_true _ _ _ _ hv hu).mono ?_); rintro e wn ⟨rfl, hbn⟩; replace hB := hB.trans (hbn.mono hB.size); clear hbn)
          | (go_at_call 9; (with_reducible refine (AW.out _ (HT.out.at hB)).mono ?_); rintro e wn ⟨rfl, hbn⟩; replace hB := hB.trans (hbn.mono hB.size); clear hbn))
        go_ret
        exact ⟨rfl, hB⟩

end Go.Proofs.YtdmgmfdmakheiaaDoor
