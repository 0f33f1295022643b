/- The walk of the statement JsonReads. -/
import Derived.Test.YtdppdonaojdceaaGreatDoorJrde
import Derived.Test.YtdppdonaojdceaaGreatDoorJsm
import Derived.Test.YtdppdonaojdceaaGreatDoorMgu
set_option linter.unusedVariables false
set_option linter.unusedSimpArgs false
set_option maxHeartbeats 6400000
set_option maxRecDepth 100000
namespace Go.Proofs.YtdppdonaojdceaaGreatDoor
open Go Go.ChangeShapes Go.WideShapes Go.ChangeAt Go.RowKit
theorem dec_uniq {s:ByteArray} {x y:ND} {a b:Int} (h:DecIs s x a) (k:DecIs s y b):x=y∧a=b:=by
 rcases h with ⟨h0,h1,h2,h3,h4⟩ | ⟨h0,h1,h2⟩
 ·rcases k with ⟨k0,k1,k2,k3,k4⟩ | ⟨k0,k1,k2⟩
  ·refine ⟨writeN_inj (d:=8) ?_ ?_ (h3.trans k3.symm),by rw [h0,k0]⟩
   ·unfold validW;rw [h1,h2];rfl
   ·unfold validW;rw [k1,k2];rfl
  ·exact absurd h3 (k2 x h1 h2 h4)
 ·rcases k with ⟨k0,k1,k2,k3,k4⟩ | ⟨k0,k1,k2⟩
  ·exact absurd k3 (h2 y k1 k2 k4)
  ·exact ⟨by rw [h1,k1],by rw [h0,k0]⟩
theorem ne_lit {k z:Int} (h:k ≠ z):(k == z)=false:=by simpa using h
theorem rencas_at {D:Nat} {Sx:Nat→Prop} (k:Int) (F:Nat) (cs:List Value) (x:ND) (w:World) (S:ByteArray) (E:Int) (h:NodeIn D Sx w cs x) (hF:k=1∧F=21∨k=2∧F=22∨k=3∧F=23)
 (EN:∀wx,Below w.heap.size w wx→Calls Tryz.prog F #[.agg cs.toArray] wx (EncW S E wx)):Calls Tryz.prog 10 #[.int .i64 k,.agg cs.toArray] w (EncW S E w):=by
 obtain ⟨a1,l1,c1,a2,l2,c2,rfl⟩:=h.slices
 clear h
 go_enter Tryz.func10,Tryz.ntmps10
 go_upto_region 1 with fail
 generalize ae:w.alloc _=w1
 obtain ⟨b1,k1⟩:=Al ae
 clear ae
 have f1:=six_of k1
 have EN:=Hh (EN w1 b1)
 unfold EncW at EN
 clear k1
 rcases hF with ⟨rfl,rfl⟩ | ⟨rfl,rfl⟩ | ⟨rfl,rfl⟩ <;> (
  go_wp2_with ((with_reducible refine (EN.out).mono ?_);rintro e w4 ⟨rfl,hb4⟩)
  refine bodyPost_ret (v:=.tuple #[.string S,.int .i64 E]) ?_ rfl ?_
  ·simp [results,Tryz.results10,go_sem]
  ·exact ⟨rfl,b1.trans (hb4.mono b1.size)⟩)
theorem rencas_no {D:Nat} {Sx:Nat→Prop} (k:Int) (cs:List Value) (x:ND) (w:World) (h:NodeIn D Sx w cs x) (hk:k<1∨3<k):Calls Tryz.prog 10 #[.int .i64 k,.agg cs.toArray] w (EncW ⟨#[]⟩ 2 w):=by
 obtain ⟨a1,l1,c1,a2,l2,c2,rfl⟩:=h.slices
 have b1:=(Br w.heap.size w).alloc (o:=.cells #[.int .i64 x.kind,.bool x.bool,.int .i64 x.num,.string x.text,.slice a1 l1 c1,.slice a2 l2 c2] 30) (Lr _)
 have n1:=ne_lit (show k ≠ 1 by omega)
 have n2:=ne_lit (show k ≠ 2 by omega)
 have n3:=ne_lit (show k ≠ 3 by omega)
 clear h hk
 go_enter Tryz.func10,Tryz.ntmps10
 go_upto_region 1 with fail
 generalize w.alloc _=w1 at b1 ⊢
 go_wp2
 refine bodyPost_ret (v:=.tuple #[.string ⟨#[]⟩,.int .i64 2]) ?_ rfl ?_
 ·simp [results,Tryz.results10,go_sem]
 ·exact ⟨rfl,b1⟩
theorem rdecas_at (k:Int) (F:Nat) (s:ByteArray) (w:World) (P:ND→Int→Prop) (hF:k=1∧F=25∨k=2∧F=26∨k=3∧F=27)
 (DE:∀wx,Below w.heap.size w wx→w.heap.size<wx.heap.size→Calls Tryz.prog F #[.string s] wx (DecW P wx)):Calls Tryz.prog 14 #[.int .i64 k,.string s] w (DecW P w):=by
 go_enter Tryz.func14,Tryz.ntmps14
 go_upto_region 1 with fail
 generalize ae:w.alloc _=w1
 obtain ⟨b1,k1⟩:=Al ae
 clear ae
 have HZ:=Hh (lt_of_block k1)
 have DE:=Hh (DE w1 b1 HZ.out)
 have HB:=Hh b1
 have HR:=Hh k1
 unfold DecW at DE
 clear b1 k1
 rcases hF with ⟨rfl,rfl⟩ | ⟨rfl,rfl⟩ | ⟨rfl,rfl⟩ <;> (
  go_wp2_with ((with_reducible refine (DE.out).mono ?_);rintro e w4 ⟨cs,x,er,rfl,hm,hb4,hP⟩;go_loud ((obtain ⟨a1,l1,c1,a2,l2,c2,hcs⟩:=hm.slices);subst hcs;(have hr4:=(hb4.block _ (lt_of_block HR.out)).trans HR.out);(have f1:=free_six hr4);(have cz:=six_of hr4);(have HM:=Hh hm);(have HP:=Hh hP);(have HR4:=Hh hr4);(have HB4:=Hh hb4);clear hm hP hr4 hb4))
  refine bodyPost_ret (v:=.tuple #[.agg #[.int .i64 x.kind,.bool x.bool,.int .i64 x.num,.string x.text,.slice a1 l1 c1,.slice a2 l2 c2],.int .i64 er]) ?_ rfl ?_
  ·obtain ⟨q0,q1,q2,q3,q4,q5⟩:=six_of (six_put HR4.out (.int .i64 x.kind) (.bool x.bool) (.int .i64 x.num) (.string x.text) (.slice a1 l1 c1) (.slice a2 l2 c2))
   simp only [set6] at q0 q1 q2 q3 q4 q5
   simp [results,Tryz.results14,go_sem,q0,q1,q2,q3,q4,q5]
  ·have hgs:=grown_set6 w4 w.heap.size (.int .i64 x.kind) (.bool x.bool) (.int .i64 x.num) (.string x.text) (.slice a1 l1 c1) (.slice a2 l2 c2)
   have hz:=HZ.out
   refine ⟨_,x,er,rfl,(HM.out.same fun b hb=>hgs.block b hb.2 (by intro e;have:=Option.some.inj e;omega)).mono fun b hb=>⟨by omega,Ll hb.2 hgs.size⟩,(HB.out.trans (HB4.out.mono HB.out.size)).grown hgs (HB.out.trans (HB4.out.mono HB.out.size)).size (fun k hk=>by cases hk;exact Lr _),HP.out⟩)
theorem rdecas_no (k:Int) (s:ByteArray) (w:World) (P:ND→Int→Prop) (hk:k<1∨3<k) (hP:P nd0 2):Calls Tryz.prog 14 #[.int .i64 k,.string s] w (DecW P w):=by
 have HP:=Hh hP
 have n1:=ne_lit (show k ≠ 1 by omega)
 have n2:=ne_lit (show k ≠ 2 by omega)
 have n3:=ne_lit (show k ≠ 3 by omega)
 clear hk hP
 go_enter Tryz.func14,Tryz.ntmps14
 go_upto_region 1 with fail
 generalize ae:w.alloc _=w1
 obtain ⟨b1,k1⟩:=Al ae
 clear ae
 have HB:=Hh b1
 have HR3:=Hh k1
 have f1:=free_six k1
 have cz:=six_of k1
 clear b1 k1
 go_wp2
 refine bodyPost_ret (v:=.tuple #[.agg #[.int .i64 0,.bool false,.int .i64 0,.string ⟨#[]⟩,.slice none 0 0,.slice none 0 0],.int .i64 2]) ?_ rfl ?_
 ·obtain ⟨q0,q1,q2,q3,q4,q5⟩:=six_of (six_put HR3.out (.int .i64 0) (.bool false) (.int .i64 0) (.string ⟨#[]⟩) (.slice none 0 0) (.slice none 0 0))
  simp only [set6] at q0 q1 q2 q3 q4 q5
  simp [results,Tryz.results14,go_sem,q0,q1,q2,q3,q4,q5]
 ·exact ⟨_,nd0,2,rfl,(node_leaf _ _ 0 false 0 ⟨#[]⟩ (by decide)).deeper (by decide),HB.out.grown (grown_set6 _ w.heap.size (.int .i64 0) (.bool false) (.int .i64 0) (.string ⟨#[]⟩) (.slice none 0 0) (.slice none 0 0)) HB.out.size (fun k hk=>by cases hk;exact Lr _),HP.out⟩
theorem fo_uniq {k:Int} {s:ByteArray} {x y:ND} {e f:Int} (h:FoIs k s x e) (g:FoIs k s y f):x=y∧e=f:=by
 rcases h with ⟨k1,h⟩ | ⟨k1,h⟩ | ⟨k1,h⟩ | ⟨k1,h⟩ <;> rcases g with ⟨k2,g⟩ | ⟨k2,g⟩ | ⟨k2,g⟩ | ⟨k2,g⟩
 case inl.inl=>exact dec_uniq h g
 case inr.inl.inr.inl=>exact cdec_uniq h g
 case inr.inr.inl.inr.inr.inl=>exact mdec_uniq h g
 case inr.inr.inr.inr.inr.inr=>exact ⟨h.1.trans g.1.symm,h.2.trans g.2.symm⟩
 all_goals (exfalso;omega)
theorem gs_of {s:ByteArray} {c:UInt8} {t:List UInt8} (h:s.data.toList=c::t):gsI s=gsB (c.toNat:Int):=by unfold gsI;rw [h]
theorem gs_c (n:Nat) (hn:n≤256):gsB ((UInt8.ofNat (32 * 5+headV n)).toNat:Int)=2:=by
 have h:32 * 5+headV n≤185:=by unfold headV;(repeat' split) <;> omega
 rw [UInt8.toNat_ofNat',Nat.mod_eq_of_lt (by omega)]
 obtain ⟨z,hz⟩:∃z:Int,z=((32 * 5+headV n:Nat):Int):=⟨_,rfl⟩
 rw [←hz]
 have e1:(z == 123)=false:=neq_lit (by omega)
 have e2:decide (160≤z)=true:=decide_eq_true (by omega)
 have e3:decide (z≤187)=true:=decide_eq_true (by omega)
 simp only [gsB,st1,st2,e1,e2,e3];rfl
theorem gs_m (n:Nat):gsB ((UInt8.ofNat (mapH n).1).toNat:Int)=3:=by
 unfold mapH
 split
 ·show gsB ((UInt8.ofNat (128+n)).toNat:Int)=3
  rw [UInt8.toNat_ofNat',Nat.mod_eq_of_lt (by omega)]
  obtain ⟨z,hz⟩:∃z:Int,z=((128+n:Nat):Int):=⟨_,rfl⟩
  rw [←hz]
  have e1:(z == 123)=false:=neq_lit (by omega)
  have e2:decide (160≤z)=false:=decide_eq_false (by omega)
  have e4:decide (128≤z)=true:=decide_eq_true (by omega)
  have e5:decide (z≤143)=true:=decide_eq_true (by omega)
  simp only [gsB,st1,st2,st3,e1,e2,e4,e5];rfl
 ·decide
theorem gs_map {x:ND} (K:KitF x) (h5:x.kind=5) (hn:x.items.length≤256) {k:Int} (h1:1≤k) (h3:k≤3):gsI (foS k x)=k:=by
 rcases (by omega:k=1∨k=2∨k=3) with rfl | rfl | rfl
 ·obtain ⟨t,ht⟩:∃t,writeN 8 x=123::t:=⟨_,by unfold writeN;rw [if_neg (by omega),if_neg (by omega),if_neg (by omega),if_neg (by omega),if_pos h5]⟩
  show gsI (jsS x)=1
  rw [K.j.txt,gs_of (by rw [bA_data,ht])]
  rfl
 ·have e5:cMaj x=5:=by unfold cMaj;rw [if_neg (by omega),if_neg (by omega),if_neg (by omega),if_neg (by omega),if_pos h5]
  have e6:cCnt x=x.items.length:=by unfold cCnt;rw [if_neg (by omega),if_neg (by omega),if_neg (by omega)];simp [h5]
  obtain ⟨t,ht⟩:∃t,writeC 8 x=UInt8.ofNat (32 * 5+headV x.items.length)::t:=⟨_,by unfold writeC;rw [e5,e6];rfl⟩
  show gsI (csS x)=2
  rw [K.c.txt,gs_of (by rw [bC_data,ht])]
  exact gs_c _ hn
 ·have e5:pHd x=mapH x.items.length:=by unfold pHd;rw [if_neg (by omega),if_neg (by omega),if_neg (by omega),if_neg (by omega),if_pos h5]
  obtain ⟨t,ht⟩:∃t,writeP 8 x=UInt8.ofNat (mapH x.items.length).1::t:=⟨_,by rw [writeP_succ,e5];rfl⟩
  show gsI (mpS x)=3
  rw [K.m.txt,gs_of (by rw [bC_data,ht])]
  exact gs_m _
theorem rencas_any {D:Nat} {S:Nat→Prop} (k:Int) (cs:List Value) (x:ND) (w:World) (h:NodeIn D S w cs x) (hS:∀b,S b→b<w.heap.size) (K:KitF x) (hl:lowV D x) (hT:Ftab w):Calls Tryz.prog 10 #[.int .i64 k,.agg cs.toArray] w (EncW (foS k x) (foE k x) w):=by
 have h':∀wx,Below w.heap.size w wx→NodeIn D S wx cs x:=fun wx hb=>h.same fun b q=>hb.block b (hS b q)
 have hS':∀wx,Below w.heap.size w wx→∀b,S b→b<wx.heap.size:=fun wx hb b q=>Ll (hS b q) hb.size
 rcases fo_split k with rfl | rfl | rfl | hk
 ·exact rencas_at 1 _ cs x w _ _ h (.inl ⟨rfl,rfl⟩) fun wx hb=>jrenc_any cs x wx (h' wx hb) (hS' wx hb) hl (fun _=>⟨K.nums,Nat.le_trans K.j.len (by decide)⟩) (hT.below hb).u (hT.below hb).i
 ·exact rencas_at 2 _ cs x w _ _ h (.inr (.inl ⟨rfl,rfl⟩)) fun wx hb=>crenc_any cs x wx (h' wx hb) (hS' wx hb) hl (fun _=>⟨K.nums,Nat.le_trans K.c.len (by decide)⟩) (hT.below hb).u
 ·exact rencas_at 3 _ cs x w _ _ h (.inr (.inr ⟨rfl,rfl⟩)) fun wx hb=>mrenc_any cs x wx (h' wx hb) (hS' wx hb) hl (fun _=>⟨K.nums,Nat.le_trans K.m.len (by decide)⟩) (hT.below hb).u
 ·rw [(foS_none x hk).1,(foS_none x hk).2]
  exact rencas_no k cs x w h hk
theorem rdecas_any (k:Int) (s:ByteArray) (w:World) (hT:Ftab w):Calls Tryz.prog 14 #[.int .i64 k,.string s] w (DecW (FoIs k s) w):=by
 rcases fo_split k with rfl | rfl | rfl | hk
 ·refine rdecas_at 1 _ s w _ (.inl ⟨rfl,rfl⟩) fun wx hb h0=>(rdec_any s wx (hT.below hb).u (hT.below hb).i (by omega)).mono ?_
  rintro e w' ⟨cs,x,er,h1,h2,h3,h4⟩
  exact ⟨cs,x,er,h1,h2,h3,.inl ⟨rfl,h4⟩⟩
 ·refine rdecas_at 2 _ s w _ (.inr (.inl ⟨rfl,rfl⟩)) fun wx hb h0=>(crdec_any s wx (hT.below hb).u (by omega)).mono ?_
  rintro e w' ⟨cs,x,er,h1,h2,h3,h4⟩
  exact ⟨cs,x,er,h1,h2,h3,.inr (.inl ⟨rfl,h4⟩)⟩
 ·refine rdecas_at 3 _ s w _ (.inr (.inr ⟨rfl,rfl⟩)) fun wx hb h0=>(mrdec_any s wx (hT.below hb).u (by omega)).mono ?_
  rintro e w' ⟨cs,x,er,h1,h2,h3,h4⟩
  exact ⟨cs,x,er,h1,h2,h3,.inr (.inr (.inl ⟨rfl,h4⟩))⟩
 ·exact rdecas_no k s w _ hk (.inr (.inr (.inr ⟨hk,rfl,rfl⟩)))
theorem six_ints {w:World} {g:Nat} {form:Int} (h:w.heap[g]?=some (.cells #[.int .i64 form,.int .i64 1,.int .i64 2,.int .i64 3,.int .i64 0,.int .i64 4] 3 (0,0))) (j:Nat) (hj:j<6):∃k:Int,w.cell? ⟨g,j,none⟩=some (.int .i64 k):=by
 rcases (by omega:j=0∨j=1∨j=2∨j=3∨j=4∨j=5) with rfl | rfl | rfl | rfl | rfl | rfl <;> exact ⟨_,cell_blk h rfl⟩
theorem two_strs {w:World} {g:Nat} {S s:ByteArray} (h:w.heap[g]?=some (.cells #[.string S,.string s] 9 (0,0))) (j:Nat) (hj:j<2):∃t:ByteArray,w.cell? ⟨g,j,none⟩=some (.string t):=by
 rcases (by omega:j=0∨j=1) with rfl | rfl <;> exact ⟨_,cell_blk h rfl⟩
theorem forms8_walk (a:Option Addr) (len cap:Nat) (zs:List Int) (s:ByteArray) (form:Int) (w:World) (hn:NumsB w.heap.size w a len cap zs) (hT:Ftab w) :
 Calls Tryz.prog 3 #[.slice a len cap,.string s,.int .i64 form] w fun e w'=>e=.returned (.bool true)∧Below w.heap.size w w':=by
 have AW:=Hh (fun (wx:World) (hb:Below w.heap.size w wx)=>awake8_any wx (hT.below hb).p)
 have LI:=Hh (fun wx:World=>light_any a len cap wx)
 have HT:=Hh hT
 have RO:=Hh (roll_any a len cap zs w hn)
 clear hn hT
 by_cases h500:(len:Int)≤500
 ·rw [decide_eq_true h500] at LI
  clear h500
  by_cases hs5:(500:Int)<(s.size:Int)
  ·go_enter Tryz.func3,Tryz.ntmps3
   go_wp2_with (first
    | (go_at_call 5;(with_reducible refine (LI.out _).mono ?_);rintro e w3 ⟨rfl,rfl⟩)
    | (go_at_call 6;(with_reducible refine (AW.out _ (Br _ _)).mono ?_);rintro e w1 ⟨rfl,hb⟩))
   go_ret
   exact ⟨rfl,hb⟩
  ·go_enter Tryz.func3,Tryz.ntmps3
   go_upto_region 5 with (first
    | (go_at_call 5;(with_reducible refine (LI.out _).mono ?_);rintro e w3 ⟨rfl,rfl⟩)
    | (go_at_call 7;(with_reducible refine (RO.out).mono ?_);rintro e w2 ⟨rfl,hb2,hd2⟩;(have hg2:=hd2.lt))
    | (go_at_call 8;(with_reducible refine (kmap_litk w.heap.size w.heap.size 3 3 rfl (by decide) (by decide) _ hd2).mono ?_);rintro e w4 ⟨⟨cs1,x,rfl,hx,hm,hi,hvw,hc⟩,hg4,hd4⟩;obtain ⟨a1,l1,c1,a2,l2,c2,rfl⟩:=hx.slices))
   have K:KitF x:=KitF.ofMap (by decide) (by decide) hm hvw hc
   have HM:=Hh (Ai hm.kind hm.most)
   have hs4:=hg4.size
   have hB4:Below w.heap.size w w4:=hb2.grown hg4 hb2.size (fun k hk=>by cases hk;exact Lr _)
   generalize ae:w4.alloc _=w5
   obtain ⟨b5,k5⟩:=Al ae
   clear ae
   have H5:Hel 30 3 w5 w4.heap.size [.int .i64 x.kind,.bool x.bool,.int .i64 x.num,.string x.text,.slice a1 l1 c1,.slice a2 l2 c2] x:=⟨k5,(hx.same fun b hb=>b5.block b hb.2).mono fun b hb=>Ll hb.2 b5.size⟩
   have hB5:=hB4.trans (b5.mono hB4.size)
   generalize w4.heap.size=g8 at H5 ⊢
   clear hm hi hvw hc hx hg4 hd4 hs4 hB4 b5 k5 hb2 hd2 hg2 RO LI
   go_upto_region 6 with fail
   generalize ae:w5.alloc _=w6
   obtain ⟨b6,k6⟩:=Al ae
   clear ae
   have hl6:=lt_of_block k6
   have H6:=H5.below b6
   have HB6:=Hh (hB5.trans (b6.mono hB5.size))
   generalize w5.heap.size=g9 at k6 hl6 ⊢
   have HH:=Hh (fun wx (hb:Below w6.heap.size w6 wx)=>H6.below hb)
   have HI:=Hh (fun wx (hb:Below w6.heap.size w6 wx) j hj=>six_ints ((hb.block _ hl6).trans k6) j hj)
   have HK:=Hh K
   have HTT:Hid (∀wx,Below w6.heap.size w6 wx→Ftab wx):=Hh fun wx hb=>HT.out.below (HB6.out.trans (hb.mono HB6.out.size))
   clear K H5 hB5 b6 k6 hl6 H6 HT
   go_loopw [37] (fun i wr=>∃j:Nat,j≤6∧i=.int .i64 (j:Int)∧Below w6.heap.size w6 wr) (fun i _=>6 - (intOf i).toNat)
   case atStart=>exact ⟨0,by omega,rfl,Br _ _⟩
   case round=>
    obtain ⟨j,hj,rfl,hbr⟩:=hrel
    rcases (by omega:j=6∨j<6) with rfl | hj6
    ·have GS:=Hh (fun wx:World=>guess_any s wx)
     have RS:=Hh (fun wx:World=>rguess_any s wx)
     have GE:Hid (∀wx:World,Calls Tryz.prog 11 #[.string ⟨#[]⟩] wx fun e w'=>e=.returned (.int .i64 0)∧Below wx.heap.size wx w'):=Hh (fun wx:World=>guess_any ⟨#[]⟩ wx)
     generalize gsI s=gz at GS RS
     have hgz:(gz == gz)=true:=beq_self_eq_true _
     have HBR:=Hh hbr
     clear hbr
     go_wp2_with (first
      | (go_at_call 6;(with_reducible refine (AW.out _ (HB6.out.trans ((hc9.trans (hb9.mono hc9.size)).mono HB6.out.size))).mono ?_);rintro e w10 ⟨rfl,hb10⟩)
      | (go_at_call 12;(with_reducible refine (RS.out _).mono ?_);rintro e w8 ⟨rfl,hb8⟩;(have hc8:=HBR.out.trans (hb7.mono HBR.out.size));(have hc9:=hc8.trans (hb8.mono hc8.size)))
      | (go_at_call 11;(with_reducible refine (GS.out _).mono ?_);rintro e w7 ⟨rfl,hb7⟩)
      | (go_at_call 11;(with_reducible refine (GE.out _).mono ?_);rintro e w9 ⟨rfl,hb9⟩))
     go_ret
     have hz:=HB6.out.trans ((hc9.trans (hb9.mono hc9.size)).mono HB6.out.size)
     exact ⟨rfl,hz.trans (hb10.mono hz.size)⟩
    ·have hj6':(j:Int)<6:=by omega
     obtain ⟨k,hk⟩:=HI.out wr hbr j hj6
     have Hw:=HH.out wr hbr
     have f8:=six_of Hw.blk
     have EN:=encas_any k _ x wr Hw.nod (fun b hb=>hb) (clowV HK.out.valid _) (fun _=>HK.out.nums) (HTT.out wr hbr)
     have HBR:=Hh hbr
     have GS:Hid (1≤k→k≤3→gsI (foS k x)=k):=Hh fun h1 h3=>gs_map HK.out HM.out.1 HM.out.2 h1 h3
     have RN:Hid (∀wx,Below wr.heap.size wr wx→Calls Tryz.prog 10 #[.int .i64 k,.agg #[.int .i64 x.kind,.bool x.bool,.int .i64 x.num,.string x.text,.slice a1 l1 c1,.slice a2 l2 c2]] wx fun e w'=>e=.returned (.tuple #[.string (foS k x),.int .i64 (foE k x)])∧Below wx.heap.size wx w'):=Hh fun wx hb=>rencas_any k _ x wx (Hw.below hb).nod (fun b hb=>hb) HK.out (clowV HK.out.valid _) (HTT.out wx (HBR.out.trans (hb.mono HBR.out.size)))
     have HF8:=Hh (fun wx (hb:Below wr.heap.size wr wx)=>six_of (Hw.below hb).blk)
     unfold EncW at EN
     have EN:=Hh EN
     generalize foS k x=S at EN RN GS
     generalize foE k x=E at EN RN
     clear Hw hbr HK HM HI HH
     go_upto_region 9 with ((with_reducible refine (EN.out).mono ?_);rintro e w7 ⟨rfl,hb7⟩)
     have f8b:=HF8.out w7 hb7
     clear f8 hk
     go_upto_region 10 with ((with_reducible refine (RN.out _ hb7).mono ?_);rintro e w9 ⟨rfl,hb8⟩)
     have hc8:=hb7.trans (hb8.mono hb7.size)
     clear f8b hb7 hb8 EN RN HF8
     have GU:=Hh (fun wx:World=>guess_any S wx)
     have RU:=Hh (fun wx:World=>rguess_any S wx)
     have es:(S.toList == S.toList)=true:=beq_self_eq_true _
     rcases (by omega:k<1∨(1≤k∧k≤3)∨(1≤k∧3<k)) with h1 | ⟨h1,h3⟩ | ⟨h1,h3⟩
     rotate_left
     rw [GS.out h1 h3] at GU RU
     rotate_right
     all_goals try generalize gsI S=gz at GU RU
     all_goals (
      clear GS
      have e2:(E == E)=true:=beq_self_eq_true _
      go_upto_region 13 with (first
       | (go_at_call 12;(with_reducible refine (RU.out _).mono ?_);rintro e w9 ⟨rfl,hb9⟩;(have hc8:=hc8.trans (hb9.mono hc8.size)))
       | (go_at_call 11;(with_reducible refine (GU.out _).mono ?_);rintro e w9 ⟨rfl,hb9⟩;(have hc8:=hc8.trans (hb9.mono hc8.size))))
      generalize ae:w9.alloc _=w12
      obtain ⟨b12,k12⟩:=Al ae
      clear ae
      have hl12:=lt_of_block k12
      have HC:Hid (∀wx,Below w12.heap.size w12 wx→Below w6.heap.size w6 wx):=Hh fun wx hb=>HBR.out.trans (((hc8.trans (b12.mono hc8.size)).trans (hb.mono (hc8.trans (b12.mono hc8.size)).size)).mono HBR.out.size)
      generalize w9.heap.size=g12 at k12 hl12 ⊢
      have HT2:=Hh (fun wx (hb:Below w12.heap.size w12 wx) j hj=>two_strs ((hb.block _ hl12).trans k12) j hj)
      clear b12 k12 hl12 GU RU h1 hc8
      go_loopw [86] (fun i wr=>∃m:Nat,m≤2∧i=.int .i64 (m:Int)∧Below w12.heap.size w12 wr) (fun i _=>2 - (intOf i).toNat)
      case atStart=>exact ⟨0,by omega,rfl,Br _ _⟩
      case round=>
       obtain ⟨m,hm,rfl,hbr2⟩:=hrel
       have HB2:=Hh hbr2
       rcases (by omega:m=2∨m<2) with rfl | hm2
       ·clear hbr2
        go_wp2
        go_roundw
        case rel=>exact ⟨j+1,by omega,by go_num,HC.out _ HB2.out⟩
        case measure=>simp [intOf];omega
       ·have hm2':(m:Int)<2:=by omega
        obtain ⟨xs,hxs⟩:=HT2.out _ hbr2 m hm2
        have DE:=Hh (decas_any k xs wr (HTT.out _ (HC.out _ hbr2)))
        unfold DecW at DE
        clear hbr2
        go_upto_region 16 with ((with_reducible refine (DE.out).mono ?_);rintro e w13 ⟨ms,y,er,rfl,hy,hb13,hd13⟩;go_loud ((obtain ⟨p1,q1,r1,p2,q2,r2,hcs⟩:=hy.slices);subst hcs))
        generalize ae:w13.alloc _=w14
        obtain ⟨b14,k14⟩:=Al ae
        clear ae
        have H14:Hel 30 9 w14 w13.heap.size [.int .i64 y.kind,.bool y.bool,.int .i64 y.num,.string y.text,.slice p1 q1 r1,.slice p2 q2 r2] y:=⟨k14,(hy.same fun b hb=>b14.block b hb.2).mono fun b hb=>Ll hb.2 b14.size⟩
        have hc13:=HB2.out.trans (hb13.mono HB2.out.size)
        have hc14:=hc13.trans (b14.mono hc13.size)
        generalize w13.heap.size=g14 at H14 ⊢
        have RD:=Hh (rdecas_any k xs w14 (HTT.out _ (HC.out _ hc14)))
        unfold DecW at RD
        clear hy b14 k14 hc13 hb13 hxs DE
        go_upto_region 17 with ((with_reducible refine (RD.out).mono ?_);rintro e w15 ⟨ms,z,er2,rfl,hz,hb15,hd15⟩;go_loud ((obtain ⟨rfl,rfl⟩:=fo_uniq hd13 hd15);(obtain ⟨p3,q3,r3,p4,q4,r4,hcs⟩:=hz.slices);subst hcs))
        generalize ae:w15.alloc _=w16
        obtain ⟨b16,k16⟩:=Al ae
        clear ae
        have H16:Hel 30 9 w16 w15.heap.size [.int .i64 y.kind,.bool y.bool,.int .i64 y.num,.string y.text,.slice p3 q3 r3,.slice p4 q4 r4] y:=⟨k16,(hz.same fun b hb=>b16.block b hb.2).mono fun b hb=>Ll hb.2 b16.size⟩
        have hb16:=hb15.trans (b16.mono hb15.size)
        have HY:=H14.below hb16
        generalize w15.heap.size=g16 at H16 ⊢
        have fy:=six_of HY.blk
        have fz:=six_of H16.blk
        have SM:=Hh (rsame_any 9 9 _ _ _ _ y y w16 HY.nod H16.nod (fun b hb=>hb) (fun b hb=>hb))
        have e3:(er == er)=true:=beq_self_eq_true _
        have HC16:=Hh (hc14.trans (hb16.mono hc14.size))
        clear hz b16 k16 H14 H16 HY hb15 hd13 hd15 hb16 hc14 RD
        go_wp2_with (go_at_call 15;(with_reducible refine (SM.out).mono ?_);rintro e w17 ⟨bz,rfl,hbz,hb17⟩;obtain rfl:bz=true:=hbz.2 (by first | exact rfl | trivial))
        go_roundw
        case rel=>exact ⟨m+1,by omega,by go_num,HC16.out.trans (hb17.mono HC16.out.size)⟩
        case measure=>simp [intOf];omega)
 ·rw [decide_eq_false h500] at LI
  clear h500
  go_enter Tryz.func3,Tryz.ntmps3
  go_wp2_with (first
   | (go_at_call 5;(with_reducible refine (LI.out _).mono ?_);rintro e w3 ⟨rfl,rfl⟩)
   | (go_at_call 6;(with_reducible refine (AW.out _ (Br _ _)).mono ?_);rintro e w1 ⟨rfl,hb⟩))
  go_ret
  exact ⟨rfl,hb⟩
end Go.Proofs.YtdppdonaojdceaaGreatDoor