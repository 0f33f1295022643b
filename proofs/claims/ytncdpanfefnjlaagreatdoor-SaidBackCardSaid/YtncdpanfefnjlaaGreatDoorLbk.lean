import Derived.Test.YtncdpanfefnjlaaGreatDoorLdoo
set_option linter.unusedVariables false
set_option linter.unusedSimpArgs false
set_option maxHeartbeats 6400000
set_option maxRecDepth 100000
namespace Go.Proofs.YtncdpanfefnjlaaGreatDoor
open Go.Proofs.Tryz
open Go Go.ChangeShapes Go.WideShapes Go.ChangeAt Go.RowKit
def sI:Bt:=⟨#[105]⟩
theorem oR:∀l,l ∈ [sD,sI]→l.size≤1∧aV l=true:=by decide +kernel
theorem aKp:sV ∉ [sD,sI]:=by decide +kernel
def RM (d:Nat) (w:World) (y:ND) (e:Ending) (w':World):Prop:=∃ (a:Option Addr) (l c:Nat) (b:Option Addr) (m n:Nat) (k:Int) (er:Int),e=.returned (.tuple #[.agg #[Iz k,.bool false,Iz 0,.string ⟨#[]⟩,.slice a l c,.slice b m n],Iz er])∧Below w.heap.size w w'∧(er=0∧k=5∧aB 8 y=true∧aC d (fun i=>w.heap.size≤i∧i<w'.heap.size) w' [Iz 5,.bool false,Iz 0,.string ⟨#[]⟩,.slice a l c,.slice b m n] y∨er=1∧aB 8 y=false)
theorem aIx.gen {d:Nat} {w w':World} {y:ND} {e:Ending} (h:aIx (d+1) w y e w'):RM (d+1) w y e w':=by
 rcases h with ⟨hv,vn,vi,rfl,hn,hb⟩ | ⟨hv,rfl,hb⟩
 ·obtain ⟨a,l,c,b,m,n,he⟩:=hn.slices
  simp only [Bq,Di] at he;obtain ⟨-,-,-,-,rfl,rfl⟩:=he;exact ⟨a,l,c,b,m,n,5,0,rfl,hb,.inl ⟨rfl,rfl,hv,hn⟩⟩
 ·exact ⟨none,0,0,none,0,0,0,1,rfl,hb,.inr ⟨rfl,hv⟩⟩
theorem MM (a:Option Addr) (len cap:Nat) (zs:List Int) (bf:Bt) (form:Int) (hform:wI form) (w:World) (hn:tE w.heap.size w a len cap zs) (hT:IA w) :
 Calls prog 3 #[.slice a len cap,.string bf,Iz form] w fun e w'=>e=.returned (.bool true)∧Below w.heap.size w w':=by
 have AW:=Hh (fun (wx:World) (hb:Below w.heap.size w wx)=>MN wx (hT.below hb))
 have LI:=Hh (fun wx:World=>WM a len cap wx)
 have HT:=Hh hT;have MO:Hid (∀wx,Calls prog 9 #[Iz form,Iz 3] wx fun e w'=>e=.returned (Iz (form % 3))∧wx=w'):=Hh (fun wx=>SO form 3 wx (by decide) (by decide) hform.1 hform.2)
 have hmod:0≤form % 3∧form % 3<3:=by omega
 have RO:=Hh (aAa a len cap zs w hn);clear hn hT
 by_cases h500:(len:Int)≤500
 ·rw [An h500] at LI
  clear h500
  by_cases hs1:(100:Int)<(bf.size:Int)
  ·clear hform hmod
   go_enter func3,ntmps3
   go_wp2_with (first
    | (go_at_call 5;(with_reducible refine (LI.o _).mono ?_);rintro e w3 ⟨rfl,rfl⟩)
    | (go_at_call 6;(with_reducible refine (AW.o _ (Br _ _)).mono ?_);rintro e w1 ⟨rfl,hb⟩))
   go_ret
   exact ⟨rfl,hb⟩
  ·have HBF:Hid (bf.size≤100):=Hh (by omega)
   clear hform
   go_enter func3,ntmps3
   go_upto_region 4 with (first
    | (go_at_call 5;(with_reducible refine (LI.o _).mono ?_);rintro e w3 ⟨rfl,rfl⟩)
    | (go_at_call 8;(with_reducible refine (RO.o).mono ?_);rintro e w2 ⟨rfl,hb2,hd2⟩;(have hg2:=hd2.lt))
    | (go_at_call 7;(with_reducible refine (WX w.heap.size w.heap.size 4 4 rfl (by decide) (by decide) _ hd2).mono ?_);rintro e w4 ⟨⟨cs1,n,rfl,hx,hm,hi,hvw,hc⟩,hg4,hd4⟩;obtain ⟨a1,l1,c1,b1,m1,n1,rfl⟩:=hx.slices))
   have hw4:eF 4 n=true:=FQ (d:=4) (by decide) hm (fun y hy=>xV (hvw y hy))
   have hm7:cH 7 n:=hm.mono (by decide)
   have hn8:aO 8 n=true:=KD (by decide) (dU hw4) (eZ hw4)
   have hc8:bG 8 n≤62900:=by rw [AF (e:=4) (by decide) (dU hw4)];exact Ae hc (by decide)
   have N5:=NB.new hx (fun i q=>q.2)
   have hB4:Below w.heap.size w w4:=hb2.grown hg4 hb2.size (fun k hk=>by cases hk;exact Lr _)
   have hB5:=hB4.trans ((cO w4 (.cells (Na n a1 l1 c1 b1 m1 n1) 28)).mono hB4.size);generalize w4.alloc _=w5 at N5 hB5 ⊢;generalize w4.heap.size=g5 at N5 ⊢;have HB5:=Hh hB5;clear hx hm hvw hc hg4 hd4 hb2 hd2 hg2 RO LI hB4 hB5 hw4
   go_upto_region 5 with ((with_reducible refine (MO.o _).mono ?_);rintro e w6 ⟨rfl,rfl⟩)
   obtain ⟨k,hk⟩:∃k:Int,k=1+form % 3:=⟨_,rfl⟩;rw [←hk];have hk1:1≤k∧k≤3:=by omega
   have O:eR n [sD,sI] cS k:=SF hm7 hn8 hc8 hi (by decide) (by simp) aKp oR (LB hk1.1 hk1.2)
   have HO:=Hh O;have HKW:Hid (wI k):=Hh (by unfold wI;omega)
   have P1:Hid (Calls prog 10 #[.agg (Na n a1 l1 c1 b1 m1 n1),.slice (some ⟨w5.heap.size,0,none⟩) 2 2,.string ⟨#[75,69,82,73]⟩,Iz k] (w5.alloc (.cells #[.string ⟨#[100]⟩,.string ⟨#[105]⟩] 9)) (gP 4 (aW (spM n [sD,sI] cS k) cS k) (foS k (aW (spM n [sD,sI] cS k) cS k)) (w5.alloc (.cells #[.string ⟨#[100]⟩,.string ⟨#[105]⟩] 9)))):=
    Hh (CS (d:=3) (Nc n a1 l1 c1 b1 m1 n1) n _ [sD,sI] cS k _ O (N5.below (cO _ _)).nod (fun b q=>q) (oJ [sD,sI] (by decide) (fun s hs=>Ae (oR s hs).1 (by decide))) (by decide) HKW.o (HT.o.below (HB5.o.trans ((cO w5 _).mono HB5.o.size))))
   have C1:Hid (∀wx:World,Below w.heap.size w wx→Calls prog 11 #[.string (foS k (aW (spM n [sD,sI] cS k) cS k)),.slice (some ⟨wx.heap.size,0,none⟩) 2 2] (wx.alloc (.cells #[.string ⟨#[100]⟩,.string ⟨#[105]⟩] 9)) (gP 9 (aW (spM n [sD,sI] cS k) cS k) (spD n [sD,sI] cS k) (wx.alloc (.cells #[.string ⟨#[100]⟩,.string ⟨#[105]⟩] 9)))):=
    Hh fun wx hbx=>wD n _ [sD,sI] [sD,sI] cS k _ O (fun _=>Iff.rfl) (by decide) (oJ [sD,sI] (by decide) (fun s hs=>Ae (oR s hs).1 (by decide))) (fun b q=>q) (HT.o.below (hbx.trans ((cO wx _).mono hbx.size)))
   have HX7:=Hh O.mapX;obtain ⟨i1,hi1,hi1y⟩:=TD O.mapX (O.get.2 sD (by simp))
   obtain ⟨i2,hi2,hi2y⟩:=TD O.mapX (O.get.2 sI (by simp))
   have HRL:=Hh (fun hv=>O.relab (l:=sD) (bf:=bf) (by simp) hi1 hv)
   have HI1:=Hh (Ai hi1 hi1y);have HI2:=Hh (Ai hi2 hi2y);have HDZ:Hid ((spD n [sD,sI] cS k).size=44):=Hh (lC _).1;generalize spD n [sD,sI] cS k=dg at C1 HI1 HI2 HDZ;generalize aW (spM n [sD,sI] cS k) cS k=X at P1 C1 HX7 HRL HI1 HI2;obtain ⟨s,hs⟩:∃s,s=foS k X:=⟨_,rfl⟩;rw [←hs] at P1 C1;have HFS:Hid (foS k X=s):=Hh hs.symm;clear hs;unfold gP at P1 C1;have x5:=N5.six;clear hk hk1 O HO hm7 hn8 hc8 hi hi1 hi1y hi2 hi2y N5 MO hmod
   go_upto_region 6 with ((with_reducible refine (P1.o).mono ?_);rintro e w6 ⟨cx,rfl,hx,hb6⟩;obtain ⟨a2,l2,c2,b2,m2,n2,rfl⟩:=hx.slices)
   have N7:=NB.new hx (fun i q=>q.2)
   have hB6:=(cO w5 (.cells #[.string ⟨#[100]⟩,.string ⟨#[105]⟩] 9)).trans ((hb6.trans ((cO w6 (.cells (Na X a2 l2 c2 b2 m2 n2) 28)).mono hb6.size)).mono (cO w5 _).size);generalize w6.alloc _=w7 at N7 hB6 ⊢;generalize w6.heap.size=g7 at N7 ⊢;have HB7:=Hh (HB5.o.trans (hB6.mono HB5.o.size));have HN7:=Hh N7;have C7:=Hh (C1.o w7 HB7.o);clear hx hb6 hB6 N7 P1 x5 C1
   go_upto_region 9 with ((with_reducible refine (C7.o).mono ?_);rintro e w8 ⟨cy,rfl,hy,hb8⟩;obtain ⟨a3,l3,c3,b3,m3,n3,rfl⟩:=hy.slices)
   have N9:=NB.new hy (fun i q=>q.2)
   have hB8:=(cO w7 (.cells #[.string ⟨#[100]⟩,.string ⟨#[105]⟩] 9)).trans ((hb8.trans ((cO w8 (.cells (Na X a3 l3 c3 b3 m3 n3) 28)).mono hb8.size)).mono (cO w7 _).size);generalize w8.alloc _=w9 at N9 hB8 ⊢;generalize w8.heap.size=g9 at N9 ⊢;have HB9:=Hh (HB7.o.trans (hB8.mono HB7.o.size));have HN9:=Hh N9;have HN7b:=Hh (HN7.o.below hB8);have GT:=Hh (fun (wx:World) (hb:Below w9.heap.size w9 wx) (i:Nat) (l:Bt) (h:X.names[i]?=some l∧X.items[i]?=some (tN dg))=>aAb (d:=8) _ X (tN dg) l wx (HN9.o.below hb).nod (fun b q=>q) (dO 8 9 X ((bY HX7.o.kind).2 HX7.o)) HX7.o.kind HX7.o.len HX7.o.nodup h.1 h.2)
   unfold aEl at GT;have G9:Hid (Calls prog 12 #[.agg (Na X a3 l3 c3 b3 m3 n3),.string ⟨#[100]⟩] w9 _):=Hh (GT.o w9 (Br _ _) i1 sD HI1.o);have x9:=N9.six;clear hy hb8 hB8 N9 C7
   go_upto_region 10 with ((with_reducible refine (G9.o).mono ?_);rintro e w10 ⟨ca,rfl,ha,hb10⟩;obtain ⟨a4,l4,c4,b4,m4,n4,rfl⟩:=kB ha)
   have b11:=cO w10 (.cells #[Iz 3,.bool false,Iz 0,.string dg,.slice a4 l4 c4,.slice b4 m4 n4] 28);have k11:=Hn w10 (.cells #[Iz 3,.bool false,Iz 0,.string dg,.slice a4 l4 c4,.slice b4 m4 n4] 28);have hb11:=hb10.trans (b11.mono hb10.size);generalize w10.alloc _=w11 at k11 hb11 ⊢;generalize w10.heap.size=g11 at k11 ⊢;have HB11:=Hh hb11;have HK11:=Hh k11;have G11:Hid (Calls prog 12 #[.agg (Na X a3 l3 c3 b3 m3 n3),.string ⟨#[105]⟩] w11 _):=Hh (GT.o w11 hb11 i2 sI HI2.o);clear x9 b11 ha hb10 k11 hb11 G9;have x9:=(HN9.o.below HB11.o).six
   go_upto_region 11 with ((with_reducible refine (G11.o).mono ?_);rintro e w12 ⟨ca2,rfl,ha2,hb12⟩;obtain ⟨a5,l5,c5,b5,m5,n5,rfl⟩:=kB ha2)
   have b13:=cO w12 (.cells #[Iz 3,.bool false,Iz 0,.string dg,.slice a5 l5 c5,.slice b5 m5 n5] 28);have k13:=Hn w12 (.cells #[Iz 3,.bool false,Iz 0,.string dg,.slice a5 l5 c5,.slice b5 m5 n5] 28);have hb13:=hb12.trans (b13.mono hb12.size);generalize w12.alloc _=w13 at k13 hb13 ⊢;generalize w12.heap.size=g13 at k13 ⊢;have HB13:=Hh (HB11.o.trans (hb13.mono HB11.o.size));have HQ11:=Hh ((hb13.block _ (Aa HK11.o)).trans HK11.o);have HQ13:=Hh k13;have hN9:=HN9.o.below HB13.o;have hN7:=HN7b.o.below HB13.o;have x7:=hN7.six;clear x9;have x9:=hN9.six;have SM:=Hh (tU 4 9 _ _ _ _ X X w13 hN7.nod hN9.nod (fun b q=>q) (fun b q=>q))
   have HN13:=Hh hN7;have hd44:(dg.size:Int)=44:=by rw [HDZ.o];rfl
   have es:(dg.toList == dg.toList)=true:=beq_self_eq_true _;have HBB:=Hh (HB9.o.trans (HB13.o.mono HB9.o.size));clear ha2 hb12 b13 k13 hb13 G11 GT hN7 hN9
   go_upto_region 13 with ((with_reducible refine (SM.o).mono ?_);rintro e w14 ⟨bz,rfl,hbz,hb14⟩;obtain rfl:bz=true:=hbz.2 (by first | exact rfl | trivial);(have q11:=aA ((hb14.block _ (Aa HQ11.o)).trans HQ11.o));(have q13:=aA ((hb14.block _ (Aa HQ13.o)).trans HQ13.o)))
   have HB14:=Hh (HBB.o.trans (hb14.mono HBB.o.size));have HN14:=Hh (HN13.o.below hb14);clear hb14 hbz x7 x9 q11 q13 SM es hd44;have bd:Below w14.heap.size w14 w14.drew:=(Br _ _).drew;have CK:=Hh (fun (wx:World) (hb:Below w14.heap.size w14 wx)=>(HN14.o.below hb).six)
   refine aJ (fun w'=>w'.cell? ⟨g7,0,none⟩=some (Iz X.kind)∧w'.cell? ⟨g7,1,none⟩=some (.bool X.bool)∧w'.cell? ⟨g7,2,none⟩=some (Iz X.num)∧w'.cell? ⟨g7,3,none⟩=some (.string X.text)∧w'.cell? ⟨g7,4,none⟩=some (.slice a2 l2 c2)∧w'.cell? ⟨g7,5,none⟩=some (.slice b2 m2 n2)) [0] (.take 0 (.take 1 (eN.join true (.ask 2 true (.ask 3 false (.take 4 (.take 5 (.take 6 (.ask 7 false .stop .stop)))) (.ask 7 true (.ask 3 false (.take 4 (.take 5 (.take 6 .stop))) .stop) .stop)) (.ask 7 true (.ask 2 true (.ask 3 false (.take 4 (.take 5 (.take 6 .stop))) .stop) .stop) .stop)) (.ask 8 false (.take 9 .stop) .stop)))) (by kernel_rfl) (by kernel_rfl) (fun _ d _ _ _ h=>by cases d <;> exact h) (CK.o _ bd) ?_
   generalize w14.drew=wd at bd ⊢;refine aN _ ?_ rfl rfl (by decide) ?_ (fun K hK=>?_);rotate_left;(intro w0 hw0;go_simp;(try rfl));(go_simp;refine hK _ ?_;clear hK K)
   refine aG _ ?_ rfl rfl ?_ (fun K hK=>?_);rotate_left;(intro w0;go_simp;(try rfl));(go_simp;refine hK _ ?_;clear hK K)
   have NT:=Hh (fun wx:World=>OJ bf wx)
   obtain ⟨y,hy⟩:∃y,y=ND.mk 5 false 0 ⟨#[]⟩ X.names (X.items.set i1 (tN bf)):=⟨_,rfl⟩;have PU:Hid (∀wx,Below w14.heap.size w14 wx→Calls prog 14 #[.agg (Na X a2 l2 c2 b2 m2 n2),.string ⟨#[100]⟩,.agg #[Iz 3,.bool false,Iz 0,.string bf,Sn,Sn]] wx (RM 4 wx y)):=Hh fun wx hb=>(aFk (d:=3) _ X sD bf wx (HN14.o.below hb).nod (fun b q=>q) HX7.o HI1.o.1 (by decide) HBF.o (HT.o.below (HB14.o.trans (hb.mono HB14.o.size))).f.u).mono fun e w' q=>hy ▸ q.gen
   unfold RM at PU;rw [←hy] at HRL;refine fC [19,91,94,95,96,97] (fun vs wx=>∃ (gy:Nat) (a6:Option Addr) (l6 c6:Nat) (b6:Option Addr) (m6 n6:Nat) (kk er:Int),vs=[.pointer (some ⟨gy,0,none⟩),.tuple #[.agg #[Iz kk,.bool false,Iz 0,.string ⟨#[]⟩,.slice a6 l6 c6,.slice b6 m6 n6],Iz er],.agg #[Iz 3,.bool false,Iz 0,.string bf,Sn,Sn],.tuple #[.agg #[Iz kk,.bool false,Iz 0,.string ⟨#[]⟩,.slice a6 l6 c6,.slice b6 m6 n6],Iz er],.agg #[Iz kk,.bool false,Iz 0,.string ⟨#[]⟩,.slice a6 l6 c6,.slice b6 m6 n6],Iz er]∧wx.heap[gy]?=some (.cells Z6 28 (0,0))∧w14.heap.size≤gy∧Below w14.heap.size w14 wx∧(er=0∧kk=5∧aB 8 y=true∧aC 4 (fun i=>i<wx.heap.size∧i ≠ gy) wx [Iz 5,.bool false,Iz 0,.string ⟨#[]⟩,.slice a6 l6 c6,.slice b6 m6 n6] y∨er=1∧aB 8 y=false)) ?_ ?_
   ·refine aI _ rfl ?_ ?_
    rotate_left
    ·go_wp2_with (go_at_call 15;(with_reducible refine (NT.o _).mono ?_);rintro e w15 ⟨rfl,hb15⟩)
     have B15:=bd.trans (hb15.mono bd.size);refine Seg.mk ⟨CK.o _ B15,?_⟩;refine aF _ rfl ?_ ?_;rotate_left
     ·go_wp2_with (go_at_call 14;(with_reducible refine (PU.o _ B15).mono ?_);rintro e w16 ⟨a6,l6,c6,b6,m6,n6,kk,er,rfl,hb16,hpo⟩)
      have B16:=B15.trans (hb16.mono B15.size);refine Seg.mk ?_
      iterate 3 (refine aG _ ?_ rfl rfl ?_ (fun K hK=>?_);rotate_left;(intro w0;go_simp;(try rfl));(go_simp;refine hK _ ?_;clear hK K))
      have bz:=cO w16 (.cells Z6 28);have gz:=Hn w16 (.cells Z6 28);refine aF _ rfl trivial ?_
      go_wp2_with fail
      refine Seg.mk ?_;exact aQ [.pointer (some ⟨w16.heap.size,0,none⟩),.tuple #[.agg #[Iz kk,.bool false,Iz 0,.string ⟨#[]⟩,.slice a6 l6 c6,.slice b6 m6 n6],Iz er],.agg #[Iz 3,.bool false,Iz 0,.string bf,Sn,Sn],.tuple #[.agg #[Iz kk,.bool false,Iz 0,.string ⟨#[]⟩,.slice a6 l6 c6,.slice b6 m6 n6],Iz er],.agg #[Iz kk,.bool false,Iz 0,.string ⟨#[]⟩,.slice a6 l6 c6,.slice b6 m6 n6],Iz er] ⟨_,a6,l6,c6,b6,m6,n6,kk,er,rfl,gz,B16.size,B16.trans (bz.mono B16.size),hpo.imp (fun q=>⟨q.1,q.2.1,q.2.2.1,(q.2.2.2.same fun i z=>bz.block i z.2).mono fun i z=>⟨Ll z.2 bz.size,by have:=z.2;omega⟩⟩) id⟩ (by simp only [gX,Act.put,As,Ay,Az])
     ·have bz:=cO w15 (.cells Z6 28)
      have gz:=Hn w15 (.cells Z6 28);refine aI _ rfl trivial ?_
      go_wp2_with fail
      generalize hW:w15.alloc (.cells Z6 28)=W7 at bz gz ⊢;clear hW;have B7:=B15.trans (bz.mono B15.size);refine Seg.mk ⟨CK.o _ B7,?_⟩;refine aF _ rfl trivial ?_
      go_wp2_with (go_at_call 14;(with_reducible refine (PU.o _ B7).mono ?_);rintro e w16 ⟨a6,l6,c6,b6,m6,n6,kk,er,rfl,hb16,hpo⟩)
      have hgl:=Aa gz;refine Seg.mk ?_
      iterate 3 (refine aG _ ?_ rfl rfl ?_ (fun K hK=>?_);rotate_left;(intro w0;go_simp;(try rfl));(go_simp;refine hK _ ?_;clear hK K))
      exact aQ [.pointer (some ⟨w15.heap.size,0,none⟩),.tuple #[.agg #[Iz kk,.bool false,Iz 0,.string ⟨#[]⟩,.slice a6 l6 c6,.slice b6 m6 n6],Iz er],.agg #[Iz 3,.bool false,Iz 0,.string bf,Sn,Sn],.tuple #[.agg #[Iz kk,.bool false,Iz 0,.string ⟨#[]⟩,.slice a6 l6 c6,.slice b6 m6 n6],Iz er],.agg #[Iz kk,.bool false,Iz 0,.string ⟨#[]⟩,.slice a6 l6 c6,.slice b6 m6 n6],Iz er] ⟨_,a6,l6,c6,b6,m6,n6,kk,er,rfl,(hb16.block _ (Aa gz)).trans gz,B15.size,B7.trans (hb16.mono B7.size),hpo.imp (fun q=>⟨q.1,q.2.1,q.2.2.1,q.2.2.2.mono fun i z=>⟨z.2,by have:=z.1;omega⟩⟩) id⟩ (by simp only [gX,Act.put,As,Ay,Az])
    ·have bz:=cO wd (.cells Z6 28)
     have gz:=Hn wd (.cells Z6 28);refine aI _ rfl trivial ?_
     go_wp2_with fail
     generalize hW:wd.alloc (.cells Z6 28)=W7 at bz gz ⊢;clear hW;have B7:=bd.trans (bz.mono bd.size);refine Seg.mk ⟨CK.o _ B7,?_⟩;refine aI _ rfl trivial ?_
     go_wp2_with (go_at_call 15;(with_reducible refine (NT.o _).mono ?_);rintro e w15 ⟨rfl,hb15⟩)
     have B15:=B7.trans (hb15.mono B7.size);refine Seg.mk ⟨CK.o _ B15,?_⟩;refine aF _ rfl trivial ?_
     go_wp2_with (go_at_call 14;(with_reducible refine (PU.o _ B15).mono ?_);rintro e w16 ⟨a6,l6,c6,b6,m6,n6,kk,er,rfl,hb16,hpo⟩)
     have hgl:=Aa gz;have hz15:=hb15.size;refine Seg.mk ?_
     iterate 3 (refine aG _ ?_ rfl rfl ?_ (fun K hK=>?_);rotate_left;(intro w0;go_simp;(try rfl));(go_simp;refine hK _ ?_;clear hK K))
     exact aQ [.pointer (some ⟨wd.heap.size,0,none⟩),.tuple #[.agg #[Iz kk,.bool false,Iz 0,.string ⟨#[]⟩,.slice a6 l6 c6,.slice b6 m6 n6],Iz er],.agg #[Iz 3,.bool false,Iz 0,.string bf,Sn,Sn],.tuple #[.agg #[Iz kk,.bool false,Iz 0,.string ⟨#[]⟩,.slice a6 l6 c6,.slice b6 m6 n6],Iz er],.agg #[Iz kk,.bool false,Iz 0,.string ⟨#[]⟩,.slice a6 l6 c6,.slice b6 m6 n6],Iz er] ⟨_,a6,l6,c6,b6,m6,n6,kk,er,rfl,(hb16.block _ (Ll hgl hz15)).trans ((hb15.block _ hgl).trans gz),bd.size,B15.trans (hb16.mono B15.size),hpo.imp (fun q=>⟨q.1,q.2.1,q.2.2.1,q.2.2.2.mono fun i z=>⟨z.2,by have:=z.1;omega⟩⟩) id⟩ (by simp only [gX,Act.put,As,Ay,Az])
   ·rintro vs wx ⟨gy,a6,l6,c6,b6,m6,n6,kk,er,rfl,gz,hgy,hbx,hpo⟩
    simp only [gX,Act.put,As,Ay,Az];have q6:=aA gz;have p6:=aD gz;have hg6:=aM wx gy (Iz kk) (.bool false) (Iz 0) (.string ⟨#[]⟩) (.slice a6 l6 c6) (.slice b6 m6 n6);have HPT:=Hh (dB gz (Iz kk) (.bool false) (Iz 0) (.string ⟨#[]⟩) (.slice a6 l6 c6) (.slice b6 m6 n6));have HB6:=Hh (fE hbx (Lr _) hg6 fun b e=>by have:=Ab (show some gy=some b from e);omega)
    have HPO:Hid (er=0∧kk=5∧aB 8 y=true∧aC 4 (fun i=>i<(dE wx gy (Iz kk) (.bool false) (Iz 0) (.string ⟨#[]⟩) (.slice a6 l6 c6) (.slice b6 m6 n6)).heap.size) (dE wx gy (Iz kk) (.bool false) (Iz 0) (.string ⟨#[]⟩) (.slice a6 l6 c6) (.slice b6 m6 n6)) [Iz 5,.bool false,Iz 0,.string ⟨#[]⟩,.slice a6 l6 c6,.slice b6 m6 n6] y∨er=1∧aB 8 y=false):=Hh (hpo.imp (fun q=>⟨q.1,q.2.1,q.2.2.1,(q.2.2.2.same fun i z=>hg6.block i z.1 (by intro e;exact z.2 (Ab e))).mono fun i z=>Ll z.1 hg6.size⟩) id)
    clear bd gz hgy hbx hg6 hpo CK PU NT;refine aF _ rfl trivial ?_
    go_wp2_with fail
    refine Seg.mk ?_;refine aG _ ?_ rfl rfl ?_ (fun K hK=>?_);rotate_left;(intro w0;go_simp;(try rfl));(go_simp;refine hK _ ?_;clear hK K)
    unfold cN;simp only [dE] at HPT HB6 HPO;clear q6 p6;generalize (((((wx.setCell ⟨gy,0,none⟩ (Iz kk)).setCell ⟨gy,1,none⟩ (.bool false)).setCell ⟨gy,2,none⟩ (Iz 0)).setCell ⟨gy,3,none⟩ (.string ⟨#[]⟩)).setCell ⟨gy,4,none⟩ (.slice a6 l6 c6)).setCell ⟨gy,5,none⟩ (.slice b6 m6 n6)=wy at HPT HB6 HPO ⊢;have HBY:=Hh (HB14.o.trans (HB6.o.mono HB14.o.size));rcases HPO.o with ⟨rfl,rfl,hv,hnd⟩ | ⟨rfl,hv⟩
    ·obtain ⟨r1,r2,r3,r4,r5⟩:=HRL.o hv
     have xy:=aA HPT.o;have P2:Hid (Calls prog 10 #[.agg #[Iz 5,.bool false,Iz 0,.string ⟨#[]⟩,.slice a6 l6 c6,.slice b6 m6 n6],.slice (some ⟨wy.heap.size,0,none⟩) 2 2,.string ⟨#[75,69,82,73]⟩,Iz k] (wy.alloc (.cells #[.string ⟨#[100]⟩,.string ⟨#[105]⟩] 9)) (gP 4 X s (wy.alloc (.cells #[.string ⟨#[100]⟩,.string ⟨#[105]⟩] 9)))):=Hh (by
      have hal:=cO wy (.cells #[.string ⟨#[100]⟩,.string ⟨#[105]⟩] 9);have:=vO (d:=3) (m:=1) _ y (.slice (some ⟨wy.heap.size,0,none⟩) 2 2) [sD,sI] cS k (wy.alloc (.cells #[.string ⟨#[100]⟩,.string ⟨#[105]⟩] 9)) ((hnd.same fun b q=>hal.block b q).mono fun b q=>Ll q hal.size) (fun b q=>q) r3 r4 (by have:=HBF.o;omega) (oJ [sD,sI] (by decide) (fun s hs=>Ae (oR s hs).1 (by decide))) (by decide) (fun l hl=>(oR l hl).1) (by decide) (by decide) HKW.o r1 (HT.o.below (HBY.o.trans (hal.mono HBY.o.size)))
      rw [r2,HFS.o] at this;exact this)
     unfold gP at P2;have HAL:=Hh (cO wy (.cells #[.string ⟨#[100]⟩,.string ⟨#[105]⟩] 9));clear r1 r2 r3 r4 r5 hnd hv
     go_upto_region 17 with ((with_reducible refine (P2.o).mono ?_);rintro e w17 ⟨cz,rfl,hz,hb17⟩;obtain ⟨a7,l7,c7,b7,m7,n7,rfl⟩:=hz.slices)
     have hb18:=HAL.o.trans ((hb17.trans ((cO w17 (.cells (Na X a7 l7 c7 b7 m7 n7) 28)).mono hb17.size)).mono HAL.o.size);generalize w17.alloc _=w18 at hb18 ⊢;have HB18:=Hh (HBY.o.trans (hb18.mono HBY.o.size));have A18:=Hh (AW.o _ HB18.o);have es:(s.toList == s.toList)=true:=beq_self_eq_true _;clear hz hb17 hb18 xy P2
     go_wp2_with (go_at_call 6;(with_reducible refine (A18.o).mono ?_);rintro e w19 ⟨rfl,hb19⟩)
     go_ret
     exact ⟨rfl,HB18.o.trans (hb19.mono HB18.o.size)⟩
    ·have A18:=Hh (AW.o _ HBY.o)
     clear hv
     go_wp2_with (go_at_call 6;(with_reducible refine (A18.o).mono ?_);rintro e w19 ⟨rfl,hb19⟩)
     go_ret
     exact ⟨rfl,HBY.o.trans (hb19.mono HBY.o.size)⟩
 ·rw [Ap h500] at LI
  clear h500 hform hmod
  go_enter func3,ntmps3
  go_wp2_with (first
   | (go_at_call 5;(with_reducible refine (LI.o _).mono ?_);rintro e w3 ⟨rfl,rfl⟩)
   | (go_at_call 6;(with_reducible refine (AW.o _ (Br _ _)).mono ?_);rintro e w1 ⟨rfl,hb⟩))
  go_ret
  exact ⟨rfl,hb⟩
end Go.Proofs.YtncdpanfefnjlaaGreatDoor