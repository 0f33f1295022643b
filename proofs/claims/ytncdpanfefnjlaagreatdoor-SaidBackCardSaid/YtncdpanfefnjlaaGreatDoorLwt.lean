import Derived.Test.YtncdpanfefnjlaaGreatDoorLsm
set_option linter.unusedVariables false
set_option linter.unusedSimpArgs false
set_option maxHeartbeats 3200000
set_option maxRecDepth 100000
namespace Go.Proofs.YtncdpanfefnjlaaGreatDoor
open Go.Proofs.Tryz
open Go Go.Maps Go.ChangeShapes Go.WideShapes Go.ChangeAt Go.RowKit
theorem oBz {b b':Nat} {w:World} {e:TypeId} {size n:Nat} {v:Value} {xs:List Value} (h:w.ownsRow b e size v n xs) (hb:b'≤b):w.ownsRow b' e size v n xs:=by
 obtain ⟨h1,h2 | ⟨g,cap,cur,hv,hg,r⟩⟩:=h
 ·exact ⟨h1,.inl h2⟩
 ·exact ⟨h1,.inr ⟨g,cap,cur,hv,by omega,r⟩⟩
theorem IM (w:World):(zeroValue 3).run prog w=.ok (Iz 0) w:=by kernel_rfl
theorem UU {n:ND} {ls:List Bt} {t l:Bt} {j:Nat} (h:ls[j]?=some l):bQ n (ls.take (j+1)) t=yQ (bQ n (ls.take j) t) l (tN t):=by
 unfold bQ;rw [Bf,h,List.foldl_append]
 rfl
theorem VE {ns:List Bt} {its:List ND} {s:Bt} {v:ND} {i:Nat} (hn:ns.Nodup) (h:ns[i]?=some s):yQ (.mk 5 false 0 ⟨#[]⟩ ns its) s v=.mk 5 false 0 ⟨#[]⟩ ns (its.set i v):=by
 unfold yQ;rw [show (ND.mk 5 false 0 ⟨#[]⟩ ns its).names=ns from rfl,lP hn h]
 rfl
theorem VF {ns:List Bt} {its:List ND} {s:Bt} {v:ND} (h:s ∉ ns):yQ (.mk 5 false 0 ⟨#[]⟩ ns its) s v=.mk 5 false 0 ⟨#[]⟩ (ns++[s]) (its++[v]):=by
 unfold yQ;rw [show (ND.mk 5 false 0 ⟨#[]⟩ ns its).names=ns from rfl]
 cases hf:ns.findIdx? (fun t=>decide (t=s)) with
 | none=>rfl
 | some i=>exact absurd (Aq (fD hf).1) h
theorem PB {ns:List Bt} {s:Bt} (hn:ns.Nodup) (h:s ∉ ns):(ns++[s]).Nodup:=by
 rw [List.nodup_append];exact ⟨hn,by simp,fun a ha b hb e=>by rw [At.1 hb] at e;exact h (e ▸ ha)⟩
theorem EI {d:Nat} {S:Nat→Prop} (cs:Vl) (x:ND) (vl:Value) (ls:List Bt) (t:Bt) (w:World) (h:aC (d+1) S w cs x) (hS:∀b,S b→b<w.heap.size) (hx:cH 7 x) (hl:bE S w vl ls) (hll:ls.length≤1000000) (hd:1≤d) (ht:t.size≤100) :
 Calls prog 26 #[.agg cs.toArray,vl,.string t] w (GM (d+1) w (bQ x ls t)):=by
 obtain ⟨a1,l1,c1,a2,l2,c2,rfl⟩:=h.slices;have hxv:aB 8 x=true:=(bY hx.kind).2 hx;rw [hx.kind,hx.bool,hx.num,hx.text] at h;rw [hx.kind,hx.bool,hx.num,hx.text];obtain ⟨w1,hw1⟩:∃W,W=(w.alloc (.cells #[Iz 5,.bool false,Iz 0,.string ⟨#[]⟩,.slice a1 l1 c1,.slice a2 l2 c2] 28)).alloc (.cells Z6 28):=⟨_,rfl⟩;have z1:(w.alloc (.cells #[Iz 5,.bool false,Iz 0,.string ⟨#[]⟩,.slice a1 l1 c1,.slice a2 l2 c2] 28)).heap.size=w.heap.size+1:=by simp
 have b1:Below w.heap.size w w1:=by rw [hw1];exact ((Br _ _).alloc (Lr _) _).alloc (by simp) _
 have k0:w1.heap[w.heap.size]?=some (.cells #[Iz 5,.bool false,Iz 0,.string ⟨#[]⟩,.slice a1 l1 c1,.slice a2 l2 c2] 28 (0,0)):=by rw [hw1];exact (Bh _ _ _ (by omega)).trans (Hn _ _)
 have k1:w1.heap[w.heap.size+1]?=some (.cells Z6 28 (0,0)):=by rw [hw1,←z1];exact Hn _ _
 have z3:w1.heap.size=w.heap.size+2:=by rw [hw1];simp
 have low:=dO 8 (d+1) x hxv;obtain ⟨vn,vi,e,-,hns,his⟩:=h;simp only [Bq,Di,Dp] at e;obtain ⟨-,-,-,-,rfl,rfl⟩:=e;obtain ⟨al,cl,rfl,hcl1,hcl2,-⟩:=id hl;have HLS:=Hh hl;have HNS:=Hh hns;have HIS:=Hh his;have HS:=Hh hS;have HX:=Hh hx;have LOW:=Hh low;have K0:=Hh k0;have K1:=Hh k1;have B1:=Hh b1;have Z3:=Hh z3;have NT:=Hh (fun wx:World=>gA t wx)
 have LEAF:=Hh (fun (h:True)=>((cC S w1 3 false 0 t (by unfold maxLen;omega)).deeper hd:aC d S w1 [Iz 3,.bool false,Iz 0,.string t,Sn,Sn] (tN t)))
 have LEAF:=Hh (LEAF.o trivial);have hmm:=@run_makeMap prog;have HLEN:=Hh HX.o.len;clear hS hx hl hns his low hxv b1 k0 k1 z1 z3 ht
 go_enter func26,ntmps26
 go_upto_region 1 with fail
 rw [←hw1];clear hw1;have hbd:Below w1.heap.size w1 w1.drew:=(Br _ _).drew;have OLD:=Hh (fun (wx:World) (hb:Below w1.heap.size w1 wx) (b:Nat) (hbw:b<w.heap.size)=>(hb.block b (by have:=Z3.o;omega)).trans (B1.o.block b hbw))
 have CK:=Hh (fun (wx:World) (hb:Below w1.heap.size w1 wx)=>Ai (aA ((hb.block _ (Aa K0.o)).trans K0.o)).2.2.2.2.1 (aA ((hb.block _ (Aa K0.o)).trans K0.o)).2.2.2.2.2)
 refine aJ (fun w'=>w'.cell? ⟨w.heap.size,4,none⟩=some (.slice a1 l1 c1)∧w'.cell? ⟨w.heap.size,5,none⟩=some (.slice a2 l2 c2)) [1,4] (.take 0 (.take 1 (.take 3 (.take 4 (eN.join true (.ask 2 true (.ask 5 false (.take 6 (.ask 7 false .stop .stop)) (.ask 7 true (.ask 5 false (.take 6 .stop) .stop) .stop)) (.ask 7 true (.ask 2 true (.ask 5 false (.take 6 .stop) .stop) .stop) .stop)) (.ask 8 false .stop .stop)))))) (by kernel_rfl) (by kernel_rfl) (fun _ d _ _ _ h=>by cases d <;> exact h) (CK.o _ hbd) ?_
 generalize w1.drew=wd at hbd ⊢;refine aG _ ?_ rfl rfl ?_ (fun K hK=>?_);rotate_left;(intro w0;go_simp;(try rfl));(go_simp;refine hK _ ?_;clear hK K)
 refine aN _ ?_ rfl rfl (by decide) ?_ (fun K hK=>?_);rotate_left;(intro w0 hw0;go_simp;(try rfl));(go_simp;refine hK _ ?_;clear hK K)
 refine aG _ ?_ rfl rfl ?_ (fun K hK=>?_);rotate_left;(intro w0;go_simp;(try rfl));(go_simp;refine hK _ ?_;clear hK K)
 refine aN _ ?_ rfl rfl (by decide) ?_ (fun K hK=>?_);rotate_left;(intro w0 hw0;go_simp;(try rfl));(go_simp;refine hK _ ?_;clear hK K)
 refine fC [7,17,20,21] (fun vs wx=>∃ (gb:Nat) (v1 v2:Value) (A:List NC),vs=[.pointer (some ⟨gb,0,none⟩),v1,v2,.agg #[Iz 5,.bool false,Iz 0,.string ⟨#[]⟩,v1,v2]]∧w1.heap.size≤gb∧wx.heap[gb]?=some (.cells Z6 28 (0,0))∧jH 9 w1.heap.size wx v1 x.names∧wx.ownsRow w1.heap.size 28 6 v2 A.length (cF A)∧v1.ownBlock ≠ some gb∧v2.ownBlock ≠ some gb∧(∀b,v1.ownBlock=some b→v2.ownBlock ≠ some b)∧aE A=x.items∧(∀y,y ∈ A→aC d S wx y.1 y.2)∧Below w1.heap.size w1 wx) ?_ ?_
 ·have CT:=Hh (fun (wx:World) (hb:Below w1.heap.size w1 wx)=>QY _ _ wx (HNS.o.same fun b q=>OLD.o _ hb b (HS.o b q)) LOW.o.1)
  have CI:=Hh (fun (wx:World) (hb:Below w1.heap.size w1 wx)=>YE _ _ wx (HIS.o.same (fun b q=>OLD.o _ hb b (HS.o b q)) fun cs y q=>q.same fun b q'=>OLD.o _ hb b (HS.o b q')) LOW.o.2.1)
  refine aI _ rfl ?_ ?_;rotate_left
  ·go_wp2_with (go_at_call 48;(with_reducible refine (CT.o _ hbd).mono ?_);rintro e W2 ⟨v1,rfl,hrow,hb2'⟩;obtain ⟨a5,c5,rfl⟩:∃a c,v1=Value.slice a x.names.length c:=(by obtain ⟨a,c,e,_⟩:=hrow.strs;exact ⟨a,c,e⟩))
   have B2:=hbd.trans (hb2'.mono hbd.size);refine Seg.mk ⟨CK.o _ B2,?_⟩;refine aF _ rfl ?_ ?_;rotate_left
   ·go_wp2_with (go_at_call 49;(with_reducible refine (CI.o _ B2).mono ?_);rintro e W5 ⟨v2,A,rfl,hown,hA,hAn,hb5'⟩;obtain ⟨a6,c6,rfl⟩:=sH hown)
    have B5:=B2.trans (hb5'.mono B2.size);refine Seg.mk ?_;refine aG _ ?_ rfl rfl ?_ (fun K hK=>?_);rotate_left;(intro w0;go_simp;(try rfl));(go_simp;refine hK _ ?_;clear hK K)
    have bz:=(Br W5.heap.size W5).alloc (o:=.cells Z6 28) (Lr _);have gz:=Hn W5 (.cells Z6 28);refine aF _ rfl trivial ?_
    go_wp2_with fail
    generalize hW:W5.alloc (.cells Z6 28)=W7 at bz gz ⊢;clear hW;have B7:=B5.trans (bz.mono B5.size);refine Seg.mk ?_;have hz2:=hbd.size;have hz5:=B2.size;have hzg:=B5.size;have hROW:=(hrow.below hb5').below bz;have hOWN:=fG hown bz;have hGZ:=gz;have hn1:∀b,(Value.slice a5 x.names.length c5).ownBlock=some b→_:=fun b e=>hrow.1.lt b e
    have hi1:∀b,(Value.slice a6 A.length c6).ownBlock=some b→_:=fun b e=>hown.lt b e
    have hgl:=Aa gz;have f1:=hb2'.size;have f2:=hb5'.size;have f3:=bz.size;exact aQ [.pointer (some ⟨W5.heap.size,0,none⟩),.slice a5 x.names.length c5,.slice a6 A.length c6,.agg #[Iz 5,.bool false,Iz 0,.string ⟨#[]⟩,.slice a5 x.names.length c5,.slice a6 A.length c6]] ⟨W5.heap.size,_,_,A,rfl,hzg,hGZ,hROW.base hz2,oBz hOWN hz5,(fun e=>by have:=hn1 _ e;omega),(fun e=>by have:=hi1 _ e;omega),(fun b e e'=>by have:=hn1 _ e;have:=hi1 _ e';omega),hA,(fun y hy=>(hAn y hy).same fun b hb=>(OLD.o _ B7 b (HS.o b hb)).trans (OLD.o _ B2 b (HS.o b hb)).symm),B7⟩ (by simp only [gX,Act.put,As,Ay,Az])
   ·have bz:=(Br W2.heap.size W2).alloc (o:=.cells Z6 28) (Lr _)
    have gz:=Hn W2 (.cells Z6 28);refine aI _ rfl trivial ?_
    go_wp2_with fail
    generalize hW:W2.alloc (.cells Z6 28)=W7 at bz gz ⊢;clear hW;have B7:=B2.trans (bz.mono B2.size);refine Seg.mk ⟨CK.o _ B7,?_⟩;refine aF _ rfl trivial ?_
    go_wp2_with (go_at_call 49;(with_reducible refine (CI.o _ B7).mono ?_);rintro e W5 ⟨v2,A,rfl,hown,hA,hAn,hb5'⟩;obtain ⟨a6,c6,rfl⟩:=sH hown)
    have B5:=B7.trans (hb5'.mono B7.size);refine Seg.mk ?_;refine aG _ ?_ rfl rfl ?_ (fun K hK=>?_);rotate_left;(intro w0;go_simp;(try rfl));(go_simp;refine hK _ ?_;clear hK K)
    have hz2:=hbd.size;have hz5:=B7.size;have hzg:=B2.size;have hROW:=(hrow.below bz).below hb5';have hOWN:=hown;have hGZ:=((hb5'.block _ (Aa gz)).trans gz);have hn1:∀b,(Value.slice a5 x.names.length c5).ownBlock=some b→_:=fun b e=>hrow.1.lt b e
    have hi1:∀b,(Value.slice a6 A.length c6).ownBlock=some b→_:=fun b e=>hown.lt b e
    have hgl:=Aa gz;have f1:=hb2'.size;have f2:=bz.size;have f3:=hb5'.size;exact aQ [.pointer (some ⟨W2.heap.size,0,none⟩),.slice a5 x.names.length c5,.slice a6 A.length c6,.agg #[Iz 5,.bool false,Iz 0,.string ⟨#[]⟩,.slice a5 x.names.length c5,.slice a6 A.length c6]] ⟨W2.heap.size,_,_,A,rfl,hzg,hGZ,hROW.base hz2,oBz hOWN hz5,(fun e=>by have:=hn1 _ e;omega),(fun e=>by have:=hi1 _ e;omega),(fun b e e'=>by have:=hn1 _ e;have:=hi1 _ e';omega),hA,(fun y hy=>(hAn y hy).same fun b hb=>(OLD.o _ B5 b (HS.o b hb)).trans (OLD.o _ B7 b (HS.o b hb)).symm),B5⟩ (by simp only [gX,Act.put,As,Ay,Az])
  ·have bz:=(Br wd.heap.size wd).alloc (o:=.cells Z6 28) (Lr _)
   have gz:=Hn wd (.cells Z6 28);refine aI _ rfl trivial ?_
   go_wp2_with fail
   generalize hW:wd.alloc (.cells Z6 28)=W7 at bz gz ⊢;clear hW;have B7:=hbd.trans (bz.mono hbd.size);refine Seg.mk ⟨CK.o _ B7,?_⟩;refine aI _ rfl trivial ?_
   go_wp2_with (go_at_call 48;(with_reducible refine (CT.o _ B7).mono ?_);rintro e W2 ⟨v1,rfl,hrow,hb2'⟩;obtain ⟨a5,c5,rfl⟩:∃a c,v1=Value.slice a x.names.length c:=(by obtain ⟨a,c,e,_⟩:=hrow.strs;exact ⟨a,c,e⟩))
   have B2:=B7.trans (hb2'.mono B7.size);refine Seg.mk ⟨CK.o _ B2,?_⟩;refine aF _ rfl trivial ?_
   go_wp2_with (go_at_call 49;(with_reducible refine (CI.o _ B2).mono ?_);rintro e W5 ⟨v2,A,rfl,hown,hA,hAn,hb5'⟩;obtain ⟨a6,c6,rfl⟩:=sH hown)
   have B5:=B2.trans (hb5'.mono B2.size);refine Seg.mk ?_;refine aG _ ?_ rfl rfl ?_ (fun K hK=>?_);rotate_left;(intro w0;go_simp;(try rfl));(go_simp;refine hK _ ?_;clear hK K)
   have hz2:=B7.size;have hz5:=B2.size;have hzg:=hbd.size;have hROW:=hrow.below hb5';have hOWN:=hown;have hGZ:=((hb5'.block _ (Aa ((hb2'.block _ (Aa gz)).trans gz))).trans ((hb2'.block _ (Aa gz)).trans gz));have hn1:∀b,(Value.slice a5 x.names.length c5).ownBlock=some b→_:=fun b e=>hrow.1.lt b e
   have hi1:∀b,(Value.slice a6 A.length c6).ownBlock=some b→_:=fun b e=>hown.lt b e
   have hgl:=Aa gz;have f1:=bz.size;have f2:=hb2'.size;have f3:=hb5'.size;exact aQ [.pointer (some ⟨wd.heap.size,0,none⟩),.slice a5 x.names.length c5,.slice a6 A.length c6,.agg #[Iz 5,.bool false,Iz 0,.string ⟨#[]⟩,.slice a5 x.names.length c5,.slice a6 A.length c6]] ⟨wd.heap.size,_,_,A,rfl,hzg,hGZ,hROW.base hz2,oBz hOWN hz5,(fun e=>by have:=hn1 _ e;omega),(fun e=>by have:=hi1 _ e;omega),(fun b e e'=>by have:=hn1 _ e;have:=hi1 _ e';omega),hA,(fun y hy=>(hAn y hy).same fun b hb=>(OLD.o _ B5 b (HS.o b hb)).trans (OLD.o _ B2 b (HS.o b hb)).symm),B5⟩ (by simp only [gX,Act.put,As,Ay,Az])
 ·rintro vs wx ⟨gb,v1,v2,A,rfl,hgb,hz,hrow,hown,s1,s2,s3,hA,hold,hbx⟩
  simp only [gX,Act.put,As,Ay,Az];obtain ⟨a5,c5,rfl⟩:∃a c,v1=Value.slice a x.names.length c:=by obtain ⟨a,c,e,_⟩:=hrow.strs;exact ⟨a,c,e⟩
  obtain ⟨a6,c6,rfl⟩:=sH hown;have hgs:=aM wx gb (Iz 5) (.bool false) (Iz 0) (.string ⟨#[]⟩) (.slice a5 x.names.length c5) (.slice a6 A.length c6);have hz3:=Z3.o;have hgbl:=Aa hz;have HLA:Hid (A.length=x.items.length):=Hh (by rw [←hA,aE,Bi])
  obtain ⟨w7,hw7⟩:∃W,W=(dE wx gb (Iz 5) (.bool false) (Iz 0) (.string ⟨#[]⟩) (.slice a5 x.names.length c5) (.slice a6 A.length c6)).alloc (.map #[] 0):=⟨_,rfl⟩;have ba:=(Br (dE wx gb (Iz 5) (.bool false) (Iz 0) (.string ⟨#[]⟩) (.slice a5 x.names.length c5) (.slice a6 A.length c6)).heap.size (dE wx gb (Iz 5) (.bool false) (Iz 0) (.string ⟨#[]⟩) (.slice a5 x.names.length c5) (.slice a6 A.length c6))).alloc (o:=.map #[] 0) (Lr _);have hmade:=World.ownsMap_made (H:=Unit) (dE wx gb (Iz 5) (.bool false) (Iz 0) (.string ⟨#[]⟩) (.slice a5 x.names.length c5) (.slice a6 A.length c6)) prog 9 (plainElem (H:=Unit) prog 3);rw [←hw7] at ba hmade;have hlt1:∀b,(Value.slice a5 x.names.length c5).ownBlock=some b→b<wx.heap.size:=fun b e=>(hrow.1.lt b e).2
  have hlt2:∀b,(Value.slice a6 A.length c6).ownBlock=some b→b<wx.heap.size:=fun b e=>(hown.lt b e).2
  have hsz6:(dE wx gb (Iz 5) (.bool false) (Iz 0) (.string ⟨#[]⟩) (.slice a5 x.names.length c5) (.slice a6 A.length c6)).heap.size=wx.heap.size:=by simp [dE]
  have hP:TxS prog 28 9 3 d w1.heap.size S w1 w7 gb wx.heap.size (.slice a5 x.names.length c5) (.slice a6 A.length c6) x.names A []:=by
   have hbel:Below w1.heap.size w1 (dE wx gb (Iz 5) (.bool false) (Iz 0) (.string ⟨#[]⟩) (.slice a5 x.names.length c5) (.slice a6 A.length c6)):=fE hbx (Lr _) hgs fun b e=>by have:=Ab (show some gb=some b from e);omega
   refine ⟨(ba.block _ (by omega)).trans (dB hz _ _ _ _ _ _),hgb,(hrow.kept hgs (.inr s1)).below ba,fG (hown.kept hgs (.inr s2)) ba,s1,s2,s3,?_,⟨hbx.size,by omega⟩,fun e=>by have:=hlt1 _ e;omega,fun e=>by have:=hlt2 _ e;omega,fun y hy=>(hold y hy).same fun b q=>(hbx.block b (by have:=HS.o b q;omega)).symm,fun b q=>by have:=HS.o b q;omega,hbel.trans (ba.mono hbel.size)⟩
   rw [hsz6] at hmade;exact hmade
  have HSZ6:=Hh hsz6;have HA:=Hh hA;have HP:=Hh hP;have cz:=aA hz;have fz:=aD hz;clear hgs hrow hown s1 s2 s3 hold hbx hz hA ba hmade hlt1 hlt2 hsz6 hP hgbl;simp only [dE] at hw7 HSZ6;refine cG _ rfl trivial ?_
  go_upto_region 3 with fail
  rw [←hw7];clear hw7 cz fz hbd HSZ6;generalize wx.heap.size=gm at HP ⊢;have ck:=aA HP.o.nod
  go_upto_region 4 with fail
  clear ck
  go_loopw [26] (fun i wr=>∃j:Nat,i=Iz j∧j≤x.names.length∧TxS prog 28 9 3 d w1.heap.size S w1 wr gb gm (.slice a5 x.names.length c5) (.slice a6 A.length c6) x.names A (x.names.take j)) (fun i _=>x.names.length - (intOf i).toNat)
  case atStart=>exact ⟨0,rfl,Ax _,HP.o⟩
  case round=>
   clear HP;obtain ⟨j,rfl,hj,hst⟩:=hrel
   by_cases hlt:j<x.names.length
   ·have hlt':(j:Int)<(x.names.length:Int):=by omega
    have hj0:(0:Int)≤(j:Int):=by omega
    have HLT:=Hh hlt;obtain ⟨s,hsn⟩:∃s,x.names[j]?=some s:=⟨_,Ac hlt⟩;obtain ⟨bq,oq,rfl,hSq,rq⟩:=hst.names.strs.get hsn;have hsz:=hst.names.2 s (Aq hsn);have hkey:=Cj (P:=prog) (k:=9) underlying9 (s:=s) (by omega)
    have hmap:=hst.map;have htl:(x.names.take j).length=j:=by rw [Ba];omega
    rw [htl] at hmap;have HSN:=Hh hsn;have HST:=Hh hst;have HTL:=Hh htl;have hj9:j<300:=by have:=HX.o.most;have:=HLEN.o;omega
    clear hsn hst hSq htl hsz
    go_wp2_with (at_mapUpdate;refine Dk _ rfl _ _ _ 77 rfl 9 3 mZ underlying77 _ gm j _ rfl hmap (by unfold maxLen;omega) _ _ _ rfl rfl hkey _ [] (plainElem_int underlying3 (WalkArith.wf_i64 (by omega))) ?_;intro w8 hown8 hgrow8)
    have HP8:=Hh (HST.o.putm (s:=s) (Lr _) (by rw [HTL.o];exact hown8) hgrow8)
    clear hown8 hgrow8 hmap
    go_roundw
    case rel=>exact ⟨j+1,by go_num,by have:=HLT.o;omega,by rw [Bf,HSN.o];exact HP8.o⟩
    case measure=>have:=HLT.o;simp [intOf];omega
   ·have hlt':¬ (j:Int)<(x.names.length:Int):=by omega
    rw [Ao (by omega)] at hst
    have HST:=Hh hst;clear hst
    go_upto_region 9 with fail
    clear hlt hlt' hj
    go_loopw [37] (fun i wr=>∃ (j:Nat) (vn vi:Value) (ns:List Bt) (A:List NC),i=Iz j∧j≤ls.length∧TxS prog 28 9 3 d w1.heap.size S w1 wr gb gm vn vi ns A ns∧A.length=ns.length∧ns.length≤256+j∧ns.Nodup∧.mk 5 false 0 ⟨#[]⟩ ns (aE A)=bQ x (ls.take j) t) (fun i _=>ls.length - (intOf i).toNat)
    case atStart=>exact ⟨0,_,_,_,_,rfl,Ax _,HST.o,by have:=HLA.o;have:=HLEN.o;omega,by have:=HX.o.most;have:=HLEN.o;omega,HX.o.nodup,by rw [HA.o];have:=HX.o;obtain ⟨k,b,z,t',ns',its'⟩:=x;have h1:=this.kind;have h2:=this.bool;have h3:=this.num;have h4:=this.text;simp only [ND.kind,ND.bool,ND.num,ND.text] at h1 h2 h3 h4;subst h1 h2 h3 h4;rfl⟩
    case round=>
     clear HST;obtain ⟨j,vn,vi,ns,A2,rfl,hj,hst,hAn,hnl,hnd,hset⟩:=hrel;obtain ⟨⟨an,cn,rfl⟩,ai,ci,rfl⟩:=hst.forms
     by_cases hlt:j<ls.length
     ·have hlt':(j:Int)<(ls.length:Int):=by omega
      have hj0:(0:Int)≤(j:Int):=by omega
      have HLT:=Hh hlt;obtain ⟨l,hln⟩:∃l,ls[j]?=some l:=⟨_,Ac hlt⟩;obtain ⟨bq,oq,rfl,hSq,rq0⟩:=HLS.o.get hln;have hsz:=HLS.o.sizes l (Aq hln);have rq:=(hst.bel.cell (p:=⟨bq,oq+j,none⟩) (by have:=HS.o _ hSq;have:=Z3.o;show bq<_;omega)).trans ((B1.o.cell (p:=⟨bq,oq+j,none⟩) (HS.o _ hSq)).trans rq0)
      have hkey:=Cj (P:=prog) (k:=9) underlying9 (s:=l) (by omega)
      have hmap:=hst.map;have hsnoc:=UU (n:=x) (t:=t) hln;rw [←hset] at hsnoc;have ck:=aA hst.nod;have HST:=Hh hst;have HLN:=Hh hln;have HAN:=Hh hAn;have HSZ:=Hh hsz;have HND:=Hh hnd;have HNL:=Hh hnl;have hA6:A2.length≤2000000:=by omega
      have hn6:ns.length≤2000000:=by omega
      clear hln hSq rq0 hst hset hsz hAn hnd hnl;rcases aJo l ns with ⟨h1,h2,i,h3,h4⟩ | ⟨h1,h2,h4⟩
      ·have HSN:=Hh (hsnoc.trans (VE HND.o h3))
       have HIA:Hid (i<A2.length):=Hh (by have:=dH h3;have:=HAN.o;omega)
       have h4:=h4 (.lit (.int .i64 0));have hi0:(0:Int)≤(i:Int):=by omega
       clear hsnoc h3 h1
       go_upto_region 17 with (at_lookup;refine wpList_lookup_own_ok_int _ rfl _ _ 77 rfl 9 3 .i64 mZ underlying77 underlying3 (IM _) gm ns.length _ rfl hmap _ _ rfl hkey (fun c' hat _=>?_);rw [h4] at hat;cases hat;rw [h2])
       have HP:=HST;clear hmap h4 h2 ck rq;generalize wr=wq at HP ⊢;obtain ⟨g,rfl⟩:∃g,ai=some ⟨g,0,none⟩:=by
        rcases HP.o.items.2 with ⟨e,h0⟩ | ⟨g,cap,cur,e,_⟩
        ·have:=HIA.o;omega
        ·cases e;exact ⟨g,rfl⟩
       have bd:Below wq.heap.size wq wq.drew:=(Br _ _).drew;have CK:=Hh (fun (wx:World) (hb:Below wq.heap.size wq wx)=>(aA ((hb.block _ (Aa HP.o.nod)).trans HP.o.nod)).2.2.2.2.2)
       refine aJ (fun w'=>w'.cell? ⟨gb,5,none⟩=some (.slice (some ⟨g,0,none⟩) (A2).length ci)) [1] (.take 0 (.take 1 (.take 2 (.take 3 (.ask 4 true (.ask 5 false (.ask 6 false .stop .stop) .stop) .stop))))) (by kernel_rfl) (by kernel_rfl) (fun _ d _ _ _ h=>by cases d <;> exact h) (CK.o _ bd) ?_
       have HPD:=Hh (HP.o.below bd);generalize wq.drew=wd at bd HPD ⊢;refine aG _ ?_ rfl rfl ?_ (fun K hK=>?_);rotate_left;(intro w0;go_simp;(try rfl));(go_simp;refine hK _ ?_;clear hK K)
       refine aN _ ?_ rfl rfl (by decide) ?_ (fun K hK=>?_);rotate_left;(intro w0 hw0;go_simp;(try rfl));(go_simp;refine hK _ ?_;clear hK K)
       iterate 2 (refine aG _ ?_ rfl rfl ?_ (fun K hK=>?_);rotate_left;(intro w0;go_simp;(try rfl));(go_simp;refine hK _ ?_;clear hK K))
       refine aI _ rfl trivial ?_
       go_wp2_with (go_at_call 50;(with_reducible refine (NT.o _).mono ?_);rintro e w7 ⟨rfl,hb7⟩)
       have HP7:=Hh (HPD.o.below hb7);refine Seg.mk ⟨CK.o _ (bd.trans (hb7.mono bd.size)),?_⟩;clear hb7 bd HPD;have hia:(i:Int)<((A2).length:Int):=by have:=HIA.o;omega
       refine aF _ rfl trivial ?_
       go_wp2
       refine Seg.mk ?_;have hq:∀q,q<6→∃u,w7.cell? ⟨g,i * 6+q,none⟩=some u:=fun q hq=>by
        have:=HIA.o;rw [HP7.o.items.cellAt (i * 6+q) (by omega),Ac (by rw [iB _ fun y hy=>(HP7.o.old y hy).len];omega)]
        exact ⟨_,rfl⟩
       obtain ⟨u0,q0⟩:=hq 0 (by decide)
       obtain ⟨u1,q1⟩:=hq 1 (by decide)
       obtain ⟨u2,q2⟩:=hq 2 (by decide)
       obtain ⟨u3,q3⟩:=hq 3 (by decide)
       obtain ⟨u4,q4⟩:=hq 4 (by decide)
       obtain ⟨u5,q5⟩:=hq 5 (by decide)
       rw [Nat.add_zero] at q0;have fr0:=HP7.o.items.frozenAt (i * 6);have fr1:=HP7.o.items.frozenAt (i * 6+1);have fr2:=HP7.o.items.frozenAt (i * 6+2);have fr3:=HP7.o.items.frozenAt (i * 6+3);have fr4:=HP7.o.items.frozenAt (i * 6+4);have fr5:=HP7.o.items.frozenAt (i * 6+5);have HP8:=Hh (HP7.o.set (Lr _) HIA.o LEAF.o);clear hq HP7;refine cG _ rfl trivial ?_
       go_wp2
       go_roundw
       case rel=>exact ⟨j+1,_,_,ns,_,by go_num,by have:=HLT.o;omega,HP8.o,by rw [List.length_set];exact HAN.o,by have:=HNL.o;omega,HND.o,by rw [vS];exact HSN.o.symm⟩
       case measure=>have:=HLT.o;simp [intOf];omega
      ·have HSN:=Hh (hsnoc.trans (VF h1))
       have HNI:=Hh h1;have h4:=h4 (.lit (.int .i64 0));clear hsnoc h1
       go_upto_region 13 with (at_lookup;refine wpList_lookup_own_ok_int _ rfl _ _ 77 rfl 9 3 .i64 mZ underlying77 underlying3 (IM _) gm ns.length _ rfl hmap _ _ rfl hkey (fun c' hat _=>?_);rw [h4] at hat;cases hat;rw [h2])
       clear h4 h2 rq;have HAI:Hid ((A2.length:Int)=(ns.length:Int)):=Hh (by have:=HAN.o;omega)
       go_upto_region 15 with (at_mapUpdate;refine Dk _ rfl _ _ _ 77 rfl 9 3 mZ underlying77 _ gm ns.length _ rfl hmap (by unfold maxLen;omega) _ _ _ rfl rfl hkey _ [] (plainElem_int underlying3 (WalkArith.wf_i64 (by omega))) ?_;intro w8 hown8 hgrow8)
       have hP8:=HST.o.putm (s:=l) (Lr _) (by rw [←HAI.o];exact hown8) hgrow8
       clear hown8 hgrow8 hmap ck hkey;have b7:=(Br w8.heap.size w8).alloc (o:=.cells #[.string l] 9) (Lr _);have ck8:=aA hP8.nod;have HP7:=Hh (hP8.below b7);have HN7:=Hh (gC w8 #[.string l] 9 [.string l] rfl);have HO7:=Hh HP7.o.names.1;have HBS7:Hid (w1.heap.size≤(w8.alloc (.cells #[.string l] 9)).heap.size):=Hh HP7.o.bel.size;obtain ⟨iq,hiq,hy0,hy1,hy2⟩:=qC;obtain ⟨ip,hip,hz0,hz1,hz2⟩:=qD;have HIQ:=Hh hiq;have HIP:=Hh hip;have hus:=underlying25;have hug:=underlying26;clear b7 hiq hip hP8
       go_upto_region 16 with ((refine Bk _ rfl (.tmp 56) (.tmp 58) 25 rfl w1.heap.size 9 iq (.string ⟨#[]⟩) 1 16 hus HIQ.o hy0 hy1 hy2 rfl (by decide) (.slice an ns.length cn) ns.length _ rfl HO7.o ⟨w8.heap.size,0,none⟩ 1 1 [.string l] rfl rfl HN7.o (by intro u hu;simp at hu;subst hu;rfl) (by decide) (by unfold maxLen;omega) (by omega) HBS7.o _ rfl ?_);intro gg cc W8 hown hgrow hat hltg;(have hk8:=(hgrow.block gb (Aa HP7.o.nod) (fun e=>HP7.o.s1 e.symm)).trans HP7.o.nod);(have hf8:=aD hk8);(have hd8:=aA hk8);(have hP8a:=HP7.o.name (Lr _) hown hgrow (fK hat) HSZ.o);clear hown hgrow hat hk8)
       clear hf8 hd8 HO7 HN7 HBS7 HP7 ck8;generalize W8.setCell ⟨gb,4,none⟩ (.slice (some ⟨gg,0,none⟩) (ns.length+1) cc)=w9 at hP8a ⊢;have b9:=(Br w9.heap.size w9).alloc (o:=.cells Z6 28) (Lr _);have ck9:=aA hP8a.nod;have HP9:=Hh (hP8a.below b9);have HN9:=Hh (gC w9 Z6 28 Y6 rfl);have HO9:=Hh HP9.o.items;have HBS9:Hid (w1.heap.size≤(w9.alloc (.cells Z6 28)).heap.size):=Hh HP9.o.bel.size;have HZL:Hid (aC d S w1 Y6 nd0):=Hh ((cC S w1 0 false 0 ⟨#[]⟩ (by decide)).deeper hd)
       have HONE:=Hh HZL.o.one;clear b9 hP8a
       go_upto_region 17 with ((refine Bk _ rfl (.tmp 62) (.tmp 64) 26 rfl w1.heap.size 28 ip (.agg Z6) 6 88 hug HIP.o hz0 hz1 hz2 rfl (by decide) (.slice ai A2.length ci) A2.length _ rfl HO9.o ⟨w9.heap.size,0,none⟩ 1 1 Y6 rfl rfl HN9.o HONE.o (by decide) (by unfold maxLen;omega) (by omega) HBS9.o _ rfl ?_);intro g2 cc2 W9 hown hgrow hat hlt9;(have hk8:=(hgrow.block gb (Aa HP9.o.nod) (fun e=>HP9.o.s2 e.symm)).trans HP9.o.nod);(have hf8:=aD hk8);(have hd8:=aA hk8);(have hPF:=HP9.o.item (Lr _) hown hgrow (fK hat) HZL.o);clear hown hgrow hat hk8)
       clear hf8 hd8 HO9 HN9 HBS9 HP9 HONE ck9;generalize W9.setCell ⟨gb,5,none⟩ (.slice (some ⟨g2,0,none⟩) (A2.length+1) cc2)=wq at hPF ⊢;obtain ⟨A3,hA3⟩:∃B,B=A2++[(Y6,nd0)]:=⟨_,rfl⟩;have h3l:A3.length=A2.length+1:=by rw [hA3,Lg];rfl
       have h3s:aE (A3.set A2.length ([Iz 3,.bool false,Iz 0,.string t,Sn,Sn],tN t))=aE A2++[tN t]:=by
        rw [hA3,Cz _ _ (Lr _),Nat.sub_self];simp [aE]
       rw [←hA3] at hPF;rw [←h3l] at hPF;have HIA:Hid (A2.length<A3.length):=Hh (by omega)
       have H3L:=Hh h3l;have H3S:=Hh h3s;obtain ⟨n3,hn3⟩:∃m,m=ns++[l]:=⟨_,rfl⟩;have h3n:n3.length=ns.length+1:=by rw [hn3,Lg];rfl
       rw [←hn3,←h3n] at hPF;rw [←hn3] at HSN;have H3N:=Hh h3n;have HN3:=Hh hn3;have HP:=Hh hPF;clear hPF hA3 h3l h3s hn3 h3n;obtain ⟨ai,hai⟩:∃a:Option Addr,a=some ⟨g2,0,none⟩:=⟨_,rfl⟩;rw [←hai] at HP ⊢;obtain ⟨ci,hci⟩:∃a:Nat,a=cc2:=⟨_,rfl⟩;rw [←hci] at HP ⊢;clear hai hci;obtain ⟨g,rfl⟩:∃g,ai=some ⟨g,0,none⟩:=by
        rcases HP.o.items.2 with ⟨e,h0⟩ | ⟨g,cap,cur,e,_⟩
        ·have:=HIA.o;omega
        ·cases e;exact ⟨g,rfl⟩
       have bd:Below wq.heap.size wq wq.drew:=(Br _ _).drew;have CK:=Hh (fun (wx:World) (hb:Below wq.heap.size wq wx)=>(aA ((hb.block _ (Aa HP.o.nod)).trans HP.o.nod)).2.2.2.2.2)
       refine aJ (fun w'=>w'.cell? ⟨gb,5,none⟩=some (.slice (some ⟨g,0,none⟩) (A3).length ci)) [1] (.take 0 (.take 1 (.take 2 (.take 3 (.ask 4 true (.ask 5 false (.ask 6 false .stop .stop) .stop) .stop))))) (by kernel_rfl) (by kernel_rfl) (fun _ d _ _ _ h=>by cases d <;> exact h) (CK.o _ bd) ?_
       have HPD:=Hh (HP.o.below bd);generalize wq.drew=wd at bd HPD ⊢;refine aG _ ?_ rfl rfl ?_ (fun K hK=>?_);rotate_left;(intro w0;go_simp;(try rfl));(go_simp;refine hK _ ?_;clear hK K)
       refine aN _ ?_ rfl rfl (by decide) ?_ (fun K hK=>?_);rotate_left;(intro w0 hw0;go_simp;(try rfl));(go_simp;refine hK _ ?_;clear hK K)
       iterate 2 (refine aG _ ?_ rfl rfl ?_ (fun K hK=>?_);rotate_left;(intro w0;go_simp;(try rfl));(go_simp;refine hK _ ?_;clear hK K))
       refine aI _ rfl trivial ?_
       go_wp2_with (go_at_call 50;(with_reducible refine (NT.o _).mono ?_);rintro e w7 ⟨rfl,hb7⟩)
       have HP7:=Hh (HPD.o.below hb7);refine Seg.mk ⟨CK.o _ (bd.trans (hb7.mono bd.size)),?_⟩;clear hb7 bd HPD;have hia:(A2.length:Int)<((A3).length:Int):=by have:=HIA.o;omega
       refine aF _ rfl trivial ?_
       go_wp2
       refine Seg.mk ?_;have hq:∀q,q<6→∃u,w7.cell? ⟨g,A2.length * 6+q,none⟩=some u:=fun q hq=>by
        have:=HIA.o;rw [HP7.o.items.cellAt (A2.length * 6+q) (by omega),Ac (by rw [iB _ fun y hy=>(HP7.o.old y hy).len];omega)]
        exact ⟨_,rfl⟩
       obtain ⟨u0,q0⟩:=hq 0 (by decide)
       obtain ⟨u1,q1⟩:=hq 1 (by decide)
       obtain ⟨u2,q2⟩:=hq 2 (by decide)
       obtain ⟨u3,q3⟩:=hq 3 (by decide)
       obtain ⟨u4,q4⟩:=hq 4 (by decide)
       obtain ⟨u5,q5⟩:=hq 5 (by decide)
       rw [Nat.add_zero] at q0;have fr0:=HP7.o.items.frozenAt (A2.length * 6);have fr1:=HP7.o.items.frozenAt (A2.length * 6+1);have fr2:=HP7.o.items.frozenAt (A2.length * 6+2);have fr3:=HP7.o.items.frozenAt (A2.length * 6+3);have fr4:=HP7.o.items.frozenAt (A2.length * 6+4);have fr5:=HP7.o.items.frozenAt (A2.length * 6+5);have HP8:=Hh (HP7.o.set (Lr _) HIA.o LEAF.o);clear hq HP7;refine cG _ rfl trivial ?_
       go_wp2
       go_roundw
       case rel=>exact ⟨j+1,_,_,n3,_,by go_num,by have:=HLT.o;omega,HP8.o,by rw [List.length_set];have:=H3L.o;have:=H3N.o;have:=HAN.o;omega,by have:=HNL.o;have:=H3N.o;omega,by rw [HN3.o];exact PB HND.o HNI.o,by rw [H3S.o];exact HSN.o.symm⟩
       case measure=>have:=HLT.o;simp [intOf];omega
     ·have hlt':¬ (j:Int)<(ls.length:Int):=by omega
      rw [Ao (by omega)] at hset
      obtain ⟨Ln,hLn⟩:∃n,n=ns.length:=⟨_,rfl⟩;obtain ⟨Li,hLi⟩:∃n,n=A2.length:=⟨_,rfl⟩;have HN:=Hh hst.node;have q1:=aA hst.nod;rw [←hLn,←hLi] at HN q1;have hbel:=hst.bel;have hres:wr.heap[w.heap.size+1]?=some (.cells Z6 28 (0,0)):=(hbel.block _ (Aa K1.o)).trans K1.o;have q2:=aA hres;have q3:=aD hres;have HRS:=Hh hres;have HB:=Hh hbel;rw [hset] at HN;clear hst hset hLn hLi hbel hres hAn hnl hnd
      go_wp2
      have hput:=dB HRS.o (Iz 5) (.bool false) (Iz 0) (.string ⟨#[]⟩) (.slice an Ln cn) (.slice ai Li ci);have hgf:=aM wr (w.heap.size+1) (Iz 5) (.bool false) (Iz 0) (.string ⟨#[]⟩) (.slice an Ln cn) (.slice ai Li ci);refine Ar (v:=.agg #[Iz 5,.bool false,Iz 0,.string ⟨#[]⟩,.slice an Ln cn,.slice ai Li ci]) ?_ ?_ ?_;rotate_left
      ·rfl
      ·have hb:=B1.o.trans (HB.o.mono B1.o.size)
       have hz:=Z3.o;refine ⟨_,_,rfl,?_,hb.grown hgf hb.size (fun g e=>by have:=Ab (show some (w.heap.size+1)=some g from e);omega)⟩
       exact (HN.o.same fun b q=>hgf.block b q.1 (by intro e;have e:=Ab e;exact q.2.elim (fun q=>by omega) (fun q=>by have:=HS.o b q;omega))).mono fun b q=>Ll q.1 hgf.size
      ·obtain ⟨q0,q1,q2,q3,q4,q5⟩:=aA hput
       simp only [dE] at q0 q1 q2 q3 q4 q5 ⊢;simp [results,results26,go_sem,q0,q1,q2,q3,q4,q5]
end Go.Proofs.YtncdpanfefnjlaaGreatDoor