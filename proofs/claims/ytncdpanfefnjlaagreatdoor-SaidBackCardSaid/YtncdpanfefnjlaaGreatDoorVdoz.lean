import Derived.Test.YtncdpanfefnjlaaGreatDoorCpn
import Derived.Test.YtncdpanfefnjlaaGreatDoorCwn
import Derived.Test.YtncdpanfefnjlaaGreatDoorJdec
import Derived.Test.YtncdpanfefnjlaaGreatDoorMdc
import Derived.Test.YtncdpanfefnjlaaGreatDoorVhx
set_option linter.unusedVariables false
set_option linter.unusedSimpArgs false
set_option maxHeartbeats 6400000
set_option maxRecDepth 100000
namespace Go.Proofs.YtncdpanfefnjlaaGreatDoor
open Go.Proofs.Tryz
open Go Go.ChangeShapes Go.WideShapes Go.ChangeAt Go.RowKit
theorem MG {D:Nat} {S:Nat→Prop} (cs:Vl) (x:ND) (w:World) (h:aC D S w cs x) (hS:∀b,S b→b<w.heap.size) (hl:jN D x) (hw:aB 8 x=true→aO 8 x=true) (hT:kI w):Calls prog 129 #[.agg cs.toArray] w (aEr x w):=by
 obtain ⟨a1,l1,c1,a2,l2,c2,rfl⟩:=h.slices;have b1:=(Br w.heap.size w).alloc (o:=.cells (Na x a1 l1 c1 a2 l2 c2) 28) (Lr _);have hr1:=Hn w (.cells (Na x a1 l1 c1 a2 l2 c2) 28);obtain ⟨w1,hw1⟩:∃W,W=w.alloc (.cells (Na x a1 l1 c1 a2 l2 c2) 28):=⟨_,rfl⟩;rw [←hw1] at b1 hr1;have ck:=aA hr1;have V:=Hh (kR _ x w1 (h.same fun b hb=>b1.block b (hS b hb)) (fun b hb=>Ll (hS b hb) b1.size) hl (hT.below b1))
 have B1:=Hh b1;have R1:=Hh hr1;have HN:=Hh h;have HS:=Hh hS;have HW:=Hh hw;clear h hS hl hw hT b1 hr1;cases hv:aB 8 x with
 | false=>
  rw [hv] at V;obtain ⟨e1,e2⟩:=GD hv;have HE:=Hh (Ai e1 e2);clear hv e1 e2
  go_enter func129,ntmps129
  go_upto_region 1 with fail
  rw [←hw1];clear hw1
  go_wp2_with (go_at_call 23;(with_reducible refine (V.o).mono ?_);rintro e w2 ⟨rfl,hb2⟩)
  go_ret2
  exact ⟨by rw [HE.o.1,HE.o.2];rfl,B1.o.trans (hb2.mono B1.o.size)⟩
 | true=>
  rw [hv] at V;have hnu:=HW.o hv;have HV:=Hh hv;have HNU:=Hh hnu;clear hv hnu
  go_enter func129,ntmps129
  go_upto_region 1 with fail
  rw [←hw1];clear hw1
  go_upto_region 4 with ((with_reducible refine (V.o).mono ?_);rintro e w2 ⟨rfl,hb2⟩)
  have b3:=(Br w2.heap.size w2).alloc (o:=.cells #[Sn] 180) (Lr _);have st3:=WSc.fresh (TW:=180) (TB:=5) w2;have hB2:=B1.o.trans (hb2.mono B1.o.size);have hB3:=hB2.trans (b3.mono hB2.size);have hz3:(w2.alloc (.cells #[Sn] 180)).heap.size=w2.heap.size+1:=by simp
  have hr3:=(b3.block _ (Ll (Aa R1.o) hb2.size)).trans ((hb2.block _ (Aa R1.o)).trans R1.o);generalize w2.alloc (.cells #[Sn] 180)=w3 at b3 st3 hB3 hz3 hr3 ⊢;obtain ⟨g,hg⟩:∃g,g=w2.heap.size:=⟨_,rfl⟩;have hwg:w.heap.size≤g:=by rw [hg];exact hB2.size
  have ck3:=aA hr3;have WN:=Hh (BQ 8 D S _ x w3 (g+1) g [] (by rw [hg];exact st3) (by omega) (Ax _) (HN.o.same fun b hb=>hB3.block b (HS.o b hb)) (fun b hb=>Ll (HS.o b hb) hwg) HV.o HNU.o)
  rw [←hg];have HB3:=Hh hB3;clear b3 st3 hz3 hr3 hg hB2 hB3 hb2 ck
  go_upto_region 5 with ((with_reducible refine (WN.o).mono ?_);rintro e w5 ⟨rfl,l5,hst5,hout5,hlen5,hfr5⟩)
  have EX:=Hh (MF w5 hst5);have hB5:=HB3.o.trans (hfr5.1.mono hwg);have HB5:=Hh hB5;have HO5:=Hh hout5
  by_cases hov:65536<l5.length
  ·obtain ⟨e1,e2⟩:=AD HV.o (by have:=hout5.over hov;simpa using this)
   have HE:=Hh (Ai e1 e2);rw [An hov] at EX;clear hst5 hfr5 e1 e2 hB5 hout5 hov
   go_wp2_with (go_at_call 146;(with_reducible refine (EX.o).mono ?_);rintro e w6 ⟨rfl,hww⟩;(replace hww:=hww.symm);subst hww)
   go_ret2
   exact ⟨by rw [HE.o.1,HE.o.2];rfl,HB5.o⟩
  ·have hfit:=hout5.fits hov
   rw [Dm] at hfit;obtain ⟨e1,e2⟩:=sT HV.o (by rw [←hfit];exact hov)
   rw [←hfit] at e1;have HE:=Hh (Ai e1 e2);rw [Ap hov] at EX;obtain ⟨v5,k1,k2,-⟩:=hst5;have c5:w5.cell? ⟨g,0,none⟩=some v5:=aL k1 rfl;obtain ⟨ao,cap,rfl,-,-⟩:=dI k2;have hcv:=eX (P:=prog) w5 69 9 5 (g+1) l5.length _ l5 k2 underlying69 underlying5 underlying9;clear k1 k2 hfr5 e1 e2 hfit hB5 hout5 hov
   go_wp2_with (go_at_call 146;(with_reducible refine (EX.o).mono ?_);rintro e w6 ⟨rfl,hww⟩;(replace hww:=hww.symm);subst hww)
   go_ret2
   exact ⟨by rw [HE.o.1,HE.o.2];rfl,HB5.o⟩
theorem nG {s:Bt} {w wx:World} (hb:Below w.heap.size w wx) (hV:rI s nd0 4) :
 MU s w (.returned (.tuple #[.agg Z6,Iz 4])) (dE wx w.heap.size (Iz 0) (.bool false) (Iz 0) (.string ⟨#[]⟩) (Sn) (Sn)):=by
 have hgs:=aM wx w.heap.size (Iz 0) (.bool false) (Iz 0) (.string ⟨#[]⟩) (Sn) (Sn);exact ⟨Y6,nd0,4,rfl,(cC _ _ 0 false 0 ⟨#[]⟩ (by decide)).deeper (by decide),hb.grown hgs hb.size (fun k hk=>by cases hk;exact Lr _),hV⟩
theorem aDg (s:Bt) (w:World) (hT:kI w):Calls prog 130 #[.string s] w (MU s w):=by
 have b0:=(Br w.heap.size w).alloc (o:=.cells Z6 28) (Lr _);have hr0:=Hn w (.cells Z6 28);have hz0:w.heap.size<(w.alloc (.cells Z6 28)).heap.size:=by simp
 by_cases hl:65536<s.size
 ·have hl':(65536:Int)<(s.size:Int):=by omega
  have HV:Hid (rI s nd0 4):=Hh (.inr ⟨rfl,rfl,fun y _ _ h=>absurd h (by omega)⟩)
  have B0:=Hh b0;have HR:=Hh hr0;have f1:=aD hr0;have c1:=aA hr0;clear hl b0 hr0
  go_enter func130,ntmps130
  go_upto_region 1 with fail
  generalize w.alloc (.cells Z6 28)=w0 at B0 HR f1 c1 ⊢
  go_wp2
  refine aP (v:=Iz 4) HR.o results130 rfl rfl rfl ?_;exact nG B0.o HV.o
 ·have hl':¬ (65536:Int)<(s.size:Int):=by omega
  have hsl:s.data.toList.length=s.size:=by rw [Ah];rfl
  have HT:=Hh hT;have HL:=Hh hl;clear hT hl
  go_enter func130,ntmps130
  go_upto_region 1 with fail
  obtain ⟨w0,hw0⟩:∃W,W=w.alloc (.cells Z6 28):=⟨_,rfl⟩;rw [←hw0] at b0 hr0 hz0;rw [←hw0];clear hw0;have HR:=Hh hr0;have B0:=Hh b0;have WD:=Hh (fun wx=>OC wx)
  clear hr0 b0
  go_upto_region 4 with ((with_reducible refine (WD.o _).mono ?_);rintro e2 w2 ⟨rfl,hw2,hb2⟩)
  have hb3:=(Br w2.heap.size w2).alloc (o:=.cells #[.string s,.map (some w0.heap.size)] 186) (Lr _);have hg3:=Hn w2 (.cells #[.string s,.map (some w0.heap.size)] 186);obtain ⟨w3,hw3⟩:∃W,W=w2.alloc (.cells #[.string s,.map (some w0.heap.size)] 186):=⟨_,rfl⟩;rw [←hw3] at hb3 hg3;rw [←hw3];clear hw3;have hp3:PrC w3 w2.heap.size w0.heap.size s.data.toList:=⟨by rw [qG];exact hg3,hw2.same (hb3.block _ hw2.lt),hw2.lt⟩
  have hB3:=B0.o.trans ((hb2.trans (hb3.mono hb2.size)).mono B0.o.size);have hgw:w.heap.size≤w2.heap.size:=Ae B0.o.size hb2.size;have hg0w:w0.heap.size≤w3.heap.size:=Ae hb2.size hb3.size;have hr3:=((hb2.trans (hb3.mono hb2.size)).block _ (Aa HR.o)).trans HR.o;have ND':Hid (Calls prog 148 #[.pointer (some ⟨w2.heap.size,0,none⟩),Iz 8] w3 (IC (CIr 8 s.data.toList) 8 w2.heap.size w0.heap.size s.data.toList w3)):=Hh (AE 8 (by decide) w2.heap.size w0.heap.size s.data.toList w3 hp3 (by have:=HL.o;omega))
  have HB3:=Hh hB3;have HR3:=Hh hr3;have hgr:w.heap.size ≠ w2.heap.size:=by have:=hb2.size;omega
  generalize hgx:w2.heap.size=gx at ND' hgw hgr ⊢;clear hgx hp3 hw2 hb2 hb3 hg3 hB3 hr3 WD B0 HR
  go_upto_region 5 with ((with_reducible refine (ND'.out).mono ?_);rintro e5 w5 ⟨cs,x,ok,r',rfl,hnode,hp5,hg5,hl5,hlt5,hf5,hv5⟩;go_loud ((obtain ⟨a1,l1,c1,a2,l2,c2,hcs⟩:=hnode.slices);subst hcs))
  have hv8:s.size≤65536→∀y,aB 8 y=true→aO 8 y=true→bJ 8 y=s.data.toList→ok=true∧x=y:=fun _ y h1 h2 h3=>by
   have:=hv5 y [] ⟨h1,h2,by rw [Bu,h3]⟩
   exact ⟨this.1,this.2.1⟩
  have hB5:Below w.heap.size w w5:=HB3.o.grown hg5 HB3.o.size (fun k hk=>by cases hk;exact hgw)
  have hr5:=cM hg5 hgr HR3.o;have b6:=(Br w5.heap.size w5).alloc (o:=.cells (Na x a1 l1 c1 a2 l2 c2) 28) (Lr _);have hn6:=Hn w5 (.cells (Na x a1 l1 c1 a2 l2 c2) 28);have hnd6:=hnode.same fun b hb=>b6.block b hb.2
  have hB6:=hB5.trans (b6.mono hB5.size);have hr6:=(b6.block _ (Aa hr5)).trans hr5;have hz6:w5.heap.size<(w5.alloc (.cells (Na x a1 l1 c1 a2 l2 c2) 28)).heap.size:=by simp
  have hne5:w.heap.size ≠ w5.heap.size:=by have:=Aa hr5;omega
  obtain ⟨w6,hw6⟩:∃W,W=w5.alloc (.cells (Na x a1 l1 c1 a2 l2 c2) 28):=⟨_,rfl⟩;rw [←hw6] at b6 hn6 hnd6 hB6 hr6 hz6;rw [←hw6];have hz3:w.heap.size≤w3.heap.size:=HB3.o.size;have HV8:=Hh hv8;have HB6:=Hh hB6;have HN6:=Hh hnd6;have HR6:=Hh hr6;have HZ6:=Hh (Ai hz6 hz3);have hnum8:aO 8 x=true:=wB (by decide) hf5.2
  have hlow9:jN 9 x:=hf5.1;have EN:=Hh (MG _ x w6 hnd6 (fun b hb=>Cl hb.2 hz6) hlow9 (fun _=>hnum8) (HT.o.below hB6))
  have HN8:=Hh hnum8;clear hw6 hv8 hv5 hB5 hr5 b6 hnd6 hB6 hr6 hz6 hnode hp5 hg5 hf5 hl5 hlt5 HB3 HR3 ND' hnum8 hlow9 HT;cases ok with
  | false=>
   have HV:Hid (rI s nd0 4):=Hh (.inr ⟨rfl,rfl,fun y h1 h2 h3 h4=>by have:=(HV8.o h3 y h1 h2 h4).1;cases this⟩)
   have f1:=aD HR6.o;have cz1:=aA HR6.o
   go_wp2
   refine aP (v:=Iz 4) HR6.o results130 rfl rfl rfl ?_;exact nG HB6.o HV.o
  | true=>
   have cn:=aA hn6;have HN66:=Hh hn6;clear hn6
   go_upto_region 8 with ((with_reducible refine (EN.o).mono ?_);rintro e7 w7 ⟨rfl,hb7⟩)
   have hB7:=HB6.o.trans (hb7.mono HB6.o.size);have hr7:=(hb7.block _ (Aa HR6.o)).trans HR6.o;have hn7:=(hb7.block _ (Aa HN66.o)).trans HN66.o;have hnd7:=HN6.o.same fun b hb=>hb7.block b (Cl hb.2 HZ6.o.1)
   have HB7:=Hh hB7;have HR7:=Hh hr7;have HND7:=Hh (Ai hnd7 hb7.size);clear hB7 hr7 hnd7 hb7 EN HN66 cn
   by_cases hbad:csE x ≠ 0∨csS x ≠ s
   ·have HV:Hid (rI s nd0 4):=Hh (.inr ⟨rfl,rfl,fun y h1 h2 h3 h4=>by
     obtain ⟨-,rfl⟩:=HV8.o h3 y h1 h2 h4;have hlen:¬65536<(bJ 8 x).length:=by rw [h4,hsl];omega
     obtain ⟨g1,g2⟩:=sT h1 hlen;rcases hbad with h | h
     ·exact h g2
     ·apply h;rw [g1,h4,qG]⟩)
    clear hn7
    by_cases hE0:csE x=0
    ·have hS0:csS x ≠ s:=hbad.resolve_left (fun h=>h hE0)
     have hSb:((csS x).toList == s.toList)=false:=by
      rw [Ci,Ci];exact Db.2 fun h=>hS0 (by rw [←qG (csS x),h,qG])
     have hEb:(csE x != 0)=false:=by simpa using hE0
     clear hbad;rw [hE0];have f1:=aD HR7.o;have cz1:=aA HR7.o
     go_wp2
     refine aP (v:=Iz 4) HR7.o results130 rfl rfl rfl ?_;exact nG HB7.o HV.o
    ·have hEb:(csE x != 0)=true:=by simpa using hE0
     clear hbad;have f1:=aD HR7.o;have cz1:=aA HR7.o
     go_wp2
     refine aP (v:=Iz 4) HR7.o results130 rfl rfl rfl ?_;exact nG HB7.o HV.o
   ·have hE0:csE x=0:=Dq fun h=>hbad (.inl h)
    have hS0:csS x=s:=Dq fun h=>hbad (.inr h)
    have HV:Hid (rI s x 0):=Hh (by
     have hv:aB 8 x=true:=by
      cases q:aB 8 x with
      | true=>rfl
      | false=>rw [(GD q).2] at hE0;cases hE0
     have hlen:¬65536<(bJ 8 x).length:=fun q=>by rw [(AD hv q).2] at hE0;cases hE0
     have hw:bJ 8 x=s.data.toList:=by rw [←hS0,(sT hv hlen).1,iE]
     exact .inl ⟨rfl,hv,HN8.o,hw,by rw [hw,hsl] at hlen;omega⟩)
    clear hbad;rw [hE0,hS0];have f1:=aD HR7.o;have cz1:=aA HR7.o;have cn:=aA hn7
    go_wp2
    refine aP (v:=Iz 0) HR7.o results130 rfl rfl rfl ?_;have hgs:=aM w7 w.heap.size (Iz x.kind) (.bool x.bool) (Iz x.num) (.string x.text) (.slice a1 l1 c1) (.slice a2 l2 c2);refine ⟨(Nc x a1 l1 c1 a2 l2 c2),x,0,rfl,?_,HB7.o.grown hgs HB7.o.size (fun k hk=>by cases hk;exact Lr _),HV.o⟩
    have hz:=HZ6.o;have hz7:=HND7.o.2;have hr:=Aa HR7.o;exact (HND7.o.1.same fun b hb=>hgs.block b (by omega) (by intro e;have:=Ab e;omega)).mono fun b hb=>⟨by omega,Ll (by omega) hgs.size⟩
end Go.Proofs.YtncdpanfefnjlaaGreatDoor
namespace Go.Proofs.YtncdpanfefnjlaaGreatDoor
open Go.Proofs.Tryz
open Go.Lib
theorem yF:∀l:List (Ub),(dV l).length≤(l.map fun a=>a.length+1).sum
 | []=>Ax _
 | [a]=>by simp [dV]
 | a::b::t=>by
  have:=yF (b::t)
  show (a++44::dV (b::t)).length≤_
  rw [Lg,Ag,Bj,Cg];omega
theorem RR {W:ND→Ub} {c:ND→Nat}:∀ (ns:List Bt) (its:List ND),(∀y,y ∈ its→(W y).length≤c y)→((List.zipWith (fun s y=>bH s.data.toList++58::W y) ns its).map fun a=>a.length+1).sum≤(ns.map fun s=>6 * s.size+8).sum+(its.map fun y=>c y+1).sum
 | [],_,_=>by simp
 | _::_,[],_=>by simp
 | s::ss,y::ys,h=>by
  have ih:=RR ss ys (fun z hz=>h z (by simp [hz]))
  have h1:=mW s.data.toList;have h2:s.data.toList.length=s.size:=by rw [Ah];rfl
  have h3:=h y (by simp)
  rw [Bg,Bj,Cg,Bj,Cg,Bj,Cg,Lg,Ag];omega
theorem SR {W:ND→Ub} {c:ND→Nat}:∀ (its:List ND),(∀y,y ∈ its→(W y).length≤c y)→((its.map W).map fun a=>a.length+1).sum≤(its.map fun y=>c y+1).sum
 | [],_=>Lr _
 | y::ys,h=>by
  have ih:=SR ys (fun z hz=>h z (by simp [hz]))
  have h3:=h y (by simp)
  rw [Bj,Bj,Cg,Bj,Cg];omega
theorem vC:∀ (d:Nat) (x:ND),aB d x=true→aO d x=true→(aT d x).length≤bG d x
 | 0,_,h,_=>by cases h
 | d+1,x,h,hn=>by
  obtain ⟨hi,hl,htx,hns⟩:=aX h;obtain ⟨hw,hni⟩:=cL hn;have ih:∀y,y ∈ x.items→(aT d y).length≤bG d y:=fun y hy=>vC d y (hi y hy) (hni y hy)
  have hts:x.text.data.toList.length=x.text.size:=by rw [Ah];rfl
  rw [eC];rcases jA h with e | e | e | e | e | ⟨e,hlen⟩
  ·rw [e];exact (show 4≤24 by decide)
  ·rw [e]
   cases x.bool
   ·exact (show 5≤24 by decide)
   ·exact (show 4≤24 by decide)
  ·rw [e]
   show (itoa x.num).length≤24+0+0+0
   unfold dD at hw;rw [Ak,Av,Av] at hw;have:=itoa_length_le x.num hw.1 hw.2;omega
  ·rw [e]
   show (bH x.text.data.toList).length≤24+6 * x.text.size+0+0
   have:=mW x.text.data.toList;omega
  ·rw [e,xK]
   have h1:=yF (x.items.map (aT d));have h2:=SR x.items ih;rw [Ag,Lg,List.length_singleton]
   show _≤24+0+0+(x.items.map fun y=>bG d y+1).sum
   omega
  ·rw [e,xJ]
   have h1:=yF (List.zipWith (fun s y=>bH s.data.toList++58::aT d y) x.names x.items)
   have h2:=RR (W:=aT d) (c:=bG d) x.names x.items ih;rw [Ag,Lg,List.length_singleton]
   show _≤24+0+(x.names.map fun s=>6 * s.size+8).sum+(x.items.map fun y=>bG d y+1).sum
   omega
theorem FQ {d:Nat} {x:ND} (hd:1≤d) (h:cH (d - 1) x) (hi:∀y,y ∈ x.items→eF (d - 1) y=true):eF d x=true:=by
 obtain ⟨m,rfl⟩:∃m,d=m+1:=⟨d - 1,by omega⟩
 exact tO ((bY h.kind).2 h) (by rw [h.num];decide) hi
end Go.Proofs.YtncdpanfefnjlaaGreatDoor
namespace Go.Proofs.YtncdpanfefnjlaaGreatDoor
open Go.Proofs.Tryz
open Go Go.RowKit Go.Shelf Go.Lib
theorem own:ownKnob Tryz.prog.godebug=none:=by kernel_rfl
theorem laidOut:laidOutB prog=true:=by kernel_rfl
theorem FU:(Rows.laid_unicode_utf8_acceptRanges:DataW Unit)=acceptData:=by kernel_rfl
theorem LC:Rows.laid_unicode_utf8_first=firstData:=by kernel_rfl
theorem XE:(Rows.laid_internal_strconv_uint64pow10:DataW Unit)=tabData .u64 Lib.pow10Tab:=by kernel_rfl
theorem aBs {w : World} {r : List (String × DataW Unit)} (h : laidMet prog (("internal/strconv.uint64pow10", Rows.laid_internal_strconv_uint64pow10) :: r) w) : BG w := by
 rw [XE] at h;exact tabIs_of_head (g:=8) (t:=236) (e:=130) (n:=20) (by kernel_rfl) (by kernel_rfl) underlying236 underlying130 (by kernel_rfl) (by kernel_rfl) h
theorem JH : "*" ++ "errors.errorString" = "*errors.errorString" := by decide
theorem SH : ∀ u, Tryz.prog.typeName? 3 u = some "*errors.errorString" → u = 253 := fun u h =>
 typeName_ptr_named (nm := "errors.errorString") (by rw [JH]; kernel_rfl) (by kernel_rfl) (by decide) u (by rw [JH]; exact h)
end Go.Proofs.YtncdpanfefnjlaaGreatDoor
namespace Go.Proofs.YtncdpanfefnjlaaGreatDoor
open Go.Proofs.Tryz
open Go Go.ChangeShapes Go.WideShapes Go.ChangeAt Go.RowKit
def foS (k:Int) (x:ND):Bt:=if k=1 then jsS x else if k=2 then csS x else if k=3 then mpS x else ⟨#[]⟩
def foE (k:Int) (x:ND):Int:=if k=1 then jsE x else if k=2 then csE x else if k=3 then mpE x else 2
def wS (k:Int) (s:Bt) (x:ND) (er:Int):Prop:=(k=1∧AU s x er)∨(k=2∧rI s x er)∨(k=3∧rH s x er)∨((k<1∨3<k)∧x=nd0∧er=2)
structure uX (w:World):Prop where
 u:kI w
 i:BG w
 e:pB w
 s:Scl w
theorem uX.below {w w':World} (h:uX w) (hb:Below w.heap.size w w'):uX w':=⟨h.u.below hb,h.i.below hb,h.e.below hb,h.s.to hb⟩
theorem uX.p {w:World} (h:uX w):YS w:=⟨h.u,h.s⟩
theorem zS (k:Int):k=1∨k=2∨k=3∨(k<1∨3<k):=by omega
theorem LN {k:Int} (x:ND) (h:k<1∨3<k):foS k x=⟨#[]⟩∧foE k x=2:=by
 unfold foS foE;exact ⟨by rw [Af (by omega),Af (by omega),Af (by omega)],by rw [Af (by omega),Af (by omega),Af (by omega)]⟩
theorem uN {D:Nat} {S:Nat→Prop} (k:Int) (cs:Vl) (x:ND) (w:World) (h:aC D S w cs x) (hS:∀b,S b→b<w.heap.size) (hl:jN D x) (hw:aB 8 x=true→aO 8 x=true) (hT:uX w):Calls prog 45 #[Iz k,.agg cs.toArray] w (aEn (foS k x) (foE k x) w):=by
 have h':∀wx,Below w.heap.size w wx→aC D S wx cs x:=fun wx hb=>h.same fun b q=>hb.block b (hS b q)
 have hS':∀wx,Below w.heap.size w wx→∀b,S b→b<wx.heap.size:=fun wx hb b q=>Ll (hS b q) hb.size
 rcases zS k with rfl | rfl | rfl | hk
 ·exact zX 1 _ _ _ cs x w _ _ h (.inl rfl) ⟨rfl,rfl⟩ fun wx hb=>LD cs x wx (h' wx hb) (hS' wx hb) hl hw (hT.below hb).u (hT.below hb).i
 ·exact zX 2 _ _ _ cs x w _ _ h (.inr (.inl rfl)) ⟨rfl,rfl⟩ fun wx hb=>MG cs x wx (h' wx hb) (hS' wx hb) hl hw (hT.below hb).u
 ·exact zX 3 _ _ _ cs x w _ _ h (.inr (.inr rfl)) ⟨rfl,rfl⟩ fun wx hb=>DI cs x wx (h' wx hb) (hS' wx hb) hl hw (hT.below hb).p
 ·rw [(LN x hk).1,(LN x hk).2]
  exact aCv k cs x w h hk
theorem YB (k:Int) (s:Bt) (w:World) (hT:uX w):Calls prog 52 #[Iz k,.string s] w (YT (wS k s) w):=by
 rcases zS k with rfl | rfl | rfl | hk
 ·refine AA 1 _ _ _ s w _ (.inl rfl) ⟨rfl,rfl⟩ fun wx hb=>(aBt s wx (hT.below hb).u (hT.below hb).i (hT.below hb).e).mono ?_
  rintro e w' ⟨cs,x,er,h1,h2,h3,h4⟩;exact ⟨cs,x,er,h1,h2,h3,.inl ⟨rfl,h4⟩⟩
 ·refine AA 2 _ _ _ s w _ (.inr (.inl rfl)) ⟨rfl,rfl⟩ fun wx hb=>(aDg s wx (hT.below hb).u).mono ?_
  rintro e w' ⟨cs,x,er,h1,h2,h3,h4⟩;exact ⟨cs,x,er,h1,h2,h3,.inr (.inl ⟨rfl,h4⟩)⟩
 ·refine AA 3 _ _ _ s w _ (.inr (.inr rfl)) ⟨rfl,rfl⟩ fun wx hb=>(WC s wx (hT.below hb).p).mono ?_
  rintro e w' ⟨cs,x,er,h1,h2,h3,h4⟩;exact ⟨cs,x,er,h1,h2,h3,.inr (.inr (.inl ⟨rfl,h4⟩))⟩
 ·exact aDa k s w _ hk (.inr (.inr (.inr ⟨hk,rfl,rfl⟩)))
end Go.Proofs.YtncdpanfefnjlaaGreatDoor
namespace Go.Proofs.YtncdpanfefnjlaaGreatDoor
open Go.Proofs.Tryz
open Go Go.RowKit Go.Shelf Go.Lib
def scI (i:Nat):DataW Unit:=if (scR i).widths.length=0 then .nil else .slice ((scR i).widths.map fun z=>.lit (.int .i64 z)) []
def scD:List (DataW Unit):=(List.range 7).map fun i=>.agg [.lit (.int .i64 (scR i).kind),.lit (.int .i64 (scR i).least),.lit (.int .i64 (scR i).count),.lit (.int .u8 (scR i).first),.lit (.int .u8 (scR i).wide),scI i]
theorem aBh:(Rows.laid_keyevent_pack_scales:DataW Unit)=.agg scD:=by kernel_rfl
theorem zI:Tryz.prog.cellsOf 249=6:=by kernel_rfl
theorem zJ:Tryz.prog.cellsOf 3=1:=by kernel_rfl
theorem WH:Tryz.prog.cellsOf 5=1:=by kernel_rfl
theorem KP:Tryz.prog.cellsOf 22=1:=by kernel_rfl
theorem DH {α:Type} {l:List α} (h:l.length=6):∃a b c d e f,l=[a,b,c,d,e,f]:=by
 match l,h with
 | [a,b,c,d,e,f],_=>exact ⟨a,b,c,d,e,f,rfl⟩
theorem zH {W:World} {fuel:Nat} {v:Value} {l:List Int} {p:List MemPlace} (h:DataW.trod (fun _=>()) prog W 0 (fun _=>true) false fuel 22 [v]=some (.slice (l.map fun z=>(.lit (.int .i64 z):DataW Unit)) [],p)) (hl:0<l.length):mE W.heap.size W v l:=by
 obtain ⟨a,cap,hv,hle,hall⟩:=open_row underlying22 zJ h;rw [Bi] at hv hle;cases hv;have hc:∀i,i<l.length→W.cell? (a.add i)=some (Iz (l.getD i 0)):=by
  intro i hi;obtain ⟨v,n,q,hcell,htr⟩:=hall i (.lit (.int .i64 (l.getD i 0))) (by rw [Bc,Ac hi];simp [List.getD,Ac hi])
  obtain ⟨z,e1,f1,_⟩:=DataW.trod_int underlying3 htr;cases e1;simp only [Dn,Cx,Lit.int.injEq,Dp] at f1;rw [hcell,←f1.1]
 have hc0:=hc 0 hl;obtain ⟨b,off,spot⟩:=a;have hspot:spot=none:=by simpa [Addr.add] using World.cell?_spot hc0
 subst hspot;refine ⟨_,cap,rfl,hle,fun i hi=>?_⟩
 have h1:=hc i hi;rw [Bn] at h1;exact ⟨b,off,rfl,cD h1,h1⟩
theorem AY {W:World} {fuel:Nat} {v:Value} {p:List MemPlace} (h:DataW.trod (fun _=>()) prog W 0 (fun _=>true) false fuel 22 [v]=some (.nil,p)):v=Sn:=by
 rcases DataW.trod_slice underlying22 h with ⟨h1,-⟩ | ⟨a,len,cap,elems,rest,n,_,_,hx,_⟩
 ·exact (List.cons.inj h1).1
 ·simp at hx
theorem oH {W:World} {fuel:Nat} {q:IntKind} {t:TypeId} {c:Value} {z:Int} {p:List MemPlace} (ht:Tryz.prog.underlying t=some (.int q)) (h:DataW.trod (fun _=>()) prog W 0 (fun _=>true) false fuel t [c]=some ((.lit (.int q z):DataW Unit),p)):c=.int q z:=by
 obtain ⟨z',e1,f1,_⟩:=DataW.trod_int ht h;cases e1;simp only [Dn,Cx,Lit.int.injEq,Dp] at f1;rw [←f1.1]
theorem aFi {W:World} {fuel:Nat} {cs:Vl} {r:ScR} {d:DataW Unit} {p:List MemPlace}
 (h:DataW.trod (fun _=>()) prog W 0 (fun _=>true) false fuel 249 cs=some (.agg [.lit (.int .i64 r.kind),.lit (.int .i64 r.least),.lit (.int .i64 r.count),.lit (.int .u8 r.first),.lit (.int .u8 r.wide),d],p)) :
 ∃v n q,cs=[.int .i64 r.kind,.int .i64 r.least,.int .i64 r.count,.int .u8 r.first,.int .u8 r.wide,v]∧DataW.trod (fun _=>()) prog W 0 (fun _=>true) false n 22 [v]=some (d,q):=by
 obtain ⟨xs,n,hfu,hx,hlen,hxl,hall⟩:=DataW.trod_struct underlying249 h;rw [zI] at hlen;obtain ⟨c0,c1,c2,c3,c4,c5,rfl⟩:=DH hlen;obtain ⟨y0,y1,y2,y3,y4,y5,rfl⟩:=DH (show xs.length=6 from hxl)
 simp only [Bj,List.map_nil,Dn,DataW.agg.injEq,Bq,Di] at hx;obtain ⟨⟨e0,e1,e2,e3,e4,e5⟩,-⟩:=hx;have t0:DataW.trod (fun _=>()) prog W 0 (fun _=>true) false n 3 (([c0,c1,c2,c3,c4,c5].drop 0).take (Tryz.prog.cellsOf 3))=some y0:=hall 0 _ rfl
 have t1:DataW.trod (fun _=>()) prog W 0 (fun _=>true) false n 3 (([c0,c1,c2,c3,c4,c5].drop 1).take (Tryz.prog.cellsOf 3))=some y1:=hall 1 _ rfl
 have t2:DataW.trod (fun _=>()) prog W 0 (fun _=>true) false n 3 (([c0,c1,c2,c3,c4,c5].drop 2).take (Tryz.prog.cellsOf 3))=some y2:=hall 2 _ rfl
 have t3:DataW.trod (fun _=>()) prog W 0 (fun _=>true) false n 5 (([c0,c1,c2,c3,c4,c5].drop 3).take (Tryz.prog.cellsOf 5))=some y3:=hall 3 _ rfl
 have t4:DataW.trod (fun _=>()) prog W 0 (fun _=>true) false n 5 (([c0,c1,c2,c3,c4,c5].drop 4).take (Tryz.prog.cellsOf 5))=some y4:=hall 4 _ rfl
 have t5:DataW.trod (fun _=>()) prog W 0 (fun _=>true) false n 22 (([c0,c1,c2,c3,c4,c5].drop 5).take (Tryz.prog.cellsOf 22))=some y5:=hall 5 _ rfl
 rw [zJ] at t0 t1 t2;rw [WH] at t3 t4;rw [KP] at t5;obtain ⟨d0,p0⟩:=y0;obtain ⟨d1,p1⟩:=y1;obtain ⟨d2,p2⟩:=y2;obtain ⟨d3,p3⟩:=y3;obtain ⟨d4,p4⟩:=y4;obtain ⟨d5,p5⟩:=y5;dsimp only at e0 e1 e2 e3 e4 e5;subst e0 e1 e2 e3 e4 e5;have f0:=oH underlying3 (show DataW.trod (fun _=>()) prog W 0 (fun _=>true) false n 3 [c0]=_ from t0)
 have f1:=oH underlying3 (show DataW.trod (fun _=>()) prog W 0 (fun _=>true) false n 3 [c1]=_ from t1)
 have f2:=oH underlying3 (show DataW.trod (fun _=>()) prog W 0 (fun _=>true) false n 3 [c2]=_ from t2)
 have f3:=oH underlying5 (show DataW.trod (fun _=>()) prog W 0 (fun _=>true) false n 5 [c3]=_ from t3)
 have f4:=oH underlying5 (show DataW.trod (fun _=>()) prog W 0 (fun _=>true) false n 5 [c4]=_ from t4)
 exact ⟨c5,n,p5,by rw [f0,f1,f2,f3,f4],t5⟩
theorem ZV (v:Nat→Value) (i q:Nat) (hi:i<7) (hq:q<6):(pW v)[i * 6+q]?=(scC i (v i))[q]?:=by
 obtain rfl | rfl | rfl | rfl | rfl | rfl | rfl:i=0∨i=1∨i=2∨i=3∨i=4∨i=5∨i=6:=by omega
 all_goals
  obtain rfl | rfl | rfl | rfl | rfl | rfl:q=0∨q=1∨q=2∨q=3∨q=4∨q=5:=by omega
  all_goals rfl
theorem ES {W : World} {cs : Array Value} {fuel : Nat} {p : List MemPlace} (hv : W.var? prog "keyevent/pack.scales" = some cs) (h : DataW.trod (fun _ => ()) prog W 0 (fun _ => true) false fuel 250 cs.toList = some (Rows.laid_keyevent_pack_scales, p)) : Scl W := by
 rw [aBh] at h;obtain ⟨xs,m,rfl,hx,hl,hxl,hall⟩:=DataW.trod_array underlying250 h;have hcc:∀j,W.cell? ⟨9,j,none⟩=cs[j]?:=fun j=>World.var?_cell (g:=9) (by kernel_rfl) hv j
 have key:∀i,i<7→∃v n q,(cs.toList.drop (i * 6)).take 6=[.int .i64 (scR i).kind,.int .i64 (scR i).least,.int .i64 (scR i).count,.int .u8 (scR i).first,.int .u8 (scR i).wide,v]∧DataW.trod (fun _=>()) prog W 0 (fun _=>true) false n 22 [v]=some (scI i,q):=by
  intro i hi;have hi':=hall i hi;rw [zI] at hi';have hxs:xs.map (·.1)=scD:=by
   have:=Ad Prod.fst hx
   simpa using this.symm
  obtain ⟨b,hb⟩:∃b,xs[i]?=some b:=⟨xs[i]'(by omega),Ac (by omega)⟩
  rw [hb] at hi';have hb1:b.1=.agg [.lit (.int .i64 (scR i).kind),.lit (.int .i64 (scR i).least),.lit (.int .i64 (scR i).count),.lit (.int .u8 (scR i).first),.lit (.int .u8 (scR i).wide),scI i]:=by
   have:=Ad (·[i]?) hxs;simp only [Bc,hb,Option.map_some] at this;simp only [scD,Bc,List.getElem?_range hi,Option.map_some,Option.some.injEq] at this;exact this
  obtain ⟨d,q⟩:=b;simp only at hb1;subst hb1;exact aFi hi'
 have hcell:∀i,i<7→∀q,q<6→cs[i * 6+q]?=((cs.toList.drop (i * 6)).take 6)[q]?:=fun i hi q hq=>by
  rw [Df,Am hq,List.getElem?_drop];simp
 have key2:∀i,i<7→∃n q,DataW.trod (fun _=>()) prog W 0 (fun _=>true) false n 22 [cs[i * 6+5]?.getD (Sn)]=some (scI i,q)∧∀q,q<6→cs[i * 6+q]?=(scC i (cs[i * 6+5]?.getD (Sn)))[q]?:=by
  intro i hi;obtain ⟨v,n,p',h1,h2⟩:=key i hi;have h5:=hcell i hi 5 (by omega)
  rw [h1] at h5;have h5:cs[i * 6+5]?=some v:=h5;rw [h5];refine ⟨n,p',h2,fun q hq=>?_⟩
  rw [hcell i hi q hq,h1]
  rfl
 refine ⟨fun i=>cs[i * 6+5]?.getD (Sn),?_,Lr _,fun j u hu=>?_,fun i hi=>?_⟩
 ·obtain ⟨n,q,h1,h2⟩:=key2 0 (by omega)
  have:=h2 0 (by omega)
  rw [←hcc] at this;exact cD this
 ·have hj:j<42:=dH hu
  rw [hcc,←hu];obtain ⟨n,q,h1,h2⟩:=key2 (j / 6) (by omega)
  have:=h2 (j % 6) (by omega)
  rw [←ZV (fun i=>cs[i * 6+5]?.getD (Sn)) (j / 6) (j % 6) (by omega) (by omega)] at this
  rw [show j / 6 * 6+j % 6=j by omega] at this
  exact this
 ·obtain ⟨n,q,h1,-⟩:=key2 i hi
  show mE W.heap.size W (cs[i * 6+5]?.getD _) _
  unfold scI at h1
  by_cases hz:(scR i).widths.length=0
  ·rw [Am hz] at h1
   rw [AY h1,Au.1 hz];exact ⟨none,0,rfl,Lr _,fun j hj=>absurd hj (Nat.not_lt_zero _)⟩
  ·rw [Af hz] at h1
   exact zH h1 (by omega)
theorem UJ:(Rows.laid_math_bits_deBruijn64tab:DataW Unit)=tabData .u8 (Lib.deBruijn64tab.map Int.ofNat):=by kernel_rfl
end Go.Proofs.YtncdpanfefnjlaaGreatDoor