import Derived.Test.YtncdpanfefnjlaaGreatDoorProg
import Derived.Test.YtncdpanfefnjlaaGreatDoorHashb
set_option linter.unusedVariables false
set_option linter.unusedSimpArgs false
set_option maxHeartbeats 800000
set_option maxRecDepth 100000
namespace Go.Proofs.YtncdpanfefnjlaaGreatDoor
open Go.Proofs.Tryz
open Go
section
variable {P:Program} {ops:Array Oper} {md:Region.Mode} {Q:Exit→Act→World→Prop}
def aGi (md:Region.Mode) (ops:Array Oper) (n:Nat) (tss:List (List Nat)) (listed:Array Bool):Bool:=
 decide (Region.ready md ops listed=tss.map (·.headD 0)) && !tss.isEmpty && tss.all fun
  | t::r=>decide (r.length=n) && yI md ops r (listed.setIfInBounds t true)
  | []=>false
def aGj (md:Region.Mode) (ops:Array Oper) (n:Nat) (tss:List (List Nat)):List Nat→Array Bool→Bool
 | k::ks,listed=>(Region.ready md ops listed).contains k && Region.free md ops listed k && aGj md ops n tss ks (listed.setIfInBounds k true)
 | [],listed=>aGi md ops n tss listed
theorem LO (n:Nat) (tss:List (List Nat)) (listed:Array Bool) (a:Act) (w:World) (hB:aGi md ops n tss listed=true) (h:∀ts ∈ tss,wpList P ops Q (dT ops ts) a w):wpAny P md ops Q (n+1) listed a w:=by
 simp only [aGi,Ak,Av,Aw] at hB;obtain ⟨⟨hr,hne⟩,hall⟩:=hB;have hne':tss ≠ []:=by intro e;subst e;simp at hne
 refine wpAny_all hr (by simpa using hne') fun i hi=>?_
 obtain ⟨ts,hts,he⟩:=Bl.1 hi;have hc:=hall ts hts;have hw:=h ts hts
 match ts,hc,he,hw with
 | t::r,hc,he,hw=>
  obtain rfl:t=i:=by simpa using he
  simp only [Ak,Av] at hc;obtain ⟨hl,hs⟩:=hc;have hmem:t ∈ Region.ready md ops listed:=by rw [hr];exact hi
  obtain ⟨_,o,ho,_⟩:=mem_ready.1 hmem;have hop:wpOp P ops Q t (wpList P ops Q (dT ops r)) a w:=by
   unfold wpOp;simp only [ho];have:dT ops (t::r)=o::dT ops r:=by simp [dT,ho]
   rw [this] at hw;exact hw
  have:=wpOp_mono (fun a' w' h'=>yH r (listed.setIfInBounds t true) a' w' hs h') hop
  rwa [hl] at this
theorem TH (hs:Region.noSelect ops=true) (hQ:∀c d v a w,Q (.panic c) (Act.put a d v) w→Q (.panic c) a w) {w:World} (n:Nat) (tss:List (List Nat)) :
 ∀ (ks:List Nat) (listed:Array Bool) (a:Act),aGj md ops n tss ks listed=true →
  gZ P ops (fun a'=>∀ts ∈ tss,wpList P ops Q (dT ops ts) a' w) (dT ops ks) a→wpAny P md ops Q (ks.length+(n+1)) listed a w
 | [],listed,a,hB,h=>by
  rw [Bs,Bv];exact LO n tss listed a w hB (by simpa [dT,gZ] using h)
 | k::ks,listed,a,hB,h=>by
  simp only [aGj,Ak] at hB;obtain ⟨⟨hr,hf⟩,hB'⟩:=hB;have hmem:k ∈ Region.ready md ops listed:=by simpa using hr
  obtain ⟨_,o,ho,_⟩:=mem_ready.1 hmem;have e:dT ops (k::ks)=o::dT ops ks:=by simp [dT,ho]
  rw [e] at h;obtain ⟨v,hy,h'⟩:=h;have:=TH hs hQ n tss ks (listed.setIfInBounds k true) (a.put o.dst v) hB' h';rw [Ag,show ks.length+1+(n+1)=(ks.length+(n+1))+1 by omega]
  exact wpAny_take ho hs hf hr (fun c a w h=>hQ c _ _ a w h) hy this
theorem pT {id:Nat} {a:Act} {w:World} {l:List Oper} (ks:List Nat) (n:Nat) (tss:List (List Nat)) (hm:P.follows .mixedOrders=true)
 (hB:(Region.noSelect l.toArray && decide (ks.length+(n+1)=l.length) && aGj .any l.toArray n tss ks (Array.replicate l.toArray.size false))=true)
 (hQ:∀c d v a w,Q (.panic c) (Act.put a d v) w→Q (.panic c) a w)
 (h:gZ P l.toArray (fun a'=>∀ts ∈ tss,wpList P l.toArray Q (dT l.toArray ts) a' w.drew) (dT l.toArray ks) a):(Code.region id l.toArray true).wp P Q a w:=by
 simp only [Ak,Av] at hB;obtain ⟨⟨hs,hn⟩,hsc⟩:=hB;refine wp_region_any hm ?_;have H:=TH (md:=.any) (Q:=Q) hs hQ (w:=w.drew) n tss ks _ a hsc h;rw [hn] at H;have e:l.toArray.size=l.length:=by simp
 rw [e];rw [e] at H;exact H
def xM (P:Program) (ops:Array Oper) (Q:Exit→Act→World→Prop) (p:Nat × List (List Nat)) (a:Act) (w:World):Prop:=
 wpOp P ops Q p.1 (fun a' w'=>∀ts ∈ p.2,wpList P ops Q (dT ops ts) a' w') a w
def aCr (md:Region.Mode) (ops:Array Oper) (n:Nat) (tr:List (Nat × List (List Nat))) (listed:Array Bool):Bool:=
 decide (Region.ready md ops listed=tr.map (·.1)) && !tr.isEmpty && tr.all fun p=>aGi md ops n p.2 (listed.setIfInBounds p.1 true)
def TJ (md:Region.Mode) (ops:Array Oper) (n:Nat) (tr:List (Nat × List (List Nat))):List Nat→Array Bool→Bool
 | k::ks,listed=>(Region.ready md ops listed).contains k && Region.free md ops listed k && TJ md ops n tr ks (listed.setIfInBounds k true)
 | [],listed=>aCr md ops n tr listed
theorem XZ (n:Nat) (tr:List (Nat × List (List Nat))) (listed:Array Bool) (a:Act) (w:World) (hB:aCr md ops n tr listed=true) (h:∀p ∈ tr,xM P ops Q p a w):wpAny P md ops Q (n+1+1) listed a w:=by
 simp only [aCr,Ak,Av,Aw] at hB;obtain ⟨⟨hr,hne⟩,hall⟩:=hB;have hne':tr ≠ []:=by intro e;subst e;simp at hne
 refine wpAny_all hr (by simpa using hne') fun i hi=>?_
 obtain ⟨p,hp,he⟩:=Bl.1 hi;subst he;exact wpOp_mono (fun a' w' h'=>LO n p.2 _ a' w' (hall p hp) h') (h p hp)
theorem LP (hs:Region.noSelect ops=true) (hQ:∀c d v a w,Q (.panic c) (Act.put a d v) w→Q (.panic c) a w) {w:World} (n:Nat) (tr:List (Nat × List (List Nat))) :
 ∀ (ks:List Nat) (listed:Array Bool) (a:Act),TJ md ops n tr ks listed=true →
  gZ P ops (fun a'=>∀p ∈ tr,xM P ops Q p a' w) (dT ops ks) a→wpAny P md ops Q (ks.length+(n+1+1)) listed a w
 | [],listed,a,hB,h=>by
  rw [Bs,Bv];exact XZ n tr listed a w hB (by simpa [dT,gZ] using h)
 | k::ks,listed,a,hB,h=>by
  simp only [TJ,Ak] at hB;obtain ⟨⟨hr,hf⟩,hB'⟩:=hB;have hmem:k ∈ Region.ready md ops listed:=by simpa using hr
  obtain ⟨_,o,ho,_⟩:=mem_ready.1 hmem;have e:dT ops (k::ks)=o::dT ops ks:=by simp [dT,ho]
  rw [e] at h;obtain ⟨v,hy,h'⟩:=h;have:=LP hs hQ n tr ks (listed.setIfInBounds k true) (a.put o.dst v) hB' h';rw [Ag,show ks.length+1+(n+1+1)=(ks.length+(n+1+1))+1 by omega]
  exact wpAny_take ho hs hf hr (fun c a w h=>hQ c _ _ a w h) hy this
theorem xL {id:Nat} {a:Act} {w:World} {l:List Oper} (ks:List Nat) (n:Nat) (tr:List (Nat × List (List Nat))) (hm:P.follows .mixedOrders=true)
 (hB:(Region.noSelect l.toArray && decide (ks.length+(n+1+1)=l.length) && TJ .any l.toArray n tr ks (Array.replicate l.toArray.size false))=true)
 (hQ:∀c d v a w,Q (.panic c) (Act.put a d v) w→Q (.panic c) a w)
 (h:gZ P l.toArray (fun a'=>∀p ∈ tr,xM P l.toArray Q p a' w.drew) (dT l.toArray ks) a):(Code.region id l.toArray true).wp P Q a w:=by
 simp only [Ak,Av] at hB;obtain ⟨⟨hs,hn⟩,hsc⟩:=hB;refine wp_region_any hm ?_;have H:=LP (md:=.any) (Q:=Q) hs hQ (w:=w.drew) n tr ks _ a hsc h;rw [hn] at H;have e:l.toArray.size=l.length:=by simp
 rw [e];rw [e] at H;exact H
theorem aIn {p:Nat × List (List Nat)} {a:Act} {w:World} {o:Oper} (hi:ops[p.1]?=some o) (hgd:o.guard=none) (dst:Option Tmp) (hdst:o.dst=dst) (ty:TypeId) (x:Operand) (ho:o.op=.load ty x)
 (b off:Nat) (hx:a.eval x=.pointer (some ⟨b,off,none⟩)) (cs:Vl) (d:TypeDesc) (hc:w.rangeAt b off cs)
 (hu:P.underlying ty=some d) (hd:d.isRow=true) (hsz:(P.info? ty).map (·.size)=some cs.length)
 (h:∀ts ∈ p.2,wpList P ops Q (dT ops ts) (a.put dst (.agg cs.toArray)) w):xM P ops Q p a w:=by
 subst hdst;unfold xM wpOp;have hw:Region.wanted o (yielded ops a.tmps)=true:=by simp [Region.wanted,hgd]
 simp only [hi,hw,if_true];exact .inl (wp_load_mid ty x ho b off hx cs d hc hu hd hsz h)
theorem aIo {p:Nat × List (List Nat)} {a:Act} {w:World} {o:Oper} (hi:ops[p.1]?=some o) (hgd:o.guard=none) (dst:Option Tmp) (hdst:o.dst=dst) (ty:TypeId) (ho:o.op=.alloc ty)
 (z:Value) (hz:∀w,(zeroValue ty).run P w=.ok z w)
 (h:∀ts ∈ p.2,wpList P ops Q (dT ops ts) (a.put dst (.pointer (some ⟨w.heap.size,0,none⟩))) (w.alloc (.cells z.cells ty))):xM P ops Q p a w:=by
 subst hdst;unfold xM wpOp;have hw:Region.wanted o (yielded ops a.tmps)=true:=by simp [Region.wanted,hgd]
 simp only [hi,hw,if_true];refine .inl ?_;unfold Oper.wp;simp [execOp,ho,hz,go_sem];exact h
end
end Go.Proofs.YtncdpanfefnjlaaGreatDoor
namespace Go.Proofs.YtncdpanfefnjlaaGreatDoor
open Go.Proofs.Tryz
open Go.ChangeShapes Go.WideShapes Go.ChangeAt Go.RowKit
theorem qH (hs:List Int) (s:Bt) (w:World) (h8:hs.length=8) (hK:tG w) (hsz:2<w.heap.size) :
 Calls prog 71 #[.agg (gD hs).toArray,.string s] w fun e w'=>e=.returned (.agg (gD (kE hs s.data.toList (s.size / 64))).toArray)∧Below w.heap.size w w':=by
 obtain ⟨L,hL⟩:∃L,L=s.data.toList:=⟨_,rfl⟩;have hLs:L.length=s.size:=by rw [hL];simp
 obtain ⟨HV,hHV⟩:∃V,V=gD hs:=⟨_,rfl⟩;have hHl:HV.length=8:=by rw [hHV,dJ,h8]
 rw [←hL,←hHV];have HL0:=Hh hL;have HHV:=Hh hHV;clear hL hHV
 go_enter func71,ntmps71
 go_wp2
 go_loopw [1] (fun v wr=>∃n:Nat,∃q:Bt,64 * n≤L.length∧v=.string q∧q.data.toList=L.drop (64 * n)∧Arr wr w.heap.size 107 (gD (kE hs L n))∧Arr wr (w.heap.size+1) 107 (zs 8)∧Below w.heap.size w wr) (fun v _=>match v with | .string q=>q.size | _=>0)
 case atStart=>
  refine ⟨0,s,by omega,rfl,by rw [←HL0.o];rfl,?_,?_,?_⟩
  ·have:=(Arr.new w HV 107).alloc (.cells (zs 8).toArray 107)
   rw [HHV.o] at this;rw [HHV.o];exact this
  ·exact Arr.new2 w _ (zs 8) 107
  ·exact ((Br _ _).alloc (Lr _) _).alloc (by simp) _
 case round=>
  obtain ⟨n,q,hn,rfl,hq,a1,a2,hb⟩:=hrel;have hqs:q.size=L.length - 64 * n:=by
   have:q.data.toList.length=q.size:=by simp
   rw [←this,hq,Cb]
  by_cases hlt:64≤q.size
  ·obtain ⟨b,hbq⟩:∃b,q.extract 0 64=b:=⟨_,rfl⟩
   have hbs:b.size=64:=by rw [←hbq,oP _ _ _ (by omega) (by omega)]
   have hbl:b.data.toList=blk L n:=by rw [←hbq,lQ,hq];rfl
   obtain ⟨YV,hYV⟩:∃V,V=gD (kE hs L n):=⟨_,rfl⟩;have hYl:YV.length=8:=by rw [hYV,dJ,gL hs L h8 n]
   obtain ⟨WV,hWV⟩:∃V,V=gD (wOf (blk L n)):=⟨_,rfl⟩;obtain ⟨CV,hCV⟩:∃V,V=gD (kE hs L (n+1)):=⟨_,rfl⟩;have hCl:CV.length=8:=by rw [hCV,dJ,gL hs L h8 (n+1)]
   have hC1:∀v ∈ CV,v.oneCell'=true:=by rw [hCV];exact mH _
   have HEX:=Hh (fun (wx:World)=>QM b wx hbs)
   rw [hbl,←hWV] at HEX;have HAD:=Hh (fun (wx:World)=>GK (kE hs L n) (wOf (blk L n)) wx (gL hs L h8 n) (NQ _))
   rw [show MD (kE hs L n) (wOf (blk L n))=kE hs L (n+1) from rfl,←hWV,←hYV,←hCV] at HAD
   rw [←hYV] at a1;have HC:=Hh hCV;have hKr:tG wr:=hK.below hb hsz;have hszr:2<wr.heap.size:=Ll hsz hb.size;have HQ:=Hh hq;have HQS:=Hh hqs;have HLS:=Hh hLs;have HN0:=Hh hn;have hlt':(64:Int)≤(q.size:Int):=by omega
   clear hq hbl hqs hLs hn hYV hWV hCV hbs
   go_wp2
   refine pT [1,2] 3 [[0,3,4,5],[3,0,4,5]] (by kernel_rfl) (by kernel_rfl) (fun _ d _ _ _ h=>by cases d <;> exact h) ?_
   simp only [dT,Da,De,Cu,Cm,Cn]
   iterate 2 (refine oA ?_ ?_ ?_ (fun K hK=>?_);rotate_left;(rfl);(intro w0;go_simp;(try rfl));(go_simp;refine hK _ ?_;clear hK K))
   refine qN ?_;have a1d:Arr wr.drew w.heap.size 107 YV:=a1;have a2d:Arr wr.drew (w.heap.size+1) 107 (zs 8):=a2;have hbd:Below w.heap.size w wr.drew:=hb.drew;have hKd:tG wr.drew:=hKr;have hszd:2<wr.drew.heap.size:=hszr;generalize wr.drew=wd at a1d a2d hbd hKd hszd ⊢;clear a1 a2 hb hKr hszr;have hg:=a1d.lt;intro ts hts;simp only [Bz,Ck,or_false] at hts;rcases hts with rfl | rfl
   ·simp only [Da,De,Cu,Cm,Cn]
    change wpList _ _ _ [_,_,_,_] _ _
    go_wp2_with (first | (refine vE rfl 107 (.tmp 2) rfl _ rfl a1d underlying107 iO hYl ?_) | (go_at_call 108;(with_reducible refine (HEX.o _).mono ?_);rintro e w1 ⟨rfl,hbe⟩) | (go_at_call 107;(with_reducible refine (HAD.o _ (hKd.below hbe hszd) (Ll hszd hbe.size)).mono ?_);rintro e w2 ⟨rfl,hba⟩) | (refine pS rfl 107 (.tmp 2) (.tmp 12) rfl _ CV rfl rfl ((a1d.below hbe hg).below hba (Ll hg hbe.size)) iO hYl hCl hC1 ?_))
    go_roundw
    case rel=>
     have hb2:=(hbd.trans ((hbe.mono hbd.size).trans (hba.mono (Ae hbd.size hbe.size))));refine ⟨n+1,q.extract 64 q.size,?_,rfl,?_,?_,?_,dX hb2 _ (Lr _) _⟩
     ·have:=HQS.o;have:=HLS.o;have:=HN0.o;omega
     ·rw [lQ,gQ,HQ.o,List.drop_drop];congr 1
     ·rw [←HC.o]
      exact ((a1d.below hbe hg).below hba (Ll hg hbe.size)).setRow _
     ·exact ((a2d.below hbe a2d.lt).below hba (Ll a2d.lt hbe.size)).besideRow _ _ (by omega)
    case measure=>simp;omega
   ·simp only [Da,De,Cu,Cm,Cn]
    change wpList _ _ _ [_,_,_,_] _ _
    go_wp2_with (first | (refine vE rfl 107 (.tmp 2) rfl _ rfl (a1d.below hbe hg) underlying107 iO hYl ?_) | (go_at_call 108;(with_reducible refine (HEX.o _).mono ?_);rintro e w1 ⟨rfl,hbe⟩) | (go_at_call 107;(with_reducible refine (HAD.o _ (hKd.below hbe hszd) (Ll hszd hbe.size)).mono ?_);rintro e w2 ⟨rfl,hba⟩) | (refine pS rfl 107 (.tmp 2) (.tmp 12) rfl _ CV rfl rfl ((a1d.below hbe hg).below hba (Ll hg hbe.size)) iO hYl hCl hC1 ?_))
    go_roundw
    case rel=>
     have hb2:=(hbd.trans ((hbe.mono hbd.size).trans (hba.mono (Ae hbd.size hbe.size))));refine ⟨n+1,q.extract 64 q.size,?_,rfl,?_,?_,?_,dX hb2 _ (Lr _) _⟩
     ·have:=HQS.o;have:=HLS.o;have:=HN0.o;omega
     ·rw [lQ,gQ,HQ.o,List.drop_drop];congr 1
     ·rw [←HC.o]
      exact ((a1d.below hbe hg).below hba (Ll hg hbe.size)).setRow _
     ·exact ((a2d.below hbe a2d.lt).below hba (Ll a2d.lt hbe.size)).besideRow _ _ (by omega)
    case measure=>simp;omega
  ·have hn2:n=s.size / 64:=by omega
   have hr8:=gL hs L h8 n;obtain ⟨V,hV⟩:∃V,V=gD (kE hs L n):=⟨_,rfl⟩;have hVl:V.length=8:=by rw [hV,dJ,hr8]
   have hV1:∀v ∈ V,v.oneCell'=true:=by rw [hV];exact mH _
   rw [←hV] at a1;have HVV:Hid (V=gD (kE hs L (s.size / 64))):=by rw [←hn2];exact hV
   have hnw:=a2.setRow V;have hlt':(q.size:Int)<64:=by omega
   clear hV hr8 hn2 hqs hLs hn hq
   go_wp2_with (first | (refine vE rfl 107 (.tmp 2) rfl _ rfl a1 underlying107 iO hVl ?_) | (refine pS rfl 107 (.tmp 4) (.tmp 15) rfl _ V rfl rfl a2 iO (kW 8) hVl hV1 ?_))
   refine Ar (v:=.agg V.toArray) (ET rfl _ _ _ rfl hnw underlying107 iO hVl) rfl ⟨by rw [HVV.o],dX hb (w.heap.size+1) (by omega) _⟩
end Go.Proofs.YtncdpanfefnjlaaGreatDoor
namespace Go.Proofs.YtncdpanfefnjlaaGreatDoor
open Go.Proofs.Tryz
open Go.Shelf Go.RowKit
def YM:Go.Shelf.Ren:=⟨fun | 240=>95 | 276=>118 | 167=>109 | 166=>62 | 169=>64 | 165=>61 | 241=>96 | 277=>119 | n=>n,fun | 0=>0 | 3=>3 | 4=>4 | 5=>5 | 9=>9 | 20=>20 | 37=>69 | 70=>89 | 72=>91 | 75=>94 | 80=>44 | 127=>133 | 164=>154 | n=>n,fun | n=>n⟩
def aJv:Go.Shelf.Ren:=⟨fun | 35=>110 | 52=>95 | 59=>118 | n=>n,fun | 0=>0 | 3=>3 | 4=>4 | 5=>5 | 9=>9 | 20=>20 | 30=>69 | 36=>89 | 38=>94 | 59=>91 | 73=>154 | 89=>44 | n=>n,fun | n=>n⟩
theorem aFu:Go.Proofs.Lays.n240 prog YM:={
 mixed:=by kernel_rfl
 f240:=Tryz.func95.trans (Ad some (by kernel_rfl))
 f276:=Tryz.func118.trans (Ad some (by kernel_rfl))
 t0:=underlying0
 a0:=isAgg0
 z0:=sizeOf0
 v0:=zeroValue0
 t4:=underlying4
 a4:=isAgg4
 z4:=sizeOf4
 v4:=zeroValue4
 t9:=underlying9
 a9:=isAgg9
 z9:=sizeOf9
 v9:=zeroValue9
 t20:=underlying20
 a20:=isAgg20
 z20:=sizeOf20
 v20:=zeroValue20
 t70:=underlying89
 a70:=isAgg89
 z70:=sizeOf89
 v70:=zeroValue89
 t72:=underlying91
 a72:=isAgg91
 z72:=sizeOf91
 v72:=zeroValue91
 t164:=underlying154
 a164:=isAgg154
 z164:=sizeOf154
 v164:=zeroValue154
}
theorem aFx:Go.Proofs.Lays.n167 prog YM:={
 mixed:=by kernel_rfl
 f167:=Tryz.func109.trans (Ad some (by kernel_rfl))
 f240:=Tryz.func95.trans (Ad some (by kernel_rfl))
 f276:=Tryz.func118.trans (Ad some (by kernel_rfl))
 t0:=underlying0
 a0:=isAgg0
 z0:=sizeOf0
 v0:=zeroValue0
 t4:=underlying4
 a4:=isAgg4
 z4:=sizeOf4
 v4:=zeroValue4
 t5:=underlying5
 a5:=isAgg5
 z5:=sizeOf5
 v5:=zeroValue5
 t9:=underlying9
 a9:=isAgg9
 z9:=sizeOf9
 v9:=zeroValue9
 t20:=underlying20
 a20:=isAgg20
 z20:=sizeOf20
 v20:=zeroValue20
 t37:=underlying69
 a37:=isAgg69
 z37:=sizeOf69
 v37:=zeroValue69
 t70:=underlying89
 a70:=isAgg89
 z70:=sizeOf89
 v70:=zeroValue89
 t72:=underlying91
 a72:=isAgg91
 z72:=sizeOf91
 v72:=zeroValue91
 t75:=underlying94
 a75:=isAgg94
 z75:=sizeOf94
 v75:=zeroValue94
 t164:=underlying154
 a164:=isAgg154
 z164:=sizeOf154
 v164:=zeroValue154
}
theorem aFy:Go.Proofs.Lays.n166 prog YM:={
 mixed:=by kernel_rfl
 f166:=Tryz.func62.trans (Ad some (by kernel_rfl))
 f240:=Tryz.func95.trans (Ad some (by kernel_rfl))
 f276:=Tryz.func118.trans (Ad some (by kernel_rfl))
 t0:=underlying0
 a0:=isAgg0
 z0:=sizeOf0
 v0:=zeroValue0
 t3:=underlying3
 a3:=isAgg3
 z3:=sizeOf3
 v3:=zeroValue3
 t4:=underlying4
 a4:=isAgg4
 z4:=sizeOf4
 v4:=zeroValue4
 t9:=underlying9
 a9:=isAgg9
 z9:=sizeOf9
 v9:=zeroValue9
 t20:=underlying20
 a20:=isAgg20
 z20:=sizeOf20
 v20:=zeroValue20
 t37:=underlying69
 a37:=isAgg69
 z37:=sizeOf69
 v37:=zeroValue69
 t70:=underlying89
 a70:=isAgg89
 z70:=sizeOf89
 v70:=zeroValue89
 t72:=underlying91
 a72:=isAgg91
 z72:=sizeOf91
 v72:=zeroValue91
 t75:=underlying94
 a75:=isAgg94
 z75:=sizeOf94
 v75:=zeroValue94
 t164:=underlying154
 a164:=isAgg154
 z164:=sizeOf154
 v164:=zeroValue154
}
theorem aFw:Go.Proofs.Lays.n169 prog YM:={
 mixed:=by kernel_rfl
 f169:=Tryz.func64.trans (Ad some (by kernel_rfl))
 t0:=underlying0
 a0:=isAgg0
 z0:=sizeOf0
 v0:=zeroValue0
 t3:=underlying3
 a3:=isAgg3
 z3:=sizeOf3
 v3:=zeroValue3
 t9:=underlying9
 a9:=isAgg9
 z9:=sizeOf9
 v9:=zeroValue9
 t37:=underlying69
 a37:=isAgg69
 z37:=sizeOf69
 v37:=zeroValue69
 t70:=underlying89
 a70:=isAgg89
 z70:=sizeOf89
 v70:=zeroValue89
 t72:=underlying91
 a72:=isAgg91
 z72:=sizeOf91
 v72:=zeroValue91
 t127:=underlying133
 a127:=isAgg133
 z127:=sizeOf133
 v127:=zeroValue133
}
theorem aFz:Go.Proofs.Lays.n165 prog YM:={
 mixed:=by kernel_rfl
 f165:=Tryz.func61.trans (Ad some (by kernel_rfl))
 f240:=Tryz.func95.trans (Ad some (by kernel_rfl))
 f241:=Tryz.func96.trans (Ad some (by kernel_rfl))
 f276:=Tryz.func118.trans (Ad some (by kernel_rfl))
 f277:=Tryz.func119.trans (Ad some (by kernel_rfl))
 t0:=underlying0
 a0:=isAgg0
 z0:=sizeOf0
 v0:=zeroValue0
 t3:=underlying3
 a3:=isAgg3
 z3:=sizeOf3
 v3:=zeroValue3
 t4:=underlying4
 a4:=isAgg4
 z4:=sizeOf4
 v4:=zeroValue4
 t9:=underlying9
 a9:=isAgg9
 z9:=sizeOf9
 v9:=zeroValue9
 t20:=underlying20
 a20:=isAgg20
 z20:=sizeOf20
 v20:=zeroValue20
 t37:=underlying69
 a37:=isAgg69
 z37:=sizeOf69
 v37:=zeroValue69
 t70:=underlying89
 a70:=isAgg89
 z70:=sizeOf89
 v70:=zeroValue89
 t72:=underlying91
 a72:=isAgg91
 z72:=sizeOf91
 v72:=zeroValue91
 t164:=underlying154
 a164:=isAgg154
 z164:=sizeOf154
 v164:=zeroValue154
}
theorem aIl:Go.Proofs.Lays7.n35 prog aJv:={
 mixed:=by kernel_rfl
 f35:=Tryz.func110.trans (Ad some (by kernel_rfl))
 f52:=Tryz.func95.trans (Ad some (by kernel_rfl))
 f59:=Tryz.func118.trans (Ad some (by kernel_rfl))
 t0:=underlying0
 a0:=isAgg0
 z0:=sizeOf0
 v0:=zeroValue0
 i0:=by kernel_rfl
 t3:=underlying3
 a3:=isAgg3
 z3:=sizeOf3
 v3:=zeroValue3
 i3:=by kernel_rfl
 t4:=underlying4
 a4:=isAgg4
 z4:=sizeOf4
 v4:=zeroValue4
 i4:=by kernel_rfl
 t9:=underlying9
 a9:=isAgg9
 z9:=sizeOf9
 v9:=zeroValue9
 i9:=by kernel_rfl
 t20:=underlying20
 a20:=isAgg20
 z20:=sizeOf20
 v20:=zeroValue20
 i20:=by kernel_rfl
 t30:=underlying69
 a30:=isAgg69
 z30:=sizeOf69
 v30:=zeroValue69
 i30:=by kernel_rfl
 t36:=underlying89
 a36:=isAgg89
 z36:=sizeOf89
 v36:=zeroValue89
 i36:=by kernel_rfl
 t38:=underlying94
 a38:=isAgg94
 z38:=sizeOf94
 v38:=zeroValue94
 i38:=by kernel_rfl
 t59:=underlying91
 a59:=isAgg91
 z59:=sizeOf91
 v59:=zeroValue91
 i59:=by kernel_rfl
 t73:=underlying154
 a73:=isAgg154
 z73:=sizeOf154
 v73:=zeroValue154
 i73:=by kernel_rfl
}
theorem AH:Builder.Extra prog YM:={
 sizeBuilder:=by kernel_rfl
 liesBuilder:=by kernel_rfl
 t5:=underlying5
 a5:=isAgg5
 z5:=sizeOf5
 v5:=zeroValue5
 infoByte:=by kernel_rfl
 cellsByte:=by kernel_rfl
 sizeByte:=by kernel_rfl
 neB5:=by decide }
theorem wH (B b:Nat) (bs:Vl) (c:Int) (w:World) (h:Lib.IsBuilder 91 5 B b bs w) (hlen:bs.length+1≤140737488355328) (hBw:B≤w.heap.size) :
 Calls prog 109 #[.pointer (some ⟨b,0,none⟩),.int .u8 c] w fun e w'=>e=.returned .nilIface∧(Lib.BuilderAt 91 5 B b (.pointer (some ⟨b,0,none⟩)) (bs++[.int .u8 c]) w'∧Below B w w'):=
 Any.Builder_WriteByte aFx AH B b bs c w h hlen hBw
theorem BF (B b:Nat) (bs:Vl) (s:Bt) (w:World) (h:Lib.IsBuilder 91 5 B b bs w) (hlen:bs.length+s.size≤140737488355328) (hBw:B≤w.heap.size) :
 Calls prog 62 #[.pointer (some ⟨b,0,none⟩),.string s] w fun e w'=>e=.returned (.tuple #[Iz s.size,.nilIface])∧(Lib.BuilderAt 91 5 B b (.pointer (some ⟨b,0,none⟩)) (bs++Lib.strCells s) w'∧Below B w w'):=
 Any.Builder_WriteString aFy AH B b bs s w h hlen hBw
theorem aDq (B b:Nat) (l:Ub) (w:World) (h:Lib.IsBuilder 91 5 B b (Lib.byteCells l) w) (hBw:B≤w.heap.size) :
 Calls prog 64 #[.pointer (some ⟨b,0,none⟩)] w fun e w'=>e=.returned (.string ⟨l.toArray⟩)∧Below B w w':=
 Any.Builder_String_any aFw AH B b l w h hBw
theorem aIq (B b n:Nat) (w:World) (hB:B≤b) (hbk:w.heap[b]?=some (.cells #[.pointer none,Sn] 91 (0,0))) (hBw:B≤w.heap.size) (hn:n≤281474976710656) :
 Calls prog 61 #[.pointer (some ⟨b,0,none⟩),Iz n] w fun e w'=>e=.returned (.tuple #[])∧(Lib.BuilderAt 91 5 B b (.pointer (some ⟨b,0,none⟩)) [] w'∧Below B w w'):=
 Any.Builder_Grow_fresh aFz AH B b n w hB hbk hBw hn
theorem aGu (B b:Nat) (bs:Vl) (ad:Addr) (m c:Nat) (news:Vl) (w:World) (h:Lib.IsBuilder 91 5 B b bs w)
 (hl:news.length=m) (hnews:∀j u,news[j]?=some u→w.cell? (ad.add j)=some u) (hadB:ad.block<B) (h1:∀u ∈ news,u.oneCell'=true)
 (hlen:bs.length+m≤140737488355328) (hBw:B≤w.heap.size) :
 Calls prog 110 #[.pointer (some ⟨b,0,none⟩),.slice (some ad) m c] w fun e w'=>e=.returned (.tuple #[Iz m,.nilIface])∧(Lib.BuilderAt 91 5 B b (.pointer (some ⟨b,0,none⟩)) (bs++news) w'∧Below B w w'):=
 Any7.Builder_Write aIl aFu AH rfl rfl rfl B b bs ad m c news w h hl hnews hadB h1 hlen hBw
end Go.Proofs.YtncdpanfefnjlaaGreatDoor
namespace Go.Proofs.YtncdpanfefnjlaaGreatDoor
open Go.Proofs.Tryz
open Go.ChangeShapes Go.WideShapes Go.ChangeAt Go.RowKit
theorem CU (w:World) (g o:Nat) (x:Int):(JW w g o x).heap.size=w.heap.size:=by simp [JW,World.setCell]
theorem YP (n:Nat):be8 n=[cV ((n:Int) / 4294967296 % 4294967296 / 16777216),cV ((n:Int) / 4294967296 % 4294967296 / 65536),cV ((n:Int) / 4294967296 % 4294967296 / 256),cV ((n:Int) / 4294967296 % 4294967296),
 cV ((n:Int) % 4294967296 / 16777216),cV ((n:Int) % 4294967296 / 65536),cV ((n:Int) % 4294967296 / 256),cV ((n:Int) % 4294967296)]:=by
 have e:∀ (m:Nat) (x:Int),x % 256=((m % 256:Nat):Int)→UInt8.ofNat m=cV x:=by
  intro m x h;unfold cV;rw [h]
  apply UInt8.toNat_inj.1
  rw [Be,Be];omega
 show [UInt8.ofNat (n / 72057594037927936),UInt8.ofNat (n / 281474976710656),UInt8.ofNat (n / 1099511627776),UInt8.ofNat (n / 4294967296),UInt8.ofNat (n / 16777216),UInt8.ofNat (n / 65536),UInt8.ofNat (n / 256),UInt8.ofNat (n / 1)]=_
 refine Dv.2 ⟨e _ _ ?_,Dv.2 ⟨e _ _ ?_,Dv.2 ⟨e _ _ ?_,Dv.2 ⟨e _ _ ?_,Dv.2 ⟨e _ _ ?_,Dv.2 ⟨e _ _ ?_,Dv.2 ⟨e _ _ ?_,Dv.2 ⟨e _ _ ?_,rfl⟩⟩⟩⟩⟩⟩⟩⟩ <;> omega
theorem aJz (n:Nat):∃z:Nat,((119:Int) - (n:Int) % 64) % 64=(z:Int)∧z<64∧z=(119 - n % 64) % 64:=by
 obtain ⟨m,hm⟩:∃m,m=n % 64:=⟨_,rfl⟩;have h1:(n:Int) % 64=(m:Int):=by omega
 have h2:m<64:=by omega
 rw [h1,←hm];exact ⟨(119 - m) % 64,by omega,by omega,rfl⟩
theorem OW (s:Bt) (n:Nat) (w:World) (hs:s.size≤1099511627776) (hn:n≤1099511627776) :
 Calls prog 72 #[.string s,Iz n] w fun e w'=>e=.returned (.string ⟨(oE s.data.toList n).toArray⟩)∧Below w.heap.size w w':=by
 obtain ⟨z,hz,hz64,hzn⟩:=aJz n;obtain ⟨R,hR⟩:∃R,R=oE s.data.toList n:=⟨_,rfl⟩;have hP:Hid (R=s.data.toList++([128]++(List.replicate z 0++be8 (8 * n)))):=Hh (by rw [hR,hzn];unfold oE;rfl)
 rw [←hR];clear hR;have hb8:=YP (8 * n);rw [show ((8 * n:Nat):Int)=8 * (n:Int) by push_cast;rfl] at hb8
 rw [show 8 * (n:Int) / 4294967296 % 4294967296=8 * (n:Int) / 4294967296 by omega] at hb8
 have HB8:=Hh hb8;clear hzn hb8;have A0:Arr (w.alloc (.cells #[Value.int .u8 0,Value.int .u8 0,Value.int .u8 0,Value.int .u8 0,Value.int .u8 0,Value.int .u8 0,Value.int .u8 0,Value.int .u8 0] 143)) w.heap.size 143 [Value.int .u8 0,Value.int .u8 0,Value.int .u8 0,Value.int .u8 0,Value.int .u8 0,Value.int .u8 0,Value.int .u8 0,Value.int .u8 0]:=Arr.new w [Value.int .u8 0,Value.int .u8 0,Value.int .u8 0,Value.int .u8 0,Value.int .u8 0,Value.int .u8 0,Value.int .u8 0,Value.int .u8 0] _;obtain ⟨x1,hx1⟩:∃x,8 * (n:Int) / 4294967296=x:=⟨_,rfl⟩;obtain ⟨x2,hx2⟩:∃x,8 * (n:Int) % 4294967296=x:=⟨_,rfl⟩;have PW1:=Hh (oC w.heap.size 0 4 8 x1 _ _ _ A0 (by decide) (by omega) (by decide) (by omega))
 have PW2:=Hh (fun (wx:World) (ha:Arr wx w.heap.size 143 ([]++(aS [cV (x1 / 16777216),cV (x1 / 65536),cV (x1 / 256),cV x1]++[Value.int .u8 0,Value.int .u8 0,Value.int .u8 0,Value.int .u8 0])))=>oC w.heap.size 4 4 4 x2 _ _ wx ha (by simp [aS]) (by omega) (by decide) (by omega))
 go_enter func72,ntmps72
 go_wp2_with (first | (go_at_call 73;(with_reducible refine PW1.o.mono ?_);rintro e w1 ⟨rfl,hw1⟩;(try simp only [hz]);have A1:=yT (o:=0) (a:=[]) (v0:=.int .u8 0) (v1:=.int .u8 0) (v2:=.int .u8 0) (v3:=.int .u8 0) (b:=[Value.int .u8 0,Value.int .u8 0,Value.int .u8 0,Value.int .u8 0]) (x:=x1) A0 rfl;rw [←hw1] at A1;have HW1:=Hh hw1;clear hw1) | (go_at_call 73;(with_reducible refine (PW2.o _ A1).mono ?_);rintro e w2 ⟨rfl,hw2⟩;have A2:=yT (o:=4) (a:=aS [cV (x1 / 16777216),cV (x1 / 65536),cV (x1 / 256),cV x1]) (v0:=.int .u8 0) (v1:=.int .u8 0) (v2:=.int .u8 0) (v3:=.int .u8 0) (b:=[]) (x:=x2) A1 rfl;rw [←hw2] at A2;have HW2:=Hh hw2;clear hw2))
 have hz2:w2.heap.size=w.heap.size+1:=by rw [HW2.o,CU,HW1.o,CU];simp
 have hb2:Below w.heap.size w w2:=by
  rw [HW2.o];refine qO ?_ (Lr _);rw [HW1.o];exact qO ((Br _ _).alloc (Lr _) _) (Lr _)
 obtain ⟨NB,hNB⟩:∃l,l=be8 (8 * n):=⟨_,rfl⟩;have A3:Arr w2 w.heap.size 143 (aS NB):=by
  rw [hNB,HB8.o,hx1,hx2];exact A2
 have hNl:NB.length=8:=by rw [hNB,RG]
 have hPR:Hid (R=s.data.toList++([128]++(List.replicate z 0++NB))):=by rw [hNB];exact hP
 clear hNB A2 A1 PW1 PW2 HB8 hP hx1 hx2 HW1 HW2;rw [show ((s.size:Int)+1+(z:Int)+8)=((s.size+1+z+8:Nat):Int) by push_cast;rfl]
 obtain ⟨B,hB⟩:∃B,B=w2.heap.size:=⟨_,rfl⟩;rw [←hB];have HBk:(w2.alloc (.cells #[.pointer none,Sn] 91)).heap[B]?=some (.cells #[.pointer none,Sn] 91 (0,0)):=by rw [hB];exact Hn _ _
 have hBs:B≤(w2.alloc (.cells #[.pointer none,Sn] 91)).heap.size:=by rw [hB];simp
 refine (aIq B B (s.size+1+z+8) _ (Lr _) HBk hBs (by omega)).mono ?_
 rintro e w3 ⟨rfl,hA3,hb3⟩;have g3:Below w.heap.size w w3:=(hb2.alloc hb2.size _).trans (hb3.mono (by omega))
 have N3:Arr w3 w.heap.size 143 (aS NB):=(A3.alloc _).below hb3 (by omega)
 have s3:B≤w3.heap.size:=Ae hBs hb3.size;have hBw:w.heap.size<B:=by omega
 have I3:Lib.IsBuilder 91 5 B B [] w3:=.inr hA3;clear hB hz2 HBk hBs hb2 A3 A0 hb3 hA3;have hstr:(Lib.strCells s).length=s.size:=Lib.strCells_length s;have WS:=Hh (BF B B [] s w3 I3 (by simp;omega) s3)
 clear I3
 go_wp2_with (first | (go_at_call 62;(with_reducible refine WS.o.mono ?_);rintro e w4 ⟨rfl,hA4,hb4⟩;have WB:=Hh (wH B B _ 128 w4 (.inr hA4) (by simp [hstr];omega) (Ae s3 hb4.size))) | (go_at_call 109;(with_reducible refine WB.o.mono ?_);rintro e w5 ⟨rfl,hA5,hb5⟩))
 have g5:Below w.heap.size w w5:=(g3.trans (hb4.mono (by omega))).trans (hb5.mono (by omega))
 have N5:Arr w5 w.heap.size 143 (aS NB):=(N3.below hb4 hBw).below hb5 hBw;have s5:B≤w5.heap.size:=Ae (Ae s3 hb4.size) hb5.size;clear hA4 hb4 hb5 g3 N3 s3 WS WB
 go_loopw [36] (fun i wr=>∃j:Nat,j≤z∧i=Iz j∧Lib.IsBuilder 91 5 B B (aS (s.data.toList++([128]++List.replicate j 0))) wr∧Below w.heap.size w wr∧Arr wr w.heap.size 143 (aS NB)∧B≤wr.heap.size) (fun i _=>z - (intOf i).toNat)
 case atStart=>
  refine ⟨0,by omega,rfl,.inr ?_,g5,N5,s5⟩
  simpa [aS,Lib.strCells] using hA5
 case round=>
  clear hA5 g5 N5 s5;obtain ⟨j,hj,rfl,hI,hb,hN,hsz⟩:=hrel
  by_cases hlt:j<z
  ·have hle:(aS (s.data.toList++([128]++List.replicate j 0))).length=s.size+1+j:=by simp [aS];omega
   have WB:=Hh (wH B B _ 0 wr hI (by rw [hle];omega) hsz)
   clear hle
   go_wp2_with (go_at_call 109;(with_reducible refine WB.o.mono ?_);rintro e w6 ⟨rfl,hA6,hb6⟩)
   go_roundw
   case rel=>
    refine ⟨j+1,by omega,rfl,.inr ?_,hb.trans (hb6.mono (by omega)),hN.below hb6 hBw,Ae hsz hb6.size⟩
    rw [List.replicate_succ',←Aj [128],←Aj s.data.toList];rw [cP];exact hA6
   case measure=>simp [intOf];omega
  ·obtain rfl:j=z:=by omega
   have hle:(aS (s.data.toList++([128]++List.replicate j 0))).length=s.size+1+j:=by simp [aS];omega
   have WR:=Hh (aGu B B _ ⟨w.heap.size,0,none⟩ 8 8 (aS NB) wr hI (by rw [jW,hNl]) (fun k u hk=>by rw [Bn];simpa using hN.cellAt hk) hBw (by intro u hu;simp [aS] at hu;obtain ⟨b,_,rfl⟩:=hu;rfl) (by rw [hle];omega) hsz)
   clear hle
   go_wp2_with (first | (go_at_call 110;(with_reducible refine WR.o.mono ?_);rintro e w6 ⟨rfl,hA6,hb6⟩;have ST:=aDq B B R w6 (.inr (by rw [hPR.o,←Aj [128],←Aj s.data.toList];rw [←cP] at hA6;exact hA6)) (Ae hsz hb6.size);have HST:=Hh ST;clear ST) | (go_at_call 64;(with_reducible refine HST.o.mono ?_);rintro e w7 ⟨rfl,hb7⟩))
   go_ret
   exact ⟨rfl,(hb.trans (hb6.mono (by omega))).trans (hb7.mono (by omega))⟩
theorem uW:HL.length=8:=rfl
theorem Arr.row {w:World} {g:Nat} {T:TypeId} {xs:Vl} (h:Arr w g T xs):Row w g T xs.length xs:=
 ⟨xs.toArray,(0,0),h,by simp,Lr _,by simp,.inl rfl⟩
theorem VO (ys:List Int) (i:Nat) (hi:i<ys.length):oF (ys.take (i+1))=oF (ys.take i)++[cV (ys.getD i 0 / 16777216),cV (ys.getD i 0 / 65536),cV (ys.getD i 0 / 256),cV (ys.getD i 0)]:=by
 rw [List.take_succ_eq_append_getElem hi];have e:ys.getD i 0=ys[i]:=by simp [List.getD,hi]
 rw [e];simp only [oF,List.flatMap_append,Co,List.flatMap_nil,Bu]
theorem aAk (ys:List Int):(oF ys).length=4 * ys.length:=by
 induction ys with
 | nil=>rfl
 | cons x r ih=>
  simp only [oF,Co,Lg,Ag,Bs] at ih ⊢;rw [ih];omega
theorem OA {P:Program} (t e:TypeId) (n g l:Nat) (li:Int) (hli:li=(l:Int)) (hl:l<n) (hu:P.underlying t=some (.array n e)) (hsz:∀w,(sizeOf e).run P w=.ok 1 w) (w:World) :
 (Instr.sliceAt t (.pointer (some ⟨g,0,none⟩)) (some (Iz li)) none none).run P w=.ok (.slice (some ⟨g,l,none⟩) (n - l) (n - l)) w:=by
 subst hli;have ha:P.arrayLen t=n:=by simp [Program.arrayLen,hu]
 have he:P.elem t=e:=by simp [Program.elem,hu]
 rw [run_sliceAt_array_l w t ⟨g,0,none⟩ (by rw [ha,he];exact hu) .i64 (l:Int) (by omega) (by rw [ha];omega),he,hsz]
 have hne:¬n=l:=by omega
 simp [Result.andThen,slicedAt,ha,hne,Bn]
def aEk (w:World):Prop:=w.rangeAt 0 0 (gD HL)
theorem aEk.below {w w':World} (h:aEk w) {B:Nat} (hb:Below B w w') (hB:0<B):aEk w':=fun j v hv=>by
 rw [hb.cell (p:=⟨0,0+j,none⟩) hB];exact h j v hv
def GP (w:World):Prop:=tG w∧aEk w∧2<w.heap.size∧0<w.heap.size
theorem GP.below {w w':World} (h:GP w) (hb:Below w.heap.size w w'):GP w':=
 ⟨h.1.below hb h.2.2.1,h.2.1.below hb h.2.2.2,Ll h.2.2.1 hb.size,Ll h.2.2.2 hb.size⟩
theorem aFf (s:Bt) (w:World) (hs:s.size≤1099511627776) (hT:GP w) :
 Calls prog 39 #[.string s] w fun e w'=>e=.returned (.string ⟨(qM s.data.toList).toArray⟩)∧Below w.heap.size w w':=by
 obtain ⟨L,hL⟩:∃L,L=s.data.toList:=⟨_,rfl⟩;have hLs:L.length=s.size:=by rw [hL];simp
 obtain ⟨m,hm⟩:∃m,m=s.size / 64:=⟨_,rfl⟩;have hm64:64 * m≤s.size:=by omega
 obtain ⟨k,hk⟩:∃k,k=64 * m:=⟨_,rfl⟩;have hwh:(s.size:Int) - (s.size:Int) % 64=(k:Int):=by omega
 have hks:k≤s.size:=by omega
 obtain ⟨q1,hq1⟩:∃q,s.extract 0 k=q:=⟨_,rfl⟩;obtain ⟨q2,hq2⟩:∃q,s.extract k s.size=q:=⟨_,rfl⟩;have hq1s:q1.size=64 * m:=by rw [←hq1,oP _ _ _ (by omega) hks];omega
 have hq2s:q2.size≤1099511627776:=by rw [←hq2,oP _ _ _ hks (Lr _)];omega
 have hq1l:q1.data.toList=L.take (64 * m):=by rw [←hq1,lQ,hL,←hk];rfl
 have hq2l:q2.data.toList=L.drop (64 * m):=by rw [←hq2,lQ,gQ,hL,hk]
 obtain ⟨p,hp⟩:∃p:Bt,p=⟨(oE q2.data.toList s.size).toArray⟩:=⟨_,rfl⟩;have hpl:p.data.toList=oE (L.drop (64 * m)) L.length:=by rw [hp,←hq2l,hLs]
 have hps:p.size=(oE (L.drop (64 * m)) L.length).length:=by rw [←hpl];simp
 obtain ⟨H0,hH0⟩:∃V,V=gD HL:=⟨_,rfl⟩;obtain ⟨h1,hh1⟩:∃h,h=kE HL (L.take (64 * m)) m:=⟨_,rfl⟩;have h1l:h1.length=8:=by rw [hh1];exact gL _ _ uW _
 obtain ⟨H1,hH1⟩:∃V,V=gD h1:=⟨_,rfl⟩;obtain ⟨h2,hh2⟩:∃h,h=kE h1 (oE (L.drop (64 * m)) L.length) ((oE (L.drop (64 * m)) L.length).length / 64):=⟨_,rfl⟩;have h2l:h2.length=8:=by rw [hh2];exact gL _ _ h1l _
 obtain ⟨H2,hH2⟩:∃V,V=gD h2:=⟨_,rfl⟩;have AB1:=Hh (fun (wx:World) (hK:tG wx) (hz:2<wx.heap.size)=>qH HL q1 wx uW hK hz)
 rw [hq1l,hq1s,show 64 * m / 64=m by omega,←hh1,←hH1,←hH0] at AB1
 have AB2:=Hh (fun (wx:World) (hK:tG wx) (hz:2<wx.heap.size)=>qH h1 p wx h1l hK hz)
 rw [hpl,hps,←hh2,←hH2,←hH1] at AB2;have PD:=Hh (fun (wx:World)=>OW q2 s.size wx hq2s hs)
 rw [←hp] at PD;have hH1l:H1.length=8:=by rw [hH1,dJ,h1l]
 have hH11:∀v ∈ H1,v.oneCell'=true:=by rw [hH1];exact mH _
 have hH2l:H2.length=8:=by rw [hH2,dJ,h2l]
 have hH21:∀v ∈ H2,v.oneCell'=true:=by rw [hH2];exact mH _
 have hRange:w.rangeAt 0 0 H0:=by rw [hH0];exact hT.2.1
 have hH0l:H0.length=8:=by rw [hH0,dJ,uW]
 have hres:qM L=oF h2:=by rw [NY L m (by rw [hLs,hm]),hh2,hh1]
 have g2:∀j,j<8→H2[j]?=some (.int .u32 (h2.getD j 0)):=fun j hj=>by rw [hH2];exact lG h2 j (by omega)
 have G2:=Hh g2;have HRES:=Hh hres;have hRg:=Hh hRange;rw [←hL];obtain ⟨hK,_,hz1,hz0⟩:=hT;have KH:=Hh hK;clear hm hk hm64 hL hLs hq1s hq1l hq2l hq2s hpl hps hp hH0 hH1 hh1 hH2 hh2 g2 hres hRange hK h1l
 go_enter func39,ntmps39
 go_upto_region 2 with fail
 clear hwh
 go_cut [4] from 14 (fun v wx=>∃g4:Nat,v=.pointer (some ⟨g4,0,none⟩)∧w.heap.size≤g4∧Arr wx g4 107 H1∧Below w.heap.size w wx)
 case first=>
  refine xL [1,2,3] 2 [(0,[[4,5,6],[5,4,6]]),(5,[[0,4,6]])] (by kernel_rfl) (by kernel_rfl) (fun _ d _ _ _ h=>by cases d <;> exact h) ?_
  simp only [dT,Da,De,Cu,Cm,Cn]
  iterate 3 (refine oA ?_ ?_ ?_ (fun K hK=>?_);rotate_left;(rfl);(intro w0;go_simp;(try rfl));(go_simp;refine hK _ ?_;clear hK K))
  refine qN ?_;have hRg':w.drew.rangeAt 0 0 H0:=hRg.o;have hK':tG w.drew:=KH.o;have hz1':2<w.drew.heap.size:=hz1;have hb0:Below w.heap.size w w.drew:=(Br _ _).drew;generalize w.drew=wd at hRg' hK' hz1' hb0 ⊢;intro p hp;simp only [Bz,Ck,or_false] at hp;rcases hp with rfl | rfl
  ·refine aIn (o:=_) rfl rfl (some 14) rfl 107 (.global 0) rfl 0 0 rfl H0 _ hRg' underlying107 rfl (by rw [hH0l];exact iO) ?_
   intro ts hts;simp only [Bz,Ck,or_false] at hts;rcases hts with rfl | rfl
   ·simp only [dT,Da,De,Cu,Cm,Cn]
    change wpList _ _ _ [_,_,_] _ _
    go_wp2_with (first | (go_at_call 71;(with_reducible refine (AB1.o _ hK' hz1').mono ?_);rintro e w1 ⟨rfl,hb1⟩) | (refine pS rfl 107 (.tmp 4) (.tmp 18) rfl _ H1 rfl rfl (Arr.new w1 (zs 8) 107) iO (kW 8) hH1l hH11 ?_))
    go_meet
    have hb2:=hb0.trans (hb1.mono hb0.size);exact ⟨w1.heap.size,rfl,hb2.size,(Arr.new w1 (zs 8) 107).setRow H1,dX (hb2.alloc hb2.size _) _ hb2.size _⟩
   ·simp only [dT,Da,De,Cu,Cm,Cn]
    change wpList _ _ _ [_,_,_] _ _
    go_wp2_with (first | (go_at_call 71;(with_reducible refine (AB1.o _ (hK'.below (B:=wd.heap.size) ((Br _ _).alloc (Lr _) _) hz1') (by simp;omega)).mono ?_);rintro e w1 ⟨rfl,hb1⟩) | (refine pS rfl 107 (.tmp 4) (.tmp 18) rfl _ H1 rfl rfl ((Arr.new wd (zs 8) 107).below hb1 (by simp)) iO (kW 8) hH1l hH11 ?_))
    go_meet
    exact ⟨wd.heap.size,rfl,hb0.size,((Arr.new wd (zs 8) 107).below hb1 (by simp)).setRow H1,dX ((hb0.alloc hb0.size _).trans (hb1.mono (by simp;have:=hb0.size;omega))) _ hb0.size _⟩
  ·refine aIo (o:=_) rfl rfl (some 4) rfl 107 rfl _ zeroValue107 ?_
   intro ts hts;simp only [Bz,Ck,or_false] at hts;subst hts;simp only [dT,Da,De,Cu,Cm,Cn]
   change wpList _ _ _ [_,_,_] _ _
   have hRa:(wd.alloc (.cells (zs 8).toArray 107)).rangeAt 0 0 H0:=World.rangeAt_alloc hRg' _
   go_wp2_with (first | (refine wpList_load_mid rfl 107 (.global 0) rfl 0 0 rfl H0 _ hRa underlying107 rfl (by rw [hH0l];exact iO) ?_) | (go_at_call 71;(with_reducible refine (AB1.o _ (hK'.below (B:=wd.heap.size) ((Br _ _).alloc (Lr _) _) hz1') (by simp;omega)).mono ?_);rintro e w1 ⟨rfl,hb1⟩) | (refine pS rfl 107 (.tmp 4) (.tmp 18) rfl _ H1 rfl rfl ((Arr.new wd (zs 8) 107).below hb1 (by simp)) iO (kW 8) hH1l hH11 ?_))
   go_meet
   exact ⟨wd.heap.size,rfl,hb0.size,((Arr.new wd (zs 8) 107).below hb1 (by simp)).setRow H1,dX ((hb0.alloc hb0.size _).trans (hb1.mono (by simp;have:=hb0.size;omega))) _ hb0.size _⟩
 case rest=>
  obtain ⟨g4,rfl,hg4,A4,hb⟩:=hcut;have hKc:tG wc:=KH.o.below hb hz1;have hzc:2<wc.heap.size:=Ll hz1 hb.size
  go_upto_region 3 with fail
  go_cut [4] from 19 (fun v wx=>v=.pointer (some ⟨g4,0,none⟩)∧Arr wx g4 107 H2∧Below w.heap.size w wx)
  case first=>
   refine pT [1,2,3,4,5] 3 [[0,6,7,8],[6,0,7,8]] (by kernel_rfl) (by kernel_rfl) (fun _ d _ _ _ h=>by cases d <;> exact h) ?_
   simp only [dT,Da,De,Cu,Cm,Cn]
   iterate 5 (refine oA ?_ ?_ ?_ (fun K hK=>?_);rotate_left;(rfl);(intro w0;go_simp;(try rfl));(go_simp;refine hK _ ?_;clear hK K))
   refine qN ?_;have A4d:Arr wc.drew g4 107 H1:=A4;have hKd:tG wc.drew:=hKc;have hzd:2<wc.drew.heap.size:=hzc;have hbd:Below w.heap.size w wc.drew:=hb.drew;generalize wc.drew=wd at A4d hKd hzd hbd ⊢;have hgd:=A4d.lt;intro ts hts;simp only [Bz,Ck,or_false] at hts;rcases hts with rfl | rfl
   ·simp only [dT,Da,De,Cu,Cm,Cn]
    change wpList _ _ _ [_,_,_,_] _ _
    go_wp2_with (first | (refine vE rfl 107 (.tmp 4) rfl _ rfl A4d underlying107 iO hH1l ?_) | (go_at_call 72;(with_reducible refine (PD.o _).mono ?_);rintro e w1 ⟨rfl,hb1⟩) | (go_at_call 71;(with_reducible refine (AB2.o _ (hKd.below hb1 hzd) (Ll hzd hb1.size)).mono ?_);rintro e w2 ⟨rfl,hb2⟩) | (refine pS rfl 107 (.tmp 4) (.tmp 26) rfl _ H2 rfl rfl ((A4d.below hb1 hgd).below hb2 (Ll hgd hb1.size)) iO hH1l hH2l hH21 ?_))
    go_meet
    have hb3:=hbd.trans ((hb1.mono hbd.size).trans (hb2.mono (Ae hbd.size hb1.size)));exact ⟨rfl,((A4d.below hb1 hgd).below hb2 (Ll hgd hb1.size)).setRow H2,dX hb3 _ hg4 _⟩
   ·simp only [dT,Da,De,Cu,Cm,Cn]
    change wpList _ _ _ [_,_,_,_] _ _
    go_wp2_with (first | (refine vE rfl 107 (.tmp 4) rfl _ rfl (A4d.below hb1 hgd) underlying107 iO hH1l ?_) | (go_at_call 72;(with_reducible refine (PD.o _).mono ?_);rintro e w1 ⟨rfl,hb1⟩) | (go_at_call 71;(with_reducible refine (AB2.o _ (hKd.below hb1 hzd) (Ll hzd hb1.size)).mono ?_);rintro e w2 ⟨rfl,hb2⟩) | (refine pS rfl 107 (.tmp 4) (.tmp 26) rfl _ H2 rfl rfl ((A4d.below hb1 hgd).below hb2 (Ll hgd hb1.size)) iO hH1l hH2l hH21 ?_))
    go_meet
    have hb3:=hbd.trans ((hb1.mono hbd.size).trans (hb2.mono (Ae hbd.size hb1.size)));exact ⟨rfl,((A4d.below hb1 hgd).below hb2 (Ll hgd hb1.size)).setRow H2,dX hb3 _ hg4 _⟩
  case rest=>
   clear A4 hb hKc hzc;obtain ⟨rfl,A4,hb⟩:=hcut;have A4':=A4.alloc (.cells (List.replicate 32 (Value.int .u8 0)).toArray 109)
   go_wp2_with (refine vE rfl 107 (.tmp 4) rfl _ rfl A4' underlying107 iO hH2l ?_)
   go_loopw [28] (fun i wr=>∃j:Nat,j≤8∧i=Iz j∧Arr wr wc.heap.size 109 (aS (oF (h2.take j))++List.replicate (32 - 4 * j) (.int .u8 0))∧Below w.heap.size w wr) (fun i _=>8 - (intOf i).toNat)
   case atStart=>
    exact ⟨0,by omega,rfl,Arr.new wc (List.replicate 32 (Value.int .u8 0)) 109,hb.alloc hb.size _⟩
   case round=>
    have hcs:=hb.size;clear A4 A4' hb;obtain ⟨j,hj,rfl,hA,hb⟩:=hrel
    by_cases hlt:j<8
    ·obtain ⟨x,hx⟩:∃x,h2.getD j 0=x:=⟨_,rfl⟩
     have gj:=G2.o j hlt;rw [hx] at gj;have hix:=pX (P:=prog) 107 106 8 H2 j _ underlying107 hlt isAgg106 sizeOf106 gj;have hOL:=VO h2 j (by omega)
     rw [hx] at hOL;have hlo:(oF (h2.take j)).length=4 * j:=by rw [aAk,Ba,h2l];omega
     obtain ⟨o,ho⟩:∃o,o=4 * j:=⟨_,rfl⟩;have hrp:List.replicate (32 - 4 * j) (Value.int .u8 0)=[.int .u8 0,.int .u8 0,.int .u8 0,.int .u8 0]++List.replicate (32 - 4 * (j+1)) (.int .u8 0):=by
      rw [show 32 - 4 * j=4+(32 - 4 * (j+1)) by omega,←List.replicate_append_replicate];rfl
     rw [hrp] at hA;have PW:=Hh (oC wc.heap.size (4 * j) (32 - 4 * j) (32 - 4 * j) x 109 _ wr hA (by simp [aS,hlo]) (by omega) (by unfold maxLen;omega) (Lr _))
     have hA':Arr (JW wr wc.heap.size (4 * j) x) wc.heap.size 109 (aS (oF (h2.take (j+1)))++List.replicate (32 - 4 * (j+1)) (.int .u8 0)):=by
      have:=yT (x:=x) hA (o:=4 * j) (by rw [jW,hlo])
      rw [hOL,cP,Aj];exact this
     have HA:=Hh hA';have i64a:(j:Int)<8:=by omega
     have hsl:(Instr.sliceAt 109 (.pointer (some ⟨wc.heap.size,0,none⟩)) (some (Iz (4 * (j:Int)))) none none).run prog wr=.ok (.slice (some ⟨wc.heap.size,4 * j,none⟩) (32 - 4 * j) (32 - 4 * j)) wr:=OA 109 5 32 wc.heap.size (4 * j) (4 * (j:Int)) (by push_cast;rfl) (by omega) underlying109 sizeOf5 wr
     clear hA' hrp hlo hOL gj hx hA ho
     go_wp2_with (go_at_call 73;(with_reducible refine PW.o.mono ?_);rintro e w6 ⟨rfl,rfl⟩)
     go_roundw
     case rel=>exact ⟨j+1,by omega,rfl,HA.o,qO hb (by omega)⟩
     case measure=>simp [intOf];omega
    ·obtain rfl:j=8:=by omega
     have hA1:Arr wr wc.heap.size 109 (aS (oF h2)):=by
      have:=hA;rw [Ao (by omega)] at this
      simpa using this
     have hol:(oF h2).length=32:=vQ h2l;have hrw:=hA1.row;rw [jW,hol] at hrw;have hcv:=AG (P:=prog) wr 69 9 5 wc.heap.size 109 32 32 (oF h2) hol hrw underlying69 underlying5 underlying9;have HE:Hid ((⟨(oF h2).toArray⟩:Bt)=⟨(qM L).toArray⟩):=Hh (by rw [HRES.o])
     obtain ⟨OS,hOS⟩:∃OS:Bt,OS=⟨(oF h2).toArray⟩:=⟨_,rfl⟩;rw [←hOS] at hcv HE;clear hOS hrw hA1 hA hol
     go_wp2
     go_ret
     exact ⟨by rw [HE.o];rfl,hb⟩
end Go.Proofs.YtncdpanfefnjlaaGreatDoor