import Derived.Test.YtncdpanfefnjlaaGreatDoorJbare
set_option linter.unusedVariables false
set_option linter.unusedSimpArgs false
set_option maxHeartbeats 3200000
set_option maxRecDepth 100000
namespace Go.Proofs.YtncdpanfefnjlaaGreatDoor
open Go.Proofs.Tryz
open Go Go.ChangeShapes Go.WideShapes Go.ChangeAt Go.RowKit
def sU (V:Ub→Option (ND × Ub)) (mp:Bool) (e:UInt8) (n:Nat) (ns:List Bt) (its:List ND) (t2:Ub):Option ((List Bt × List ND) × Ub):=match t2 with
 | []=>none
 | c::t3=>if c=e then some ((ns,its),t3) else if c ≠ 44∨256<its.length then none else cX V mp e n ns its t3
def AV (V:Ub→Option (ND × Ub)) (mp:Bool) (e:UInt8) (n:Nat) (ns:List Bt) (its:List ND) (t:Ub):Option ((List Bt × List ND) × Ub):=match V t with
 | none=>none
 | some (x,t2)=>sU V mp e n ns (its++[x]) t2
def AZ (V:Ub→Option (ND × Ub)) (mp:Bool) (e:UInt8) (n:Nat) (ns:List Bt) (its:List ND) (t:Ub):Option ((List Bt × List ND) × Ub):=match zC mp ns t with
 | none=>none
 | some (ns',t1)=>AV V mp e n ns' its t1
theorem vW {V:Ub→Option (ND × Ub)} {mp:Bool} {e:UInt8} {n:Nat} {ns:List Bt} {its:List ND} {t:Ub} {R:(List Bt × List ND) × Ub} (h:cX V mp e n ns its t=some R) (hh:¬ (its=[]∧t.head?=some e)):∃m,AZ V mp e m ns its t=some R:=by
 cases n with
 | zero=>cases h
 | succ n=>
  rw [cX,Af hh] at h;refine ⟨n,?_⟩;unfold AZ AV sU;rw [←h];cases zC mp ns t with
  | none=>rfl
  | some y=>
   obtain ⟨a,b⟩:=y;dsimp only;cases V b with
   | none=>rfl
   | some z=>
    obtain ⟨x,t2⟩:=z;dsimp only;cases t2 with
    | nil=>rfl
    | cons c t3=>dsimp only;rw [Lg,List.length_singleton]
theorem LF {V:Ub→Option (ND × Ub)} {mp:Bool} {e:UInt8} {n:Nat} {t:Ub} {R:(List Bt × List ND) × Ub} (h:cX V mp e n [] [] (e::t)=some R):R=(([],[]),t):=by
 cases n with
 | zero=>cases h
 | succ n=>
  rw [cX,Am ⟨rfl,rfl⟩] at h;cases h;rfl
theorem QX {V:Ub→Option (ND × Ub)} {mp:Bool} {e:UInt8} {n:Nat} {ns:List Bt} {its:List ND} {t:Ub} {R:(List Bt × List ND) × Ub} (h:sU V mp e n ns its (e::t)=some R):R=((ns,its),t):=by
 have h2:sU V mp e n ns its (e::t)=some ((ns,its),t):=Am rfl;rw [h2] at h;cases h;rfl
theorem wA {V:Ub→Option (ND × Ub)} {mp:Bool} {e:UInt8} {n:Nat} {ns:List Bt} {its:List ND} {t2:Ub} {R:(List Bt × List ND) × Ub} (h:sU V mp e n ns its t2=some R) (he:Lib.hasPrefix t2 [e]=false):∃t3,t2=44::t3∧cX V mp e n ns its t3=some R:=by
 unfold sU at h;cases t2 with
 | nil=>cases h
 | cons c t3=>
  simp only at h;rw [sP] at he;have hne:c ≠ e:=fun x=>by subst x;simp at he
  rw [Af hne] at h
  split at h
  ·cases h
  ·rename_i hc
   have:c=44:=by
    by_cases h4:c=44
    ·exact h4
    ·exact absurd (.inl h4) hc
   subst this;exact ⟨t3,rfl,h⟩
theorem pK {V:Ub→Option (ND × Ub)} {mp:Bool} {e:UInt8} {n:Nat} {ns:List Bt} {its:List ND} {t2:Ub} {R:(List Bt × List ND) × Ub} (h:sU V mp e n ns its t2=some R) (he:gN.contains e=true):uM t2:=by
 intro c hc;unfold sU at h;cases t2 with
 | nil=>cases h
 | cons c' t3=>
  cases hc;simp only at h
  split at h
  ·rename_i q;rw [q];exact he
  ·split at h
   ·cases h
   ·rename_i q
    have:c=44:=by
     by_cases h4:c=44
     ·exact h4
     ·exact absurd (.inl h4) q
    rw [this];rfl
theorem DF {V:Ub→Option (ND × Ub)} {e:UInt8} {n:Nat} {ns:List Bt} {its:List ND} {t:Ub} {R:(List Bt × List ND) × Ub} (h:AZ V true e n ns its t=some R):∃s t1,RN t s t1∧AV V true e n (ns++[bA s]) its t1=some R:=by
 unfold AZ zC at h;rw [Am rfl] at h
 split at h
 ·cases h
 ·rename_i ns' t1 hn
  split at hn
  ·rename_i r
   split at hn
   ·rename_i o r' hq
    cases hn;exact ⟨o,t1,⟨r,rfl,hq⟩,h⟩
   ·cases hn
  ·cases hn
theorem WK {V:Ub→Option (ND × Ub)} {e:UInt8} {n:Nat} {ns:List Bt} {its:List ND} {t:Ub} {R:(List Bt × List ND) × Ub} (h:AZ V false e n ns its t=some R):AV V false e n ns its t=some R:=by
 unfold AZ zC at h;rw [Af (by decide)] at h
 exact h
def tD (d:Nat):Prop:=∀ (g mw mc:Nat) (r:Ub) (w:World),PrS w g mw mc r→r.length≤100000→Calls prog 144 #[.pointer (some ⟨g,0,none⟩),Iz (d:Int)] w (wK (fun y t=>bR d r=some (y,t)∧uM t) d g mw mc r w)
def lT (d:Nat) (k:Int) (e:UInt8) (r:Ub) (y:ND) (t:Ub):Prop:=∃n0 ns its,cX (bR d) (decide (k=5)) e n0 [] [] r=some ((ns,its),t)∧y=.mk k false 0 ⟨#[]⟩ ns its
structure ISt (d:Nat) (k:Int) (e:UInt8) (g nb C mw mc:Nat) (r:Ub) (w wx:World) (vn vi:Value) (ns:List Bt) (A:List NC) (rr:Ub):Prop where
 par:PrS wx g mw mc rr
 st:NSt 28 9 (d+1) w wx g nb C k vn vi ns A
 fine:∀y,y ∈ A→jN (d+1) y.2∧aO (d+1) y.2=true
 len:A.length+rr.length≤r.length+min A.length 1
 nam:ns.length≤A.length+1
theorem yW (d:Nat) (hd:d≤20) (PN:tD d) (k:Int) (e:UInt8) (hk:(k=4∧e=93)∨(k=5∧e=125)) {g mw mc:Nat} {r:Ub} (w:World) (h:PrS w g mw mc r) (hr:r.length≤100000):Calls prog 164 #[.pointer (some ⟨g,0,none⟩),Iz k,.string ⟨#[e]⟩,Iz ((d:Int)+1)] w (wK (lT d k e r) (d+1) g mw mc r w):=by
 have hgw:=h.lt;obtain ⟨z1,hz1⟩:∃o,o=Obj.cells Z6 28 (0,0):=⟨_,rfl⟩;obtain ⟨z2,hz2⟩:∃o,o=Obj.cells #[Iz k,.bool false,Iz 0,.string ⟨#[]⟩,Sn,Sn] 28 (0,0):=⟨_,rfl⟩;have hr0:=Hn w z1;have hz:(w.alloc z1).heap.size=w.heap.size+1:=by simp
 have hr1:=(Bh (w.alloc z1) z2 _ (Aa hr0)).trans hr0;have hn1:=Hn (w.alloc z1) z2;have bb:=((Br w.heap.size w).alloc (o:=z1) (Lr _)).alloc (o:=z2) (by rw [hz];omega)
 have hp0:=h.below bb;have hg0:=aH (dP w z1 (some g)) (dP (w.alloc z1) z2 (some g));obtain ⟨nb,hnb⟩:∃nb,nb=(w.alloc z1).heap.size:=⟨_,rfl⟩;rw [←hnb] at hn1;obtain ⟨W2,hW2⟩:∃W,W=(w.alloc z1).alloc z2:=⟨_,rfl⟩;have hst0:NSt 28 9 (d+1) w W2 g nb W2.heap.size k (Sn) (Sn) [] []:=by
  rw [hW2];exact NSt.begin (by rw [hr1,hz1]) (by rw [hn1,hz2]) hgw (by omega) hg0
 rw [←hW2] at hp0;obtain ⟨C,hC⟩:∃C,C=W2.heap.size:=⟨_,rfl⟩;rw [←hC] at hst0;have HST:=Hh hst0;have HP0:=Hh hp0;have HPN:=Hh PN;rw [hz1,hz2] at hW2;rw [hz1] at hnb;have hzz:(w.alloc (.cells Z6 28)).heap.size=w.heap.size+1:=by simp
 rw [hzz] at hnb;clear hst0 hp0 hr0 hr1 hn1 bb hg0 hC PN h hz hz1 hz2 hzz
 go_enter func164,ntmps164
 go_upto_region 2 with fail
 rw [←hW2];rw [←hnb];have HNB:=Hh hnb;clear hW2 hnb z1 z2;obtain ⟨ip,hip,hz0,hz1,hz2⟩:=qD;obtain ⟨iq,hiq,hy0,hy1,hy2⟩:=qC;have HI2:=Hh hip;have HIQ:=Hh hiq;clear hip hiq;have hug:=underlying26;have hus:=underlying25
 go_loopw [] (fun wr=>∃ (vn vi:Value) (ns:List Bt) (A:List NC) (rr:Ub),ISt d k e g nb C mw mc r w wr vn vi ns A rr ∧
  (∀n0 R,cX (bR d) (decide (k=5)) e n0 [] [] r=some R→(A=[]∧ns=[]∧rr=r)∨(A ≠ []∧∃n,sU (bR d) (decide (k=5)) e n ns (aE A) rr=some R))∧(ns.length≤A.length)) (fun wr=>wU wr g+(1 - SW wr nb 5))
 case atStart=>exact ⟨_,_,[],[],r,⟨HP0.o,HST.o,(fun y hy=>by simp at hy),by simp,by simp⟩,fun n0 R h=>.inl ⟨rfl,rfl,rfl⟩,Lr _⟩
 case round=>
  clear HST HP0;obtain ⟨vn,vi,ns,A,rr,hI,hsem,hnsA⟩:=hrel;have hm:=Hh (Ai hI.par.rest hI.st.len);have S:=dK ⟨#[e]⟩ wr hI.par;rw [show (⟨#[e]⟩:Bt).data.toList=[e] from rfl] at S
  cases hp:Lib.hasPrefix rr [e] with
  | true=>
   rw [hp,iM hp] at S;have SS:Hid (Calls prog 163 #[.pointer (some ⟨g,0,none⟩),.string ⟨#[e]⟩] wr (eT g mw mc wr (.bool true) (rr.drop 1))):=S;have hrr0:=dW hp;obtain ⟨q,hq⟩:∃q,q=rr.drop 1:=⟨_,rfl⟩;have hrr:rr=e::q:=by rw [hq];exact hrr0
   rw [←hq] at SS;have HRR:=Hh hrr;have HI:=Hh hI;have HS:=Hh hsem;clear hrr0 hrr hq hp S hI hsem
   go_upto_region 14 with ((with_reducible refine (SS.o).mono ?_);rintro e1 w1 ⟨rfl,hp1,hg1⟩)
   have hst:=HI.o.st.grown hg1;have hqr:A.length+q.length≤r.length:=by
    have:=HI.o.len;rw [HRR.o,Ag] at this;omega
   obtain ⟨ai,ci,rfl⟩:=hst.viForm;obtain ⟨an,cpn,rfl⟩:=hst.vnForm;have f0:=aD hst.nod;have c0:=aA hst.nod;have f1:=aD hst.res;have c1:=aA hst.res;have hne:¬w.heap.size=nb:=by have:=hst.lo;omega
   have hne2:¬nb=w.heap.size:=fun e=>hne e.symm
   have HST:=Hh hst;have HP1:=Hh hp1;clear hst hp1 hg1 SS;generalize hNL:ns.length=NL at c0 hnsA;have HNL:=Hh hNL;generalize hAL:A.length=AL at c0 hnsA hqr;have HAL:=Hh hAL;clear hNL hAL
   go_wp2
   have hdn:=HST.o.done;have hput:=dB HST.o.res (Iz k) (.bool false) (Iz 0) (.string ⟨#[]⟩) (.slice an ns.length cpn) (.slice ai A.length ci);rw [HNL.o,HAL.o] at hdn hput;refine Ar (v:=.tuple #[.agg #[Iz k,.bool false,Iz 0,.string ⟨#[]⟩,.slice an NL cpn,.slice ai AL ci],.bool true]) ?_ ?_ ?_;rotate_left
   ·rfl
   ·have hgs:=aM w1 w.heap.size (Iz k) (.bool false) (Iz 0) (.string ⟨#[]⟩) (.slice an NL cpn) (.slice ai AL ci)
    have hlA:(aE A).length=AL:=by rw [←HAL.o];simp [aE]
    refine ⟨[Iz k,.bool false,Iz 0,.string ⟨#[]⟩,.slice an NL cpn,.slice ai AL ci],.mk k false 0 ⟨#[]⟩ ns (aE A),true,q,rfl,hdn.1,HP1.o.kept hgs hgw,hdn.2.1,by omega,⟨⟨?_,?_⟩,?_⟩,?_⟩
    ·show (aE A).length≤1000000;omega
    ·intro y hy
     obtain ⟨z,hz,rfl⟩:=Bl.1 (show y ∈ aE A from hy)
     exact (HI.o.fine z hz).1
    ·rw [cJ,Ak,Aw]
     refine ⟨show dD 0=true by decide,fun y hy=>?_⟩
     obtain ⟨z,hz,rfl⟩:=Bl.1 (show y ∈ aE A from hy)
     exact (HI.o.fine z hz).2
    ·rintro y t ⟨n0,ns',its',hi,rfl⟩
     rcases HS.o n0 _ hi with ⟨rfl,rfl,hr2⟩ | ⟨hA,n,hc⟩
     ·rw [←hr2,HRR.o] at hi
      have:=LF hi;cases this;exact ⟨rfl,rfl,rfl⟩
     ·rw [HRR.o] at hc
      have:=QX hc;cases this;exact ⟨rfl,rfl,rfl⟩
   ·obtain ⟨q0,q1,q2,q3,q4,q5⟩:=aA hput
    simp only [dE] at q0 q1 q2 q3 q4 q5;simp [results,results164,go_sem,q0,q1,q2,q3,q4,q5]
  | false=>
   rw [hp,fF hp] at S;have SS:Hid (Calls prog 163 #[.pointer (some ⟨g,0,none⟩),.string ⟨#[e]⟩] wr (eT g mw mc wr (.bool false) rr)):=S;have HPF:=Hh hp;have HI:=Hh hI;have HS:=Hh hsem;have HE3:Hid (gN.contains e=true):=Hh (by rcases hk with ⟨-,rfl⟩ | ⟨-,rfl⟩ <;> decide)
   obtain ⟨ai,ci,hvi⟩:=hI.st.viForm;subst hvi;have hlenI:=hI.len;have hd0:(0:Int)≤(d:Int):=by omega
   have hdz:(d:Int)≤20:=by omega
   clear hp S hI hsem
   go_upto_region 3 with ((with_reducible refine (SS.o).mono ?_);rintro e1 w1 ⟨rfl,hp1,hg1⟩)
   have hst1:=HI.o.st.grown hg1;have HST1:=Hh hst1;have HP1:=Hh hp1;have cc:=(aA hst1.nod).2.2.2.2.2;clear hp1 hg1 SS hst1
   by_cases hbad:A.length ≠ 0∧Lib.hasPrefix rr [44]=false
   ·have hA0:(0:Int)<(A.length:Int):=by omega
    have S2:Hid (Calls prog 163 #[.pointer (some ⟨g,0,none⟩),.string ⟨#[44]⟩] w1 (eT g mw mc w1 (.bool false) rr)):=by
     have:=dK ⟨#[44]⟩ w1 HP1.o;rw [show (⟨#[44]⟩:Bt).data.toList=[44] from rfl,hbad.2,fF hbad.2] at this
     exact this
    have VAC:Hid (∀y t,¬lT d k e r y t):=Hh fun y t ⟨n0,ns',its',hi,_⟩=>by
     rcases HS.o n0 _ hi with ⟨rfl,-,-⟩ | ⟨-,n,hc⟩
     ·exact hbad.1 rfl
     ·obtain ⟨t3,rfl,-⟩:=wA hc HPF.o
      have:=hbad.2;rw [sP] at this;cases this
    clear hbad
    go_upto_region 4 with ((with_reducible refine (S2.o).mono ?_);rintro e2 w2 ⟨rfl,hp2,hg2⟩)
    have HST2:=Hh (HST1.o.grown hg2);have HP2:=Hh hp2;clear hp2 hg2 S2 cc;have f1:=aD HST2.o.res;have c1:=aA HST2.o.res
    go_wp2
    refine aP (v:=.bool false) HST2.o.res results164 rfl rfl rfl ?_;exact iZ (T:=0) 0 false 0 ⟨#[]⟩ false HP2.o HST2.o.gro hgw (by omega) (by decide) (by decide) (fun y t hV=>absurd hV (VAC.o y t))
   ·have HSM0:Hid (∀n0 R,cX (bR d) (decide (k=5)) e n0 [] [] r=some R→(A.length=0→∃n,AZ (bR d) (decide (k=5)) e n ns (aE A) rr=some R)∧(A.length ≠ 0→∃t3 n,rr=44::t3∧AZ (bR d) (decide (k=5)) e n ns (aE A) t3=some R)):=Hh fun n0 R hi=>by
     rcases HS.o n0 _ hi with ⟨rfl,rfl,rfl⟩ | ⟨hA,n,hc⟩
     ·refine ⟨fun _=>vW hi ?_,fun h=>absurd rfl h⟩
      rintro ⟨-,hh⟩;have:=HPF.o;cases hrr:rr with
      | nil=>rw [hrr] at hh;cases hh
      | cons c q=>
       rw [hrr] at hh this;cases hh;rw [sP] at this;simp at this
     ·refine ⟨fun h=>absurd (Au.1 h) hA,fun _=>?_⟩
      obtain ⟨t3,e1,h2⟩:=wA hc HPF.o;obtain ⟨m,h3⟩:=vW h2 (by rintro ⟨h,-⟩;exact hA (List.map_eq_nil_iff.1 h))
      exact ⟨t3,m,e1,h3⟩
    have hgood:A.length=0∨Lib.hasPrefix rr [44]=true:=by
     by_cases hA:A.length=0
     ·exact .inl hA
     ·right
      cases hq:Lib.hasPrefix rr [44] with
      | true=>rfl
      | false=>exact absurd ⟨hA,hq⟩ hbad
    clear hbad
    by_cases hA:A.length=0
    case' pos=>
     have hA0:¬ (0:Int)<(A.length:Int):=by omega
     have HZ:Hid (∃rz,PrS w1 g mw mc rz∧NSt 28 9 (d+1) w w1 g nb C k vn (.slice ai A.length ci) ns A∧A.length+rz.length≤r.length∧rz.length+1≤rr.length+(1 - A.length)∧∀n0 R,cX (bR d) (decide (k=5)) e n0 [] [] r=some R→∃n,AZ (bR d) (decide (k=5)) e n ns (aE A) rz=some R):=Hh ⟨rr,HP1.o,HST1.o,by omega,by omega,fun n0 R hi=>(HSM0.o n0 R hi).1 hA⟩
     clear hA
     go_upto_region 5 with fail
     obtain ⟨wz,hwz⟩:∃wz,wz=w1:=⟨_,rfl⟩;rw [←hwz] at HZ;rw [←hwz];clear hwz
    case' neg=>
     have hcm:Lib.hasPrefix rr [44]=true:=hgood.resolve_left hA;have hA0:(0:Int)<(A.length:Int):=by omega
     have S2:Hid (Calls prog 163 #[.pointer (some ⟨g,0,none⟩),.string ⟨#[44]⟩] w1 (eT g mw mc w1 (.bool true) (rr.drop 1))):=by
      have:=dK ⟨#[44]⟩ w1 HP1.o;rw [show (⟨#[44]⟩:Bt).data.toList=[44] from rfl,hcm,iM hcm] at this
      exact this
     have hrr:=dW hcm;have hrl:rr.length=(rr.drop 1).length+1:=by (conv=>lhs;rw [hrr]);simp
     have HA:=Hh hA;clear hcm hrr hA
     go_upto_region 5 with ((with_reducible refine (S2.o).mono ?_);rintro e2 wz ⟨rfl,hp2,hg2⟩)
     have HZ:Hid (∃rz,PrS wz g mw mc rz∧NSt 28 9 (d+1) w wz g nb C k vn (.slice ai A.length ci) ns A∧A.length+rz.length≤r.length∧rz.length+1≤rr.length+(1 - A.length)∧∀n0 R,cX (bR d) (decide (k=5)) e n0 [] [] r=some R→∃n,AZ (bR d) (decide (k=5)) e n ns (aE A) rz=some R):=Hh ⟨rr.drop 1,hp2,HST1.o.grown hg2,by omega,by omega,fun n0 R hi=>by
      obtain ⟨t3,n,e1,h2⟩:=(HSM0.o n0 R hi).2 HA.o;rw [e1];exact ⟨n,h2⟩⟩
     clear hp2 hg2 S2 hrl HA
    all_goals
     clear hgood hA0 HSM0 HST1 HP1 cc HPF HS hlenI;obtain ⟨rz,hpz,hstz,hlz,hmz,hsm⟩:=HZ.o;clear HZ
     by_cases hk5:k=5
     ·have hk5b:(k == 5)=true:=by simpa using hk5
      rw [An hk5] at hsm;have NM:=Hh (aAs wz hpz (by omega))
      have HSM:=Hh hsm;have HSZ:=Hh hstz;have HK5:=Hh hk5;clear hpz hstz hsm hk5
      go_upto_region 7 with ((with_reducible refine (NM.o).mono ?_);rintro e2 w3 ⟨sl,ok,ry,rfl,hp3,hg3,hsl,hly,hnm⟩)
      have HNM:=Hh hnm;have HS3:=Hh (HSZ.o.grown hg3);have HP3:=Hh hp3;clear hnm hp3 hg3 NM HSZ;cases ok with
      | false=>
       have VAC:Hid (∀y t,¬lT d k e r y t):=Hh fun y t ⟨n0,ns',its',hi,_⟩=>by
        rw [An HK5.o] at hi;obtain ⟨n,hb⟩:=HSM.o n0 _ hi;obtain ⟨s',t1,h1,-⟩:=DF hb;have:=(HNM.o s' t1 h1).1;cases this
       have f1:=aD HS3.o.res;have c1:=aA HS3.o.res
       go_wp2
       refine aP (v:=.bool false) HS3.o.res results164 rfl rfl rfl ?_;exact iZ (T:=0) 0 false 0 ⟨#[]⟩ false HP3.o HS3.o.gro hgw (by omega) (by decide) (by decide) (fun y t hV=>absurd hV (VAC.o y t))
      | true=>
       have c4:=(aA HS3.o.nod).2.2.2.2.1;have b4:=(Br w3.heap.size w3).alloc (o:=.cells #[.string (bA sl)] 9) (Lr _);have hst4:=HS3.o.below b4;have hp4:=HP3.o.below b4;have hn4:=Hn w3 (.cells #[.string (bA sl)] 9);have HN4:Hid (∀q u,([.string (bA sl)]:Vl)[q]?=some u→(w3.alloc (.cells #[.string (bA sl)] 9)).cell? ((⟨w3.heap.size,0,none⟩:Addr).add q)=some u):=Hh fun q u hq=>by
        have:=cR _ hn4 rfl q u hq;rw [Bn,Bv];exact this
       have hO4:=Hh hst4.names.1;have hbs4:=hst4.lo.2.2.2;have HST4:=Hh hst4;have HP4:=Hh hp4;have hsz4:(bA sl).size≤maxLen - 2:=by rw [jF];unfold maxLen;omega
       clear hst4 hp4 hn4 b4
       go_upto_region 10 with ((refine Bk _ rfl (.tmp 46) (.tmp 48) 25 rfl C 9 iq (.string ⟨#[]⟩) 1 16 hus HIQ.o hy0 hy1 hy2 rfl (by decide) vn ns.length _ rfl hO4.o ⟨w3.heap.size,0,none⟩ 1 1 [.string (bA sl)] rfl rfl HN4.o (by intro u hu;simp at hu;subst hu;rfl) (by decide) (by unfold maxLen;omega) (by omega) hbs4 _ rfl ?_);intro gn cn Wn hown hgrow hat hlt;(have hk8:=(HST4.o.apart (.inl rfl) hgrow nb HST4.o.lo.2.2.1).trans HST4.o.nod);(have hf8:=aD hk8);(have hd8:=aA hk8);(have HOW:=Hh (Ai hown (Ai hgrow hat)));clear hown hgrow hat hk8)
       have hsty:=HST4.o.name HOW.o.1 HOW.o.2.1 (fK HOW.o.2.2) hsz4;have hpy:=(HP4.o.row HOW.o.2.1 (fun b hb=>by have:=(HST4.o.names.1.lt b hb).1;have:=HST4.o.lo;omega)).kept (aR Wn nb 4 (.slice (some ⟨gn,0,none⟩) (ns.length+1) cn)) (by have:=HST4.o.lo;omega)
       generalize Wn.setCell ⟨nb,4,none⟩ (.slice (some ⟨gn,0,none⟩) (ns.length+1) cn)=wy at hsty hpy ⊢;have HSY:=Hh hsty;have HPY:=Hh hpy;have SEM:Hid (∀n0 R,cX (bR d) (decide (k=5)) e n0 [] [] r=some R→∃n,AV (bR d) (decide (k=5)) e n (ns++[bA sl]) (aE A) ry=some R):=Hh fun n0 R hi=>by
        rw [An HK5.o] at hi ⊢;obtain ⟨n,hb⟩:=HSM.o n0 _ hi;obtain ⟨s',t1,h1,h2⟩:=DF hb;obtain ⟨-,rfl,rfl⟩:=HNM.o s' t1 h1;exact ⟨n,h2⟩
       have hnl:(ns++[bA sl]).length≤A.length+1:=by rw [Lg];show ns.length+1≤_;omega
       have hly2:A.length+ry.length≤r.length:=by omega
       have hmy:ry.length+1≤rr.length+(1 - A.length):=by omega
       clear hsty hpy HSM HNM HST4 HP4 HOW hO4 HN4 HS3 HP3 c4 hf8 hd8 hly hsl hmz hlz hk5b;generalize ns++[bA sl]=ns2 at HSY SEM hnl;have NC:=Hh (HPN.o g mw mc ry wy HPY.o (by omega))
       have hns2:=HSY.o.viForm
       go_upto_region 11 with ((with_reducible refine (NC.o).mono ?_);rintro e3 w5 ⟨cs,x,ok,r',rfl,hnode,hp5,hg5,hl5,hf5,hv5⟩;go_loud ((obtain ⟨a1,l1,c1,a2,l2,c2,hcs⟩:=hnode.slices);subst hcs))
       have bS:=(Br w5.heap.size w5).alloc (o:=.cells (Na x a1 l1 c1 a2 l2 c2) 28) (Lr _);have hst5:=(HSY.o.grown hg5).below bS;have hp6:=hp5.below bS;have hnx:=Hn w5 (.cells (Na x a1 l1 c1 a2 l2 c2) 28);have hfr:=fun (w7:World) (hb:Below w5.heap.size w5 w7)=>HSY.o.fresh hnode hb
       have hone:=hnode.one;obtain ⟨W6,hW6⟩:∃W,W=w5.alloc (.cells (Na x a1 l1 c1 a2 l2 c2) 28):=⟨_,rfl⟩;rw [←hW6] at bS hst5 hp6 hnx;have HST6:=Hh hst5;have HP6:=Hh hp6;have HFR:=Hh hfr;have HBS:=Hh bS;have HONE:=Hh hone;have HV5:=Hh (Ai hf5 hv5);have HW6:=Hh hW6;clear hst5 hp6 hfr bS hone hf5 hv5 hnode hp5 hg5 NC
       try rw [←hW6]
       clear hW6;cases ok with
       | false=>
        have VAC:Hid (∀y t,¬lT d k e r y t):=Hh fun y t ⟨n0,ns',its',hi,_⟩=>by
         obtain ⟨n,hb⟩:=SEM.o n0 _ hi;unfold AV at hb;cases hV:bR d ry with
         | none=>rw [hV] at hb;cases hb
         | some z=>
          obtain ⟨z1,z2⟩:=z;rw [hV] at hb;have:=(HV5.o.2 z1 z2 ⟨hV,pK hb HE3.o⟩).1;cases this
        have f1:=aD HST6.o.res;have c1:=aA HST6.o.res
        go_wp2
        refine aP (v:=.bool false) HST6.o.res results164 rfl rfl rfl ?_;exact iZ (T:=0) 0 false 0 ⟨#[]⟩ false HP6.o HST6.o.gro hgw (by omega) (by decide) (by decide) (fun y t hV=>absurd hV (VAC.o y t))
       | true=>
        have c5:=aA HST6.o.nod;have cx:=aA hnx;have b7:=(Br W6.heap.size W6).alloc (o:=.cells (Na x a1 l1 c1 a2 l2 c2) 28) (Lr _);have hst7:=HST6.o.below b7;have hp7:=HP6.o.below b7;have hfr7:=HFR.o _ (HBS.o.trans (b7.mono HBS.o.size));have hn7:=Hn W6 (.cells (Na x a1 l1 c1 a2 l2 c2) 28);have HN7:Hid (∀q u,((Nc x a1 l1 c1 a2 l2 c2):Vl)[q]?=some u→(W6.alloc (.cells (Na x a1 l1 c1 a2 l2 c2) 28)).cell? ((⟨W6.heap.size,0,none⟩:Addr).add q)=some u):=Hh fun q u hq=>by
         have:=cR _ hn7 rfl q u hq;rw [Bn,Bv];exact this
        have hO7:=Hh hst7.items.1;have hbs7:=hst7.lo.2.2.2;have HST7:=Hh hst7;have HP7:=Hh hp7;have HFR7:=Hh hfr7;clear hst7 hp7 hfr7 hn7 b7
        go_wp2_with ((refine Bk _ rfl (.tmp 62) (.tmp 64) 26 rfl C 28 ip (.agg Z6) 6 88 hug HI2.o hz0 hz1 hz2 rfl (by decide) (.slice ai A.length ci) A.length _ rfl hO7.o ⟨W6.heap.size,0,none⟩ 1 1 (Nc x a1 l1 c1 a2 l2 c2) rfl rfl HN7.o HONE.o (by decide) (by unfold maxLen;omega) (by omega) hbs7 _ rfl ?_);intro g8 c8 W8 hown hgrow hat hlt;(have hk8:=(HST7.o.apart (.inr rfl) hgrow nb HST7.o.lo.2.2.1).trans HST7.o.nod);(have hf8:=aD hk8);(have hd8:=aA hk8);(have HOW:=Hh (Ai hown (Ai hgrow hat)));clear hown hgrow hat hk8)
        have hst8:=HST7.o.item HOW.o.1 HOW.o.2.1 (fK HOW.o.2.2) HFR7.o;have hp8:=(HP7.o.row HOW.o.2.1 (fun b hb=>by have:=(HST7.o.items.1.lt b hb).1;have:=HST7.o.lo;omega)).kept (aR W8 nb 5 (.slice (some ⟨g8,0,none⟩) (A.length+1) c8)) (by have:=HST7.o.lo;omega)
        go_roundw
        case rel=>
         refine ⟨_,_,_,_,r',⟨hp8,hst8,?_,?_,?_⟩,?_,?_⟩
         ·intro y hy
          rcases Bb.1 hy with hy | hy
          ·exact HI.o.fine y hy
          ·cases At.1 hy;exact HV5.o.1
         ·rw [Lg];show A.length+1+r'.length≤r.length+min (A.length+1) 1;omega
         ·rw [Lg];show _≤A.length+1+1;omega
         ·intro n0 R hi
          right
          refine ⟨by simp,?_⟩
          obtain ⟨n,hb⟩:=SEM.o n0 _ hi;unfold AV at hb;cases hV:bR d ry with
          | none=>rw [hV] at hb;cases hb
          | some z=>
           obtain ⟨z1,z2⟩:=z;rw [hV] at hb;obtain ⟨-,e4,e5⟩:=HV5.o.2 z1 z2 ⟨hV,pK hb HE3.o⟩;subst e4 e5;exact ⟨n,by rw [show aE (A++[((Nc x a1 l1 c1 a2 l2 c2),x)])=aE A++[x] by simp [aE]];exact hb⟩
         ·rw [Lg];show _≤A.length+1;omega
        case measure=>
         rw [hp8.rest,hst8.len,hm.o.1,hm.o.2,Lg]
         show r'.length+(1 - (A.length+1))<_
         omega
     ·have hk5b:(k == 5)=false:=by simpa using hk5
      have HSY:=Hh hstz;have HPY:=Hh hpz;have SEM:Hid (∀n0 R,cX (bR d) (decide (k=5)) e n0 [] [] r=some R→∃n,AV (bR d) (decide (k=5)) e n ns (aE A) rz=some R):=Hh fun n0 R hi=>by
       obtain ⟨n,hb⟩:=hsm n0 _ hi;rw [Ap hk5] at hb ⊢;exact ⟨n,WK hb⟩
      clear hsm hstz hpz hk5
      go_upto_region 10 with fail
      have hly2:=hlz;have hmy:=hmz;generalize hwy:wz=wy at HSY HPY ⊢;generalize rz=ry at *;clear hwy;have NC:=Hh (HPN.o g mw mc ry wy HPY.o (by omega))
      have hns2:=HSY.o.viForm
      go_upto_region 11 with ((with_reducible refine (NC.o).mono ?_);rintro e3 w5 ⟨cs,x,ok,r',rfl,hnode,hp5,hg5,hl5,hf5,hv5⟩;go_loud ((obtain ⟨a1,l1,c1,a2,l2,c2,hcs⟩:=hnode.slices);subst hcs))
      have bS:=(Br w5.heap.size w5).alloc (o:=.cells (Na x a1 l1 c1 a2 l2 c2) 28) (Lr _);have hst5:=(HSY.o.grown hg5).below bS;have hp6:=hp5.below bS;have hnx:=Hn w5 (.cells (Na x a1 l1 c1 a2 l2 c2) 28);have hfr:=fun (w7:World) (hb:Below w5.heap.size w5 w7)=>HSY.o.fresh hnode hb
      have hone:=hnode.one;obtain ⟨W6,hW6⟩:∃W,W=w5.alloc (.cells (Na x a1 l1 c1 a2 l2 c2) 28):=⟨_,rfl⟩;rw [←hW6] at bS hst5 hp6 hnx;have HST6:=Hh hst5;have HP6:=Hh hp6;have HFR:=Hh hfr;have HBS:=Hh bS;have HONE:=Hh hone;have HV5:=Hh (Ai hf5 hv5);have HW6:=Hh hW6;clear hst5 hp6 hfr bS hone hf5 hv5 hnode hp5 hg5 NC
      try rw [←hW6]
      clear hW6;cases ok with
      | false=>
       have VAC:Hid (∀y t,¬lT d k e r y t):=Hh fun y t ⟨n0,ns',its',hi,_⟩=>by
        obtain ⟨n,hb⟩:=SEM.o n0 _ hi;unfold AV at hb;cases hV:bR d ry with
        | none=>rw [hV] at hb;cases hb
        | some z=>
         obtain ⟨z1,z2⟩:=z;rw [hV] at hb;have:=(HV5.o.2 z1 z2 ⟨hV,pK hb HE3.o⟩).1;cases this
       have f1:=aD HST6.o.res;have c1:=aA HST6.o.res
       go_wp2
       refine aP (v:=.bool false) HST6.o.res results164 rfl rfl rfl ?_;exact iZ (T:=0) 0 false 0 ⟨#[]⟩ false HP6.o HST6.o.gro hgw (by omega) (by decide) (by decide) (fun y t hV=>absurd hV (VAC.o y t))
      | true=>
       have c5:=aA HST6.o.nod;have cx:=aA hnx;have b7:=(Br W6.heap.size W6).alloc (o:=.cells (Na x a1 l1 c1 a2 l2 c2) 28) (Lr _);have hst7:=HST6.o.below b7;have hp7:=HP6.o.below b7;have hfr7:=HFR.o _ (HBS.o.trans (b7.mono HBS.o.size));have hn7:=Hn W6 (.cells (Na x a1 l1 c1 a2 l2 c2) 28);have HN7:Hid (∀q u,((Nc x a1 l1 c1 a2 l2 c2):Vl)[q]?=some u→(W6.alloc (.cells (Na x a1 l1 c1 a2 l2 c2) 28)).cell? ((⟨W6.heap.size,0,none⟩:Addr).add q)=some u):=Hh fun q u hq=>by
        have:=cR _ hn7 rfl q u hq;rw [Bn,Bv];exact this
       have hO7:=Hh hst7.items.1;have hbs7:=hst7.lo.2.2.2;have HST7:=Hh hst7;have HP7:=Hh hp7;have HFR7:=Hh hfr7;clear hst7 hp7 hfr7 hn7 b7
       go_wp2_with ((refine Bk _ rfl (.tmp 62) (.tmp 64) 26 rfl C 28 ip (.agg Z6) 6 88 hug HI2.o hz0 hz1 hz2 rfl (by decide) (.slice ai A.length ci) A.length _ rfl hO7.o ⟨W6.heap.size,0,none⟩ 1 1 (Nc x a1 l1 c1 a2 l2 c2) rfl rfl HN7.o HONE.o (by decide) (by unfold maxLen;omega) (by omega) hbs7 _ rfl ?_);intro g8 c8 W8 hown hgrow hat hlt;(have hk8:=(HST7.o.apart (.inr rfl) hgrow nb HST7.o.lo.2.2.1).trans HST7.o.nod);(have hf8:=aD hk8);(have hd8:=aA hk8);(have HOW:=Hh (Ai hown (Ai hgrow hat)));clear hown hgrow hat hk8)
       have hst8:=HST7.o.item HOW.o.1 HOW.o.2.1 (fK HOW.o.2.2) HFR7.o;have hp8:=(HP7.o.row HOW.o.2.1 (fun b hb=>by have:=(HST7.o.items.1.lt b hb).1;have:=HST7.o.lo;omega)).kept (aR W8 nb 5 (.slice (some ⟨g8,0,none⟩) (A.length+1) c8)) (by have:=HST7.o.lo;omega)
       go_roundw
       case rel=>
        refine ⟨_,_,_,_,r',⟨hp8,hst8,?_,?_,?_⟩,?_,?_⟩
        ·intro y hy
         rcases Bb.1 hy with hy | hy
         ·exact HI.o.fine y hy
         ·cases At.1 hy;exact HV5.o.1
        ·rw [Lg];show A.length+1+r'.length≤r.length+min (A.length+1) 1;omega
        ·rw [Lg];show _≤A.length+1+1;omega
        ·intro n0 R hi
         right
         refine ⟨by simp,?_⟩
         obtain ⟨n,hb⟩:=SEM.o n0 _ hi;unfold AV at hb;cases hV:bR d ry with
         | none=>rw [hV] at hb;cases hb
         | some z=>
          obtain ⟨z1,z2⟩:=z;rw [hV] at hb;obtain ⟨-,e4,e5⟩:=HV5.o.2 z1 z2 ⟨hV,pK hb HE3.o⟩;subst e4 e5;exact ⟨n,by rw [show aE (A++[((Nc x a1 l1 c1 a2 l2 c2),x)])=aE A++[x] by simp [aE]];exact hb⟩
        ·rw [Lg];show _≤A.length+1;omega
       case measure=>
        rw [hp8.rest,hst8.len,hm.o.1,hm.o.2,Lg]
        show r'.length+(1 - (A.length+1))<_
        omega
end Go.Proofs.YtncdpanfefnjlaaGreatDoor