import Derived.Test.YtncdpanfefnjlaaGreatDoorMhe
set_option linter.unusedVariables false
set_option linter.unusedSimpArgs false
set_option maxHeartbeats 6400000
set_option maxRecDepth 100000
namespace Go.Proofs.YtncdpanfefnjlaaGreatDoor
open Go.Proofs.Tryz
open Go Go.Maps Go.ChangeShapes Go.WideShapes Go.ChangeAt Go.RowKit
theorem PrM.row {B:Nat} {w w':World} {g:Nat} {r:Ub} {row:Option Nat} (h:PrM B w g r) (hg:w.grownBy w' row) (hb:∀b,row=some b→g<b):PrM B w' g r:=by
 cases row with
 | some b=>exact h.kept hg (hb b rfl)
 | none=>
  have hl:=h.lt;obtain ⟨h1,h2,h3⟩:=h;exact ⟨(hg.block g hl (by intro e;cases e)).trans h1,h2.below ((Br B w).grown hg (by omega) (fun k e=>by cases e)),h3⟩
def aEf (V:ND→Ub→Prop) (d:Nat) (g mb:Nat) (r:Ub) (w:World) (e:Ending) (w':World):Prop:=∃ (cs:Vl) (x:ND) (ok:Bool) (r':Ub),e=.returned (.tuple #[.agg cs.toArray,.bool ok])∧aC (d+1) (fun b=>w.heap.size≤b∧b<w'.heap.size) w' cs x∧PrM mb w' g r'∧w.grownBy w' (some g)∧r'.length≤r.length∧(ok=true→r'.length<r.length+1)∧(jN (d+1) x∧aO (d+1) x=true)∧∀y t,V y t→ok=true∧x=y∧r'=t
theorem qU {V:ND→Ub→Prop} {d g mb:Nat} {r r':Ub} {w wx:World} (k:Int) (b:Bool) (z:Int) (t:Bt) (ok:Bool) (hp:PrM mb wx g r') (hg:w.grownBy wx (some g)) (hgw:g<w.heap.size) (hl:r'.length≤r.length) (hl2:ok=true→r'.length<r.length+1) (ht:t.size≤maxLen - 2) (hz:dD z=true)
 (hV:∀y t',V y t'→ok=true∧(.mk k b z t [] [])=y∧r'=t') :
 aEf V d g mb r w (.returned (.tuple #[.agg #[Iz k,.bool b,Iz z,.string t,Sn,Sn],.bool ok])) (dE wx w.heap.size (Iz k) (.bool b) (Iz z) (.string t) (Sn) (Sn)):=by
 have hgs:=aM wx w.heap.size (Iz k) (.bool b) (Iz z) (.string t) (Sn) (Sn);exact ⟨[Iz k,.bool b,Iz z,.string t,Sn,Sn],_,ok,r',rfl,(cC _ _ k b z t ht).deeper (by omega),hp.kept hgs hgw,gB hg hgs (Lr _),hl,hl2,⟨⟨by simp [ND.items],fun y hy=>by simp [ND.items] at hy⟩,by unfold aO;show (dD z && _)=true;rw [hz];rfl⟩,hV⟩
def GV (V:ND→Ub→Prop) (d:Nat) (g mb:Nat) (r:Ub) (w:World) (e:Ending) (w':World):Prop:=∃ (cs:Vl) (x:ND) (ok:Bool) (r':Ub),e=.returned (.tuple #[.agg cs.toArray,.bool ok])∧aC (d+1) (fun b=>w.heap.size≤b∧b<w'.heap.size) w' cs x∧PrM mb w' g r'∧w.grownBy w' (some g)∧r'.length≤r.length∧(ok=true→r'.length<r.length)∧(jN (d+1) x∧aO (d+1) x=true)∧∀y t,V y t→ok=true∧x=y∧r'=t
def oZ (d:Nat):Prop:=∀ (g mb:Nat) (r:Ub) (w:World),PrM mb w g r→r.length≤100000→Calls prog 150 #[.pointer (some ⟨g,0,none⟩),Iz (d:Int)] w (GV (MIr d r) d g mb r w)
structure ISm (d:Nat) (k:Int) (g nb C mb:Nat) (r1:Ub) (w wx:World) (vn vi:Value) (ns:List Bt) (A:List NC) (rr:Ub):Prop where
 par:PrM mb wx g rr
 st:NSt 28 9 (d+1) w wx g nb C k vn vi ns A
 fine:∀y,y ∈ A→jN (d+1) y.2∧aO (d+1) y.2=true
 len:A.length+rr.length≤r1.length
theorem KJ (d:Nat) (hd:d≤20) (PN:oZ d) (k:Int) (hk:k=4∨k=5) (n:Nat) (hn:n<4294967296) {g mb:Nat} {r r1:Ub} (w:World) (h:PrM mb w g r1) (hr:r1.length≤100000) (hI0:MLr d k n r [] [] r1):Calls prog 178 #[.pointer (some ⟨g,0,none⟩),Iz k,Iz (n:Int),Iz ((d:Int)+1)] w (aEf (MIr (d+1) r) (d+1) g mb r1 w):=by
 have hgw:=h.lt;obtain ⟨z1,hz1⟩:∃o,o=Obj.cells Z6 28 (0,0):=⟨_,rfl⟩;obtain ⟨z2,hz2⟩:∃o,o=Obj.cells #[Iz k,.bool false,Iz 0,.string ⟨#[]⟩,Sn,Sn] 28 (0,0):=⟨_,rfl⟩;have hr0:=Hn w z1;have hz:(w.alloc z1).heap.size=w.heap.size+1:=by simp
 have hr1:=(Bh (w.alloc z1) z2 _ (Aa hr0)).trans hr0;have hn1:=Hn (w.alloc z1) z2;have bb:=((Br w.heap.size w).alloc (o:=z1) (Lr _)).alloc (o:=z2) (by rw [hz];omega)
 have hp0:=h.below bb;have hg0:=aH (dP w z1 (some g)) (dP (w.alloc z1) z2 (some g));obtain ⟨nb,hnb⟩:∃nb,nb=(w.alloc z1).heap.size:=⟨_,rfl⟩;rw [←hnb] at hn1;obtain ⟨W2,hW2⟩:∃W,W=(w.alloc z1).alloc z2:=⟨_,rfl⟩;have hst0:NSt 28 9 (d+1) w W2 g nb W2.heap.size k (Sn) (Sn) [] []:=by
  rw [hW2];exact NSt.begin (by rw [hr1,hz1]) (by rw [hn1,hz2]) hgw (by omega) hg0
 rw [←hW2] at hp0;obtain ⟨C,hC⟩:∃C,C=W2.heap.size:=⟨_,rfl⟩;rw [←hC] at hst0;have HST:=Hh hst0;have HP0:=Hh hp0;have HPN:=Hh PN;have HLI:=Hh hI0;rw [hz1,hz2] at hW2;rw [hz1] at hnb;have hzz:(w.alloc (.cells Z6 28)).heap.size=w.heap.size+1:=by simp
 rw [hzz] at hnb;clear hst0 hp0 hr0 hr1 hn1 bb hg0 hC PN h hz hz1 hz2 hzz hI0
 go_enter func178,ntmps178
 go_upto_region 2 with fail
 rw [←hW2];rw [←hnb];have HNB:=Hh hnb;clear hW2 hnb z1 z2;obtain ⟨ip,hip,hz0,hz1,hz2⟩:=qD;obtain ⟨iq,hiq,hy0,hy1,hy2⟩:=qC;have HI2:=Hh hip;have HIQ:=Hh hiq;clear hip hiq;have hug:=underlying26;have hus:=underlying25
 go_upto_region 3 with fail
 go_loopw [18] (fun i wr=>∃ (vn vi:Value) (ns:List Bt) (A:List NC) (rr:Ub),i=Iz (A.length:Int)∧ISm d k g nb C mb r1 w wr vn vi ns A rr∧MLr d k n r ns (aE A) rr∧ns.length≤A.length) (fun i _=>n - (intOf i).toNat)
 case atStart=>exact ⟨_,_,[],[],r1,rfl,⟨HP0.o,HST.o,(fun y hy=>by simp at hy),by simp⟩,HLI.o,Lr _⟩
 case round=>
  clear HST HP0 HLI;obtain ⟨vn,vi,ns,A,rr,rfl,hI,hLI,hnsA⟩:=hrel;have hlenI:=hI.len;have HI:=Hh hI;have HLI:=Hh hLI;have hlnA:(aE A).length=A.length:=by simp [aE]
  have HLN:=Hh hlnA
  by_cases hlt:A.length<n
  ·have hlt':(A.length:Int)<(n:Int):=by omega
   have hwj:IntKind.i64.wrap ((A.length:Int)+1)=(A.length:Int)+1:=by rw [IntKind.wrap_i64];omega
   obtain ⟨ai,ci,hvi⟩:=hI.st.viForm;subst hvi;have hd0:(0:Int)≤(d:Int):=by omega
   have hdz:(d:Int)≤20:=by omega
   clear hI hLI hlnA
   by_cases hk5:k=5
   ·have hk5b:(k == 5)=true:=by simpa using hk5
    have NM:=Hh (HPN.o g mb rr wr HI.o.par (by omega))
    have HK5:=Hh hk5;clear hk5
    go_upto_region 6 with ((with_reducible refine (NM.o).mono ?_);rintro e2 w2 ⟨cs0,x0,ok,ry,rfl,hnode,hp3,hg3,hly,hlty,hf3,hnm⟩;go_loud ((obtain ⟨b1,m1,d1,b2,m2,d2,hcs⟩:=hnode.slices);subst hcs))
    have hsl:x0.text.size≤maxLen - 2:=by obtain ⟨_,_,-,ht,-,-⟩:=hnode;exact ht
    have bM:=(Br w2.heap.size w2).alloc (o:=.cells (Na x0 b1 m1 d1 b2 m2 d2) 28) (Lr _);have knm:=Hn w2 (.cells (Na x0 b1 m1 d1 b2 m2 d2) 28);have hs3:=(HI.o.st.grown hg3).below bM;have hp3':=hp3.below bM;have HTX:=Hh (HLI.o.text HK5.o (by rw [HLN.o];exact hlt) hnm)
    obtain ⟨bm,hbm⟩:∃b,b=w2.heap.size:=⟨_,rfl⟩;rw [←hbm] at knm
    try rw [←hbm]
    generalize w2.alloc _=w3 at bM knm hs3 hp3' ⊢;have HS3:=Hh hs3;have HP3:=Hh hp3';have HLY:=Hh hlty;have qnm:=aA knm;clear hnm hp3 hg3 NM hlty hnode hs3 hp3' bM hbm hf3;obtain ⟨sl,hsle⟩:∃sl,sl=x0.text:=⟨_,rfl⟩;rw [←hsle] at hsl HTX qnm;clear hsle knm;cases ok with
    | false=>
     have VAC:Hid (∀y t,¬MIr (d+1) r y t):=Hh (HTX.o.1 rfl);have f1:=aD HS3.o.res;have c1:=aA HS3.o.res
     go_wp2
     refine aP (v:=.bool false) HS3.o.res results178 rfl rfl rfl ?_;exact qU 0 false 0 ⟨#[]⟩ false HP3.o HS3.o.gro hgw (by omega) (fun h=>by cases h) (by decide) (by decide) (fun y t hV=>absurd hV (VAC.o y t))
    | true=>
     have c4:=(aA HS3.o.nod).2.2.2.2.1;have b4:=(Br w3.heap.size w3).alloc (o:=.cells #[.string sl] 9) (Lr _);have hst4:=HS3.o.below b4;have hp4:=HP3.o.below b4;have hn4:=Hn w3 (.cells #[.string sl] 9);have HN4:Hid (∀q u,([.string sl]:Vl)[q]?=some u→(w3.alloc (.cells #[.string sl] 9)).cell? ((⟨w3.heap.size,0,none⟩:Addr).add q)=some u):=Hh fun q u hq=>by
      have:=cR _ hn4 rfl q u hq;rw [Bn,Bv];exact this
     have hO4:=Hh hst4.names.1;have hbs4:=hst4.lo.2.2.2;have HST4:=Hh hst4;have HP4:=Hh hp4;have hsz4:sl.size≤maxLen - 2:=hsl;clear hst4 hp4 hn4 b4
     go_upto_region 9 with ((refine Bk _ rfl (.tmp 33) (.tmp 36) 25 rfl C 9 iq (.string ⟨#[]⟩) 1 16 hus HIQ.o hy0 hy1 hy2 rfl (by decide) vn ns.length _ rfl hO4.o ⟨w3.heap.size,0,none⟩ 1 1 [.string sl] rfl rfl HN4.o (by intro u hu;simp at hu;subst hu;rfl) (by decide) (by unfold maxLen;omega) (by omega) hbs4 _ rfl ?_);intro gn cn Wn hown hgrow hat hlt;(have hk8:=(HST4.o.apart (.inl rfl) hgrow nb HST4.o.lo.2.2.1).trans HST4.o.nod);(have hf8:=aD hk8);(have hd8:=aA hk8);(have HOW:=Hh (Ai hown (Ai hgrow hat)));clear hown hgrow hat hk8)
     have hsty:=HST4.o.name HOW.o.1 HOW.o.2.1 (fK HOW.o.2.2) hsz4;have hpy:=(HP4.o.row HOW.o.2.1 (fun b hb=>by have:=(HST4.o.names.1.lt b hb).1;have:=HST4.o.lo;omega)).kept (aR Wn nb 4 (.slice (some ⟨gn,0,none⟩) (ns.length+1) cn)) (by have:=HST4.o.lo;omega)
     generalize Wn.setCell ⟨nb,4,none⟩ (.slice (some ⟨gn,0,none⟩) (ns.length+1) cn)=wy at hsty hpy ⊢;have HSY:=Hh hsty;have HPY:=Hh hpy;have VI:=Hh HTX.o.2;have hnl:(ns++[sl]).length≤A.length+1:=by rw [Lg];show ns.length+1≤_;omega
     have hly2:A.length+ry.length≤r1.length:=by omega
     clear hsty hpy HTX HST4 HP4 HOW hO4 HN4 HS3 HP3 c4 hf8 hd8 hly hsl hk5b hsz4;generalize ns++[sl]=ns2 at HSY VI hnl;have NC:=Hh (HPN.o g mb ry wy HPY.o (by omega))
     have hns2:=HSY.o.viForm
     go_upto_region 10 with ((with_reducible refine (NC.o).mono ?_);rintro e3 w5 ⟨cs,x,ok,r',rfl,hnode,hp5,hg5,hl5,hlt5,hf5,hv5⟩;go_loud ((obtain ⟨a1,l1,c1,a2,l2,c2,hcs⟩:=hnode.slices);subst hcs))
     have bS:=(Br w5.heap.size w5).alloc (o:=.cells (Na x a1 l1 c1 a2 l2 c2) 28) (Lr _);have hst5:=(HSY.o.grown hg5).below bS;have hp6:=hp5.below bS;have hnx:=Hn w5 (.cells (Na x a1 l1 c1 a2 l2 c2) 28);have hfr:=fun (w7:World) (hb:Below w5.heap.size w5 w7)=>HSY.o.fresh hnode hb
     have hone:=hnode.one;obtain ⟨W6,hW6⟩:∃W,W=w5.alloc (.cells (Na x a1 l1 c1 a2 l2 c2) 28):=⟨_,rfl⟩;rw [←hW6] at bS hst5 hp6 hnx;have HST6:=Hh hst5;have HP6:=Hh hp6;have HFR:=Hh hfr;have HBS:=Hh bS;have HONE:=Hh hone;have HV5:=Hh (Ai hf5 (VI.o.item hv5));have HW6:=Hh hW6;have HL5:=Hh (Ai hl5 hlt5);clear hst5 hp6 hfr bS hone hf5 hv5 hnode hp5 hg5 NC VI hl5 hlt5
     try rw [←hW6]
     clear hW6;cases ok with
     | false=>
      have VAC:Hid (∀y t,¬MIr (d+1) r y t):=Hh (HV5.o.2.1 rfl);have hl5:=HL5.o.1;have f1:=aD HST6.o.res;have c1:=aA HST6.o.res
      go_wp2
      refine aP (v:=.bool false) HST6.o.res results178 rfl rfl rfl ?_;exact qU 0 false 0 ⟨#[]⟩ false HP6.o HST6.o.gro hgw (by omega) (fun h=>by cases h) (by decide) (by decide) (fun y t hV=>absurd hV (VAC.o y t))
     | true=>
      have hl5:=HL5.o.2 rfl;have c5:=aA HST6.o.nod;have cx:=aA hnx;have b7:=(Br W6.heap.size W6).alloc (o:=.cells (Na x a1 l1 c1 a2 l2 c2) 28) (Lr _);have hst7:=HST6.o.below b7;have hp7:=HP6.o.below b7;have hfr7:=HFR.o _ (HBS.o.trans (b7.mono HBS.o.size));have hn7:=Hn W6 (.cells (Na x a1 l1 c1 a2 l2 c2) 28);have HN7:Hid (∀q u,((Nc x a1 l1 c1 a2 l2 c2):Vl)[q]?=some u→(W6.alloc (.cells (Na x a1 l1 c1 a2 l2 c2) 28)).cell? ((⟨W6.heap.size,0,none⟩:Addr).add q)=some u):=Hh fun q u hq=>by
       have:=cR _ hn7 rfl q u hq;rw [Bn,Bv];exact this
      have hO7:=Hh hst7.items.1;have hbs7:=hst7.lo.2.2.2;have HST7:=Hh hst7;have HP7:=Hh hp7;have HFR7:=Hh hfr7;clear hst7 hp7 hfr7 hn7 b7
      go_wp2_with ((refine Bk _ rfl (.tmp 50) (.tmp 52) 26 rfl C 28 ip (.agg Z6) 6 88 hug HI2.o hz0 hz1 hz2 rfl (by decide) (.slice ai A.length ci) A.length _ rfl hO7.o ⟨W6.heap.size,0,none⟩ 1 1 (Nc x a1 l1 c1 a2 l2 c2) rfl rfl HN7.o HONE.o (by decide) (by unfold maxLen;omega) (by omega) hbs7 _ rfl ?_);intro g8 c8 W8 hown hgrow hat hlt;(have hk8:=(HST7.o.apart (.inr rfl) hgrow nb HST7.o.lo.2.2.1).trans HST7.o.nod);(have hf8:=aD hk8);(have hd8:=aA hk8);(have HOW:=Hh (Ai hown (Ai hgrow hat)));clear hown hgrow hat hk8)
      have hst8:=HST7.o.item HOW.o.1 HOW.o.2.1 (fK HOW.o.2.2) HFR7.o;have hp8:=(HP7.o.row HOW.o.2.1 (fun b hb=>by have:=(HST7.o.items.1.lt b hb).1;have:=HST7.o.lo;omega)).kept (aR W8 nb 5 (.slice (some ⟨g8,0,none⟩) (A.length+1) c8)) (by have:=HST7.o.lo;omega)
      go_roundw
      case rel=>
       refine ⟨_,_,_,A++[((Nc x a1 l1 c1 a2 l2 c2),x)],r',?_,⟨hp8,hst8,?_,?_⟩,?_,?_⟩
       ·rw [Lg];rfl
       ·intro y hy
        rcases Bb.1 hy with hy | hy
        ·exact HI.o.fine y hy
        ·cases At.1 hy;exact HV5.o.1
       ·rw [Lg];show A.length+1+r'.length≤r1.length;omega
       ·rw [show aE (A++[((Nc x a1 l1 c1 a2 l2 c2),x)])=aE A++[x] by simp [aE]];exact HV5.o.2.2
       ·rw [Lg];show _≤A.length+1;omega
      case measure=>simp [intOf];omega
   ·have hk5b:(k == 5)=false:=by simpa using hk5
    have HSY:=Hh HI.o.st;have HPY:=Hh HI.o.par;have VI:=Hh (HLI.o.more hk5 (by rw [HLN.o];exact hlt))
    clear hk5
    go_upto_region 9 with fail
    have hly2:=hlenI;have hnl:ns.length≤A.length+1:=by omega
    generalize hwy:wr=wy at HSY HPY ⊢;generalize rr=ry at *;clear hwy;have NC:=Hh (HPN.o g mb ry wy HPY.o (by omega))
    have hns2:=HSY.o.viForm
    go_upto_region 10 with ((with_reducible refine (NC.o).mono ?_);rintro e3 w5 ⟨cs,x,ok,r',rfl,hnode,hp5,hg5,hl5,hlt5,hf5,hv5⟩;go_loud ((obtain ⟨a1,l1,c1,a2,l2,c2,hcs⟩:=hnode.slices);subst hcs))
    have bS:=(Br w5.heap.size w5).alloc (o:=.cells (Na x a1 l1 c1 a2 l2 c2) 28) (Lr _);have hst5:=(HSY.o.grown hg5).below bS;have hp6:=hp5.below bS;have hnx:=Hn w5 (.cells (Na x a1 l1 c1 a2 l2 c2) 28);have hfr:=fun (w7:World) (hb:Below w5.heap.size w5 w7)=>HSY.o.fresh hnode hb
    have hone:=hnode.one;obtain ⟨W6,hW6⟩:∃W,W=w5.alloc (.cells (Na x a1 l1 c1 a2 l2 c2) 28):=⟨_,rfl⟩;rw [←hW6] at bS hst5 hp6 hnx;have HST6:=Hh hst5;have HP6:=Hh hp6;have HFR:=Hh hfr;have HBS:=Hh bS;have HONE:=Hh hone;have HV5:=Hh (Ai hf5 (VI.o.item hv5));have HW6:=Hh hW6;have HL5:=Hh (Ai hl5 hlt5);clear hst5 hp6 hfr bS hone hf5 hv5 hnode hp5 hg5 NC VI hl5 hlt5
    try rw [←hW6]
    clear hW6;cases ok with
    | false=>
     have VAC:Hid (∀y t,¬MIr (d+1) r y t):=Hh (HV5.o.2.1 rfl);have hl5:=HL5.o.1;have f1:=aD HST6.o.res;have c1:=aA HST6.o.res
     go_wp2
     refine aP (v:=.bool false) HST6.o.res results178 rfl rfl rfl ?_;exact qU 0 false 0 ⟨#[]⟩ false HP6.o HST6.o.gro hgw (by omega) (fun h=>by cases h) (by decide) (by decide) (fun y t hV=>absurd hV (VAC.o y t))
    | true=>
     have hl5:=HL5.o.2 rfl;have c5:=aA HST6.o.nod;have cx:=aA hnx;have b7:=(Br W6.heap.size W6).alloc (o:=.cells (Na x a1 l1 c1 a2 l2 c2) 28) (Lr _);have hst7:=HST6.o.below b7;have hp7:=HP6.o.below b7;have hfr7:=HFR.o _ (HBS.o.trans (b7.mono HBS.o.size));have hn7:=Hn W6 (.cells (Na x a1 l1 c1 a2 l2 c2) 28);have HN7:Hid (∀q u,((Nc x a1 l1 c1 a2 l2 c2):Vl)[q]?=some u→(W6.alloc (.cells (Na x a1 l1 c1 a2 l2 c2) 28)).cell? ((⟨W6.heap.size,0,none⟩:Addr).add q)=some u):=Hh fun q u hq=>by
      have:=cR _ hn7 rfl q u hq;rw [Bn,Bv];exact this
     have hO7:=Hh hst7.items.1;have hbs7:=hst7.lo.2.2.2;have HST7:=Hh hst7;have HP7:=Hh hp7;have HFR7:=Hh hfr7;clear hst7 hp7 hfr7 hn7 b7
     go_wp2_with ((refine Bk _ rfl (.tmp 50) (.tmp 52) 26 rfl C 28 ip (.agg Z6) 6 88 hug HI2.o hz0 hz1 hz2 rfl (by decide) (.slice ai A.length ci) A.length _ rfl hO7.o ⟨W6.heap.size,0,none⟩ 1 1 (Nc x a1 l1 c1 a2 l2 c2) rfl rfl HN7.o HONE.o (by decide) (by unfold maxLen;omega) (by omega) hbs7 _ rfl ?_);intro g8 c8 W8 hown hgrow hat hlt;(have hk8:=(HST7.o.apart (.inr rfl) hgrow nb HST7.o.lo.2.2.1).trans HST7.o.nod);(have hf8:=aD hk8);(have hd8:=aA hk8);(have HOW:=Hh (Ai hown (Ai hgrow hat)));clear hown hgrow hat hk8)
     have hst8:=HST7.o.item HOW.o.1 HOW.o.2.1 (fK HOW.o.2.2) HFR7.o;have hp8:=(HP7.o.row HOW.o.2.1 (fun b hb=>by have:=(HST7.o.items.1.lt b hb).1;have:=HST7.o.lo;omega)).kept (aR W8 nb 5 (.slice (some ⟨g8,0,none⟩) (A.length+1) c8)) (by have:=HST7.o.lo;omega)
     go_roundw
     case rel=>
      refine ⟨_,_,_,A++[((Nc x a1 l1 c1 a2 l2 c2),x)],r',?_,⟨hp8,hst8,?_,?_⟩,?_,?_⟩
      ·rw [Lg];rfl
      ·intro y hy
       rcases Bb.1 hy with hy | hy
       ·exact HI.o.fine y hy
       ·cases At.1 hy;exact HV5.o.1
      ·rw [Lg];show A.length+1+r'.length≤r1.length;omega
      ·rw [show aE (A++[((Nc x a1 l1 c1 a2 l2 c2),x)])=aE A++[x] by simp [aE]];exact HV5.o.2.2
      ·rw [Lg];show _≤A.length+1;omega
     case measure=>simp [intOf];omega
  ·have hlt':¬ (A.length:Int)<(n:Int):=by omega
   have hst:=HI.o.st;have hDN:Hid (∀y t,MIr (d+1) r y t→(.mk k false 0 ⟨#[]⟩ ns (aE A))=y∧rr=t):=Hh fun y t hy=>by
    have hle:A.length≤n∨n<A.length:=by omega
    by_cases he:(aE A).length=n
    ·exact hLI.done he y t hy
    ·obtain ⟨-,h2,its,nms,h3,-⟩:=hLI y t hy
     exfalso
     rw [h3,Lg,hlnA] at h2;omega
   obtain ⟨ai,ci,rfl⟩:=hst.viForm;obtain ⟨an,cpn,rfl⟩:=hst.vnForm;have f0:=aD hst.nod;have c0:=aA hst.nod;have f1:=aD hst.res;have c1:=aA hst.res;have hne:¬w.heap.size=nb:=by have:=hst.lo;omega
   have hne2:¬nb=w.heap.size:=fun e=>hne e.symm
   have HST:=Hh hst;have HP1:=Hh HI.o.par;clear hst hI hLI hlnA;generalize hNL:ns.length=NL at c0 hnsA;have HNL:=Hh hNL;generalize hAL:A.length=AL at c0 hnsA hlenI hlt hlt' ⊢;have HAL:=Hh hAL;clear hNL hAL
   go_wp2
   have hdn:=HST.o.done;have hput:=dB HST.o.res (Iz k) (.bool false) (Iz 0) (.string ⟨#[]⟩) (.slice an ns.length cpn) (.slice ai A.length ci);rw [HNL.o,HAL.o] at hdn hput;refine Ar (v:=.tuple #[.agg #[Iz k,.bool false,Iz 0,.string ⟨#[]⟩,.slice an NL cpn,.slice ai AL ci],.bool true]) ?_ ?_ ?_;rotate_left
   ·rfl
   ·have hgs:=aM wr w.heap.size (Iz k) (.bool false) (Iz 0) (.string ⟨#[]⟩) (.slice an NL cpn) (.slice ai AL ci)
    have hlA:(aE A).length=AL:=by rw [←HAL.o];simp [aE]
    refine ⟨[Iz k,.bool false,Iz 0,.string ⟨#[]⟩,.slice an NL cpn,.slice ai AL ci],.mk k false 0 ⟨#[]⟩ ns (aE A),true,rr,rfl,hdn.1,HP1.o.kept hgs hgw,hdn.2.1,by omega,(fun _=>by omega),⟨⟨?_,?_⟩,?_⟩,?_⟩
    ·show (aE A).length≤1000000;omega
    ·intro y hy
     obtain ⟨z,hz,rfl⟩:=Bl.1 (show y ∈ aE A from hy)
     exact (HI.o.fine z hz).1
    ·rw [cJ,Ak,Aw]
     refine ⟨show dD 0=true by decide,fun y hy=>?_⟩
     obtain ⟨z,hz,rfl⟩:=Bl.1 (show y ∈ aE A from hy)
     exact (HI.o.fine z hz).2
    ·intro y t hy
     exact ⟨rfl,hDN.o y t hy⟩
   ·obtain ⟨q0,q1,q2,q3,q4,q5⟩:=aA hput
    simp only [dE] at q0 q1 q2 q3 q4 q5;simp [results,results178,go_sem,q0,q1,q2,q3,q4,q5]
end Go.Proofs.YtncdpanfefnjlaaGreatDoor