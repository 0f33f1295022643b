import Derived.Test.YtncdpanfefnjlaaGreatDoorNnam
set_option linter.unusedVariables false
set_option linter.unusedSimpArgs false
set_option maxHeartbeats 3200000
set_option maxRecDepth 100000
namespace Go.Proofs.YtncdpanfefnjlaaGreatDoor
open Go.Proofs.Tryz
open Go.ChangeShapes Go.WideShapes Go.ChangeAt Go.RowKit
def aBl:List Int:=[0,1,23,24,127,128,255,256,65535,65536,4294967296,9223372036854775807]
theorem aBk:∀j,j<12→∃z:Int,aBl[j]?=some z∧0≤z∧z≤9223372036854775807:=by
 have:∀j:Fin 12,∃z:Int,aBl[j.1]?=some z∧0≤z∧z≤9223372036854775807:=by
  intro j
  match j with
  | ⟨0,_⟩ | ⟨1,_⟩ | ⟨2,_⟩ | ⟨3,_⟩ | ⟨4,_⟩ | ⟨5,_⟩ | ⟨6,_⟩ | ⟨7,_⟩ | ⟨8,_⟩ | ⟨9,_⟩ | ⟨10,_⟩ | ⟨11,_⟩=>exact ⟨_,rfl,by decide,by decide⟩
 exact fun j hj=>this ⟨j,hj⟩
theorem PQ (B g n:Nat) (w:World) (hn:1≤n) (hn2:n<100) (hd:aZ B w g)
 (KN:2≤n→∀wx:World,aZ B wx g→Calls prog 20 #[.pointer (some ⟨g,0,none⟩),Iz ((n:Int) - 1)] wx fun e w'=>oX (n - 1) wx e w'∧wx.grownBy w' (some g)∧aZ B w' g) :
 Calls prog 20 #[.pointer (some ⟨g,0,none⟩),Iz n] w fun e w'=>oX n w e w'∧w.grownBy w' (some g)∧aZ B w' g:=by
 have N6:=Hh (fun (wx:World) (hx:aZ B wx g)=>iW B g 6 6 rfl wx (by decide) (by decide) hx)
 have N2:=Hh (fun (wx:World) (hx:aZ B wx g)=>iW B g 2 2 rfl wx (by decide) (by decide) hx)
 have N12:=Hh (fun (wx:World) (hx:aZ B wx g)=>iW B g 12 12 rfl wx (by decide) (by decide) hx)
 have N4:=Hh (fun (wx:World) (hx:aZ B wx g)=>iW B g 4 4 rfl wx (by decide) (by decide) hx)
 have N20:=Hh (fun (wx:World) (hx:aZ B wx g)=>iW B g 20 20 rfl wx (by decide) (by decide) hx)
 have N3:=Hh (fun (wx:World) (hx:aZ B wx g)=>iW B g 3 3 rfl wx (by decide) (by decide) hx)
 have KT:=Hh (fun (wx:World) (hx:aZ B wx g)=>WU B g wx hx)
 have HKN:=Hh KN;have hgw:=hd.lt;obtain ⟨z1,hz1⟩:∃o,o=Obj.cells Z6 28 (0,0):=⟨_,rfl⟩;have hr0:=Hn w z1;have hd0:aZ B (w.alloc z1) g:=hd.go ((Br w.heap.size w).alloc (Lr _) z1);have hg0:=dP w z1 (some g);rw [hz1] at hr0 hd0 hg0;clear KN hd hz1
 go_enter func20,ntmps20
 go_upto_region 2 with ((with_reducible refine (N6.o _ hd0).mono ?_);rintro e w1 ⟨⟨k,hk,rfl⟩,hg1,hd1⟩)
 have hr1:=cM hg1 (by omega) hr0
 have hgr1:=aH hg0 hg1;clear hr0 hg0 hg1 hd0
 by_cases hk4:4≤k
 ·have e1:((k:Int) == 1)=false:=by simp;omega
  have e2:((k:Int) == 2)=false:=by simp;omega
  have e3:((k:Int) == 3)=false:=by simp;omega
  have hnew:=Hn w1 (.cells #[Iz k,.bool false,Iz 0,.string ⟨#[]⟩,Sn,Sn] 28);have hst0:NSt 28 9 (n - 1) w (w1.alloc (.cells #[Iz k,.bool false,Iz 0,.string ⟨#[]⟩,Sn,Sn] 28)) g w1.heap.size (w1.alloc (.cells #[Iz k,.bool false,Iz 0,.string ⟨#[]⟩,Sn,Sn] 28)).heap.size k (Sn) (Sn) [] []:=
   NSt.begin ((Bh w1 _ _ (Aa hr1)).trans hr1) hnew hgw (Aa hr1) (aH hgr1 (dP w1 _ _))
  have hd2:aZ B (w1.alloc (.cells #[Iz k,.bool false,Iz 0,.string ⟨#[]⟩,Sn,Sn] 28)) g:=hd1.go ((Br w1.heap.size w1).alloc (Lr _) _);obtain ⟨nb,hnb⟩:∃nb,nb=w1.heap.size:=⟨_,rfl⟩;rw [←hnb] at hst0;have HNB:=Hh hnb;clear hnew hr1 hgr1 hd1 hnb
  by_cases hk5:k=5
  case' pos=>
   have e4:((k:Int) == 4)=false:=by simp;omega
   have e5:((k:Int) == 5)=true:=by simp;omega
  case' neg=>
   have e4:((k:Int) == 4)=true:=by simp;omega
   have e5:((k:Int) == 5)=false:=by simp;omega
  all_goals
   have HK5:=Hh hk5;clear hk5
   go_upto_region 14 with fail
   by_cases hn1:n=1
   ·have hn1':(n:Int)<2:=by omega
    have f0:=aD hst0.nod;have c0:=aA hst0.nod;have f1:=aD hst0.res;have c1:=aA hst0.res;have hne:¬w.heap.size=w1.heap.size:=by have:=HNB.o;have:=hst0.lo;omega
    have hne2:¬w1.heap.size=w.heap.size:=fun e=>hne e.symm
    have HST:=Hh hst0;have HD2:=Hh hd2;clear hst0 hd2
    go_wp2
    have hdn:=HST.o.done;have hput:=dB HST.o.res (Iz k) (.bool false) (Iz 0) (.string ⟨#[]⟩) (Sn) (Sn);refine Ar (v:=.agg #[Iz k,.bool false,Iz 0,.string ⟨#[]⟩,Sn,Sn]) ?_ ?_ ?_;rotate_left
    ·rfl
    ·rw [show n - 1+1=n by omega] at hdn
     exact ⟨⟨_,_,rfl,hdn.1,wF hn (by first | exact .inl ⟨by have:=HK5.o;omega,rfl⟩ | exact .inr ⟨by have:=HK5.o;omega,rfl,fun i s h=>(by simp at h)⟩) (by decide) (by simp [aE]) (by simp [aE,nN])⟩,hdn.2.1,hdn.2.2 B HD2.o⟩
    ·obtain ⟨q0,q1,q2,q3,q4,q5⟩:=aA hput
     simp only [dE] at q0 q1 q2 q3 q4 q5;simp [results,results20,go_sem,q0,q1,q2,q3,q4,q5]
   ·have hn1':¬ (n:Int)<2:=by omega
    have hn1'':(2:Int)≤(n:Int):=by omega
    have KN2:=Hh (HKN.o (by omega))
    clear HKN;obtain ⟨W2,hW2⟩:∃W,W=w1.alloc (.cells #[Iz k,.bool false,Iz 0,.string ⟨#[]⟩,Sn,Sn] 28):=⟨_,rfl⟩;rw [←hW2] at hst0 hd2;obtain ⟨C,hC⟩:∃C,C=W2.heap.size:=⟨_,rfl⟩;rw [←hC] at hst0;clear hC
    go_upto_region 15 with fail
    rw [←hW2];rw [←HNB.o];clear hW2 HNB
    go_upto_region 18 with ((with_reducible refine (N4.o _ hd2).mono ?_);rintro e w3 ⟨⟨i0,hi0,rfl⟩,hg3,hd3⟩)
    have HS0:=Hh (hst0.grown hg3);have HD0:=Hh hd3;clear hst0 hg3 hd3 hd2 N4;obtain ⟨ip,hip,hz0,hz1,hz2⟩:=qD;obtain ⟨iq,hiq,hy0,hy1,hy2⟩:=qC;have HI2:=Hh hip;have HIQ:=Hh hiq;clear hip hiq;have hug:=underlying26;have hus:=underlying25
    go_loopw [8] (fun v wr=>∃ (m:Nat) (vi:Value) (A:List NC),v=Iz m∧A.length+m≤3∧NSt 28 9 (n - 1) w wr g nb C k (Sn) vi [] A∧(∀y,y ∈ A→fR (n - 1) y.2=true)∧aZ B wr g) (fun v _=>(intOf v).toNat)
    case atStart=>exact ⟨i0,_,[],rfl,by simp;omega,HS0.o,(fun y hy=>by simp at hy),HD0.o⟩
    case round=>
     clear HS0 HD0;obtain ⟨m,vi,A,rfl,hAm,hst,hval,hdi⟩:=hrel
     by_cases hm:0<m
     ·have hm':(0:Int)<(m:Int):=by omega
      have HV:=Hh hval;have hst5:=hst.below ((Br wr.heap.size wr).drew);have hdi5:=hdi.go ((Br wr.heap.size wr).drew);have hc5:=(aA hst5.nod).2.2.2.2.2;clear hst hdi hval
      go_upto_region 20 with fail
      refine aJ (fun w'=>w'.cell? ⟨nb,5,none⟩=some vi) [1] (.take 0 (.take 1 (.take 2 (.take 3 (.take 4 (.ask 5 true (.ask 6 true (.ask 7 false (.ask 8 false (.ask 9 false .stop .stop) .stop) .stop) .stop) .stop)))))) (by kernel_rfl) (by kernel_rfl) (fun _ d _ _ _ h=>by cases d <;> exact h) hc5 ?_
      generalize wr.drew=wd5 at hst5 hdi5 hc5 ⊢;refine aG _ ?_ rfl rfl ?_ (fun K hK=>?_);rotate_left;(intro w0;go_simp;(try rfl));(go_simp;refine hK _ ?_;clear hK K)
      refine aN _ ?_ rfl rfl (by decide) ?_ (fun K hK=>?_);rotate_left;(intro w0 hw0;go_simp;(try rfl));(go_simp;refine hK _ ?_;clear hK K)
      iterate 3 (refine aG _ ?_ rfl rfl ?_ (fun K hK=>?_);rotate_left;(intro w0;go_simp;(try rfl));(go_simp;refine hK _ ?_;clear hK K))
      refine aI _ rfl trivial ?_
      go_wp2_with (go_at_call 20;(with_reducible refine (KN2.o _ hdi5).mono ?_);rintro e w6 ⟨⟨cs,x,rfl,hnode,hvx⟩,hg6,hdi6⟩)
      have hst6:=hst5.grown hg6;have hc6:=(aA hst6.nod).2.2.2.2.2;refine Seg.mk ⟨hc6,?_⟩;have b7:=(Br w6.heap.size w6).alloc (o:=.cells cs.toArray 28) (Lr _);have hst7:=hst6.below b7;have hdi7:=hdi6.go b7;have hfr:=hst5.fresh hnode b7;have hn7:=Hn w6 (.cells cs.toArray 28);have hone:=hnode.one;obtain ⟨va,vb,hcs⟩:=hnode.form;rw [hcs] at b7 hst7 hdi7 hfr hn7 hone;rw [hcs];clear hcs hnode;refine aI _ rfl trivial ?_
      go_wp2_with fail
      generalize hW:w6.alloc (.cells #[Iz x.kind,.bool x.bool,Iz x.num,.string x.text,va,vb] 28)=W7 at b7 hst7 hdi7 hfr hn7 ⊢;have hc7:=(aA hst7.nod).2.2.2.2.2;clear hW hst6 hc6 hst5 hc5 hdi5 hdi6;refine Seg.mk ⟨hc7,?_⟩;have hN7:∀q u,([Value.int IntKind.i64 x.kind,.bool x.bool,Iz x.num,.string x.text,va,vb]:Vl)[q]?=some u→W7.cell? ((⟨w6.heap.size,0,none⟩:Addr).add q)=some u:=by
       intro q u hq;have:=cR _ hn7 rfl q u hq;rw [Bn,Bv];exact this
      have HN7:=Hh hN7;have hO7:=Hh hst7.items.1;have hbs7:=hst7.lo.2.2.2;have HONE:=Hh hone;have HFR:=Hh hfr;clear hN7 hn7 hone hfr;refine aF _ rfl trivial ?_
      go_wp2_with ((refine Bk _ rfl (.tmp 56) (.tmp 61) 26 rfl C 28 ip (.agg Z6) 6 88 hug HI2.o hz0 hz1 hz2 rfl (by decide) vi A.length _ rfl hO7.o ⟨w6.heap.size,0,none⟩ 1 1 [Iz x.kind,.bool x.bool,Iz x.num,.string x.text,va,vb] rfl rfl HN7.o HONE.o (by decide) (by unfold maxLen;omega) (by omega) hbs7 _ rfl ?_);intro g8 c8 W8 hown hgrow hat hlt)
      refine Seg.mk ?_;refine aF _ rfl trivial ?_
      go_wp2_with fail
      refine Seg.mk ?_;have hst8:=hst7.item hown hgrow (fK hat) HFR.o;have hdi8:=hst7.dice (.inr rfl) hdi7 hgrow 5 (.slice (some ⟨g8,0,none⟩) (A.length+1) c8);have hk8:=(hst7.apart (.inr rfl) hgrow nb hst7.lo.2.2.1).trans hst7.nod;have hf8:=aD hk8;have hd8:=aA hk8;clear hown hgrow hat hst7 hdi7 hk8 hO7 HN7 hbs7;refine cG _ rfl trivial ?_
      go_wp2_with fail
      generalize W8.setCell ⟨nb,5,none⟩ (.slice (some ⟨g8,0,none⟩) (A.length+1) c8)=w9 at hst8 hdi8 ⊢;clear hf8 hd8
      go_wp2
      go_roundw
      case rel=>
       refine ⟨m - 1,_,_,by rw [show ((m - 1:Nat):Int)=(m:Int) - 1 by omega],?_,hst8,?_,hdi8⟩
       ·rw [Lg];show A.length+1+(m - 1)≤3;omega
       ·intro y hy
        rcases Bb.1 hy with hy | hy
        ·exact HV.o y hy
        ·cases At.1 hy;exact hvx
      case measure=>simp [intOf];omega
     ·have hm':¬ (0:Int)<(m:Int):=by omega
      have hA3:A.length≤3:=by omega
      have HV:=Hh hval;have HDI:=Hh hdi;have HST:=Hh hst;have hc3:=DV (d:=n - 1) (its:=aE A) (fun y hy=>by
       obtain ⟨z,hz,rfl⟩:=Bl.1 hy;exact hval z hz) (by rw [aE,Bi];exact hA3)
      have HA20:Hid (A.length≤20∧nN (n - 1) (aE A)≤3 * (pR (n - 1)+1)+25 * A.length):=Hh ⟨by omega,by omega⟩
      clear hst hdi hval hc3
      go_upto_if 66 with ((with_reducible refine (N20.o _ HDI.o).mono ?_);rintro e w4 ⟨⟨k2,hk2,rfl⟩,hg4,hd4⟩)
      have hst4:=HST.o.grown hg4;clear HST HDI hg4
      go_cut [] from 66 (fun wx=>∃ (vi:Value) (A:List NC),(A.length≤20∧nN (n - 1) (aE A)≤3 * (pR (n - 1)+1)+25 * A.length)∧NSt 28 9 (n - 1) w wx g nb C k (Sn) vi [] A∧(∀y,y ∈ A→fR (n - 1) y.2=true)∧aZ B wx g)
      case first=>
       by_cases hk1:k2=1
       ·have e6:((k2:Int) == 1)=true:=by simp;omega
        have HST:=Hh hst4;have HD4:=Hh hd4;clear hst4 hd4 hk1
        go_wp2
        generalize Value.bool ((k2:Int) == 1)=vb
        go_loopw [] (fun wr=>∃ (vi:Value) (A:List NC),(A.length≤20∧nN (n - 1) (aE A)≤3 * (pR (n - 1)+1)+25 * A.length)∧NSt 28 9 (n - 1) w wr g nb C k (Sn) vi [] A∧(∀y,y ∈ A→fR (n - 1) y.2=true)∧aZ B wr g) (fun wr=>30 - SW wr nb 5)
        case atStart=>exact ⟨_,A,HA20.o,HST.o,HV.o,HD4.o⟩
        case round=>
         clear HST HD4 HV;obtain ⟨vi,A,⟨hA,hcA⟩,hst,hval,hdi⟩:=hrel;have HCA:=Hh hcA;clear hcA;obtain ⟨ai,ci,rfl⟩:=hst.viForm;have hlen:=Hh hst.len;have HV:=Hh hval;have hst5:=hst.below ((Br wr.heap.size wr).drew);have hdi5:=hdi.go ((Br wr.heap.size wr).drew);have hc5:=(aA hst5.nod).2.2.2.2.2;have hA0:(A.length:Int)≤20:=by omega
         clear hst hdi hval
         go_upto_region 22 with fail
         refine aJ (fun w'=>w'.cell? ⟨nb,5,none⟩=some (.slice ai A.length ci)) [1,2] (.take 0 (.take 1 (.take 2 (.take 3 (.ask 4 true (.take 5 (.ask 6 false .stop .stop)) .stop))))) (by kernel_rfl) (by kernel_rfl) (fun _ d _ _ _ h=>by cases d <;> exact h) hc5 ?_
         generalize wr.drew=wd5 at hst5 hdi5 hc5 ⊢;refine aG _ ?_ rfl rfl ?_ (fun K hK=>?_);rotate_left;(intro w0;go_simp;(try rfl));(go_simp;refine hK _ ?_;clear hK K)
         iterate 2 (refine aN _ ?_ rfl rfl (by decide) ?_ (fun K hK=>?_);rotate_left;(intro w0 hw0;go_simp;(try rfl));(go_simp;refine hK _ ?_;clear hK K))
         refine aG _ ?_ rfl rfl ?_ (fun K hK=>?_);rotate_left;(intro w0;go_simp;(try rfl));(go_simp;refine hK _ ?_;clear hK K)
         refine aI _ rfl trivial ?_
         go_wp2_with (go_at_call 19;(with_reducible refine (N3.o _ hdi5).mono ?_);rintro e w6 ⟨⟨k3,hk3,rfl⟩,hg6,hdi6⟩)
         have hst6:=hst5.grown hg6;have hc6:=(aA hst6.nod).2.2.2.2.2;clear hst5 hdi5 hc5 hg6;refine Seg.mk ⟨hc6,?_⟩;have hw15:IntKind.i64.wrap (15+(k3:Int))=15+(k3:Int):=Cd _ (by omega)
         refine aG _ ?_ rfl rfl ?_ (fun K hK=>?_);rotate_left;(intro w0;go_simp;(try rfl));(go_simp;refine hK _ ?_;clear hK K)
         clear hw15
         by_cases hlt:(A.length:Int)<15+(k3:Int)
         ·have hlt1:decide ((A.length:Int)<15+(k3:Int))=true:=by simpa using hlt
          have b7:=(Br w6.heap.size w6).alloc (o:=.cells Z6 28) (Lr _);have hst7:=hst6.below b7;have hdi7:=hdi6.go b7;have hn7:=Hn w6 (.cells Z6 28);obtain ⟨W7,hW⟩:∃W,W=w6.alloc (.cells Z6 28):=⟨_,rfl⟩;rw [←hW] at hst7 hdi7 hn7;have hN7:∀q u,([Value.int IntKind.i64 0,.bool false,Iz 0,.string ⟨#[]⟩,Sn,Sn]:Vl)[q]?=some u→W7.cell? ((⟨w6.heap.size,0,none⟩:Addr).add q)=some u:=by
           intro q u hq;have:=cR _ hn7 rfl q u hq;rw [Bn,Bv];exact this
          have HN7:=Hh hN7;have HO7:=Hh hst7.items.1;have hbs7:=Hh hst7.lo.2.2.2;have HST7:=Hh hst7;have HDI7:=Hh hdi7;have HW:=Hh hW;clear hN7 hn7 hst7 hdi7 b7 hst6 hdi6 hW;rw [HW.o] at HO7 HN7 hbs7;refine cG _ rfl trivial ?_
          go_wp2_with ((refine Bk _ rfl (.tmp 75) (.tmp 77) 26 rfl C 28 ip (.agg Z6) 6 88 hug HI2.o hz0 hz1 hz2 rfl (by decide) (.slice ai A.length ci) A.length _ rfl HO7.o ⟨w6.heap.size,0,none⟩ 1 1 [Value.int IntKind.i64 0,.bool false,Iz 0,.string ⟨#[]⟩,Sn,Sn] rfl rfl HN7.o (by intro u hu;simp at hu;rcases hu with rfl | rfl | rfl | rfl | rfl <;> rfl) (by decide) (by unfold maxLen;omega) (by omega) hbs7.o _ rfl ?_);intro g8 c8 W8 hown hgrow hat hlt8;rw [←HW.o] at hgrow hat;(have hst8:=HST7.o.item hown hgrow (fK hat) ((cC _ _ 0 false 0 ⟨#[]⟩ (by decide)).deeper (by omega)));(have hdi8:=HST7.o.dice (.inr rfl) HDI7.o hgrow 5 (.slice (some ⟨g8,0,none⟩) (A.length+1) c8));(have hk8:=(HST7.o.apart (.inr rfl) hgrow nb HST7.o.lo.2.2.1).trans HST7.o.nod);(have hf8:=aD hk8);(have hd8:=aA hk8);clear hown hgrow hat hk8)
          generalize W8.setCell ⟨nb,5,none⟩ (.slice (some ⟨g8,0,none⟩) (A.length+1) c8)=w9 at hst8 hdi8 ⊢
          go_roundw
          case rel=>
           refine ⟨_,_,⟨by rw [Lg];show A.length+1≤20;omega,?_⟩,hst8,?_,hdi8⟩
           ·have hcA:=HCA.o
            rw [show aE (A++[(_,ND.mk 0 false 0 ⟨#[]⟩ [] [])])=aE A++[ND.mk 0 false 0 ⟨#[]⟩ [] []] by rw [aE,Dx];rfl,QW,Lg]
            have hc0:bG (n - 1) (.mk 0 false 0 ⟨#[]⟩ [] [])≤24:=by
             obtain ⟨q,hq⟩:∃q,n - 1=q+1:=⟨n - 2,by omega⟩
             rw [hq];exact Lr _
            show _≤3 * (pR (n - 1)+1)+25 * (A.length+1)
            omega
           intro y hy;rcases Bb.1 hy with hy | hy
           ·exact HV.o y hy
           ·cases At.1 hy
            exact jO (by omega) 0 false 0 ⟨#[]⟩ (by decide) (by decide) (by decide)
          case measure=>
           rw [hst8.len,hlen.o,Lg]
           show 30 - (A.length+1)<30 - A.length
           omega
         ·have hlt1:decide ((A.length:Int)<15+(k3:Int))=false:=by simpa using hlt
          have HST:=Hh hst6;have HD6:=Hh hdi6;clear hst6 hdi6 hc6;refine cG _ rfl trivial ?_
          go_wp2
          go_meet
          exact ⟨_,A,⟨hA,HCA.o⟩,HST.o,HV.o,HD6.o⟩
       ·have e6:((k2:Int) == 1)=false:=by simp;omega
        have HST:=Hh hst4;have HD4:=Hh hd4;clear hst4 hd4 hk1
        go_wp2
        go_meet
        exact ⟨_,A,HA20.o,HST.o,HV.o,HD4.o⟩
      case rest=>
       clear hst4 hd4 HV;obtain ⟨vi,A,⟨hA,hcA⟩,hst,hval,hdi⟩:=hcut;have HCA:=Hh hcA;clear hcA;obtain ⟨ai,ci,rfl⟩:=hst.viForm;have hc5:=(aA hst.nod).2.2.2.2.2;have HST:=Hh hst;have HDI:=Hh hdi;have HV:=Hh hval;clear hst hdi hval
       go_wp2
       go_loopw [9,83] (fun i9 i wr=>∃ (j:Nat) (vn:Value) (ns:List Bt),i=Iz j∧j≤A.length∧NSt 28 9 (n - 1) w wr g nb C k vn (.slice ai A.length ci) ns A∧(k=4→ns=[])∧(k=5→ns.length=j∧jX ns)∧aZ B wr g) (fun _ i _=>A.length - (intOf i).toNat)
       case atStart=>exact ⟨0,_,[],rfl,Ax _,HST.o,fun _=>rfl,fun _=>⟨rfl,fun i s h=>by simp at h⟩,HDI.o⟩
       case round=>
        clear HST HDI hc5;obtain ⟨j,vn,ns,rfl,hj,hst,hn4,hn5,hdi⟩:=hrel
        by_cases hjA:j<A.length
        ·have hjA':(j:Int)<(A.length:Int):=by omega
         by_cases hk5:k=5
         ·(try (exfalso;rw [hk5] at e5;exact absurd e5 (by decide)))
          all_goals
           obtain ⟨hnl,hnm⟩:=hn5 hk5;have HNM:=Hh hnm;have HK:=Hh hk5;have hst1:=hst.below ((Br wr.heap.size wr).drew);have hdi1:=hdi.go ((Br wr.heap.size wr).drew);have hc1:=(aA hst1.nod).2.2.2.2.1;have hj20:(j:Int)<20:=by omega
           have hj0:(0:Int)≤(j:Int):=by omega
           clear hn4 hn5 hnm hk5 hst hdi
           go_upto_region 28 with fail
           refine aJ (fun w'=>w'.cell? ⟨nb,4,none⟩=some vn) [1] (.take 0 (.take 1 (.take 2 (.take 5 (.take 6 (.take 7 (.take 8 (.take 9 (.take 10 (.take 11 (.take 12 (eN.join true (.ask 3 true (.ask 4 true (.ask 13 true (.ask 14 true .stop .stop) .stop) (.ask 13 true (.ask 4 true (.ask 14 true .stop .stop) (.ask 14 true (.ask 4 true .stop .stop) .stop)) .stop)) (.ask 13 true (.ask 3 true (.ask 4 true (.ask 14 true .stop .stop) (.ask 14 true (.ask 4 true .stop .stop) .stop)) (.ask 14 true (.ask 3 true (.ask 4 true .stop .stop) .stop) .stop)) .stop)) (.take 15 (.ask 16 true (.ask 17 false (.ask 18 false (.ask 19 false .stop .stop) .stop) .stop) .stop)))))))))))))) (by kernel_rfl) (by kernel_rfl) (fun _ d _ _ _ h=>by cases d <;> exact h) hc1 ?_
           generalize wr.drew=wd at hst1 hdi1 hc1 ⊢;refine aG _ ?_ rfl rfl ?_ (fun K hK=>?_);rotate_left;(intro w0;go_simp;(try rfl));(go_simp;refine hK _ ?_;clear hK K)
           refine aN _ ?_ rfl rfl (by decide) ?_ (fun K hK=>?_);rotate_left;(intro w0 hw0;go_simp;(try rfl));(go_simp;refine hK _ ?_;clear hK K)
           iterate 9 (refine aG _ ?_ rfl rfl ?_ (fun K hK=>?_);rotate_left;(intro w0;go_simp;(try rfl));(go_simp;refine hK _ ?_;clear hK K))
           obtain ⟨d0,hd0⟩:∃d:Int,d=((UInt8.ofNat (48+j % 10)).toNat:Int):=⟨_,rfl⟩;obtain ⟨d1,hd1⟩:∃d:Int,d=((UInt8.ofNat (48+j / 10)).toNat:Int):=⟨_,rfl⟩;have HDD:Hid ((kM j).map (fun b=>Value.int .u8 (b.toNat:Int))=[.int .u8 d0,.int .u8 d1]):=by
            show _=_
            rw [hd0,hd1];rfl
           rw [show IntKind.u8.wrap (48+IntKind.u8.wrap ((j:Int).tmod 10))=d0 by rw [hd0,Be,Int.tmod_eq_emod_of_nonneg hj0];simp only [Dd];omega]
           rw [show IntKind.u8.wrap (48+IntKind.u8.wrap (IntKind.i64.wrap ((j:Int) / 10)))=d1 by rw [hd1,Be,show IntKind.i64.wrap ((j:Int) / 10)=(j:Int) / 10 from Cd _ (by omega)];simp only [Dd];omega]
           have hgC:g<C:=by have:=hst1.lo;omega
           clear hd0 hd1;refine fC [91,92,101,102] (fun vs wx=>∃ (v91 v101:Value) (s t:Bt),vs=[v91,.string s,v101,.string t]∧s.size≤1∧t.size=2∧uV j (s++t)∧NSt 28 9 (n - 1) w wx g nb C k vn (.slice ai A.length ci) ns A∧aZ B wx g) ?_ ?_
           ·refine aI _ rfl ?_ ?_
            rotate_left
            ·have b1:=(Br wd.heap.size wd).alloc (o:=.cells #[.string ⟨#[97]⟩,.string ⟨#[98]⟩,.string ⟨#[118]⟩,.string ⟨#[100]⟩,.string ⟨#[]⟩] 9) (Lr _)
             have st1:=hst1.below b1;have di1:=hdi1.go b1;have l1:=lS nmW (Hn wd (.cells #[.string ⟨#[97]⟩,.string ⟨#[98]⟩,.string ⟨#[118]⟩,.string ⟨#[100]⟩,.string ⟨#[]⟩] 9)) rfl;have n1:wd.heap.size ≠ g:=by have:=hst1.lo;omega
             go_wp2_with fail
             generalize hW:wd.alloc (.cells #[.string ⟨#[97]⟩,.string ⟨#[98]⟩,.string ⟨#[118]⟩,.string ⟨#[100]⟩,.string ⟨#[]⟩] 9)=W1 at b1 st1 di1 l1 ⊢;clear hW;refine Seg.mk ⟨(aA st1.nod).2.2.2.2.1,?_⟩;refine aI _ rfl ?_ ?_;rotate_left
             ·have WD2:=Hh (lF B g (wd.heap.size) 5 5 nmW W1 (by decide) (by decide) rfl l1 n1 di1)
              go_wp2_with (go_at_call 41;(with_reducible refine (WD2.o).mono ?_);rintro e W2 ⟨⟨s2,hs2,rfl⟩,hg2,di2⟩)
              have st2:=st1.grown hg2;refine Seg.mk ⟨(aA st2.nod).2.2.2.2.1,?_⟩;have b3:=(Br W2.heap.size W2).alloc (o:=.cells #[.int .u8 d0,.int .u8 d1] 5) (Lr _);have st3:=st2.below b3;have di3:=di2.go b3;have o3:(W2.alloc (.cells #[.int .u8 d0,.int .u8 d1] 5)).ownsRow C 5 1 (.slice (some ⟨W2.heap.size,0,none⟩) 2 2) 2 ((kM j).map fun b=>Value.int .u8 (b.toNat:Int)):=by rw [HDD.o];exact World.ownsRow_lit W2 _ 2 st2.lo.2.2.2 (by decide) rfl
              refine aI _ rfl trivial ?_
              go_wp2_with fail
              generalize hW:W2.alloc (.cells #[.int .u8 d0,.int .u8 d1] 5)=W3 at b3 st3 di3 o3 ⊢;clear hW;refine Seg.mk ⟨(aA st3.nod).2.2.2.2.1,?_⟩;have cv4:=eX (P:=prog) W3 69 9 5 C 2 _ (kM j) o3 underlying69 underlying5 underlying9;refine aI _ rfl trivial ?_
              go_wp2_with fail
              clear cv4;refine Seg.mk ⟨(aA st3.nod).2.2.2.2.1,?_⟩;exact aQ [.slice (some ⟨wd.heap.size,0,none⟩) 5 5,.string s2,.slice (some ⟨W2.heap.size,0,none⟩) 2 2,.string ⟨(kM j).toArray⟩] ⟨_,_,s2,_,rfl,(qS s2 hs2).1,rfl,⟨s2,hs2,rfl⟩,st3,di3⟩ rfl
             ·have b5:=(Br W1.heap.size W1).alloc (o:=.cells #[.int .u8 d0,.int .u8 d1] 5) (Lr _)
              have st5:=st1.below b5;have di5:=di1.go b5;have o5:(W1.alloc (.cells #[.int .u8 d0,.int .u8 d1] 5)).ownsRow C 5 1 (.slice (some ⟨W1.heap.size,0,none⟩) 2 2) 2 ((kM j).map fun b=>Value.int .u8 (b.toNat:Int)):=by rw [HDD.o];exact World.ownsRow_lit W1 _ 2 st1.lo.2.2.2 (by decide) rfl
              have l5:∀q s,nmW[q]?=some s→(W1.alloc (.cells #[.int .u8 d0,.int .u8 d1] 5)).cell? ⟨wd.heap.size,q,none⟩=some (.string s):=fun q s h=>(b5.cell (p:=⟨_,q,none⟩) (cD (l1 q s h))).trans (l1 q s h)
              refine aI _ rfl trivial ?_
              go_wp2_with fail
              generalize hW:W1.alloc (.cells #[.int .u8 d0,.int .u8 d1] 5)=W5 at b5 st5 di5 o5 l5 ⊢;clear hW;refine Seg.mk ⟨(aA st5.nod).2.2.2.2.1,?_⟩;refine aI _ rfl ?_ ?_;rotate_left
              ·have WD6:=Hh (lF B g (wd.heap.size) 5 5 nmW W5 (by decide) (by decide) rfl l5 n1 di5)
               go_wp2_with (go_at_call 41;(with_reducible refine (WD6.o).mono ?_);rintro e W6 ⟨⟨s6,hs6,rfl⟩,hg6,di6⟩)
               have st6:=st5.grown hg6;have o6:=iG o5 hg6 hgC;refine Seg.mk ⟨(aA st6.nod).2.2.2.2.1,?_⟩;have cv7:=eX (P:=prog) W6 69 9 5 C 2 _ (kM j) o6 underlying69 underlying5 underlying9;refine aI _ rfl trivial ?_
               go_wp2_with fail
               clear cv7;refine Seg.mk ⟨(aA st6.nod).2.2.2.2.1,?_⟩;exact aQ [.slice (some ⟨wd.heap.size,0,none⟩) 5 5,.string s6,.slice (some ⟨W1.heap.size,0,none⟩) 2 2,.string ⟨(kM j).toArray⟩] ⟨_,_,s6,_,rfl,(qS s6 hs6).1,rfl,⟨s6,hs6,rfl⟩,st6,di6⟩ rfl
              ·have cv8:=eX (P:=prog) W5 69 9 5 C 2 _ (kM j) o5 underlying69 underlying5 underlying9
               refine aI _ rfl trivial ?_
               go_wp2_with fail
               clear cv8;refine Seg.mk ⟨(aA st5.nod).2.2.2.2.1,?_⟩;have WD9:=Hh (lF B g (wd.heap.size) 5 5 nmW W5 (by decide) (by decide) rfl l5 n1 di5)
               refine aI _ rfl trivial ?_
               go_wp2_with (go_at_call 41;(with_reducible refine (WD9.o).mono ?_);rintro e W9 ⟨⟨s9,hs9,rfl⟩,hg9,di9⟩)
               have st9:=st5.grown hg9;refine Seg.mk ⟨(aA st9.nod).2.2.2.2.1,?_⟩;exact aQ [.slice (some ⟨wd.heap.size,0,none⟩) 5 5,.string s9,.slice (some ⟨W1.heap.size,0,none⟩) 2 2,.string ⟨(kM j).toArray⟩] ⟨_,_,s9,_,rfl,(qS s9 hs9).1,rfl,⟨s9,hs9,rfl⟩,st9,di9⟩ rfl
            ·have b10:=(Br wd.heap.size wd).alloc (o:=.cells #[.int .u8 d0,.int .u8 d1] 5) (Lr _)
             have st10:=hst1.below b10;have di10:=hdi1.go b10;have o10:(wd.alloc (.cells #[.int .u8 d0,.int .u8 d1] 5)).ownsRow C 5 1 (.slice (some ⟨wd.heap.size,0,none⟩) 2 2) 2 ((kM j).map fun b=>Value.int .u8 (b.toNat:Int)):=by rw [HDD.o];exact World.ownsRow_lit wd _ 2 hst1.lo.2.2.2 (by decide) rfl
             refine aI _ rfl trivial ?_
             go_wp2_with fail
             generalize hW:wd.alloc (.cells #[.int .u8 d0,.int .u8 d1] 5)=W10 at b10 st10 di10 o10 ⊢;clear hW;refine Seg.mk ⟨(aA st10.nod).2.2.2.2.1,?_⟩;refine aI _ rfl ?_ ?_;rotate_left
             ·have b11:=(Br W10.heap.size W10).alloc (o:=.cells #[.string ⟨#[97]⟩,.string ⟨#[98]⟩,.string ⟨#[118]⟩,.string ⟨#[100]⟩,.string ⟨#[]⟩] 9) (Lr _)
              have st11:=st10.below b11;have di11:=di10.go b11;have l11:=lS nmW (Hn W10 (.cells #[.string ⟨#[97]⟩,.string ⟨#[98]⟩,.string ⟨#[118]⟩,.string ⟨#[100]⟩,.string ⟨#[]⟩] 9)) rfl;have n11:W10.heap.size ≠ g:=by have:=st10.lo;omega
              have o11:=fG o10 b11
              go_wp2_with fail
              generalize hW:W10.alloc (.cells #[.string ⟨#[97]⟩,.string ⟨#[98]⟩,.string ⟨#[118]⟩,.string ⟨#[100]⟩,.string ⟨#[]⟩] 9)=W11 at b11 st11 di11 l11 o11 ⊢;clear hW;refine Seg.mk ⟨(aA st11.nod).2.2.2.2.1,?_⟩;refine aI _ rfl ?_ ?_;rotate_left
              ·have WD12:=Hh (lF B g (W10.heap.size) 5 5 nmW W11 (by decide) (by decide) rfl l11 n11 di11)
               go_wp2_with (go_at_call 41;(with_reducible refine (WD12.o).mono ?_);rintro e W12 ⟨⟨s12,hs12,rfl⟩,hg12,di12⟩)
               have st12:=st11.grown hg12;have o12:=iG o11 hg12 hgC;refine Seg.mk ⟨(aA st12.nod).2.2.2.2.1,?_⟩;have cv13:=eX (P:=prog) W12 69 9 5 C 2 _ (kM j) o12 underlying69 underlying5 underlying9;refine aI _ rfl trivial ?_
               go_wp2_with fail
               clear cv13;refine Seg.mk ⟨(aA st12.nod).2.2.2.2.1,?_⟩;exact aQ [.slice (some ⟨W10.heap.size,0,none⟩) 5 5,.string s12,.slice (some ⟨wd.heap.size,0,none⟩) 2 2,.string ⟨(kM j).toArray⟩] ⟨_,_,s12,_,rfl,(qS s12 hs12).1,rfl,⟨s12,hs12,rfl⟩,st12,di12⟩ rfl
              ·have cv14:=eX (P:=prog) W11 69 9 5 C 2 _ (kM j) o11 underlying69 underlying5 underlying9
               refine aI _ rfl trivial ?_
               go_wp2_with fail
               clear cv14;refine Seg.mk ⟨(aA st11.nod).2.2.2.2.1,?_⟩;have WD15:=Hh (lF B g (W10.heap.size) 5 5 nmW W11 (by decide) (by decide) rfl l11 n11 di11)
               refine aI _ rfl trivial ?_
               go_wp2_with (go_at_call 41;(with_reducible refine (WD15.o).mono ?_);rintro e W15 ⟨⟨s15,hs15,rfl⟩,hg15,di15⟩)
               have st15:=st11.grown hg15;refine Seg.mk ⟨(aA st15.nod).2.2.2.2.1,?_⟩;exact aQ [.slice (some ⟨W10.heap.size,0,none⟩) 5 5,.string s15,.slice (some ⟨wd.heap.size,0,none⟩) 2 2,.string ⟨(kM j).toArray⟩] ⟨_,_,s15,_,rfl,(qS s15 hs15).1,rfl,⟨s15,hs15,rfl⟩,st15,di15⟩ rfl
             ·have cv16:=eX (P:=prog) W10 69 9 5 C 2 _ (kM j) o10 underlying69 underlying5 underlying9
              refine aI _ rfl trivial ?_
              go_wp2_with fail
              clear cv16;refine Seg.mk ⟨(aA st10.nod).2.2.2.2.1,?_⟩;have b17:=(Br W10.heap.size W10).alloc (o:=.cells #[.string ⟨#[97]⟩,.string ⟨#[98]⟩,.string ⟨#[118]⟩,.string ⟨#[100]⟩,.string ⟨#[]⟩] 9) (Lr _);have st17:=st10.below b17;have di17:=di10.go b17;have l17:=lS nmW (Hn W10 (.cells #[.string ⟨#[97]⟩,.string ⟨#[98]⟩,.string ⟨#[118]⟩,.string ⟨#[100]⟩,.string ⟨#[]⟩] 9)) rfl;have n17:W10.heap.size ≠ g:=by have:=st10.lo;omega
              refine aI _ rfl trivial ?_
              go_wp2_with fail
              generalize hW:W10.alloc (.cells #[.string ⟨#[97]⟩,.string ⟨#[98]⟩,.string ⟨#[118]⟩,.string ⟨#[100]⟩,.string ⟨#[]⟩] 9)=W17 at b17 st17 di17 l17 ⊢;clear hW;refine Seg.mk ⟨(aA st17.nod).2.2.2.2.1,?_⟩;have WD18:=Hh (lF B g (W10.heap.size) 5 5 nmW W17 (by decide) (by decide) rfl l17 n17 di17)
              refine aI _ rfl trivial ?_
              go_wp2_with (go_at_call 41;(with_reducible refine (WD18.o).mono ?_);rintro e W18 ⟨⟨s18,hs18,rfl⟩,hg18,di18⟩)
              have st18:=st17.grown hg18;refine Seg.mk ⟨(aA st18.nod).2.2.2.2.1,?_⟩;exact aQ [.slice (some ⟨W10.heap.size,0,none⟩) 5 5,.string s18,.slice (some ⟨wd.heap.size,0,none⟩) 2 2,.string ⟨(kM j).toArray⟩] ⟨_,_,s18,_,rfl,(qS s18 hs18).1,rfl,⟨s18,hs18,rfl⟩,st18,di18⟩ rfl
           ·rintro vs w5 ⟨v91,v101,s,t,rfl,hs1,ht2,hname,hst5,hdi5⟩
            simp only [gX,Act.put,As,Ay,Az];have hcat:¬9223372036854775807<s.size+2:=by omega
            have hst6:=hst5.below ((Br w5.heap.size w5).alloc (o:=.cells #[.string (s++t)] 9) (Lr _));have hdi6:=hdi5.go ((Br w5.heap.size w5).alloc (o:=.cells #[.string (s++t)] 9) (Lr _));have hn6:=Hn w5 (.cells #[.string (s++t)] 9);have hsz:(s++t).size≤maxLen - 2:=by rw [ByteArray.size_append];unfold maxLen;omega
            have HSZ:=Hh hsz;have HNA:=Hh hname;clear hsz hname;refine aG _ ?_ rfl rfl ?_ (fun K hK=>?_);rotate_left;(intro w0;go_simp;(try rfl));(go_simp;refine hK _ ?_;clear hK K)
            clear hcat;refine aI _ rfl trivial ?_
            go_wp2_with fail
            generalize hW:w5.alloc (.cells #[.string (s++t)] 9)=w6 at hst6 hdi6 hn6 ⊢;clear hW;have hc6:=(aA hst6.nod).2.2.2.2.1;refine Seg.mk ⟨hc6,?_⟩;have hN6:∀q u,([Value.string (s++t)]:Vl)[q]?=some u→w6.cell? ((⟨w5.heap.size,0,none⟩:Addr).add q)=some u:=by
             intro q u hq;have:=cR [Value.string (s++t)] hn6 rfl q u hq;rw [Bn,Bv];exact this
            have HN6:=Hh hN6;have HO:=Hh hst6.names.1;have hbs:=hst6.lo.2.2.2;have HNL:=Hh hnl;have hnl20:ns.length<20:=by omega
            clear hN6 hn6 hnl;refine aF _ rfl trivial ?_
            go_wp2_with ((refine Bk _ rfl (.tmp 89) (.tmp 104) 25 rfl C 9 iq (.string ⟨#[]⟩) 1 16 hus HIQ.o hy0 hy1 hy2 rfl (by decide) vn ns.length _ rfl HO.o ⟨w5.heap.size,0,none⟩ 1 1 [.string (s++t)] rfl rfl HN6.o (by intro u hu;simp at hu;subst hu;rfl) (by decide) (by unfold maxLen;omega) (by omega) hbs _ rfl ?_);intro gg cc W7 hown hgrow hat hlt)
            refine Seg.mk ?_;refine aF _ rfl trivial ?_
            go_wp2_with fail
            refine Seg.mk ?_;have hst8:=hst6.name hown hgrow (fK hat) HSZ.o;have hdi8:=hst6.dice (.inl rfl) hdi6 hgrow 4 (.slice (some ⟨gg,0,none⟩) (ns.length+1) cc);have hk8:=(hst6.apart (.inl rfl) hgrow nb hst6.lo.2.2.1).trans hst6.nod;have hf8:=aD hk8;have hd8:=aA hk8;clear hown hgrow hat hst6 hdi6 hk8 HO HN6 hbs;refine cG _ rfl trivial ?_
            go_wp2_with fail
            generalize W7.setCell ⟨nb,4,none⟩ (.slice (some ⟨gg,0,none⟩) (ns.length+1) cc)=w9 at hst8 hdi8 ⊢;clear hf8 hd8
            go_wp2
            go_roundw
            case rel=>
             refine ⟨j+1,_,_,by go_num,by omega,hst8,fun h4=>?_,fun _=>⟨by rw [Lg,HNL.o];rfl,HNM.o.push (by rw [HNL.o];exact HNA.o)⟩,hdi8⟩
             have:=HK.o;omega
            case measure=>simp [intOf];omega
         ·have hk4':k=4:=by omega
          (try (exfalso;rw [hk4'] at e5;exact absurd e5 (by decide)))
          all_goals
           have HN4:=Hh (hn4 hk4');have HST:=Hh hst;have HDI:=Hh hdi;have HK:=Hh hk4';clear hn4 hn5 hst hdi hk4' hk5
           go_wp2
           go_roundw
           case rel=>exact ⟨j+1,_,_,by go_num,by omega,HST.o,fun _=>HN4.o,fun h5=>absurd h5 (by have:=HK.o;omega),HDI.o⟩
           case measure=>simp [intOf];omega
        ·obtain ⟨an,cpn,hvn⟩:=hst.vnForm
         subst hvn;generalize hLL:ns.length=LL at hst;have HLL:=Hh hLL;have hjj:j=A.length:=by omega
         have HJJ:=Hh hjj;have HN4:=Hh hn4;have HN5:=Hh hn5;have hjA':¬ (j:Int)<(A.length:Int):=by omega
         have f0:=aD hst.nod;have c0:=aA hst.nod;have f1:=aD hst.res;have c1:=aA hst.res;have hne:¬w.heap.size=nb:=by have:=hst.lo;omega
         have hne2:¬nb=w.heap.size:=fun e=>hne e.symm
         have HST:=Hh hst;have HDI:=Hh hdi;clear hst hdi hLL hjj hn4 hn5
         go_wp2
         have hdn:=HST.o.done;have hput:=dB HST.o.res (Iz k) (.bool false) (Iz 0) (.string ⟨#[]⟩) (.slice an LL cpn) (.slice ai A.length ci);refine Ar (v:=.agg #[Iz k,.bool false,Iz 0,.string ⟨#[]⟩,.slice an LL cpn,.slice ai A.length ci]) ?_ ?_ ?_;rotate_left
         ·rfl
         ·rw [show n - 1+1=n by omega] at hdn
          have hlA:(aE A).length=A.length:=by simp [aE]
          refine ⟨⟨_,_,rfl,hdn.1,wF hn ?_ (by omega) ?_ (by rw [hlA];exact HCA.o)⟩,hdn.2.1,hdn.2.2 B HDI.o⟩
          ·rcases Cc k 5 with h | h
           ·exact .inl ⟨by omega,HN4.o (by omega)⟩
           ·have:=HN5.o (by omega)
            exact .inr ⟨by omega,by rw [hlA,this.1,HJJ.o],this.2⟩
          ·intro y hy
           obtain ⟨z,hz,rfl⟩:=Bl.1 hy;exact HV.o z hz
         ·obtain ⟨q0,q1,q2,q3,q4,q5⟩:=aA hput
          simp only [dE] at q0 q1 q2 q3 q4 q5;simp [results,results20,go_sem,q0,q1,q2,q3,q4,q5]
 ·obtain rfl | rfl | rfl | rfl:k=0∨k=1∨k=2∨k=3:=by omega
  ·have f1:=aD hr1
   have c1:=aA hr1;have HR:=Hh hr1;have HG:=Hh hgr1;have HD:=Hh hd1;clear hr1 hgr1 hd1
   go_wp2
   refine Ar (v:=.agg Z6) ?_ ?_ ?_;rotate_left
   ·rfl
   ·exact mJ hn hgw HG.o HD.o 0 false 0 ⟨#[]⟩ (by decide) (jO hn _ _ _ _ (by decide) (by decide) (by decide))
   ·obtain ⟨q0,q1,q2,q3,q4,q5⟩:=aA (dB HR.o (Iz 0) (.bool false) (Iz 0) (.string ⟨#[]⟩) (Sn) (Sn))
    simp only [dE] at q0 q1 q2 q3 q4 q5;simp [results,results20,go_sem,q0,q1,q2,q3,q4,q5]
  ·go_upto_region 3 with fail
   have HR:=Hh hr1;have HG:=Hh hgr1;clear hr1 hgr1
   go_wp2_with (go_at_call 19;(with_reducible refine (N2.o _ hd1).mono ?_);rintro e w2 ⟨⟨k2,hk2,rfl⟩,hg2,hd2⟩;(have hr2:=cM hg2 (by omega) HR.o);(have f2:=aD hr2);(have c2:=aA hr2);clear hr2)
   have hr2:=cM hg2 (by omega) HR.o
   have hgr2:=aH HG.o hg2;have hfl:∀b,eQ (.mk 1 b 0 ⟨#[]⟩ [] [])=true:=by decide
   refine Ar (v:=.agg #[Iz 1,.bool ((k2:Int) == 1),Iz 0,.string ⟨#[]⟩,Sn,Sn]) ?_ ?_ ?_;rotate_left
   ·rfl
   ·exact mJ hn hgw hgr2 hd2 1 ((k2:Int) == 1) 0 ⟨#[]⟩ (by decide) (jO hn _ _ _ _ (hfl _) (by decide) (by decide))
   ·obtain ⟨q0,q1,q2,q3,q4,q5⟩:=aA (dB hr2 (Iz 1) (.bool ((k2:Int) == 1)) (Iz 0) (.string ⟨#[]⟩) (Sn) (Sn))
    simp only [dE] at q0 q1 q2 q3 q4 q5;simp [results,results20,go_sem,q0,q1,q2,q3,q4,q5]
  ·have HR:=Hh hr1
   have HG:=Hh hgr1;have hnb:=Hn w1 (.cells #[Iz 0,Iz 1,Iz 23,Iz 24,Iz 127,Iz 128,Iz 255,Iz 256,Iz 65535,Iz 65536,Iz 4294967296,Iz 9223372036854775807] 3);have hdA:=hd1.go ((Br w1.heap.size w1).alloc (o:=.cells #[Iz 0,Iz 1,Iz 23,Iz 24,Iz 127,Iz 128,Iz 255,Iz 256,Iz 65535,Iz 65536,Iz 4294967296,Iz 9223372036854775807] 3) (Lr _));have hgA:=aH hgr1 (dP w1 (.cells #[Iz 0,Iz 1,Iz 23,Iz 24,Iz 127,Iz 128,Iz 255,Iz 256,Iz 65535,Iz 65536,Iz 4294967296,Iz 9223372036854775807] 3) (some g));have hrA:=(Bh w1 (.cells #[Iz 0,Iz 1,Iz 23,Iz 24,Iz 127,Iz 128,Iz 255,Iz 256,Iz 65535,Iz 65536,Iz 4294967296,Iz 9223372036854775807] 3) _ (Aa hr1)).trans hr1;have hgw1:g ≠ w1.heap.size:=by have:=Aa hr1;omega
   have HRA:=Hh hrA;have HGA:=Hh hgA;have HNBL:=Hh hnb;have HDA:=Hh hdA;clear hr1 hgr1 hd1 hnb hdA hgA hrA
   go_upto_region 7 with ((with_reducible refine (N12.o _ HDA.o).mono ?_);rintro e w2 ⟨⟨k2,hk2,rfl⟩,hg2,hd2⟩;go_loud ((have hb3:=cM hg2 (by omega) HNBL.o);(obtain ⟨z,hz1,hz2,hz3⟩:=aBk k2 hk2);(have hi1:(k2:Int)<12:=by omega);(have hi2:(0:Int)≤(k2:Int):=by omega);(have hcell:w2.cell? ⟨w1.heap.size,k2,none⟩=some (Iz z):=cR (aBl.map fun z=>Iz z) hb3 rfl k2 _ (by rw [Bc,hz1];rfl));clear hb3 hz1))
   have hr2:=cM hg2 (by omega) HRA.o
   have hgr2:=aH HGA.o hg2;have HR2:=Hh hr2;have HG2:=Hh hgr2;clear hr2 hgr2 hg2 hcell;have hfl:∀z:Int,eQ (.mk 2 false z ⟨#[]⟩ [] [])=true:=by
    intro z;unfold eQ;simp [ND.kind,ND.bool,ND.num,ND.text,ND.items,ND.names]
    decide
   have HFL:=Hh hfl;clear hfl
   go_wp2_with (go_at_call 19;(with_reducible refine (N2.o _ hd2).mono ?_);rintro e w3 ⟨⟨k4,hk4',rfl⟩,hg3,hd3⟩;(have hr3:=cM hg3 (by omega) HR2.o);(have f3:=aD hr3);(have c3:=aA hr3);clear hr3)
   ·have hr3:=cM hg3 (by omega) HR2.o
    have hgr3:=aH HG2.o hg3;refine Ar (v:=.agg #[Iz 2,.bool false,Iz (-1 - z),.string ⟨#[]⟩,Sn,Sn]) ?_ ?_ ?_;rotate_left
    ·rfl
    ·exact mJ hn hgw hgr3 hd3 2 false (-1 - z) ⟨#[]⟩ (by decide) (jO hn _ _ _ _ (HFL.o _) (IW (by omega) (by omega)) (by decide))
    ·obtain ⟨q0,q1,q2,q3,q4,q5⟩:=aA (dB hr3 (Iz 2) (.bool false) (Iz (-1 - z)) (.string ⟨#[]⟩) (Sn) (Sn))
     simp only [dE] at q0 q1 q2 q3 q4 q5;simp [results,results20,go_sem,q0,q1,q2,q3,q4,q5]
   ·have hr3:=cM hg3 (by omega) HR2.o
    have hgr3:=aH HG2.o hg3;refine Ar (v:=.agg #[Iz 2,.bool false,Iz z,.string ⟨#[]⟩,Sn,Sn]) ?_ ?_ ?_;rotate_left
    ·rfl
    ·exact mJ hn hgw hgr3 hd3 2 false z ⟨#[]⟩ (by decide) (jO hn _ _ _ _ (HFL.o _) (IW (by omega) (by omega)) (by decide))
    ·obtain ⟨q0,q1,q2,q3,q4,q5⟩:=aA (dB hr3 (Iz 2) (.bool false) (Iz z) (.string ⟨#[]⟩) (Sn) (Sn))
     simp only [dE] at q0 q1 q2 q3 q4 q5;simp [results,results20,go_sem,q0,q1,q2,q3,q4,q5]
  ·go_upto_region 3 with fail
   have HR:=Hh hr1;have HG:=Hh hgr1;clear hr1 hgr1
   go_wp2_with (go_at_call 40;(with_reducible refine (KT.o _ hd1).mono ?_);rintro e w2 ⟨⟨s,hs,hs3,rfl⟩,hg2,hd2⟩;(have hr2:=cM hg2 (by omega) HR.o);(have f2:=aD hr2);(have c2:=aA hr2);(have HS3:=Hh hs3);(have HSO:=Hh hs);clear hr2 hs3 hs)
   have hr2:=cM hg2 (by omega) HR.o
   have hgr2:=aH HG.o hg2;have hfl:eQ (.mk 3 false 0 s [] [])=true:=by
    unfold eQ;simp [ND.kind,ND.bool,ND.num,ND.text,ND.items,ND.names,HSO.o]
   refine Ar (v:=.agg #[Iz 3,.bool false,Iz 0,.string s,Sn,Sn]) ?_ ?_ ?_;rotate_left
   ·rfl
   ·exact mJ hn hgw hgr2 hd2 3 false 0 s (by have:=HS3.o;unfold maxLen;omega) (jO hn _ _ _ _ hfl (by decide) HS3.o)
   ·obtain ⟨q0,q1,q2,q3,q4,q5⟩:=aA (dB hr2 (Iz 3) (.bool false) (Iz 0) (.string s) (Sn) (Sn))
    simp only [dE] at q0 q1 q2 q3 q4 q5;simp [results,results20,go_sem,q0,q1,q2,q3,q4,q5]
end Go.Proofs.YtncdpanfefnjlaaGreatDoor