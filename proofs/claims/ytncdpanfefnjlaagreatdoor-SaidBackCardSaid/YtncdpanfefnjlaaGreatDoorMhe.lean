import Derived.Test.YtncdpanfefnjlaaGreatDoorMcu
set_option linter.unusedVariables false
set_option linter.unusedSimpArgs false
set_option maxHeartbeats 6400000
set_option maxRecDepth 100000
namespace Go.Proofs.YtncdpanfefnjlaaGreatDoor
open Go.Proofs.Tryz
open Go Go.ChangeShapes Go.WideShapes Go.ChangeAt Go.RowKit
def aHo (r:ScR):Prop:=(∀k,k ∈ r.widths→k=1∨k=2∨k=4∨k=8)∧r.widths.length≤4∧0≤r.first∧r.first≤255∧0≤r.wide∧r.wide≤251∧-32≤r.least∧r.least≤0∧0≤r.count∧r.count≤128
theorem ZZ:∀i,i<7→aHo (scR i):=by
 refine aFj ?_ ?_ ?_ ?_ ?_ ?_ ?_
 all_goals exact ⟨by simp,by decide,by decide,by decide,by decide,by decide,by decide,by decide,by decide,by decide⟩
theorem OI {b z:Int} {l:List Int} {j:Nat} (hj:j<l.length):gF b z (l.drop j) j=if dS z (l.getD j 0) then UInt8.ofNat (b.toNat+j)::dF (eU z) (l.getD j 0).toNat else gF b z (l.drop (j+1)) (j+1):=by
 rw [List.drop_eq_getElem_cons hj];simp [gF,List.getD,Ac hj]
theorem PI {D d:Nat} {S:Nat→Prop} (cs:Vl) (x:ND) (w:World) (h:aC D S w cs x) (hv:aB (d+1) x=true) (hn:aO (d+1) x=true):Calls prog 208 #[.agg cs.toArray] w fun e w'=>e=.returned (Iz (gR x))∧Below w.heap.size w w':=by
 cases D with
 | zero=>exact h.elim
 | succ D=>
 obtain ⟨vn,vi,e,ht,⟨an,cn,en,hn1,hn2,-⟩,⟨ai,ci,ei,hi1,hi2,-⟩⟩:=h;subst en ei e;have hk:=jA hv;obtain ⟨k,b,n,t,ns,its⟩:=x;simp only [ND.kind,ND.bool,ND.num,ND.text,ND.names,ND.items,nd0,ND.mk.injEq,Dp,Di] at hk ht hn1 hn2 hi1 hi2 ⊢;obtain ⟨P,hP⟩:∃P,P=gR (.mk k b n t ns its):=⟨_,rfl⟩;rw [←hP]
 go_enter func208,ntmps208
 go_upto_region 1 with fail
 generalize ae:w.alloc _=w1;obtain ⟨b1,k1⟩:=Al ae;clear ae;have c1:=aA k1;have B1:=Hh b1;clear hv hn b1 k1;rcases hk with ⟨rfl,rfl,rfl,rfl,rfl,rfl⟩ | ⟨rfl,rfl,rfl,rfl,rfl⟩ | ⟨rfl,rfl,rfl,rfl,rfl⟩ | ⟨rfl,rfl,rfl,rfl,rfl⟩ | ⟨rfl,rfl,rfl,rfl,rfl⟩ | ⟨⟨rfl,rfl,rfl,rfl⟩,hlen2⟩
 ·go_wp2
  go_ret
  exact ⟨by rw [hP];rfl,B1.o⟩
 ·cases b
  ·go_wp2
   go_ret
   exact ⟨by rw [hP];rfl,B1.o⟩
  ·go_wp2
   go_ret
   exact ⟨by rw [hP];rfl,B1.o⟩
 ·go_wp2
  go_ret
  exact ⟨by rw [hP];rfl,B1.o⟩
 ·go_wp2
  go_ret
  exact ⟨by rw [hP];rfl,B1.o⟩
 ·go_wp2
  go_ret
  exact ⟨by rw [hP];rfl,B1.o⟩
 ·go_wp2
  go_ret
  exact ⟨by rw [hP];rfl,B1.o⟩
theorem UR {B:Nat} (r:ScR) (hr:aHo r) (z:Int) (h1:-9223372036854775808≤z) (h2:z≤9223372036854775807) (v:Value) (w:World) (hB:B≤w.heap.size) (hI:mE B w v r.widths):Calls prog 209 #[.agg #[Iz r.kind,Iz r.least,Iz r.count,.int .u8 r.first,.int .u8 r.wide,v],Iz z] w fun e w'=>e=.returned (.string (bC (oB r z)))∧Below w.heap.size w w':=by
 obtain ⟨k,l,c,f,wd,ws⟩:=r;obtain ⟨hw,hwl,f0,f1,u0,u1,l0,l1,c0,c1⟩:=hr;dsimp only at hw hwl f0 f1 u0 u1 l0 l1 c0 c1 hI ⊢;obtain ⟨ao,cap,rfl,hcap,hI⟩:=hI;obtain ⟨T,hT⟩:∃T,T=oB ⟨k,l,c,f,wd,ws⟩ z:=⟨_,rfl⟩;rw [←hT];have hlc:IntKind.i64.wrap (l+c)=l+c:=Cd _ (by omega)
 go_enter func209,ntmps209
 go_upto_region 1 with fail
 generalize ae:w.alloc _=w1;obtain ⟨b1,k1⟩:=Al ae;clear ae;have q1:=aA k1;have B1:=Hh b1;have K1:=Hh k1;clear b1 k1;have CV:Hid (∀ (W:World) (b:Nat) {c:UInt8},W.heap[b]?=some (.cells #[.int .u8 (c.toNat:Int)] 5 (0,0))→(convert 69 9 (.slice (some ⟨b,0,none⟩) 1 1)).run prog W=.ok (.string (bC [c])) W):=Hh fun W b c h=>
  run_convert_bytes_back W _ _ 5 ⟨b,0,none⟩ 1 [c] underlying69 underlying5 underlying9 fun j hj=>(by
   obtain rfl:j=0:=by simpa using hj
   exact cR [Value.int .u8 (c.toNat:Int)] h rfl 0 _ rfl)
 by_cases hin:l≤z∧z<l+c
 ·obtain ⟨hin1,hin2⟩:=hin
  obtain ⟨b,hbb⟩:∃b,b=UInt8.ofNat (f+(z - l)).toNat:=⟨_,rfl⟩;have hT':T=[b]:=by rw [hT,hbb];unfold oB;rw [Am ⟨hin1,hin2⟩]
  have hsub:IntKind.i64.wrap (z - l)=z - l:=Cd _ (by omega)
  have hbyte:(f+(z - l)) % 256=(b.toNat:Int):=by rw [hbb,Be];omega
  have HT:=Hh hT';have ka:=Hn w1 (.cells #[.int .u8 (b.toNat:Int)] 5);have hcv:=CV.o _ _ ka;clear hT hT' hbb ka
  go_wp2
  go_ret
  exact ⟨by rw [HT.o];rfl,B1.o.alloc B1.o.size _⟩
 ·have hT':T=gF wd z ws 0:=by rw [hT];unfold oB;rw [Af hin]
  have HT:=Hh hT';clear hT hT';have hwl4:(ws.length:Int)≤4:=by omega
  have HI:=Hh hI;have HW:=Hh hw;have HBN:=Hh (fun (kw:Nat) (hkw:kw≤8) wx=>WE z kw wx hkw)
  clear hI hw;have hcs:(l≤z∧¬z<l+c)∨¬l≤z:=by omega
  clear hin;rcases hcs with ⟨hlz,hzc⟩ | hlz
  all_goals
   go_upto_region 4 with fail
   go_loopw [33] (fun i wr=>∃j:Nat,j≤ws.length∧i=Iz (j:Int)∧gF wd z (ws.drop j) j=gF wd z ws 0∧wr=w1) (fun i _=>ws.length - (intOf i).toNat)
   case atStart=>exact ⟨0,Ax _,rfl,rfl,rfl⟩
   case round=>
    obtain ⟨j,hj,rfl,hsw,hww⟩:=hrel
    replace hww:=hww.symm
    subst hww
    by_cases hlt:j<ws.length
    ·have hlt':(j:Int)<(ws.length:Int):=by omega
     have hj0:(0:Int)≤(j:Int):=by omega
     obtain ⟨b,off,rfl,hb,hc⟩:=HI.o j hlt;obtain ⟨kn,hkn⟩:∃kn:Nat,ws.getD j 0=(kn:Int)∧(kn=1∨kn=2∨kn=4∨kn=8):=by
      have hm:ws.getD j 0 ∈ ws:=by simp [List.getD,Ac hlt]
      have:=HW.o _ hm;exact ⟨(ws.getD j 0).toNat,by omega,by omega⟩
     obtain ⟨hke,hk4⟩:=hkn;rw [OI hlt,hke] at hsw;rw [hke] at hc;have hc1:w1.cell? ⟨b,off+j,none⟩=some (Iz (kn:Int)):=(B1.o.cell (p:=⟨b,off+j,none⟩) (by show b<_;omega)).trans hc
     have FT:=Hh (fun wx=>UT z (kn:Int) wx (by omega) h1 h2)
     have HSW:=Hh hsw;have HK4:=Hh hk4;clear hsw hc hke hk4;cases hf:dS z (kn:Int) with
     | true=>
      rw [hf] at FT HSW;obtain ⟨b,hbb⟩:∃b,b=UInt8.ofNat (wd.toNat+j):=⟨_,rfl⟩;rw [←hbb] at HSW;have hbyte:wd+(j:Int)=(b.toNat:Int):=by rw [hbb,Be];omega
      have hbyt2:IntKind.u8.wrap (wd+IntKind.u8.wrap (j:Int))=(b.toNat:Int):=by rw [Dd,Dd];omega
      have BN:=Hh (fun wx=>HBN.o kn (by have:=HK4.o;omega) wx)
      obtain ⟨bs,hbs⟩:∃t,t=dF (eU z) kn:=⟨_,rfl⟩;have hbl:bs.length≤8:=by rw [hbs,aY];have:=HK4.o;omega
      rw [←hbs] at BN;have HBS:=Hh hbs;have hcat:¬9223372036854775807<(bC [b]).size+(bC bs).size:=by rw [eH,eH];simp;omega
      have HBY:=Hh (Ai hbyte hbyt2);clear hf hbb hbs hbyte hbyt2
      go_upto_region 7 with ((with_reducible refine (FT.o _).mono ?_);rintro e w2 ⟨rfl,hww⟩;subst hww)
      have hbw:Below w1.heap.size w1 w1.drew:=(Br _ _).drew;have cd:w1.drew.cell? ⟨w.heap.size,4,none⟩=some (.int .u8 wd):=q1.2.2.2.2.1;have hzw:w.heap.size<w1.drew.heap.size:=cD cd;refine aJ (fun w'=>w'.cell? ⟨w.heap.size,4,none⟩=some (.int .u8 wd)) [1] (.take 0 (.take 1 (.take 2 (.take 3 (.take 7 (.take 8 (eN.join true (.ask 4 false (.ask 5 false (.ask 6 false (.ask 9 false .stop .stop) (.ask 9 false (.ask 6 false .stop .stop) .stop)) (.ask 9 false (.ask 5 false (.ask 6 false .stop .stop) .stop) .stop)) (.ask 9 true (.ask 4 false (.ask 5 false (.ask 6 false .stop .stop) .stop) .stop) .stop)) (.ask 10 false (.ask 11 false .stop .stop) .stop)))))))) (by kernel_rfl) (by kernel_rfl) (fun _ d _ _ _ h=>by cases d <;> exact h) q1.2.2.2.2.1 ?_
      generalize w1.drew=wd' at hbw cd hzw ⊢;refine aG _ ?_ rfl rfl ?_ (fun K hK=>?_);rotate_left;(intro w0;go_simp;(try rfl));(go_simp;refine hK _ ?_;clear hK K)
      refine aN _ ?_ rfl rfl (by decide) ?_ (fun K hK=>?_);rotate_left;(intro w0 hw0;go_simp;(try rfl));(go_simp;refine hK _ ?_;clear hK K)
      iterate 2 (refine aG _ ?_ rfl rfl ?_ (fun K hK=>?_);rotate_left;(intro w0;go_simp;(try rfl));(go_simp;refine hK _ ?_;clear hK K))
      have hby1:=HBY.o.1;have hby2:=HBY.o.2
      iterate 2 (refine aG _ ?_ rfl rfl ?_ (fun K hK=>?_);rotate_left;(intro w0;go_simp;(try rfl));(go_simp;refine hK _ ?_;clear hK K))
      refine fC [45,46,47,50] (fun vs wx=>∃v45 v46,vs=[v45,v46,.string (bC [b]),.string (bC bs)]∧Below w1.heap.size w1 wx) ?_ ?_
      ·refine aF _ rfl ?_ ?_
       rotate_left
       ·go_wp2_with fail
        refine Seg.mk ?_;refine aF _ rfl ?_ ?_;rotate_left
        ·go_wp2_with fail
         have ka:=Hn wd' (.cells #[.int .u8 (b.toNat:Int)] 5);have ba:=hbw.alloc (o:=.cells #[.int .u8 (b.toNat:Int)] 5) hbw.size;have hla:wd'.heap.size<(wd'.alloc (.cells #[.int .u8 (b.toNat:Int)] 5)).heap.size:=by simp
         generalize wd'.alloc (.cells #[.int .u8 (b.toNat:Int)] 5)=wa at ka ba hla ⊢;refine Seg.mk ?_;have hcv:=CV.o wa _ ka;refine aF _ rfl ?_ ?_;rotate_left
         ·go_wp2_with fail;refine Seg.mk ?_
          refine aF _ rfl trivial ?_;go_wp2_with (go_at_call 215;(with_reducible refine (BN.o _).mono ?_);rintro e w2 ⟨rfl,hb2⟩);refine Seg.mk ?_;exact aQ [.int .u8 (b.toNat:Int),.slice (some ⟨wd'.heap.size,0,none⟩) 1 1,.string (bC [b]),.string (bC bs)] (by first | exact ⟨_,_,rfl,ba.trans (hb2.mono ba.size)⟩ | exact ⟨⟨_,_,rfl⟩,ba.trans (hb2.mono ba.size)⟩) rfl
         ·refine aF _ rfl trivial ?_;go_wp2_with (go_at_call 215;(with_reducible refine (BN.o _).mono ?_);rintro e w2 ⟨rfl,hb2⟩);refine Seg.mk ?_
          have hcv2:=CV.o w2 _ ((hb2.block _ hla).trans ka);refine aF _ rfl trivial ?_;go_wp2_with fail;refine Seg.mk ?_;exact aQ [.int .u8 (b.toNat:Int),.slice (some ⟨wd'.heap.size,0,none⟩) 1 1,.string (bC [b]),.string (bC bs)] (by first | exact ⟨_,_,rfl,ba.trans (hb2.mono ba.size)⟩ | exact ⟨⟨_,_,rfl⟩,ba.trans (hb2.mono ba.size)⟩) rfl
        ·refine aF _ rfl trivial ?_;go_wp2_with (go_at_call 215;(with_reducible refine (BN.o _).mono ?_);rintro e w2 ⟨rfl,hb2⟩);refine Seg.mk ?_
         have b2:=hbw.trans (hb2.mono hbw.size);refine aF _ rfl trivial ?_;go_wp2_with fail;refine Seg.mk ?_;have ka:=Hn w2 (.cells #[.int .u8 (b.toNat:Int)] 5);have ba:=b2.alloc (o:=.cells #[.int .u8 (b.toNat:Int)] 5) b2.size;generalize w2.alloc (.cells #[.int .u8 (b.toNat:Int)] 5)=wa at ka ba ⊢;have hcv:=CV.o wa _ ka;refine aF _ rfl trivial ?_;go_wp2_with fail;refine Seg.mk ?_;exact aQ [.int .u8 (b.toNat:Int),.slice (some ⟨w2.heap.size,0,none⟩) 1 1,.string (bC [b]),.string (bC bs)] (by first | exact ⟨_,_,rfl,ba⟩ | exact ⟨⟨_,_,rfl⟩,ba⟩) rfl
       ·refine aI _ rfl trivial ?_;go_wp2_with (go_at_call 215;(with_reducible refine (BN.o _).mono ?_);rintro e w2 ⟨rfl,hb2⟩);refine Seg.mk ⟨(hb2.cell (p:=⟨w.heap.size,4,none⟩) hzw).trans cd,?_⟩
        have b2:=hbw.trans (hb2.mono hbw.size);refine aF _ rfl trivial ?_;go_wp2_with fail;refine Seg.mk ?_;refine aF _ rfl trivial ?_;go_wp2_with fail;refine Seg.mk ?_;have ka:=Hn w2 (.cells #[.int .u8 (b.toNat:Int)] 5);have ba:=b2.alloc (o:=.cells #[.int .u8 (b.toNat:Int)] 5) b2.size;generalize w2.alloc (.cells #[.int .u8 (b.toNat:Int)] 5)=wa at ka ba ⊢;have hcv:=CV.o wa _ ka;refine aF _ rfl trivial ?_;go_wp2_with fail;refine Seg.mk ?_;exact aQ [.int .u8 (b.toNat:Int),.slice (some ⟨w2.heap.size,0,none⟩) 1 1,.string (bC [b]),.string (bC bs)] (by first | exact ⟨_,_,rfl,ba⟩ | exact ⟨⟨_,_,rfl⟩,ba⟩) rfl
      ·rintro vs w' ⟨v45,v46,rfl,hbl⟩
       simp only [gX,Act.put,As,Ay,Az];have HBL:=Hh hbl;clear hbl;refine aF _ rfl trivial ?_;go_wp2_with fail;refine Seg.mk ?_;refine cG _ rfl trivial ?_
       go_wp2
       go_ret
       exact ⟨by rw [HT.o,←HSW.o,Am (by first | rfl | trivial),HBS.o,Int.toNat_natCast];exact Ad (fun q=>Ending.returned (Value.string q)) (aDr [b] (dF (eU z) kn)),B1.o.trans (HBL.o.mono B1.o.size)⟩
     | false=>
      rw [hf] at FT HSW;clear hf
      go_wp2_with (go_at_call 214;(with_reducible refine (FT.o _).mono ?_);rintro e w2 ⟨rfl,hww⟩;subst hww)
      go_roundw
      case rel=>exact ⟨j+1,by omega,by go_num,HSW.o,by first | rfl | trivial⟩
      case measure=>simp [intOf] <;> omega
    ·have hje:ws.drop j=[]:=List.drop_eq_nil_of_le (by omega)
     have hge:¬ (j:Int)<(ws.length:Int):=by omega
     rw [hje] at hsw;have HSW:=Hh hsw;clear hsw hje
     go_wp2
     go_ret
     exact ⟨by rw [HT.o,←HSW.o];rfl,B1.o⟩
theorem TA (v:Nat→Value):(Tryz.prog.info? 250).map (·.size)=some (pW v).length:=by
 rw [show (pW v).length=42 from rfl];kernel_rfl
theorem aIr (w:World):(isAgg 249).run prog w=.ok true w:=by kernel_rfl
theorem aFh (w:World):(sizeOf 249).run prog w=.ok 6 w:=by kernel_rfl
theorem CO (v:Nat→Value) (j:Nat) (hj:j<7) (w:World):(Instr.index 250 (.agg (pW v).toArray) (Iz (j:Int))).run prog w=.ok (.agg (scC j (v j)).toArray) w:=by
 rw [KM (P:=prog) 250 249 7 6 (pW v).toArray j underlying250 hj aIr aFh w,OG v j hj]
theorem KO {D d B:Nat} {S:Nat→Prop} (cs:Vl) (x:ND) (w:World) (h:aC D S w cs x) (hS:∀b,S b→b<w.heap.size) (hv:aB (d+1) x=true) (hn:aO (d+1) x=true) (hT:wR B w):Calls prog 198 #[.agg cs.toArray] w fun e w'=>e=.returned (.string (bC (cZ (pHd x) (kO x))))∧Below w.heap.size w w':=by
 obtain ⟨a1,l1,c1,a2,l2,c2,rfl⟩:=h.slices;obtain ⟨i7,ik,is,it,ib,ip1,ip2⟩:=ZX hv hn;obtain ⟨v,hsv⟩:=hT;have b1:=(Br w.heap.size w).alloc (o:=.cells (Na x a1 l1 c1 a2 l2 c2) 28) (Lr _);have k1:=Hn w (.cells (Na x a1 l1 c1 a2 l2 c2) 28);have hi:=TA v;have HX:=Hh (CO v);obtain ⟨A,hA⟩:∃A,A=pW v:=⟨_,rfl⟩;rw [←hA] at HX hi;have HA:=Hh hA;obtain ⟨P,hP⟩:∃P,P=gR x:=⟨_,rfl⟩;rw [←hP] at is it ib ip1 ip2;have NO:=Hh (fun (wx:World) (hb:Below w.heap.size w wx)=>PI (Nc x a1 l1 c1 a2 l2 c2) x wx (h.same fun b hb'=>hb.block b (hS b hb')) hv hn)
 rw [←hP] at NO;obtain ⟨T,hTT⟩:∃T,T=cZ (pHd x) (kO x):=⟨_,rfl⟩;rw [←hTT] at it;have HTT:=Hh hTT;have IT:=Hh (Ai it ib);have SV:=Hh hsv;clear hA hP h hv hn hS hsv hTT it ib
 go_enter func198,ntmps198
 go_upto_region 1 with fail
 generalize w.alloc _=w1 at b1 k1 ⊢;have q1:=aA k1
 go_upto_region 2 with ((with_reducible refine (NO.o _ b1).mono ?_);rintro e w2 ⟨rfl,hb2⟩)
 have b2:=b1.trans (hb2.mono b1.size);have k2:=(hb2.block _ (Aa k1)).trans k1;have HC:Hid (∀j u,A[j]?=some u→w2.cell? ⟨9,j,none⟩=some u):=Hh fun j u hu=>by
  rw [HA.o] at hu;exact (SV.o.below (b2.mono SV.o.2.1)).2.2.1 j u hu
 have B2:=Hh b2;have K2:=Hh k2;obtain ⟨I,hI⟩:∃I,I=sIx x:=⟨_,rfl⟩;rw [←hI] at i7 ik is IT;have HI:=Hh hI;have IK:=Hh (Ai ik is);clear q1 k1 b1 hb2 b2 k2 hI ik is
 go_upto_region 3 with (refine aAt rfl 250 (.global 9) rfl 9 rfl A HC.o _ underlying250 rfl hi ?_)
 go_loopw [9] (fun i wr=>∃j:Nat,j≤I∧i=Iz (j:Int)∧Below w2.heap.size w2 wr) (fun i _=>7 - (intOf i).toNat)
 case atStart=>exact ⟨0,Ax _,rfl,Br _ _⟩
 case round=>
  obtain ⟨j,hj,rfl,hbr⟩:=hrel;have hj7:(j:Int)<7:=by omega
  have hix:=HX.o j (by omega)
  obtain ⟨ao,cap,hvj,-,-⟩:=SV.o.2.2.2 j (by omega)
  have hrow:=ZZ j (by omega)
  have hit:aEa B wr v:=SV.o.below ((B2.o.trans (hbr.mono B2.o.size)).mono SV.o.2.1);have hIA:=hit.2.2.2 j (by omega)
  have hBw:B≤wr.heap.size:=hit.2.1;unfold scC at hix;have hib:j<I→¬ ((scR j).kind=x.kind∧((scR j).least<0↔P<0)):=IT.o.2 j;have hie:j=I→(scR j).kind=x.kind∧((scR j).least<0↔P<0)∧oB (scR j) P=T:=fun h=>by rw [h];exact ⟨IK.o.1,IK.o.2,IT.o.1⟩
  obtain ⟨r,hr⟩:∃r,r=scR j:=⟨_,rfl⟩;rw [←hr] at hix hrow hib hie hIA hvj;rw [hvj] at hix hIA;clear hr hvj hit;have bA:=hbr.alloc (o:=.cells #[Iz r.kind,Iz r.least,Iz r.count,.int .u8 r.first,.int .u8 r.wide,.slice ao r.widths.length cap] 249) hbr.size;have kA:=Hn wr (.cells #[Iz r.kind,Iz r.least,Iz r.count,.int .u8 r.first,.int .u8 r.wide,.slice ao r.widths.length cap] 249);have bW:=(Br wr.heap.size wr).alloc (o:=.cells #[Iz r.kind,Iz r.least,Iz r.count,.int .u8 r.first,.int .u8 r.wide,.slice ao r.widths.length cap] 249) (Lr _);have NG:=Hh (fun wx=>JK r.kind r.least r.count r.first r.wide ao r.widths.length cap wx)
  have hIA':=Hh hIA;have HR:=Hh hrow;have HB:=Hh (Ai hBw (Ai hib hie));have HBR:=Hh hbr;clear hIA hrow hBw hib hie hbr
  go_upto_region 5 with fail
  generalize wr.alloc _=wa at bA kA bW ⊢;have qa:=aA kA;have qx:=aA ((bA.block _ (Aa K2.o)).trans K2.o);have BA:=Hh bA;have BW:=Hh bW;have KA:=Hh kA;clear kA bA bW;have ST:=Hh (fun (wx:World) (hb:Below wr.heap.size wr wx)=>UR (B:=B) r HR.o P ip1 ip2 (.slice ao r.widths.length cap) wx (Ae HB.o.1 hb.size) (hIA'.out.below (hb.mono HB.o.1)))
  by_cases hkx:r.kind=x.kind
  ·have hk1:(r.kind == x.kind)=true:=by simp [hkx]
   by_cases hsg:r.least<0↔P<0
   ·have hji:j=I:=by
     rcases Cc j I with h | h
     ·exact absurd ⟨hkx,hsg⟩ (HB.o.2.1 h)
     ·omega
    have hTx:=(HB.o.2.2 hji).2.2;have hbq:(decide (r.least<0) == decide (P<0))=true:=by simp [hsg]
    rw [hTx] at ST;clear hji hTx hsg hkx
    go_upto_region 6 with ((with_reducible refine (NG.o _).mono ?_);rintro e w3 ⟨rfl,hb3⟩)
    have qb:=aA ((hb3.block _ (Aa KA.o)).trans KA.o);have HB3:=Hh hb3;clear hb3
    go_wp2_with (go_at_call 209;(with_reducible refine (ST.o _ (BW.o.trans (HB3.o.mono BW.o.size))).mono ?_);rintro e w4 ⟨rfl,hb4⟩)
    go_ret
    have h9:=BA.o.trans (HB3.o.mono BA.o.size);have h8:=h9.trans (hb4.mono h9.size);exact ⟨by rw [HTT.o];rfl,B2.o.trans (h8.mono B2.o.size)⟩
   ·have hbq:(decide (r.least<0) == decide (P<0))=false:=by
     rw [Bool.eq_false_iff];intro h;rw [beq_iff_eq,decide_eq_decide] at h;exact hsg h
    have hji:j<I:=by
     rcases Cc j I with h | h
     ·exact h
     ·exact absurd (HB.o.2.2 (by omega)).2.1 hsg
    clear hsg hkx
    go_wp2_with (go_at_call 200;(with_reducible refine (NG.o _).mono ?_);rintro e w3 ⟨rfl,hb3⟩)
    go_roundw
    case rel=>exact ⟨j+1,by omega,by go_num,BA.o.trans (hb3.mono BA.o.size)⟩
    case measure=>simp [intOf] <;> omega
  ·have hk1:(r.kind == x.kind)=false:=by simp [hkx]
   have hji:j<I:=by
    rcases Cc j I with h | h
    ·exact h
    ·exact absurd (HB.o.2.2 (by omega)).1 hkx
   clear hkx
   go_wp2
   go_roundw
   case rel=>exact ⟨j+1,by omega,by go_num,BA.o⟩
   case measure=>simp [intOf] <;> omega
def m1B (r:ScR) (c:Nat):Bool:=decide (((c:Int) - r.first) % 256<r.count)
def m2B (r:ScR) (c:Nat):Bool:=decide (((c:Int) - r.wide) % 256<(r.widths.length:Int))
theorem aHm (j:Nat) (hj:j<7) (c:Nat) (hc:c<256) (h:m1B (scR j) c=true):mA c=(scR j).kind∧eK c=0∧eP c 0=(scR j).least+((c:Int) - (scR j).first) % 256∧(3≤(scR j).kind→0≤(scR j).least):=by
 have:∀j:Fin 7,∀c:Fin 256,m1B (scR j.1) c.1=true→mA c.1=(scR j.1).kind∧eK c.1=0∧eP c.1 0=(scR j.1).least+((c.1:Int) - (scR j.1).first) % 256∧(3≤(scR j.1).kind→0≤(scR j.1).least):=by decide +kernel
 exact this ⟨j,hj⟩ ⟨c,hc⟩ h
theorem aHl (j:Nat) (hj:j<7) (c:Nat) (hc:c<256) (h:m2B (scR j) c=true):mA c=(scR j).kind∧(scR j).widths.getD (((c:Int) - (scR j).wide) % 256).toNat 0=(eK c:Int)∧1≤eK c∧eK c≤8∧204≤c∧c<224∧((scR j).least<0↔(208≤c∧c≤211))∧(3≤(scR j).kind→eK c≤4∧¬ (scR j).least<0):=by
 have:∀j:Fin 7,∀c:Fin 256,m2B (scR j.1) c.1=true→mA c.1=(scR j.1).kind∧(scR j.1).widths.getD (((c.1:Int) - (scR j.1).wide) % 256).toNat 0=(eK c.1:Int)∧1≤eK c.1∧eK c.1≤8∧204≤c.1∧c.1<224∧((scR j.1).least<0↔(208≤c.1∧c.1≤211))∧(3≤(scR j.1).kind→eK c.1≤4∧¬ (scR j.1).least<0):=by decide +kernel
 exact this ⟨j,hj⟩ ⟨c,hc⟩ h
theorem aGe (c:Nat) (hc:c<256) (h:∀j,j<7→m1B (scR j) c=false∧m2B (scR j) c=false):¬ (c<128∨224≤c∨c=192∨c=194∨c=195∨(204≤c∧c≤211)∨aEi c):=by
 have:∀c:Fin 256,(∀j:Fin 7,m1B (scR j.1) c.1=false∧m2B (scR j.1) c.1=false)→¬ (c.1<128∨224≤c.1∨c.1=192∨c.1=194∨c.1=195∨(204≤c.1∧c.1≤211)∨((128≤c.1∧c.1<192)∨c.1=217∨c.1=218∨c.1=219∨c.1=220∨c.1=222)):=by decide +kernel
 exact this ⟨c,hc⟩ fun j=>h j.1 j.2
theorem VN (c v:Nat) (h1:204≤c) (h2:c<224):eP c v=(v:Int) - sgE (decide (208≤c∧c≤211)) (eK c):=by
 obtain rfl | rfl | rfl | rfl | rfl | rfl | rfl | rfl | h:c=204∨c=205∨c=206∨c=207∨c=208∨c=209∨c=210∨c=211∨212≤c:=by omega
 iterate 4 (show (v:Int)=(v:Int) - 0;omega)
 ·rfl
 ·rfl
 ·rfl
 ·rfl
 ·rw [Ap (by omega)]
  show _=(v:Int) - 0
  unfold eP;simp only [show ¬c<128 by omega,show ¬c<144 by omega,show ¬c<160 by omega,show ¬c<192 by omega,show ¬c=195 by omega,show ¬c<208 by omega,show ¬c=208 by omega,show ¬c=209 by omega,show ¬c=210 by omega,show ¬c=211 by omega,h2,↓reduceIte]
  omega
theorem PK {c:UInt8} {r1:Ub} {d:Nat} {y:ND} {t:Ub} (hv:aB (d+1) y=true) (hn:aO (d+1) y=true) (he:c::r1=cZ (pHd y) (kO y)++t):mA c.toNat=y.kind∧r1=dF (kO y) (eK c.toNat)++t∧eP c.toNat (kO y % 256 ^ eK c.toNat)=gR y:=by
 obtain ⟨a1,a2,a3,a4⟩:=wV hv hn;unfold cZ at he;rw [Bm] at he;obtain ⟨h1,h2⟩:=List.cons.inj he;have h3:c.toNat=(pHd y).1:=by rw [h1,Be];omega
 rw [h3,a3];exact ⟨a2,h2,a4⟩
theorem aFq (k z:Int) (r:Ub):MHd [] false k z r:=fun d y t hv hn he=>by unfold cZ at he;cases he
theorem aId {c:UInt8} {r1:Ub} {j:Nat} (hj:j<7) (h:m1B (scR j) c.toNat=true):MHd (c::r1) true (scR j).kind ((scR j).least+((c.toNat:Int) - (scR j).first) % 256) r1:=fun d y t hv hn he=>by
 obtain ⟨h1,h2,h3,-⟩:=aHm j hj c.toNat c.toNat_lt h;obtain ⟨g1,g2,g3⟩:=PK hv hn he;rw [h2] at g2 g3;rw [Nat.pow_zero,Nat.mod_one] at g3;exact ⟨rfl,by rw [←h1,g1],by rw [←h3,g3],g2⟩
theorem aIc {c:UInt8} {r1:Ub} {j:Nat} (hj:j<7) (h:m2B (scR j) c.toNat=true):MHd (c::r1) true (scR j).kind (qQ (decide ((scR j).least<0)) (r1.take (eK c.toNat))) (r1.drop (eK c.toNat))∧(¬eK c.toNat≤r1.length→∀k z r',MHd (c::r1) false k z r'):=by
 obtain ⟨h1,-,-,-,h4,h5,h6,-⟩:=aHl j hj c.toNat c.toNat_lt h;refine ⟨fun d y t hv hn he=>?_,fun hs k z r' d y t hv hn he=>?_⟩
 ·obtain ⟨g1,g2,g3⟩:=PK hv hn he
  have hb:(dF (kO y) (eK c.toNat)).length=eK c.toNat:=aY _ _;obtain ⟨-,-,-,-,-,i1,i2⟩:=ZX hv hn;have e1:r1.take (eK c.toNat)=dF (kO y) (eK c.toNat):=by rw [g2,List.take_left' hb]
  refine ⟨rfl,by rw [←h1,g1],?_,by rw [g2,List.drop_left' hb]⟩
  rw [VN _ _ h4 h5] at g3;unfold qQ;rw [e1,hb,iS,decide_eq_decide.2 h6,g3];unfold wrap64;omega
 ·obtain ⟨g1,g2,g3⟩:=PK hv hn he
  have hb:(dF (kO y) (eK c.toNat)).length=eK c.toNat:=aY _ _;rw [g2,Lg,hb] at hs;omega
theorem aAw {c:UInt8} {r1:Ub} (h:∀j,j<7→m1B (scR j) c.toNat=false∧m2B (scR j) c.toNat=false) (k z:Int) (r:Ub):MHd (c::r1) false k z r:=fun d y t hv hn he=>by
 have h1:=aGe c.toNat c.toNat_lt h;have h2:(bL (d+1) y)[0]?=some c:=by
  unfold cZ at he;rw [Bm] at he;rw [gI,(List.cons.inj he).1]
  rfl
 exact absurd ⟨hv,hn,by rw [List.drop_zero,Bu]⟩ (aIe (d:=d) h2 h1 y [])
def GW (B g:Nat) (r:Ub) (w:World) (e:Ending) (w':World):Prop:=∃ (k z:Int) (ok:Bool) (r':Ub),e=.returned (.tuple #[Iz k,Iz z,.bool ok])∧PrM B w' g r'∧w.grownBy w' (some g)∧dD z=true∧(ok=true→0≤k∧k≤5∧(3≤k→0≤z∧z<4294967296))∧r'.length≤r.length∧(ok=true→r'.length<r.length)∧MHd r ok k z r'
theorem aGb:∀j,j<7→0≤(scR j).kind∧(scR j).kind≤5:=by
 have:∀j:Fin 7,0≤(scR j.1).kind∧(scR j.1).kind≤5:=by decide
 exact fun j hj=>this ⟨j,hj⟩
theorem WG {B g:Nat} (w:World) (h:PrM B w g []):Calls prog 176 #[.pointer (some ⟨g,0,none⟩)] w (GW B g [] w):=by
 have TK:=Hh (zE 1 w h (by simp) (by simp))
 rw [show ((1:Nat):Int)=1 from rfl] at TK
 clear h
 go_enter func176,ntmps176
 go_wp2_with (go_at_call 177;(with_reducible refine (TK.o).mono ?_);rintro e w1 ⟨rfl,hp1,hg1⟩)
 refine Ar (v:=.tuple #[Iz 0,Iz 0,.bool false]) (by simp [results,results176,go_sem]) rfl ?_
 exact ⟨0,0,false,[],rfl,hp1,hg1,by decide,(fun h=>by cases h),Lr _,(fun h=>by cases h),aFq _ _ _⟩
theorem PJ {B g:Nat} (c:UInt8) (r1:Ub) (w:World) (h:PrM B w g (c::r1)) (hr:r1.length≤900000):Calls prog 176 #[.pointer (some ⟨g,0,none⟩)] w (GW B g (c::r1) w):=by
 have hgw:=h.lt;have TK:=Hh (tX 1 w h (by simp;omega) (by simp))
 rw [show ((1:Nat):Int)=1 from rfl,show (c::r1).take 1=[c] from rfl,show (c::r1).drop 1=r1 from rfl] at TK
 obtain ⟨S,hS⟩:∃S,S=bC [c]:=⟨_,rfl⟩;rw [←hS] at TK;have hs1:S.size=1:=by rw [hS];rfl
 have h0:0<S.size:=by omega
 have hc0:S[0]'h0=c:=by subst hS;rfl
 have hz1:(0:Int)<(S.size:Int):=by omega
 clear h hS
 go_enter func176,ntmps176
 go_upto_region 4 with ((with_reducible refine (TK.o).mono ?_);rintro e w1 ⟨rfl,hp1,hg1⟩)
 obtain ⟨v,hsv⟩:=id hp1.2.1;have hi:=TA v;have HX:=Hh (CO v);have HC:Hid (∀j u,(pW v)[j]?=some u→w1.cell? ⟨9,j,none⟩=some u):=Hh hsv.2.2.1;obtain ⟨A,hA⟩:∃A,A=pW v:=⟨_,rfl⟩;rw [←hA] at HX HC hi;have HP:=Hh (Ai hp1 hg1);have SV:=Hh hsv;have HW1:=Hh hp1.lt;clear hA hp1 hg1 hsv TK
 go_upto_region 5 with (refine aAt rfl 250 (.global 9) rfl 9 rfl A HC.o _ underlying250 rfl hi ?_)
 go_loopw [22] (fun i wr=>∃j:Nat,j≤7∧i=Iz (j:Int)∧(∀i,i<j→m1B (scR i) c.toNat=false∧m2B (scR i) c.toNat=false)∧Below w1.heap.size w1 wr) (fun i _=>7 - (intOf i).toNat)
 case atStart=>exact ⟨0,by omega,rfl,(fun i hi=>absurd hi (Nat.not_lt_zero _)),Br _ _⟩
 case round=>
  obtain ⟨j,hj,rfl,hno,hbr⟩:=hrel
  by_cases hlt:j<7
  ·have hj7:(j:Int)<7:=by omega
   have hix:=HX.o j hlt;obtain ⟨ao,cap,hvj,hcap,hcells⟩:=SV.o.2.2.2 j hlt;have hrow:=ZZ j hlt;have hkd:=aGb j hlt;have hD1:m1B (scR j) c.toNat=true→MHd (c::r1) true (scR j).kind ((scR j).least+((c.toNat:Int) - (scR j).first) % 256) r1∧(3≤(scR j).kind→0≤(scR j).least):=fun h=>⟨aId hlt h,(aHm j hlt c.toNat c.toNat_lt h).2.2.2⟩
   have hD2:m2B (scR j) c.toNat=true→((scR j).widths.getD (((c.toNat:Int) - (scR j).wide) % 256).toNat 0=(eK c.toNat:Int)∧eK c.toNat≤8∧(3≤(scR j).kind→eK c.toNat≤4∧¬ (scR j).least<0))∧MHd (c::r1) true (scR j).kind (qQ (decide ((scR j).least<0)) (r1.take (eK c.toNat))) (r1.drop (eK c.toNat))∧(¬eK c.toNat≤r1.length→∀k z r',MHd (c::r1) false k z r'):=fun h=>by
    obtain ⟨-,e1,-,e2,-,-,-,e3⟩:=aHl j hlt c.toNat c.toNat_lt h;exact ⟨⟨e1,e2,e3⟩,aIc hlt h⟩
   have hno':m1B (scR j) c.toNat=false→m2B (scR j) c.toNat=false→∀i,i<j+1→m1B (scR i) c.toNat=false∧m2B (scR i) c.toNat=false:=fun h1 h2 i hi=>by
    rcases Cc i j with h | h
    ·exact hno i h
    ·obtain rfl:i=j:=by omega
     exact ⟨h1,h2⟩
   unfold scC at hix;rw [hvj] at hix;obtain ⟨r,hr⟩:∃r,r=scR j:=⟨_,rfl⟩;rw [←hr] at hix hrow hkd hD1 hD2 hno' hcap hcells;have HNO:=Hh hno';clear hno hno' hvj hr;obtain ⟨K,L,C,F,W,ws⟩:=r;obtain ⟨hw,hwl,f0,f1,u0,u1,l0,l1,cc0,cc1⟩:=hrow;dsimp only at hw hwl f0 f1 u0 u1 l0 l1 cc0 cc1 hix hkd hD1 hD2 hcap hcells;have hcl:=c.toNat_lt;obtain ⟨A1,hA1⟩:∃A1:Int,A1=((c.toNat:Int) - F) % 256:=⟨_,rfl⟩;obtain ⟨A2,hA2⟩:∃A2:Int,A2=((c.toNat:Int) - W) % 256:=⟨_,rfl⟩;have e1:m1B ⟨K,L,C,F,W,ws⟩ c.toNat=decide (A1<C):=by unfold m1B;rw [hA1]
   have e2:m2B ⟨K,L,C,F,W,ws⟩ c.toNat=decide (A2<(ws.length:Int)):=by unfold m2B;rw [hA2]
   rw [←hA1] at hD1;rw [←hA2] at hD2;rw [e1] at hD1 HNO;rw [e2] at hD2 HNO;have a10:0≤A1:=by omega
   have a11:A1≤255:=by omega
   have a20:0≤A2:=by omega
   have a21:A2≤255:=by omega
   have bA:=hbr.alloc (o:=.cells #[Iz K,Iz L,Iz C,.int .u8 F,.int .u8 W,.slice ao ws.length cap] 249) hbr.size;have kA:=Hn wr (.cells #[Iz K,Iz L,Iz C,.int .u8 F,.int .u8 W,.slice ao ws.length cap] 249);have hw8:IntKind.u8.wrap ((c.toNat:Int) - F)=A1:=by rw [Dd,hA1]
   have hw9:IntKind.u8.wrap ((c.toNat:Int) - W)=A2:=by rw [Dd,hA2]
   have HD:=Hh (Ai hD1 hD2);have HWS:=Hh (Ai hw hcells);have hwl4:(ws.length:Int)≤4:=by omega
   clear hD1 hD2 e1 e2 hw hcells hA1 hA2 hcl hcap hwl
   go_upto_region 7 with fail
   generalize wr.alloc _=wa at bA kA ⊢;have qa:=aA kA;have BA:=Hh bA;have KA:=Hh kA;have HBRR:=Hh hbr;clear bA kA hbr
   go_quiet (fail)
   have ba:=uU BA.o nq;have ka:(wa.drewN nq).heap[wr.heap.size]?=some (.cells #[Iz K,Iz L,Iz C,.int .u8 F,.int .u8 W,.slice ao ws.length cap] 249 (0,0)):=KA.o;clear BA KA qa;generalize wa.drewN nq=wb at ba ka ⊢;have qb:=aA ka
   by_cases h1:A1<C
   ·obtain ⟨hm1,hk3⟩:=HD.o.1 (An h1)
    have hla:IntKind.i64.wrap (L+A1)=L+A1:=Cd _ (by omega)
    have F:=Hh (Ai hm1 hk3);have BB:=Hh ba;clear hm1 hk3 ba ka
    go_upto_region 9 with fail
    go_quiet (fail)
    have bb:=uU BB.o nq
    go_wp2
    refine Ar (v:=.tuple #[Iz K,Iz (L+A1),.bool true]) (by simp [results,results176,go_sem]) rfl ?_
    exact ⟨K,L+A1,true,r1,rfl,HP.o.1.below bb,aH HP.o.2 (aK bb (Lr _) _),by unfold dD;rw [Ak,Av,Av];omega,fun _=>⟨hkd.1,hkd.2,fun h=>by have:=F.o.2 h;omega⟩,by simp,fun _=>by simp,F.o.1⟩
   ·have hd1:=Ap h1
    rw [hd1] at HNO;have HN1:=Hh (HNO.o rfl);have BB:=Hh ba;have KB:=Hh ka;clear HNO hd1 ba ka
    go_upto_region 10 with fail
    go_quiet (fail)
    have ba:=uU BB.o nq;have ka:(wb.drewN nq).heap[wr.heap.size]?=some (.cells #[Iz K,Iz L,Iz C,.int .u8 F,.int .u8 W,.slice ao ws.length cap] 249 (0,0)):=KB.o;clear BB KB qb;generalize wb.drewN nq=wc at ba ka ⊢;have qc:=aA ka
    by_cases h2:A2<(ws.length:Int)
    ·obtain ⟨a,rfl⟩:∃a:Nat,A2=(a:Int):=⟨A2.toNat,by omega⟩
     obtain ⟨⟨hge,hk8,hk3⟩,hyes,hnot⟩:=HD.o.2 (An h2);rw [Int.toNat_natCast] at hge;obtain ⟨b,off,rfl,hb,hcell⟩:=HWS.o.2 a (by omega)
     obtain ⟨kn,hkn⟩:∃kn,kn=eK c.toNat:=⟨_,rfl⟩;rw [←hkn] at hge hk8 hk3 hyes hnot;rw [hge] at hcell;obtain ⟨bk,hbk⟩:∃bk,bk=wr.heap.size:=⟨_,rfl⟩;rw [←hbk] at ka qc ⊢;have hpc:=HP.o.1.below ba;have hBg:=hpc.2.2;have hgc:g<wc.heap.size:=hpc.lt;have hcc:wc.cell? ⟨b,off+a,none⟩=some (Iz (kn:Int)):=(ba.cell (p:=⟨b,off+a,none⟩) (by show b<_;have:=HW1.o;omega)).trans hcell
     have NG:=Hh (fun wx=>JK K L C F W (some ⟨b,off,none⟩) ws.length cap wx)
     have hbkl:=Aa ka;have hgk:g<bk:=by rw [hbk];exact (HP.o.1.below (show Below w1.heap.size w1 wr from HBRR.o)).lt
     have hbl:b<wc.heap.size:=by omega
     have HPC:=Hh hpc;have HGC:=Hh (aH HP.o.2 (aK ba (Lr _) (some g)));have HK3:=Hh hk3;have hki:(kn:Int)≤8:=by omega
     have KD0:=Hh ka;clear hge hk3 hkn hpc hcell ba HD HWS ka HN1;clear hbk
     go_upto_region 12 with fail
     have cd:(wc.drew.cell? ⟨bk,0,none⟩=some (Iz K)∧wc.drew.cell? ⟨bk,1,none⟩=some (Iz L)∧wc.drew.cell? ⟨bk,2,none⟩=some (Iz C)∧wc.drew.cell? ⟨bk,3,none⟩=some (.int .u8 F)∧wc.drew.cell? ⟨bk,4,none⟩=some (.int .u8 W)∧wc.drew.cell? ⟨bk,5,none⟩=some (.slice (some ⟨b,off,none⟩) ws.length cap))∧wc.drew.cell? ⟨b,off+a,none⟩=some (Iz (kn:Int)):=⟨qc,hcc⟩;have hbd:Below wc.heap.size wc wc.drew:=(Br _ _).drew;refine aJ (fun w'=>(w'.cell? ⟨bk,0,none⟩=some (Iz K)∧w'.cell? ⟨bk,1,none⟩=some (Iz L)∧w'.cell? ⟨bk,2,none⟩=some (Iz C)∧w'.cell? ⟨bk,3,none⟩=some (.int .u8 F)∧w'.cell? ⟨bk,4,none⟩=some (.int .u8 W)∧w'.cell? ⟨bk,5,none⟩=some (.slice (some ⟨b,off,none⟩) ws.length cap))∧w'.cell? ⟨b,off+a,none⟩=some (Iz (kn:Int))) [4,7,8] (.take 0 (.take 1 (.take 2 (.take 3 (.take 4 (.take 5 (.take 6 (.take 7 (.take 8 (.ask 9 true (.ask 10 false (.take 11 (.take 12 (.take 13 (.take 14 (.take 15 .stop))))) .stop) .stop)))))))))) (by kernel_rfl) (by kernel_rfl) (fun _ d _ _ _ h=>by cases d <;> exact h) ⟨qc,hcc⟩ ?_
     clear qc hcc;have hzd:bk<wc.drew.heap.size∧b<wc.drew.heap.size:=⟨hbkl,hbl⟩;have kd:wc.drew.heap[bk]?=some (.cells #[Iz K,Iz L,Iz C,.int .u8 F,.int .u8 W,.slice (some ⟨b,off,none⟩) ws.length cap] 249 (0,0)):=KD0.o;have hbg:bk ≠ g:=(Nat.ne_of_gt hgk);generalize wc.drew=wd at cd hbd hzd kd ⊢;have HKD:=Hh kd;clear kd
     iterate 4 (refine aG _ ?_ rfl rfl ?_ (fun K hK=>?_);rotate_left;(intro w0;go_simp;(try rfl));(go_simp;refine hK _ ?_;clear hK K))
     refine aN _ ?_ rfl rfl (by decide) ?_ (fun K hK=>?_);rotate_left;(intro w0 hw0;obtain ⟨⟨s0,s1,s2,s3,s4,s5⟩,s6⟩:=hw0;go_simp;(try rfl));(go_simp;refine hK _ ?_;clear hK K)
     iterate 2 (refine aG _ ?_ rfl rfl ?_ (fun K hK=>?_);rotate_left;(intro w0;go_simp;(try rfl));(go_simp;refine hK _ ?_;clear hK K))
     iterate 2 (refine aN _ ?_ rfl rfl (by decide) ?_ (fun K hK=>?_);rotate_left;(intro w0 hw0;obtain ⟨⟨s0,s1,s2,s3,s4,s5⟩,s6⟩:=hw0;go_simp;(try rfl));(go_simp;refine hK _ ?_;clear hK K))
     have CD:=Hh (fun (wx:World) (hb:Below wd.heap.size wd wx)=>(show (wx.cell? ⟨bk,0,none⟩=some (Iz K)∧wx.cell? ⟨bk,1,none⟩=some (Iz L)∧wx.cell? ⟨bk,2,none⟩=some (Iz C)∧wx.cell? ⟨bk,3,none⟩=some (.int .u8 F)∧wx.cell? ⟨bk,4,none⟩=some (.int .u8 W)∧wx.cell? ⟨bk,5,none⟩=some (.slice (some ⟨b,off,none⟩) ws.length cap))∧wx.cell? ⟨b,off+a,none⟩=some (Iz (kn:Int)) from ⟨⟨(hb.cell (p:=⟨bk,0,none⟩) hzd.1).trans cd.1.1,(hb.cell (p:=⟨bk,1,none⟩) hzd.1).trans cd.1.2.1,(hb.cell (p:=⟨bk,2,none⟩) hzd.1).trans cd.1.2.2.1,(hb.cell (p:=⟨bk,3,none⟩) hzd.1).trans cd.1.2.2.2.1,(hb.cell (p:=⟨bk,4,none⟩) hzd.1).trans cd.1.2.2.2.2.1,(hb.cell (p:=⟨bk,5,none⟩) hzd.1).trans cd.1.2.2.2.2.2⟩,(hb.cell (p:=⟨b,off+a,none⟩) hzd.2).trans cd.2⟩))
     have HBD:=Hh hbd;clear cd hzd hbd;refine aI _ rfl trivial ?_;go_wp2_with (go_at_call 200;(with_reducible refine (NG.o _).mono ?_);rintro e w3 ⟨rfl,hb3⟩);refine Seg.mk ⟨CD.o _ hb3,?_⟩;have hbd3:=HBD.o.trans (hb3.mono HBD.o.size);have hp3:=HPC.o.below hbd3;have k3:=(hb3.block _ (Aa HKD.o)).trans HKD.o;have hg3:=aH HGC.o (aK hbd3 (Lr _) (some g));clear hb3 hbd3
     by_cases hq:kn≤r1.length
     ·have N2:=Hh (aAu kn (decide (L<0)) w3 hp3 (by omega) hq (by omega))
      have HM:=Hh hyes;have HZ:=Hh (VT (decide (L<0)) (r1.take kn));have hz3:3≤K→0≤qQ (decide (L<0)) (r1.take kn)∧qQ (decide (L<0)) (r1.take kn)<4294967296:=fun h3=>by
       obtain ⟨h4,h5⟩:=HK3.o h3;rw [Ap (by omega)]
       have h6:=YO r1 kn h4;unfold qQ;rw [show sgE false (r1.take kn).length=0 from rfl]
       unfold wrap64;omega
      have HZ3:=Hh hz3;obtain ⟨Z,hZ⟩:∃Z,Z=qQ (decide (L<0)) (r1.take kn):=⟨_,rfl⟩;rw [←hZ] at N2 HM HZ HZ3;clear hz3 hyes hnot hp3 hZ;refine aF _ rfl trivial ?_;go_wp2_with (go_at_call 199;(with_reducible refine (N2.o).mono ?_);rintro e w4 ⟨rfl,hp4,hg4⟩);refine Seg.mk ?_;have HP4:=Hh (Ai hp4 (aH hg3 hg4));have s4:=aL (cM hg4 hbg k3) (j:=0) rfl;clear hp4 hg4 hg3 k3
      iterate 5 (refine aG _ ?_ rfl rfl ?_ (fun K hK=>?_);rotate_left;(intro w0;go_simp;(try rfl));(go_simp;refine hK _ ?_;clear hK K))
      unfold cN
      go_wp2
      refine Ar (v:=.tuple #[Iz K,Iz Z,.bool true]) (by simp [results,results176,go_sem]) rfl ?_
      exact ⟨K,Z,true,r1.drop kn,rfl,HP4.o.1,HP4.o.2,HZ.o,fun _=>⟨hkd.1,hkd.2,HZ3.o⟩,by rw [Cb,Ag];omega,fun _=>by rw [Cb,Ag];omega,HM.o⟩
     ·have N2:=Hh (aFp kn (decide (L<0)) w3 hp3 (by omega) hq)
      obtain ⟨Z,hZ⟩:∃Z:Int,Z=(if decide (L<0) then -1 else 0):=⟨_,rfl⟩
      rw [←hZ] at N2;have HM:=Hh (hnot hq);have HZ:Hid (dD Z=true):=Hh (by rw [hZ];split <;> decide)
      clear hyes hnot hp3 hZ;refine aF _ rfl trivial ?_;go_wp2_with (go_at_call 199;(with_reducible refine (N2.o).mono ?_);rintro e w4 ⟨rfl,hp4,hg4⟩);refine Seg.mk ?_;have HP4:=Hh (Ai hp4 (aH hg3 hg4));have s4:=aL (cM hg4 hbg k3) (j:=0) rfl;clear hp4 hg4 hg3 k3
      iterate 5 (refine aG _ ?_ rfl rfl ?_ (fun K hK=>?_);rotate_left;(intro w0;go_simp;(try rfl));(go_simp;refine hK _ ?_;clear hK K))
      unfold cN
      go_wp2
      refine Ar (v:=.tuple #[Iz K,Iz Z,.bool false]) (by simp [results,results176,go_sem]) rfl ?_
      exact ⟨K,Z,false,r1,rfl,HP4.o.1,HP4.o.2,HZ.o,(fun h=>by cases h),by simp,(fun h=>by cases h),HM.o _ _ _⟩
    ·have hd2:=Ap h2
     rw [hd2] at HN1;have BB:=Hh ba;clear ba ka hd2
     go_wp2
     go_roundw
     case rel=>exact ⟨j+1,by omega,by go_num,HN1.o rfl,BB.o⟩
     case measure=>simp [intOf] <;> omega
  ·have hje:j=7:=by omega
   subst hje;have HN:=Hh hno;clear hno
   go_wp2
   refine Ar (v:=.tuple #[Iz 0,Iz 0,.bool false]) (by simp [results,results176,go_sem]) rfl ?_
   exact ⟨0,0,false,r1,rfl,HP.o.1.below hbr,aH HP.o.2 (aK hbr (Lr _) _),by decide,(fun h=>by cases h),by simp,(fun h=>by cases h),aAw HN.o _ _ _⟩
theorem DJ {B g:Nat} {r:Ub} (w:World) (h:PrM B w g r) (hr:r.length≤900000):Calls prog 176 #[.pointer (some ⟨g,0,none⟩)] w (GW B g r w):=by
 cases r with
 | nil=>exact WG w h
 | cons c r1=>exact PJ c r1 w h (by simp at hr;omega)
end Go.Proofs.YtncdpanfefnjlaaGreatDoor