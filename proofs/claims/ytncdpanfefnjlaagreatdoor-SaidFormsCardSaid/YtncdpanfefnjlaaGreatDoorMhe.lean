import Derived.Test.YtncdpanfefnjlaaGreatDoorMcu
set_option linter.unusedVariables false
set_option linter.unusedSimpArgs false
set_option maxHeartbeats 6400000
set_option maxRecDepth 100000
namespace Go.Proofs.YtncdpanfefnjlaaGreatDoor
open Go.Proofs.Tryz
open Go Go.ChangeShapes Go.WideShapes Go.ChangeAt Go.RowKit
def aJf (r:ScR):Prop:=(∀k,k ∈ r.widths→k=1∨k=2∨k=4∨k=8)∧r.widths.length≤4∧0≤r.first∧r.first≤255∧0≤r.wide∧r.wide≤251∧-32≤r.least∧r.least≤0∧0≤r.count∧r.count≤128
theorem aBq:∀i,i<7→aJf (scR i):=by
 refine aGw ?_ ?_ ?_ ?_ ?_ ?_ ?_
 all_goals exact ⟨by simp,by decide,by decide,by decide,by decide,by decide,by decide,by decide,by decide,by decide⟩
theorem QD {b z:Int} {l:List Int} {j:Nat} (a:j<l.length):gQ b z (l.drop j) j=if dZ z (l.getD j 0) then UInt8.ofNat (b.toNat+j)::bR (cU z) (l.getD j 0).toNat else gQ b z (l.drop (j+1)) (j+1):=by
 rw [List.drop_eq_getElem_cons a];simp [gQ,List.getD,Ac a]
theorem RC {D d:Nat} {S:Nat→Prop} (p:Vl) (x:ND) (w:World) (h:aD D S w p x) (q:aC (d+1) x=true) (y:aP (d+1) x=true):Calls prog 208 #[.agg p.toArray] w fun e w'=>e=.returned (Iz (iC x))∧Below w.heap.size w w':=by
 cases D with
 | zero=>exact h.elim
 | succ D=>
 obtain ⟨G,F,e,z,⟨H,I,A,j,g,-⟩,⟨B,E,v,l,i,-⟩⟩:=h;subst A v e;have u:=iF q;obtain ⟨k,b,n,t,ns,its⟩:=x;simp only [ND.kind,ND.bool,ND.num,ND.text,ND.names,ND.items,nd0,ND.mk.injEq,Dj,Dd] at u z j g l i ⊢;obtain ⟨P,a⟩:∃P,P=iC (.mk k b n t ns its):=⟨_,rfl⟩;rw [←a]
 go_enter func208,ntmps208
 go_upto_region 1 with fail
 generalize r:w.alloc _=C;obtain ⟨s,m⟩:=Al r;clear r;have c1:=aA m;have c:=Hh s;clear q y s m;rcases u with ⟨rfl,rfl,rfl,rfl,rfl,rfl⟩ | ⟨rfl,rfl,rfl,rfl,rfl⟩ | ⟨rfl,rfl,rfl,rfl,rfl⟩ | ⟨rfl,rfl,rfl,rfl,rfl⟩ | ⟨rfl,rfl,rfl,rfl,rfl⟩ | ⟨⟨rfl,rfl,rfl,rfl⟩,f⟩
 ·go_wp2
  go_ret
  exact ⟨by rw [a];rfl,c.o⟩
 ·cases b
  ·go_wp2
   go_ret
   exact ⟨by rw [a];rfl,c.o⟩
  ·go_wp2
   go_ret
   exact ⟨by rw [a];rfl,c.o⟩
 ·go_wp2
  go_ret
  exact ⟨by rw [a];rfl,c.o⟩
 ·go_wp2
  go_ret
  exact ⟨by rw [a];rfl,c.o⟩
 ·go_wp2
  go_ret
  exact ⟨by rw [a];rfl,c.o⟩
 ·go_wp2
  go_ret
  exact ⟨by rw [a];rfl,c.o⟩
theorem WO {B:Nat} (r:ScR) (hr:aJf r) (z:Int) (h1:-9223372036854775808≤z) (h2:z≤9223372036854775807) (v:Value) (w:World) (hB:B≤w.heap.size) (hI:mR B w v r.widths):Calls prog 209 #[.agg #[Iz r.kind,Iz r.least,Iz r.count,.int .u8 r.first,.int .u8 r.wide,v],Iz z] w fun e w'=>e=.returned (.string (bC (oW r z)))∧Below w.heap.size w w':=by
 obtain ⟨k,l,c,f,M,x⟩:=r;obtain ⟨hw,xq,f0,f1,u0,u1,l0,l1,c0,c1⟩:=hr;dsimp only at hw xq f0 f1 u0 u1 l0 l1 c0 c1 hI ⊢;obtain ⟨ao,x5,rfl,xx,hI⟩:=hI;obtain ⟨T,hT⟩:∃T,T=oW ⟨k,l,c,f,M,x⟩ z:=⟨_,rfl⟩;rw [←hT];have x8:IntKind.i64.wrap (l+c)=l+c:=Cc _ (by omega)
 go_enter func209,ntmps209
 go_upto_region 1 with fail
 generalize ae:w.alloc _=G;obtain ⟨b1,k1⟩:=Al ae;clear ae;have q1:=aA k1;have V:=Hh b1;have K1:=Hh k1;clear b1 k1;have CV:Hid (∀ (W:World) (b:Nat) {c:UInt8},W.heap[b]?=some (.cells #[.int .u8 (c.toNat:Int)] 5 (0,0))→(convert 69 9 (.slice (some ⟨b,0,none⟩) 1 1)).run prog W=.ok (.string (bC [c])) W):=Hh fun W b c h=>
  run_convert_bytes_back W _ _ 5 ⟨b,0,none⟩ 1 [c] underlying69 underlying5 underlying9 fun j hj=>(by
   obtain rfl:j=0:=by simpa using hj
   exact cT [Value.int .u8 (c.toNat:Int)] h rfl 0 _ rfl)
 by_cases P:l≤z∧z<l+c
 ·obtain ⟨xj,xh⟩:=P
  obtain ⟨b,s⟩:∃b,b=UInt8.ofNat (f+(z - l)).toNat:=⟨_,rfl⟩;have I:T=[b]:=by rw [hT,s];unfold oW;rw [Am ⟨xj,xh⟩]
  have xv:IntKind.i64.wrap (z - l)=z - l:=Cc _ (by omega)
  have m:(f+(z - l)) % 256=(b.toNat:Int):=by rw [s,Bb];omega
  have HT:=Hh I;have F:=Hn G (.cells #[.int .u8 (b.toNat:Int)] 5);have R:=CV.o _ _ F;clear hT I s F
  go_wp2
  go_ret
  exact ⟨by rw [HT.o];rfl,V.o.alloc V.o.size _⟩
 ·have I:T=gQ M z x 0:=by rw [hT];unfold oW;rw [Ae P]
  have HT:=Hh I;clear hT I;have xu:(x.length:Int)≤4:=by omega
  have HI:=Hh hI;have HW:=Hh hw;have xo:=Hh (fun (kw:Nat) (xr:kw≤8) O=>YA z kw O xr)
  clear hI hw;have xm:(l≤z∧¬z<l+c)∨¬l≤z:=by omega
  clear P;rcases xm with ⟨xk,x6⟩ | xk
  all_goals
   go_upto_region 4 with fail
   go_loopw [33] (fun i wr=>∃j:Nat,j≤x.length∧i=Iz (j:Int)∧gQ M z (x.drop j) j=gQ M z x 0∧wr=G) (fun i _=>x.length - (intOf i).toNat)
   case atStart=>exact ⟨0,Av _,rfl,rfl,rfl⟩
   case round=>
    obtain ⟨j,hj,rfl,C,n⟩:=hrel
    replace n:=n.symm
    subst n
    by_cases N:j<x.length
    ·have xz:(j:Int)<(x.length:Int):=by omega
     have ya:(0:Int)≤(j:Int):=by omega
     obtain ⟨b,xi,rfl,hb,hc⟩:=HI.o j N;obtain ⟨E,xp⟩:∃E:Nat,x.getD j 0=(E:Int)∧(E=1∨E=2∨E=4∨E=8):=by
      have hm:x.getD j 0 ∈ x:=by simp [List.getD,Ac N]
      have:=HW.o _ hm;exact ⟨(x.getD j 0).toNat,by omega,by omega⟩
     obtain ⟨Q,xg⟩:=xp;rw [QD N,Q] at C;rw [Q] at hc;have x9:G.cell? ⟨b,xi+j,none⟩=some (Iz (E:Int)):=(V.o.cell (p:=⟨b,xi+j,none⟩) (by show b<_;omega)).trans hc
     have FT:=Hh (fun O=>WQ z (E:Int) O (by omega) h1 h2)
     have u:=Hh C;have xf:=Hh xg;clear C hc Q xg;cases hf:dZ z (E:Int) with
     | true=>
      rw [hf] at FT u;obtain ⟨b,s⟩:∃b,b=UInt8.ofNat (M.toNat+j):=⟨_,rfl⟩;rw [←s] at u;have m:M+(j:Int)=(b.toNat:Int):=by rw [s,Bb];omega
      have J:IntKind.u8.wrap (M+IntKind.u8.wrap (j:Int))=(b.toNat:Int):=by rw [Da,Da];omega
      have BN:=Hh (fun O=>xo.o E (by have:=xf.o;omega) O)
      obtain ⟨U,L⟩:∃t,t=bR (cU z) E:=⟨_,rfl⟩;have S:U.length≤8:=by rw [L,aQ];have:=xf.o;omega
      rw [←L] at BN;have xl:=Hh L;have xt:¬9223372036854775807<(bC [b]).size+(bC U).size:=by rw [bY,bY];simp;omega
      have Z:=Hh (Ai m J);clear hf s L m J
      go_upto_region 7 with ((with_reducible refine (FT.o _).mono ?_);rintro e D ⟨rfl,n⟩;subst n)
      have y:Below G.heap.size G G.drew:=(Br _ _).drew;have cd:G.drew.cell? ⟨w.heap.size,4,none⟩=some (.int .u8 M):=q1.2.2.2.2.1;have xe:w.heap.size<G.drew.heap.size:=cD cd;refine aI (fun w'=>w'.cell? ⟨w.heap.size,4,none⟩=some (.int .u8 M)) [1] (.take 0 (.take 1 (.take 2 (.take 3 (.take 7 (.take 8 (eP.join true (.ask 4 false (.ask 5 false (.ask 6 false (.ask 9 false .stop .stop) (.ask 9 false (.ask 6 false .stop .stop) .stop)) (.ask 9 false (.ask 5 false (.ask 6 false .stop .stop) .stop) .stop)) (.ask 9 true (.ask 4 false (.ask 5 false (.ask 6 false .stop .stop) .stop) .stop) .stop)) (.ask 10 false (.ask 11 false .stop .stop) .stop)))))))) (by kernel_rfl) (by kernel_rfl) (fun _ d _ _ _ h=>by cases d <;> exact h) q1.2.2.2.2.1 ?_
      generalize G.drew=A at y cd xe ⊢;refine aF _ ?_ rfl rfl ?_ (fun K H=>?_);rotate_left;(intro w0;go_simp;(try rfl));(go_simp;refine H _ ?_;clear H K)
      refine aM _ ?_ rfl rfl (by decide) ?_ (fun K H=>?_);rotate_left;(intro w0 x7;go_simp;(try rfl));(go_simp;refine H _ ?_;clear H K)
      iterate 2 (refine aF _ ?_ rfl rfl ?_ (fun K H=>?_);rotate_left;(intro w0;go_simp;(try rfl));(go_simp;refine H _ ?_;clear H K))
      have xy:=Z.o.1;have xs:=Z.o.2
      iterate 2 (refine aF _ ?_ rfl rfl ?_ (fun K H=>?_);rotate_left;(intro w0;go_simp;(try rfl));(go_simp;refine H _ ?_;clear H K))
      refine dW [45,46,47,50] (fun vs O=>∃xa xd,vs=[xa,xd,.string (bC [b]),.string (bC U)]∧Below G.heap.size G O) ?_ ?_
      ·refine aB _ rfl ?_ ?_
       rotate_left
       ·go_wp2_with fail
        refine Seg.mk ?_;refine aB _ rfl ?_ ?_;rotate_left
        ·go_wp2_with fail
         have F:=Hn A (.cells #[.int .u8 (b.toNat:Int)] 5);have g:=y.alloc (o:=.cells #[.int .u8 (b.toNat:Int)] 5) y.size;have xc:A.heap.size<(A.alloc (.cells #[.int .u8 (b.toNat:Int)] 5)).heap.size:=by simp
         generalize A.alloc (.cells #[.int .u8 (b.toNat:Int)] 5)=X at F g xc ⊢;refine Seg.mk ?_;have R:=CV.o X _ F;refine aB _ rfl ?_ ?_;rotate_left
         ·go_wp2_with fail;refine Seg.mk ?_
          refine aB _ rfl trivial ?_;go_wp2_with (go_at_call 215;(with_reducible refine (BN.o _).mono ?_);rintro e D ⟨rfl,a⟩);refine Seg.mk ?_;exact aN [.int .u8 (b.toNat:Int),.slice (some ⟨A.heap.size,0,none⟩) 1 1,.string (bC [b]),.string (bC U)] (by first | exact ⟨_,_,rfl,g.trans (a.mono g.size)⟩ | exact ⟨⟨_,_,rfl⟩,g.trans (a.mono g.size)⟩) rfl
         ·refine aB _ rfl trivial ?_;go_wp2_with (go_at_call 215;(with_reducible refine (BN.o _).mono ?_);rintro e D ⟨rfl,a⟩);refine Seg.mk ?_
          have xw:=CV.o D _ ((a.block _ xc).trans F);refine aB _ rfl trivial ?_;go_wp2_with fail;refine Seg.mk ?_;exact aN [.int .u8 (b.toNat:Int),.slice (some ⟨A.heap.size,0,none⟩) 1 1,.string (bC [b]),.string (bC U)] (by first | exact ⟨_,_,rfl,g.trans (a.mono g.size)⟩ | exact ⟨⟨_,_,rfl⟩,g.trans (a.mono g.size)⟩) rfl
        ·refine aB _ rfl trivial ?_;go_wp2_with (go_at_call 215;(with_reducible refine (BN.o _).mono ?_);rintro e D ⟨rfl,a⟩);refine Seg.mk ?_
         have Y:=y.trans (a.mono y.size);refine aB _ rfl trivial ?_;go_wp2_with fail;refine Seg.mk ?_;have F:=Hn D (.cells #[.int .u8 (b.toNat:Int)] 5);have g:=Y.alloc (o:=.cells #[.int .u8 (b.toNat:Int)] 5) Y.size;generalize D.alloc (.cells #[.int .u8 (b.toNat:Int)] 5)=X at F g ⊢;have R:=CV.o X _ F;refine aB _ rfl trivial ?_;go_wp2_with fail;refine Seg.mk ?_;exact aN [.int .u8 (b.toNat:Int),.slice (some ⟨D.heap.size,0,none⟩) 1 1,.string (bC [b]),.string (bC U)] (by first | exact ⟨_,_,rfl,g⟩ | exact ⟨⟨_,_,rfl⟩,g⟩) rfl
       ·refine aH _ rfl trivial ?_;go_wp2_with (go_at_call 215;(with_reducible refine (BN.o _).mono ?_);rintro e D ⟨rfl,a⟩);refine Seg.mk ⟨(a.cell (p:=⟨w.heap.size,4,none⟩) xe).trans cd,?_⟩
        have Y:=y.trans (a.mono y.size);refine aB _ rfl trivial ?_;go_wp2_with fail;refine Seg.mk ?_;refine aB _ rfl trivial ?_;go_wp2_with fail;refine Seg.mk ?_;have F:=Hn D (.cells #[.int .u8 (b.toNat:Int)] 5);have g:=Y.alloc (o:=.cells #[.int .u8 (b.toNat:Int)] 5) Y.size;generalize D.alloc (.cells #[.int .u8 (b.toNat:Int)] 5)=X at F g ⊢;have R:=CV.o X _ F;refine aB _ rfl trivial ?_;go_wp2_with fail;refine Seg.mk ?_;exact aN [.int .u8 (b.toNat:Int),.slice (some ⟨D.heap.size,0,none⟩) 1 1,.string (bC [b]),.string (bC U)] (by first | exact ⟨_,_,rfl,g⟩ | exact ⟨⟨_,_,rfl⟩,g⟩) rfl
      ·rintro vs w' ⟨xa,xd,rfl,S⟩
       simp only [gJ,Act.put,Aq,Az,Ba];have xn:=Hh S;clear S;refine aB _ rfl trivial ?_;go_wp2_with fail;refine Seg.mk ?_;refine bQ _ rfl trivial ?_
       go_wp2
       go_ret
       exact ⟨by rw [HT.o,←u.o,Am (by first | rfl | trivial),xl.o,Int.toNat_natCast];exact Ad (fun q=>Ending.returned (Value.string q)) (kW [b] (bR (cU z) E)),V.o.trans (xn.o.mono V.o.size)⟩
     | false=>
      rw [hf] at FT u;clear hf
      go_wp2_with (go_at_call 214;(with_reducible refine (FT.o _).mono ?_);rintro e D ⟨rfl,n⟩;subst n)
      go_roundw
      case rel=>exact ⟨j+1,by omega,by go_num,u.o,by first | rfl | trivial⟩
      case measure=>simp [intOf] <;> omega
    ·have xb:x.drop j=[]:=List.drop_eq_nil_of_le (by omega)
     have yb:¬ (j:Int)<(x.length:Int):=by omega
     rw [xb] at C;have u:=Hh C;clear C xb
     go_wp2
     go_ret
     exact ⟨by rw [HT.o,←u.o];rfl,V.o⟩
theorem UU (v:Nat→Value):(Tryz.prog.info? 250).map (·.size)=some (qV v).length:=by
 rw [show (qV v).length=42 from rfl];kernel_rfl
theorem aKh (w:World):(isAgg 249).run prog w=.ok true w:=by kernel_rfl
theorem aGu (w:World):(sizeOf 249).run prog w=.ok 6 w:=by kernel_rfl
theorem EH (v:Nat→Value) (j:Nat) (a:j<7) (w:World):(Instr.index 250 (.agg (qV v).toArray) (Iz (j:Int))).run prog w=.ok (.agg (scC j (v j)).toArray) w:=by
 rw [MF (P:=prog) 250 249 7 6 (qV v).toArray j underlying250 a aKh aGu w,QB v j a]
theorem MG {D d B:Nat} {S:Nat→Prop} (cs:Vl) (x:ND) (w:World) (h:aD D S w cs x) (hS:∀b,S b→b<w.heap.size) (hv:aC (d+1) x=true) (hn:aP (d+1) x=true) (hT:xW B w):Calls prog 198 #[.agg cs.toArray] w fun e w'=>e=.returned (.string (bC (cH (pHd x) (lD x))))∧Below w.heap.size w w':=by
 obtain ⟨a1,l1,c1,a2,l2,c2,rfl⟩:=h.slices;obtain ⟨i7,ik,W,X,ib,H,L⟩:=aBo hv hn;obtain ⟨v,O⟩:=hT;have J:=(Br w.heap.size w).alloc (o:=.cells (Na x a1 l1 c1 a2 l2 c2) 28) (Lr _);have Q:=Hn w (.cells (Na x a1 l1 c1 a2 l2 c2) 28);have hi:=UU v;have HX:=Hh (EH v);obtain ⟨A,hA⟩:∃A,A=qV v:=⟨_,rfl⟩;rw [←hA] at HX hi;have HA:=Hh hA;obtain ⟨P,hP⟩:∃P,P=iC x:=⟨_,rfl⟩;rw [←hP] at W X ib H L;have NO:=Hh (fun (t:World) (Y:Below w.heap.size w t)=>RC (Nc x a1 l1 c1 a2 l2 c2) x t (h.same fun b xa=>Y.block b (hS b xa)) hv hn)
 rw [←hP] at NO;obtain ⟨T,p⟩:∃T,T=cH (pHd x) (lD x):=⟨_,rfl⟩;rw [←p] at X;have xd:=Hh p;have IT:=Hh (Ai X ib);have U:=Hh O;clear hA hP h hv hn hS O p X ib
 go_enter func198,ntmps198
 go_upto_region 1 with fail
 generalize w.alloc _=w1 at J Q ⊢;have q1:=aA Q
 go_upto_region 2 with ((with_reducible refine (NO.o _ J).mono ?_);rintro e w2 ⟨rfl,y⟩)
 have b2:=J.trans (y.mono J.size);have k2:=(y.block _ (Aa Q)).trans Q;have HC:Hid (∀j u,A[j]?=some u→w2.cell? ⟨9,j,none⟩=some u):=Hh fun j u hu=>by
  rw [HA.o] at hu;exact (U.o.below (b2.mono U.o.2.1)).2.2.1 j u hu
 have Z:=Hh b2;have K2:=Hh k2;obtain ⟨I,hI⟩:∃I,I=sIx x:=⟨_,rfl⟩;rw [←hI] at i7 ik W IT;have HI:=Hh hI;have IK:=Hh (Ai ik W);clear q1 Q J y b2 k2 hI ik W
 go_upto_region 3 with (refine aCl rfl 250 (.global 9) rfl 9 rfl A HC.o _ underlying250 rfl hi ?_)
 go_loopw [9] (fun i wr=>∃j:Nat,j≤I∧i=Iz (j:Int)∧Below w2.heap.size w2 wr) (fun i _=>7 - (intOf i).toNat)
 case atStart=>exact ⟨0,Av _,rfl,Br _ _⟩
 case round=>
  obtain ⟨j,hj,rfl,l⟩:=hrel;have xf:(j:Int)<7:=by omega
  have E:=HX.o j (by omega)
  obtain ⟨G,f,q,-,-⟩:=U.o.2.2.2 j (by omega)
  have g:=aBq j (by omega)
  have C:aFp B wr v:=U.o.below ((Z.o.trans (l.mono Z.o.size)).mono U.o.2.1);have m:=C.2.2.2 j (by omega)
  have V:B≤wr.heap.size:=C.2.1;unfold scC at E;have z:j<I→¬ ((scR j).kind=x.kind∧((scR j).least<0↔P<0)):=IT.o.2 j;have s:j=I→(scR j).kind=x.kind∧((scR j).least<0↔P<0)∧oW (scR j) P=T:=fun h=>by rw [h];exact ⟨IK.o.1,IK.o.2,IT.o.1⟩
  obtain ⟨r,hr⟩:∃r,r=scR j:=⟨_,rfl⟩;rw [←hr] at E g z s m q;rw [q] at E m;clear hr q C;have bA:=l.alloc (o:=.cells #[Iz r.kind,Iz r.least,Iz r.count,.int .u8 r.first,.int .u8 r.wide,.slice G r.widths.length f] 249) l.size;have kA:=Hn wr (.cells #[Iz r.kind,Iz r.least,Iz r.count,.int .u8 r.first,.int .u8 r.wide,.slice G r.widths.length f] 249);have bW:=(Br wr.heap.size wr).alloc (o:=.cells #[Iz r.kind,Iz r.least,Iz r.count,.int .u8 r.first,.int .u8 r.wide,.slice G r.widths.length f] 249) (Lr _);have NG:=Hh (fun t=>LB r.kind r.least r.count r.first r.wide G r.widths.length f t)
  have R:=Hh m;have HR:=Hh g;have F:=Hh (Ai V (Ai z s));have xg:=Hh l;clear m g V z s l
  go_upto_region 5 with fail
  generalize wr.alloc _=wa at bA kA bW ⊢;have qa:=aA kA;have qx:=aA ((bA.block _ (Aa K2.o)).trans K2.o);have M:=Hh bA;have BW:=Hh bW;have KA:=Hh kA;clear kA bA bW;have ST:=Hh (fun (t:World) (Y:Below wr.heap.size wr t)=>WO (B:=B) r HR.o P H L (.slice G r.widths.length f) t (Af F.o.1 Y.size) (R.out.below (Y.mono F.o.1)))
  by_cases a:r.kind=x.kind
  ·have xb:(r.kind == x.kind)=true:=by simp [a]
   by_cases c:r.least<0↔P<0
   ·have n:j=I:=by
     rcases Cf j I with h | h
     ·exact absurd ⟨a,c⟩ (F.o.2.1 h)
     ·omega
    have K:=(F.o.2.2 n).2.2;have xe:(decide (r.least<0) == decide (P<0))=true:=by simp [c]
    rw [K] at ST;clear n K c a
    go_upto_region 6 with ((with_reducible refine (NG.o _).mono ?_);rintro e w3 ⟨rfl,k⟩)
    have qb:=aA ((k.block _ (Aa KA.o)).trans KA.o);have N:=Hh k;clear k
    go_wp2_with (go_at_call 209;(with_reducible refine (ST.o _ (BW.o.trans (N.o.mono BW.o.size))).mono ?_);rintro e w4 ⟨rfl,xc⟩)
    go_ret
    have h9:=M.o.trans (N.o.mono M.o.size);have h8:=h9.trans (xc.mono h9.size);exact ⟨by rw [xd.o];rfl,Z.o.trans (h8.mono Z.o.size)⟩
   ·have xe:(decide (r.least<0) == decide (P<0))=false:=by
     rw [Bool.eq_false_iff];intro h;rw [beq_iff_eq,decide_eq_decide] at h;exact c h
    have n:j<I:=by
     rcases Cf j I with h | h
     ·exact h
     ·exact absurd (F.o.2.2 (by omega)).2.1 c
    clear c a
    go_wp2_with (go_at_call 200;(with_reducible refine (NG.o _).mono ?_);rintro e w3 ⟨rfl,k⟩)
    go_roundw
    case rel=>exact ⟨j+1,by omega,by go_num,M.o.trans (k.mono M.o.size)⟩
    case measure=>simp [intOf] <;> omega
  ·have xb:(r.kind == x.kind)=false:=by simp [a]
   have n:j<I:=by
    rcases Cf j I with h | h
    ·exact h
    ·exact absurd (F.o.2.2 (by omega)).1 a
   clear a
   go_wp2
   go_roundw
   case rel=>exact ⟨j+1,by omega,by go_num,M.o⟩
   case measure=>simp [intOf] <;> omega
def m1B (r:ScR) (c:Nat):Bool:=decide (((c:Int) - r.first) % 256<r.count)
def m2B (r:ScR) (c:Nat):Bool:=decide (((c:Int) - r.wide) % 256<(r.widths.length:Int))
theorem aJa (j:Nat) (b:j<7) (c:Nat) (a:c<256) (h:m1B (scR j) c=true):mP c=(scR j).kind∧eX c=0∧fB c 0=(scR j).least+((c:Int) - (scR j).first) % 256∧(3≤(scR j).kind→0≤(scR j).least):=by
 have:∀j:Fin 7,∀c:Fin 256,m1B (scR j.1) c.1=true→mP c.1=(scR j.1).kind∧eX c.1=0∧fB c.1 0=(scR j.1).least+((c.1:Int) - (scR j.1).first) % 256∧(3≤(scR j.1).kind→0≤(scR j.1).least):=by decide +kernel
 exact this ⟨j,b⟩ ⟨c,a⟩ h
theorem aIz (j:Nat) (b:j<7) (c:Nat) (a:c<256) (h:m2B (scR j) c=true):mP c=(scR j).kind∧(scR j).widths.getD (((c:Int) - (scR j).wide) % 256).toNat 0=(eX c:Int)∧1≤eX c∧eX c≤8∧204≤c∧c<224∧((scR j).least<0↔(208≤c∧c≤211))∧(3≤(scR j).kind→eX c≤4∧¬ (scR j).least<0):=by
 have:∀j:Fin 7,∀c:Fin 256,m2B (scR j.1) c.1=true→mP c.1=(scR j.1).kind∧(scR j.1).widths.getD (((c.1:Int) - (scR j.1).wide) % 256).toNat 0=(eX c.1:Int)∧1≤eX c.1∧eX c.1≤8∧204≤c.1∧c.1<224∧((scR j.1).least<0↔(208≤c.1∧c.1≤211))∧(3≤(scR j.1).kind→eX c.1≤4∧¬ (scR j.1).least<0):=by decide +kernel
 exact this ⟨j,b⟩ ⟨c,a⟩ h
theorem aHt (c:Nat) (a:c<256) (h:∀j,j<7→m1B (scR j) c=false∧m2B (scR j) c=false):¬ (c<128∨224≤c∨c=192∨c=194∨c=195∨(204≤c∧c≤211)∨aFw c):=by
 have:∀c:Fin 256,(∀j:Fin 7,m1B (scR j.1) c.1=false∧m2B (scR j.1) c.1=false)→¬ (c.1<128∨224≤c.1∨c.1=192∨c.1=194∨c.1=195∨(204≤c.1∧c.1≤211)∨((128≤c.1∧c.1<192)∨c.1=217∨c.1=218∨c.1=219∨c.1=220∨c.1=222)):=by decide +kernel
 exact this ⟨c,a⟩ fun j=>h j.1 j.2
theorem XO (c v:Nat) (b:204≤c) (a:c<224):fB c v=(v:Int) - sgE (decide (208≤c∧c≤211)) (eX c):=by
 obtain rfl | rfl | rfl | rfl | rfl | rfl | rfl | rfl | h:c=204∨c=205∨c=206∨c=207∨c=208∨c=209∨c=210∨c=211∨212≤c:=by omega
 iterate 4 (show (v:Int)=(v:Int) - 0;omega)
 ·rfl
 ·rfl
 ·rfl
 ·rfl
 ·rw [Ar (by omega)]
  show _=(v:Int) - 0
  unfold fB;simp only [show ¬c<128 by omega,show ¬c<144 by omega,show ¬c<160 by omega,show ¬c<192 by omega,show ¬c=195 by omega,show ¬c<208 by omega,show ¬c=208 by omega,show ¬c=209 by omega,show ¬c=210 by omega,show ¬c=211 by omega,a,↓reduceIte]
  omega
theorem RF {c:UInt8} {b:Ub} {d:Nat} {y:ND} {t:Ub} (h:aC (d+1) y=true) (e:aP (d+1) y=true) (a:c::b=cH (pHd y) (lD y)++t):mP c.toNat=y.kind∧b=bR (lD y) (eX c.toNat)++t∧fB c.toNat (lD y % 256 ^ eX c.toNat)=iC y:=by
 obtain ⟨m,l,i,f⟩:=yD h e;unfold cH at a;rw [Bo] at a;obtain ⟨g,k⟩:=List.cons.inj a;have j:c.toNat=(pHd y).1:=by rw [g,Bb];omega
 rw [j,i];exact ⟨l,k,f⟩
theorem aHf (k z:Int) (r:Ub):MHd [] false k z r:=fun d y t c b a=>by unfold cH at a;cases a
theorem aJt {c:UInt8} {b:Ub} {j:Nat} (n:j<7) (h:m1B (scR j) c.toNat=true):MHd (c::b) true (scR j).kind ((scR j).least+((c.toNat:Int) - (scR j).first) % 256) b:=fun d y t k f o=>by
 obtain ⟨i,m,l,-⟩:=aJa j n c.toNat c.toNat_lt h;obtain ⟨g,e,a⟩:=RF k f o;rw [m] at e a;rw [Nat.pow_zero,Nat.mod_one] at a;exact ⟨rfl,by rw [←i,g],by rw [←l,a],e⟩
theorem aJs {c:UInt8} {a:Ub} {j:Nat} (s:j<7) (h:m2B (scR j) c.toNat=true):MHd (c::a) true (scR j).kind (rQ (decide ((scR j).least<0)) (a.take (eX c.toNat))) (a.drop (eX c.toNat))∧(¬eX c.toNat≤a.length→∀k z m,MHd (c::a) false k z m):=by
 obtain ⟨o,-,-,-,q,v,r,-⟩:=aIz j s c.toNat c.toNat_lt h;refine ⟨fun d y t f e l=>?_,fun u k z m d y t f e l=>?_⟩
 ·obtain ⟨n,g,i⟩:=RF f e l
  have b:(bR (lD y) (eX c.toNat)).length=eX c.toNat:=aQ _ _;obtain ⟨-,-,-,-,-,x,w⟩:=aBo f e;have p:a.take (eX c.toNat)=bR (lD y) (eX c.toNat):=by rw [g,List.take_left' b]
  refine ⟨rfl,by rw [←o,n],?_,by rw [g,List.drop_left' b]⟩
  rw [XO _ _ q v] at i;unfold rQ;rw [p,b,jB,decide_eq_decide.2 r,i];unfold wrap64;omega
 ·obtain ⟨n,g,i⟩:=RF f e l
  have b:(bR (lD y) (eX c.toNat)).length=eX c.toNat:=aQ _ _;rw [g,Lg,b] at u;omega
theorem aCo {c:UInt8} {e:Ub} (h:∀j,j<7→m1B (scR j) c.toNat=false∧m2B (scR j) c.toNat=false) (k z:Int) (r:Ub):MHd (c::e) false k z r:=fun d y t g b a=>by
 have f:=aHt c.toNat c.toNat_lt h;have i:(aW (d+1) y)[0]?=some c:=by
  unfold cH at a;rw [Bo] at a;rw [gB,(List.cons.inj a).1]
  rfl
 exact absurd ⟨g,b,by rw [List.drop_zero,By]⟩ (aJu (d:=d) i f y [])
def JP (B g:Nat) (r:Ub) (w:World) (e:Ending) (w':World):Prop:=∃ (k z:Int) (a:Bool) (b:Ub),e=.returned (.tuple #[Iz k,Iz z,.bool a])∧PrM B w' g b∧w.grownBy w' (some g)∧dD z=true∧(a=true→0≤k∧k≤5∧(3≤k→0≤z∧z<4294967296))∧b.length≤r.length∧(a=true→b.length<r.length)∧MHd r a k z b
theorem aHq:∀j,j<7→0≤(scR j).kind∧(scR j).kind≤5:=by
 have:∀j:Fin 7,0≤(scR j.1).kind∧(scR j.1).kind≤5:=by decide
 exact fun j a=>this ⟨j,a⟩
theorem YC {B g:Nat} (w:World) (h:PrM B w g []):Calls prog 176 #[.pointer (some ⟨g,0,none⟩)] w (JP B g [] w):=by
 have c:=Hh (AP 1 w h (by simp) (by simp))
 rw [show ((1:Nat):Int)=1 from rfl] at c
 clear h
 go_enter func176,ntmps176
 go_wp2_with (go_at_call 177;(with_reducible refine (c.o).mono ?_);rintro e d ⟨rfl,a,b⟩)
 refine Au (v:=.tuple #[Iz 0,Iz 0,.bool false]) (by simp [results,results176,go_sem]) rfl ?_
 exact ⟨0,0,false,[],rfl,a,b,by decide,(fun h=>by cases h),Lr _,(fun h=>by cases h),aHf _ _ _⟩
theorem RD {B g:Nat} (c:UInt8) (l:Ub) (w:World) (h:PrM B w g (c::l)) (hr:l.length≤900000):Calls prog 176 #[.pointer (some ⟨g,0,none⟩)] w (JP B g (c::l) w):=by
 have ys:=h.lt;have TK:=Hh (vC 1 w h (by simp;omega) (by simp))
 rw [show ((1:Nat):Int)=1 from rfl,show (c::l).take 1=[c] from rfl,show (c::l).drop 1=l from rfl] at TK
 obtain ⟨S,hS⟩:∃S,S=bC [c]:=⟨_,rfl⟩;rw [←hS] at TK;have yy:S.size=1:=by rw [hS];rfl
 have h0:0<S.size:=by omega
 have yp:S[0]'h0=c:=by subst hS;rfl
 have y0:(0:Int)<(S.size:Int):=by omega
 clear h hS
 go_enter func176,ntmps176
 go_upto_region 4 with ((with_reducible refine (TK.o).mono ?_);rintro e w1 ⟨rfl,xc,xw⟩)
 obtain ⟨v,xr⟩:=id xc.2.1;have hi:=UU v;have HX:=Hh (EH v);have HC:Hid (∀j u,(qV v)[j]?=some u→w1.cell? ⟨9,j,none⟩=some u):=Hh xr.2.2.1;obtain ⟨A,hA⟩:∃A,A=qV v:=⟨_,rfl⟩;rw [←hA] at HX HC hi;have HP:=Hh (Ai xc xw);have SV:=Hh xr;have yl:=Hh xc.lt;clear hA xc xw xr TK
 go_upto_region 5 with (refine aCl rfl 250 (.global 9) rfl 9 rfl A HC.o _ underlying250 rfl hi ?_)
 go_loopw [22] (fun i wr=>∃j:Nat,j≤7∧i=Iz (j:Int)∧(∀i,i<j→m1B (scR i) c.toNat=false∧m2B (scR i) c.toNat=false)∧Below w1.heap.size w1 wr) (fun i _=>7 - (intOf i).toNat)
 case atStart=>exact ⟨0,by omega,rfl,(fun i hi=>absurd hi (Nat.not_lt_zero _)),Br _ _⟩
 case round=>
  obtain ⟨j,hj,rfl,xh,P⟩:=hrel
  by_cases t:j<7
  ·have yx:(j:Int)<7:=by omega
   have xi:=HX.o j t;obtain ⟨ao,q,xt,U,m⟩:=SV.o.2.2.2 j t;have xl:=aBq j t;have M:=aHq j t;have hD1:m1B (scR j) c.toNat=true→MHd (c::l) true (scR j).kind ((scR j).least+((c.toNat:Int) - (scR j).first) % 256) l∧(3≤(scR j).kind→0≤(scR j).least):=fun h=>⟨aJt t h,(aJa j t c.toNat c.toNat_lt h).2.2.2⟩
   have hD2:m2B (scR j) c.toNat=true→((scR j).widths.getD (((c.toNat:Int) - (scR j).wide) % 256).toNat 0=(eX c.toNat:Int)∧eX c.toNat≤8∧(3≤(scR j).kind→eX c.toNat≤4∧¬ (scR j).least<0))∧MHd (c::l) true (scR j).kind (rQ (decide ((scR j).least<0)) (l.take (eX c.toNat))) (l.drop (eX c.toNat))∧(¬eX c.toNat≤l.length→∀k z r',MHd (c::l) false k z r'):=fun h=>by
    obtain ⟨-,e1,-,e2,-,-,-,e3⟩:=aIz j t c.toNat c.toNat_lt h;exact ⟨⟨e1,e2,e3⟩,aJs t h⟩
   have xa:m1B (scR j) c.toNat=false→m2B (scR j) c.toNat=false→∀i,i<j+1→m1B (scR i) c.toNat=false∧m2B (scR i) c.toNat=false:=fun h1 h2 i hi=>by
    rcases Cf i j with h | h
    ·exact xh i h
    ·obtain rfl:i=j:=by omega
     exact ⟨h1,h2⟩
   unfold scC at xi;rw [xt] at xi;obtain ⟨r,hr⟩:∃r,r=scR j:=⟨_,rfl⟩;rw [←hr] at xi xl M hD1 hD2 xa U m;have Y:=Hh xa;clear xh xa xt hr;obtain ⟨K,L,C,F,W,J⟩:=r;obtain ⟨hw,x6,f0,f1,u0,u1,l0,l1,yc,yf⟩:=xl;dsimp only at hw x6 f0 f1 u0 u1 l0 l1 yc yf xi M hD1 hD2 U m;have yg:=c.toNat_lt;obtain ⟨R,xd⟩:∃R:Int,R=((c.toNat:Int) - F) % 256:=⟨_,rfl⟩;obtain ⟨A2,xb⟩:∃A2:Int,A2=((c.toNat:Int) - W) % 256:=⟨_,rfl⟩;have e1:m1B ⟨K,L,C,F,W,J⟩ c.toNat=decide (R<C):=by unfold m1B;rw [xd]
   have e2:m2B ⟨K,L,C,F,W,J⟩ c.toNat=decide (A2<(J.length:Int)):=by unfold m2B;rw [xb]
   rw [←xd] at hD1;rw [←xb] at hD2;rw [e1] at hD1 Y;rw [e2] at hD2 Y;have yv:0≤R:=by omega
   have y1:R≤255:=by omega
   have y2:0≤A2:=by omega
   have yr:A2≤255:=by omega
   have bA:=P.alloc (o:=.cells #[Iz K,Iz L,Iz C,.int .u8 F,.int .u8 W,.slice ao J.length q] 249) P.size;have kA:=Hn wr (.cells #[Iz K,Iz L,Iz C,.int .u8 F,.int .u8 W,.slice ao J.length q] 249);have y3:IntKind.u8.wrap ((c.toNat:Int) - F)=R:=by rw [Da,xd]
   have yu:IntKind.u8.wrap ((c.toNat:Int) - W)=A2:=by rw [Da,xb]
   have HD:=Hh (Ai hD1 hD2);have yb:=Hh (Ai hw m);have yo:(J.length:Int)≤4:=by omega
   clear hD1 hD2 e1 e2 hw m xd xb yg U x6
   go_upto_region 7 with fail
   generalize wr.alloc _=wa at bA kA ⊢;have qa:=aA kA;have BA:=Hh bA;have KA:=Hh kA;have x5:=Hh P;clear bA kA P
   go_quiet (fail)
   have N:=vX BA.o nq;have O:(wa.drewN nq).heap[wr.heap.size]?=some (.cells #[Iz K,Iz L,Iz C,.int .u8 F,.int .u8 W,.slice ao J.length q] 249 (0,0)):=KA.o;clear BA KA qa;generalize wa.drewN nq=wb at N O ⊢;have qb:=aA O
   by_cases h1:R<C
   ·obtain ⟨xv,Q⟩:=HD.o.1 (Ap h1)
    have yt:IntKind.i64.wrap (L+R)=L+R:=Cc _ (by omega)
    have F:=Hh (Ai xv Q);have BB:=Hh N;clear xv Q N O
    go_upto_region 9 with fail
    go_quiet (fail)
    have bb:=vX BB.o nq
    go_wp2
    refine Au (v:=.tuple #[Iz K,Iz (L+R),.bool true]) (by simp [results,results176,go_sem]) rfl ?_
    exact ⟨K,L+R,true,l,rfl,HP.o.1.below bb,aJ HP.o.2 (aK bb (Lr _) _),by unfold dD;rw [An,As,As];omega,fun _=>⟨M.1,M.2,fun h=>by have:=F.o.2 h;omega⟩,by simp,fun _=>by simp,F.o.1⟩
   ·have x9:=Ar h1
    rw [x9] at Y;have xn:=Hh (Y.o rfl);have BB:=Hh N;have KB:=Hh O;clear Y x9 N O
    go_upto_region 10 with fail
    go_quiet (fail)
    have N:=vX BB.o nq;have O:(wb.drewN nq).heap[wr.heap.size]?=some (.cells #[Iz K,Iz L,Iz C,.int .u8 F,.int .u8 W,.slice ao J.length q] 249 (0,0)):=KB.o;clear BB KB qb;generalize wb.drewN nq=D at N O ⊢;have qc:=aA O
    by_cases h2:A2<(J.length:Int)
    ·obtain ⟨a,rfl⟩:∃a:Nat,A2=(a:Int):=⟨A2.toNat,by omega⟩
     obtain ⟨⟨xk,ye,Q⟩,H,I⟩:=HD.o.2 (Ap h2);rw [Int.toNat_natCast] at xk;obtain ⟨b,n,rfl,hb,G⟩:=yb.o.2 a (by omega)
     obtain ⟨y,xz⟩:∃y,y=eX c.toNat:=⟨_,rfl⟩;rw [←xz] at xk ye Q H I;rw [xk] at G;obtain ⟨f,xm⟩:∃f,f=wr.heap.size:=⟨_,rfl⟩;rw [←xm] at O qc ⊢;have xj:=HP.o.1.below N;have yz:=xj.2.2;have yq:g<D.heap.size:=xj.lt;have xq:D.cell? ⟨b,n+a,none⟩=some (Iz (y:Int)):=(N.cell (p:=⟨b,n+a,none⟩) (by show b<_;have:=yl.o;omega)).trans G
     have NG:=Hh (fun wx=>LB K L C F W (some ⟨b,n,none⟩) J.length q wx)
     have xs:=Aa O;have yi:g<f:=by rw [xm];exact (HP.o.1.below (show Below w1.heap.size w1 wr from x5.o)).lt
     have yk:b<D.heap.size:=by omega
     have ym:=Hh xj;have yh:=Hh (aJ HP.o.2 (aK N (Lr _) (some g)));have yn:=Hh Q;have yw:(y:Int)≤8:=by omega
     have yj:=Hh O;clear xk Q xz xj G N HD yb O xn;clear xm
     go_upto_region 12 with fail
     have cd:(D.drew.cell? ⟨f,0,none⟩=some (Iz K)∧D.drew.cell? ⟨f,1,none⟩=some (Iz L)∧D.drew.cell? ⟨f,2,none⟩=some (Iz C)∧D.drew.cell? ⟨f,3,none⟩=some (.int .u8 F)∧D.drew.cell? ⟨f,4,none⟩=some (.int .u8 W)∧D.drew.cell? ⟨f,5,none⟩=some (.slice (some ⟨b,n,none⟩) J.length q))∧D.drew.cell? ⟨b,n+a,none⟩=some (Iz (y:Int)):=⟨qc,xq⟩;have xp:Below D.heap.size D D.drew:=(Br _ _).drew;refine aI (fun w'=>(w'.cell? ⟨f,0,none⟩=some (Iz K)∧w'.cell? ⟨f,1,none⟩=some (Iz L)∧w'.cell? ⟨f,2,none⟩=some (Iz C)∧w'.cell? ⟨f,3,none⟩=some (.int .u8 F)∧w'.cell? ⟨f,4,none⟩=some (.int .u8 W)∧w'.cell? ⟨f,5,none⟩=some (.slice (some ⟨b,n,none⟩) J.length q))∧w'.cell? ⟨b,n+a,none⟩=some (Iz (y:Int))) [4,7,8] (.take 0 (.take 1 (.take 2 (.take 3 (.take 4 (.take 5 (.take 6 (.take 7 (.take 8 (.ask 9 true (.ask 10 false (.take 11 (.take 12 (.take 13 (.take 14 (.take 15 .stop))))) .stop) .stop)))))))))) (by kernel_rfl) (by kernel_rfl) (fun _ d _ _ _ h=>by cases d <;> exact h) ⟨qc,xq⟩ ?_
     clear qc xq;have s:f<D.drew.heap.size∧b<D.drew.heap.size:=⟨xs,yk⟩;have kd:D.drew.heap[f]?=some (.cells #[Iz K,Iz L,Iz C,.int .u8 F,.int .u8 W,.slice (some ⟨b,n,none⟩) J.length q] 249 (0,0)):=yj.o;have ya:f ≠ g:=(Nat.ne_of_gt yi);generalize D.drew=wd at cd xp s kd ⊢;have x7:=Hh kd;clear kd
     iterate 4 (refine aF _ ?_ rfl rfl ?_ (fun K x=>?_);rotate_left;(intro w0;go_simp;(try rfl));(go_simp;refine x _ ?_;clear x K))
     refine aM _ ?_ rfl rfl (by decide) ?_ (fun K x=>?_);rotate_left;(intro w0 xo;obtain ⟨⟨s0,s1,s2,s3,s4,s5⟩,s6⟩:=xo;go_simp;(try rfl));(go_simp;refine x _ ?_;clear x K)
     iterate 2 (refine aF _ ?_ rfl rfl ?_ (fun K x=>?_);rotate_left;(intro w0;go_simp;(try rfl));(go_simp;refine x _ ?_;clear x K))
     iterate 2 (refine aM _ ?_ rfl rfl (by decide) ?_ (fun K x=>?_);rotate_left;(intro w0 xo;obtain ⟨⟨s0,s1,s2,s3,s4,s5⟩,s6⟩:=xo;go_simp;(try rfl));(go_simp;refine x _ ?_;clear x K))
     have CD:=Hh (fun (wx:World) (hb:Below wd.heap.size wd wx)=>(show (wx.cell? ⟨f,0,none⟩=some (Iz K)∧wx.cell? ⟨f,1,none⟩=some (Iz L)∧wx.cell? ⟨f,2,none⟩=some (Iz C)∧wx.cell? ⟨f,3,none⟩=some (.int .u8 F)∧wx.cell? ⟨f,4,none⟩=some (.int .u8 W)∧wx.cell? ⟨f,5,none⟩=some (.slice (some ⟨b,n,none⟩) J.length q))∧wx.cell? ⟨b,n+a,none⟩=some (Iz (y:Int)) from ⟨⟨(hb.cell (p:=⟨f,0,none⟩) s.1).trans cd.1.1,(hb.cell (p:=⟨f,1,none⟩) s.1).trans cd.1.2.1,(hb.cell (p:=⟨f,2,none⟩) s.1).trans cd.1.2.2.1,(hb.cell (p:=⟨f,3,none⟩) s.1).trans cd.1.2.2.2.1,(hb.cell (p:=⟨f,4,none⟩) s.1).trans cd.1.2.2.2.2.1,(hb.cell (p:=⟨f,5,none⟩) s.1).trans cd.1.2.2.2.2.2⟩,(hb.cell (p:=⟨b,n+a,none⟩) s.2).trans cd.2⟩))
     have xu:=Hh xp;clear cd s xp;refine aH _ rfl trivial ?_;go_wp2_with (go_at_call 200;(with_reducible refine (NG.o _).mono ?_);rintro e w3 ⟨rfl,xg⟩);refine Seg.mk ⟨CD.o _ xg,?_⟩;have X:=xu.o.trans (xg.mono xu.o.size);have xe:=ym.o.below X;have k3:=(xg.block _ (Aa x7.o)).trans x7.o;have xf:=aJ yh.o (aK X (Lr _) (some g));clear xg X
     by_cases hq:y≤l.length
     ·have N2:=Hh (aCm y (decide (L<0)) w3 xe (by omega) hq (by omega))
      have HM:=Hh H;have HZ:=Hh (XR (decide (L<0)) (l.take y));have xx:3≤K→0≤rQ (decide (L<0)) (l.take y)∧rQ (decide (L<0)) (l.take y)<4294967296:=fun h3=>by
       obtain ⟨h4,h5⟩:=yn.o h3;rw [Ar (by omega)]
       have h6:=aAf l y h4;unfold rQ;rw [show sgE false (l.take y).length=0 from rfl]
       unfold wrap64;omega
      have xy:=Hh xx;obtain ⟨Z,hZ⟩:∃Z,Z=rQ (decide (L<0)) (l.take y):=⟨_,rfl⟩;rw [←hZ] at N2 HM HZ xy;clear xx H I xe hZ;refine aB _ rfl trivial ?_;go_wp2_with (go_at_call 199;(with_reducible refine (N2.o).mono ?_);rintro e w4 ⟨rfl,T,E⟩);refine Seg.mk ?_;have V:=Hh (Ai T (aJ xf E));have s4:=aL (cP E ya k3) (j:=0) rfl;clear T E xf k3
      iterate 5 (refine aF _ ?_ rfl rfl ?_ (fun K x=>?_);rotate_left;(intro w0;go_simp;(try rfl));(go_simp;refine x _ ?_;clear x K))
      unfold cQ
      go_wp2
      refine Au (v:=.tuple #[Iz K,Iz Z,.bool true]) (by simp [results,results176,go_sem]) rfl ?_
      exact ⟨K,Z,true,l.drop y,rfl,V.o.1,V.o.2,HZ.o,fun _=>⟨M.1,M.2,xy.o⟩,by rw [Ce,Ag];omega,fun _=>by rw [Ce,Ag];omega,HM.o⟩
     ·have N2:=Hh (aHe y (decide (L<0)) w3 xe (by omega) hq)
      obtain ⟨Z,hZ⟩:∃Z:Int,Z=(if decide (L<0) then -1 else 0):=⟨_,rfl⟩
      rw [←hZ] at N2;have HM:=Hh (I hq);have HZ:Hid (dD Z=true):=Hh (by rw [hZ];split <;> decide)
      clear H I xe hZ;refine aB _ rfl trivial ?_;go_wp2_with (go_at_call 199;(with_reducible refine (N2.o).mono ?_);rintro e w4 ⟨rfl,T,E⟩);refine Seg.mk ?_;have V:=Hh (Ai T (aJ xf E));have s4:=aL (cP E ya k3) (j:=0) rfl;clear T E xf k3
      iterate 5 (refine aF _ ?_ rfl rfl ?_ (fun K x=>?_);rotate_left;(intro w0;go_simp;(try rfl));(go_simp;refine x _ ?_;clear x K))
      unfold cQ
      go_wp2
      refine Au (v:=.tuple #[Iz K,Iz Z,.bool false]) (by simp [results,results176,go_sem]) rfl ?_
      exact ⟨K,Z,false,l,rfl,V.o.1,V.o.2,HZ.o,(fun h=>by cases h),by simp,(fun h=>by cases h),HM.o _ _ _⟩
    ·have x8:=Ar h2
     rw [x8] at xn;have BB:=Hh N;clear N O x8
     go_wp2
     go_roundw
     case rel=>exact ⟨j+1,by omega,by go_num,xn.o rfl,BB.o⟩
     case measure=>simp [intOf] <;> omega
  ·have yd:j=7:=by omega
   subst yd;have HN:=Hh xh;clear xh
   go_wp2
   refine Au (v:=.tuple #[Iz 0,Iz 0,.bool false]) (by simp [results,results176,go_sem]) rfl ?_
   exact ⟨0,0,false,l,rfl,HP.o.1.below P,aJ HP.o.2 (aK P (Lr _) _),by decide,(fun h=>by cases h),by simp,(fun h=>by cases h),aCo HN.o _ _ _⟩
theorem EY {B g:Nat} {r:Ub} (w:World) (h:PrM B w g r) (a:r.length≤900000):Calls prog 176 #[.pointer (some ⟨g,0,none⟩)] w (JP B g r w):=by
 cases r with
 | nil=>exact YC w h
 | cons c r1=>exact RD c r1 w h (by simp at a;omega)
end Go.Proofs.YtncdpanfefnjlaaGreatDoor