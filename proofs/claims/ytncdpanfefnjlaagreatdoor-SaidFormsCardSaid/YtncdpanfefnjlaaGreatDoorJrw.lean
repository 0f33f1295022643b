import Derived.Test.YtncdpanfefnjlaaGreatDoorProg
import Derived.Test.YtncdpanfefnjlaaGreatDoorRows
import Derived.Test.YtncdpanfefnjlaaGreatDoorJbdat
set_option linter.unusedVariables false
set_option linter.unusedSimpArgs false
set_option maxHeartbeats 3200000
set_option maxRecDepth 100000
namespace Go.Proofs.YtncdpanfefnjlaaGreatDoor
open Go.Proofs.Tryz
open Go.Shelf Go.RowKit Go.Lib
def aMd:Go.Shelf.Ren:=⟨fun | 129=>184 | 171=>99 | 243=>121 | 246=>137 | 283=>156 | 284=>157 | 285=>158 | 286=>159 | 317=>183 | 318=>185 | 319=>186 | 320=>187 | 337=>201 | 338=>202 | n=>n,fun | 0=>0 | 2=>2 | 3=>3 | 4=>4 | 5=>5 | 9=>9 | 20=>20 | 37=>69 | 46=>85 | 51=>106 | 53=>130 | 171=>200 | 173=>203 | 212=>236 | 213=>237 | 232=>109 | 233=>259 | n=>n,fun | 17=>8 | 18=>10 | 19=>11 | n=>n⟩
theorem aHk:Go.Proofs.LaysM.n171 prog aMd:={
 mixed:=by kernel_rfl
 f129:=Tryz.func184.trans (Ad some (by kernel_rfl))
 f171:=Tryz.func99.trans (Ad some (by kernel_rfl))
 f243:=Tryz.func121.trans (Ad some (by kernel_rfl))
 f246:=Tryz.func137.trans (Ad some (by kernel_rfl))
 f283:=Tryz.func156.trans (Ad some (by kernel_rfl))
 f284:=Tryz.func157.trans (Ad some (by kernel_rfl))
 f285:=Tryz.func158.trans (Ad some (by kernel_rfl))
 f286:=Tryz.func159.trans (Ad some (by kernel_rfl))
 f317:=Tryz.func183.trans (Ad some (by kernel_rfl))
 f318:=Tryz.func185.trans (Ad some (by kernel_rfl))
 f319:=Tryz.func186.trans (Ad some (by kernel_rfl))
 f320:=Tryz.func187.trans (Ad some (by kernel_rfl))
 f337:=Tryz.func201.trans (Ad some (by kernel_rfl))
 f338:=Tryz.func202.trans (Ad some (by kernel_rfl))
 t0:=underlying0
 a0:=isAgg0
 z0:=sizeOf0
 v0:=zeroValue0
 t2:=underlying2
 a2:=isAgg2
 z2:=sizeOf2
 v2:=zeroValue2
 t3:=underlying3
 a3:=isAgg3
 z3:=sizeOf3
 v3:=zeroValue3
 t4:=underlying4
 a4:=isAgg4
 z4:=sizeOf4
 v4:=zeroValue4
 t5:=underlying5
 a5:=isAgg5
 z5:=sizeOf5
 v5:=zeroValue5
 t9:=underlying9
 a9:=isAgg9
 z9:=sizeOf9
 v9:=zeroValue9
 t20:=underlying20
 a20:=isAgg20
 z20:=sizeOf20
 v20:=zeroValue20
 t37:=underlying69
 a37:=isAgg69
 z37:=sizeOf69
 v37:=zeroValue69
 t46:=underlying85
 a46:=isAgg85
 z46:=sizeOf85
 v46:=zeroValue85
 t51:=underlying106
 a51:=isAgg106
 z51:=sizeOf106
 v51:=zeroValue106
 t53:=underlying130
 a53:=isAgg130
 z53:=sizeOf130
 v53:=zeroValue130
 t171:=underlying200
 a171:=isAgg200
 z171:=sizeOf200
 v171:=zeroValue200
 t173:=underlying203
 a173:=isAgg203
 z173:=sizeOf203
 v173:=zeroValue203
 t212:=underlying236
 a212:=isAgg236
 z212:=sizeOf236
 v212:=zeroValue236
 t213:=underlying237
 a213:=isAgg237
 z213:=sizeOf237
 t232:=underlying109
 a232:=isAgg109
 z232:=sizeOf109
 v232:=zeroValue109
 t233:=underlying259
 a233:=isAgg259
 z233:=sizeOf259
 v233:=zeroValue259
 g17:=by kernel_rfl
 g18:=by kernel_rfl
 g19:=by kernel_rfl
 i0:=by kernel_rfl
 i2:=by kernel_rfl
 i3:=by kernel_rfl
 i4:=by kernel_rfl
 i5:=by kernel_rfl
 i9:=by kernel_rfl
 i20:=by kernel_rfl
 i37:=by kernel_rfl
 i46:=by kernel_rfl
 i51:=by kernel_rfl
 i53:=by kernel_rfl
 i171:=by kernel_rfl
 i173:=by kernel_rfl
 i212:=by kernel_rfl
 i232:=by kernel_rfl
 i233:=by kernel_rfl
 m17:=by kernel_rfl
 m18:=by kernel_rfl
 m19:=by kernel_rfl
}
def xX (w : World) : Prop := Lib.TabIs prog w "internal/strconv.uint64pow10" .u64 Lib.pow10Tab
theorem xX.below {w w':World} (h:xX w) (a:Below w.heap.size w w'):xX w':=Lib.tabBelow_of_tabIs h w' a
theorem MV (n:Int) (d:-9223372036854775808≤n) (a:n≤9223372036854775807) (w:World) (b:xX w):Calls prog 99 #[Iz n] w fun e w'=>e=.returned (.string ⟨(Lib.itoa n).toArray⟩)∧Below w.heap.size w w':=
 (Any.strconv_Itoa aHk n d a w b).mono fun e w' ⟨h,k,c,f⟩=>⟨h,by rw [f];exact Lib.below_grow _ w (Lr _) k c⟩
end Go.Proofs.YtncdpanfefnjlaaGreatDoor
namespace Go.Proofs.YtncdpanfefnjlaaGreatDoor
open Go.Proofs.Tryz
open Go Go.ChangeShapes Go.WideShapes Go.ChangeAt Go.RowKit
theorem fU {P:List (Ub)} {j:Nat} {p:Ub} (h:P[j]?=some p):dK (P.take (j+1))=dK (P.take j)++((if j=0 then [] else [44])++p):=by
 rw [Bf,h]
 show dK (P.take j++[p])=_
 by_cases b:j=0
 ·subst b;rfl
 ·have a:P.take j ≠ []:=by
   intro e;have:=Ad List.length e;have c:=dT h;rw [Bc] at this;simp only [Bz] at this;omega
  rw [EE _ _ a,Ae b];rfl
theorem sX (P:List (Ub)):∀j,(dK (P.take j)).length≤(dK P).length:=by
 have b:∀k j,j+k=P.length→(dK (P.take j)).length≤(dK P).length:=by
  intro k
  induction k with
  | zero=>intro j c;rw [Ak (by omega)];exact Lr _
  | succ k ih=>
   intro j c;have a:j<P.length:=by omega
   have:=ih (j+1) (by omega)
   rw [fU (Ac a),Lg] at this;omega
 intro j
 by_cases c:j≤P.length
 ·exact b (P.length - j) j (by omega)
 ·rw [Ak (by omega)];exact Lr _
theorem zN {P:List (Ub)} {j:Nat} {p:Ub} (h:P[j]?=some p):(dK (P.take j)).length+1+p.length≤(dK P).length+1:=by
 have:=sX P (j+1);rw [fU h,Lg,Lg] at this;omega
def aJe (v:Value) (l:Ub):Prop:=∃s:Bt,v=.string s∧s.data.toList=l
theorem eK {s:Bt} {l:Ub} (h:s.data.toList=l):s.size=l.length:=by rw [←h,Ah];rfl
theorem uA {s:Bt} {l:Ub} (h:s.data.toList=l):s=⟨l.toArray⟩:=by subst h;cases s;simp
theorem qL (l:Ub):(⟨l.toArray⟩:Bt).size=l.length:=by show l.toArray.size=_;simp
theorem aAl {W:ND→Ub} {ns:List Bt} {its:List ND} {j:Nat} {s:Bt} {y:ND} (a:ns[j]?=some s) (b:its[j]?=some y):(List.zipWith (fun s y=>bE s.data.toList++58::W y) ns its)[j]?=some (bE s.data.toList++58::W y):=by
 rw [List.getElem?_zipWith,a,b]
theorem NE (b:Bool) (w:World):Calls prog 98 #[.bool b] w fun e w'=>e=.returned (.string (if b then ⟨#[116,114,117,101]⟩ else ⟨#[102,97,108,115,101]⟩))∧w=w':=by
 cases b
 all_goals
  go_enter func98,ntmps98
  go_wp2
  go_ret
  exact ⟨rfl,rfl⟩
def uE (d:Nat):Prop:=∀ (D:Nat) (S:Nat→Prop) (a:Vl) (x:ND) (w:World),aD D S w a x→(∀b,S b→b<w.heap.size)→aC d x=true→aP d x=true→(aR d x).length≤35184372088832→xX w →
 Calls prog 67 #[.agg a.toArray] w fun e w'=>e=.returned (.string ⟨(aR d x).toArray⟩)∧Below w.heap.size w w'
theorem LO {d:Nat} (IH:uE d):uE (d+1):=by
 intro D S cs x w h hS hv hn c hT;obtain ⟨a1,l1,c1,a2,l2,c2,rfl⟩:=h.slices;have U:=(Br w.heap.size w).alloc (o:=.cells #[Iz x.kind,.bool x.bool,Iz x.num,.string x.text,.slice a1 l1 c1,.slice a2 l2 c2] 28) (Lr _);have G:=cG hn;have u:=aX hv;cases D with
 | zero=>exact h.elim
 | succ D=>
 obtain ⟨vn,vi,e,ht,K,B⟩:=h;simp only [Bu,Dd,Dj] at e;obtain ⟨rfl,rfl⟩:=e;have hk:=iF hv;obtain ⟨k,b,n,t,ns,its⟩:=x;simp only [ND.kind,ND.bool,ND.num,ND.text,ND.names,ND.items,nd0,ND.mk.injEq,Dj,Dd] at hk ht K B U G u ⊢;rcases hk with ⟨rfl,rfl,rfl,rfl,rfl,rfl⟩ | ⟨rfl,rfl,rfl,rfl,rfl⟩ | ⟨rfl,rfl,rfl,rfl,rfl⟩ | ⟨rfl,rfl,rfl,rfl,rfl⟩ | ⟨rfl,rfl,rfl,rfl,rfl⟩ | ⟨⟨rfl,rfl,rfl,rfl⟩,xc⟩
 ·clear K B G u hv hn c hT IH ht
  go_enter func67,ntmps67
  go_wp2
  go_ret
  exact ⟨rfl,U⟩
 ·have F:=Hh (fun M=>NE b M)
  clear K B G u hv hn c hT IH ht;cases b
  all_goals
   simp only [Bool.false_eq_true,if_false,if_true] at F
   go_enter func67,ntmps67
   go_wp2_with (go_at_call 98;(with_reducible refine (F.o _).mono ?_);rintro e w2 ⟨rfl,rfl⟩)
   go_ret
   exact ⟨rfl,U⟩
 ·obtain ⟨hw,-⟩:=G
  unfold dD at hw;rw [An,As,As] at hw;have F:=Hh (fun M h=>MV n hw.1 hw.2 M h)
  have HT:=Hh (hT.below U);have f:=Hh U;clear K B u hv hn c hT IH ht U
  go_enter func67,ntmps67
  go_wp2_with (go_at_call 99;(with_reducible refine (F.o _ HT.o).mono ?_);rintro e w2 ⟨rfl,xv⟩)
  go_ret
  exact ⟨rfl,f.o.trans (xv.mono f.o.size)⟩
 ·have hs:=gX u.2.2.1
  have F:=Hh (fun M=>zS t M (by have:t.data.toList.length=t.size:=(by rw [Ah];rfl);omega))
  have f:=Hh U;clear K B G u hv hn c hT IH U hs
  go_enter func67,ntmps67
  go_wp2_with (go_at_call 100;(with_reducible refine (F.o _).mono ?_);rintro e w2 ⟨rfl,xv⟩)
  go_ret
  exact ⟨rfl,f.o.trans (xv.mono f.o.size)⟩
 ·have xh:=sI d its
  rw [xh] at c ⊢;obtain ⟨P,hP⟩:∃P,P=its.map (aR d):=⟨_,rfl⟩;rw [←hP] at c ⊢;have C:(dK P).length≤35184372088830:=by rw [Ag,Lg,Dx] at c;omega
  obtain ⟨ai,ci,ei,yo,yn,-⟩:=id B;have xw:l2=its.length:=by cases ei;rfl
  subst xw;clear ei;have xu:=u.2.1;have ck:=aA (Hn w (.cells #[Iz 4,.bool false,Iz 0,.string ⟨#[]⟩,.slice a1 l1 c1,.slice a2 its.length c2] 28));have z:w.heap.size<(w.alloc (.cells #[Iz 4,.bool false,Iz 0,.string ⟨#[]⟩,.slice a1 l1 c1,.slice a2 its.length c2] 28)).heap.size:=by simp
  generalize x5:w.alloc (.cells #[Iz 4,.bool false,Iz 0,.string ⟨#[]⟩,.slice a1 l1 c1,.slice a2 its.length c2] 28)=V at U ck z;have H:=Hh B;have r:=Hh hS;have HV:=Hh u;have x6:=Hh G;have HT:=Hh hT;have HP:=Hh hP;have N:=Hh C;have HI:=Hh IH;have f:=Hh U;have CK:=Hh ck;have WL:=Hh z;clear B K hS u G hT hP C IH U z c xh hn hv ht
  go_enter func67,ntmps67
  go_upto_region 1 with fail
  clear x5
  go_upto_region 12 with fail
  clear ck
  go_loopw [3,29] (fun v i wr=>∃ (j:Nat),i=Iz j∧j≤its.length∧aJe v (dK (P.take j))∧Below V.heap.size V wr) (fun _ i _=>its.length - (intOf i).toNat)
  case atStart=>exact ⟨0,rfl,Av _,⟨_,rfl,by simp [dK]⟩,Br _ _⟩
  case round=>
   obtain ⟨j,rfl,hj,⟨A,rfl,T⟩,g⟩:=hrel;have ya:wr.heap[w.heap.size]?=V.heap[w.heap.size]?:=g.block _ WL.o;have ck:wr.cell? ⟨w.heap.size,0,none⟩=_∧wr.cell? ⟨w.heap.size,4,none⟩=_:=⟨(g.cell (p:=⟨w.heap.size,0,none⟩) WL.o).trans CK.o.1,(g.cell (p:=⟨w.heap.size,4,none⟩) WL.o).trans CK.o.2.2.2.2.1⟩
   by_cases xq:j<its.length
   ·have xk:(j:Int)<(its.length:Int):=by omega
    have yr:(0:Int)≤(j:Int):=by omega
    obtain ⟨-,-,-,b,a,y,a3,l3,c3,a4,l4,c4,rfl,l,hx,xe,k0,k1,k2,k3,k4,k5⟩:=H.o.at xq;have m:=Ll (r.o b l) f.o.size;have q0:=((g.cell (p:=⟨b,a+j * 6,none⟩) m).trans (f.o.cell (p:=⟨b,a+j * 6,none⟩) (r.o b l))).trans k0;have q1:=((g.cell (p:=⟨b,a+j * 6+1,none⟩) m).trans (f.o.cell (p:=⟨b,a+j * 6+1,none⟩) (r.o b l))).trans k1;have q2:=((g.cell (p:=⟨b,a+j * 6+2,none⟩) m).trans (f.o.cell (p:=⟨b,a+j * 6+2,none⟩) (r.o b l))).trans k2;have q3:=((g.cell (p:=⟨b,a+j * 6+3,none⟩) m).trans (f.o.cell (p:=⟨b,a+j * 6+3,none⟩) (r.o b l))).trans k3;have q4:=((g.cell (p:=⟨b,a+j * 6+4,none⟩) m).trans (f.o.cell (p:=⟨b,a+j * 6+4,none⟩) (r.o b l))).trans k4;have q5:=((g.cell (p:=⟨b,a+j * 6+5,none⟩) m).trans (f.o.cell (p:=⟨b,a+j * 6+5,none⟩) (r.o b l))).trans k5;clear k0 k1 k2 k3 k4 k5;have xg:=HV.o.1 y (Ao hx);have xi:=x6.o.2 y (Ao hx);have R:P[j]?=some (aR d y):=by rw [HP.o,Be,hx];rfl
    have xm:=zN R;have L:=fU R;have xj:=eK T;have yb:(aR d y).length≤35184372088830:=by have:=N.o;omega
    have xo:A.size≤35184372088830:=by have:=N.o;omega
    have WR:=Hh (fun (M:World) (hb:Below V.heap.size V M)=>HI.o D S _ y M (xe.same fun b E=>(hb.block b (Ll (r.o b E) f.o.size)).trans (f.o.block b (r.o b E))) (fun b E=>Ll (r.o b E) (Af f.o.size hb.size)) xg xi (by omega) ((HT.o.below f.o).below (hb.mono (Lr _))))
    have bA:=g.alloc (o:=.cells #[Iz y.kind,.bool y.bool,Iz y.num,.string y.text,.slice a3 l3 c3,.slice a4 l4 c4] 28) g.size;have cA:=aA (Hn wr (.cells #[Iz y.kind,.bool y.bool,Iz y.num,.string y.text,.slice a3 l3 c3,.slice a4 l4 c4] 28));have J:wr.heap.size<(wr.alloc (.cells #[Iz y.kind,.bool y.bool,Iz y.num,.string y.text,.slice a3 l3 c3,.slice a4 l4 c4] 28)).heap.size:=by simp
    have yp:V.heap.size≤wr.heap.size:=g.size;obtain ⟨Y,hY⟩:∃Y,Y=aR d y:=⟨_,rfl⟩;rw [←hY] at yb L WR;obtain ⟨yy,I⟩:∃yy:Bt,yy=⟨Y.toArray⟩:=⟨_,rfl⟩;rw [←I] at WR;have x7:yy.size=Y.length:=by rw [I];exact qL Y
    have xx:Hid (yy.data.toList=Y):=Hh (by rw [I])
    have xp:=Hh L;have HA:=Hh T;have HB:=Hh g;have CA:=Hh cA;clear R xm L T hx xe xg xi hY cA g ya I
    go_upto_region 14 with fail
    generalize wr.alloc (.cells #[Iz y.kind,.bool y.bool,Iz y.num,.string y.text,.slice a3 l3 c3,.slice a4 l4 c4] 28)=wa at bA CA J ⊢;have BA:=Hh bA;have CX:Hid (wa.cell? ⟨w.heap.size,0,none⟩=some (Iz 4)∧wa.cell? ⟨w.heap.size,4,none⟩=some (.slice a1 l1 c1)):=Hh ⟨(bA.cell (p:=⟨w.heap.size,0,none⟩) WL.o).trans CK.o.1,(bA.cell (p:=⟨w.heap.size,4,none⟩) WL.o).trans CK.o.2.2.2.2.1⟩;clear bA ck;have x9:¬9223372036854775807<A.size+1:=by omega
    go_upto_if 35 with fail
    go_cut [3] from 35 to 54 (fun v M=>∃W,v=.string W∧W.data.toList=dK (P.take j)++(if j=0 then [] else [44])∧M=wa)
    case first=>
     by_cases yf:0<j
     ·have xa:(0:Int)<(j:Int):=by omega
      go_wp2
      go_meet
      case rel=>exact ⟨_,rfl,by rw [Cp,Dw,HA.o,Ae (by omega)],rfl⟩
     ·have xa:¬ (0:Int)<(j:Int):=by omega
      go_wp2
      go_meet
      case rel=>exact ⟨_,rfl,by rw [HA.o,Am (by omega)];simp,rfl⟩
    case rest=>
     obtain ⟨W,rfl,Q,rfl⟩:=hcut;have yc:W.size≤35184372088831:=by
      have:=eK Q;rw [Lg] at this;have h2:=eK HA.o;have:(if j=0 then ([]:Ub) else [44]).length≤1:=by split <;> simp
      omega
     have xz:=Hh Q;have ca:=CA.o;have cx:=CX.o;clear Q;have xb:¬9223372036854775807<W.size+yy.size:=by omega
     clear x7
     go_wp2_with (go_at_call 67;(with_reducible refine (WR.o _ BA.o).mono ?_);rintro e wn ⟨rfl,X⟩)
     have x8:=BA.o.trans (X.mono BA.o.size);clear X
     go_roundw
     case rel=>
      refine ⟨j+1,by go_num,by omega,⟨_,rfl,?_⟩,x8⟩
      rw [xp.o];simp only [Cp,Dw,xz.o,xx.o,Aj]
      try simp
     case measure=>simp [intOf];omega
   ·have xk:¬ (j:Int)<(its.length:Int):=by omega
    have xy:P.length≤its.length:=by rw [HP.o];simp [Dg];try omega
    rw [Ak (by omega)] at T
    have xj:=eK T;have xo:A.size≤35184372088830:=by have:=N.o;omega
    have HA:=Hh T;have xb:¬9223372036854775807<1+A.size:=by omega
    have xd:¬9223372036854775807<1+A.size+1:=by omega
    clear T xj xy
    go_wp2
    go_ret
    refine ⟨?_,f.o.trans (g.mono f.o.size)⟩;refine Ad (fun q=>Ending.returned (.string q)) (uA ?_)
    simp [Cp,HA.o]
 ·have xh:=sH d ns its
  rw [xh] at c ⊢;obtain ⟨P,hP⟩:∃P,P=List.zipWith (fun s y=>bE s.data.toList++58::aR d y) ns its:=⟨_,rfl⟩
  rw [←hP] at c ⊢;have C:(dK P).length≤35184372088830:=by rw [Ag,Lg,Dx] at c;omega
  obtain ⟨ai,ci,ei,yo,yn,-⟩:=id B;have xw:l2=its.length:=by cases ei;rfl
  subst xw;clear ei;have ye:l1=ns.length:=by obtain ⟨_,_,e,_⟩:=id K;cases e;rfl
  have xu:=u.2.1;have ck:=aA (Hn w (.cells #[Iz 5,.bool false,Iz 0,.string ⟨#[]⟩,.slice a1 l1 c1,.slice a2 its.length c2] 28));have z:w.heap.size<(w.alloc (.cells #[Iz 5,.bool false,Iz 0,.string ⟨#[]⟩,.slice a1 l1 c1,.slice a2 its.length c2] 28)).heap.size:=by simp
  generalize x5:w.alloc (.cells #[Iz 5,.bool false,Iz 0,.string ⟨#[]⟩,.slice a1 l1 c1,.slice a2 its.length c2] 28)=V at U ck z;have H:=Hh B;have HN:=Hh K;have r:=Hh hS;have HV:=Hh u;have x6:=Hh G;have HT:=Hh hT;have HP:=Hh hP;have N:=Hh C;have HI:=Hh IH;have f:=Hh U;have CK:=Hh ck;have WL:=Hh z;have xr:=Hh xc;have yk:=Hh ye;clear B K hS u G hT hP C IH U z c xh hn hv ht xc ye
  go_enter func67,ntmps67
  go_upto_region 1 with fail
  clear x5
  go_upto_region 12 with fail
  clear ck
  go_loopw [3,29] (fun v i wr=>∃ (j:Nat),i=Iz j∧j≤its.length∧aJe v (dK (P.take j))∧Below V.heap.size V wr) (fun _ i _=>its.length - (intOf i).toNat)
  case atStart=>exact ⟨0,rfl,Av _,⟨_,rfl,by simp [dK]⟩,Br _ _⟩
  case round=>
   obtain ⟨j,rfl,hj,⟨A,rfl,T⟩,g⟩:=hrel;have ya:wr.heap[w.heap.size]?=V.heap[w.heap.size]?:=g.block _ WL.o;have ck:wr.cell? ⟨w.heap.size,0,none⟩=_∧wr.cell? ⟨w.heap.size,4,none⟩=_:=⟨(g.cell (p:=⟨w.heap.size,0,none⟩) WL.o).trans CK.o.1,(g.cell (p:=⟨w.heap.size,4,none⟩) WL.o).trans CK.o.2.2.2.2.1⟩
   by_cases xq:j<its.length
   ·have xk:(j:Int)<(its.length:Int):=by omega
    have yr:(0:Int)≤(j:Int):=by omega
    obtain ⟨-,-,-,b,a,y,a3,l3,c3,a4,l4,c4,rfl,l,hx,xe,k0,k1,k2,k3,k4,k5⟩:=H.o.at xq;have m:=Ll (r.o b l) f.o.size;have q0:=((g.cell (p:=⟨b,a+j * 6,none⟩) m).trans (f.o.cell (p:=⟨b,a+j * 6,none⟩) (r.o b l))).trans k0;have q1:=((g.cell (p:=⟨b,a+j * 6+1,none⟩) m).trans (f.o.cell (p:=⟨b,a+j * 6+1,none⟩) (r.o b l))).trans k1;have q2:=((g.cell (p:=⟨b,a+j * 6+2,none⟩) m).trans (f.o.cell (p:=⟨b,a+j * 6+2,none⟩) (r.o b l))).trans k2;have q3:=((g.cell (p:=⟨b,a+j * 6+3,none⟩) m).trans (f.o.cell (p:=⟨b,a+j * 6+3,none⟩) (r.o b l))).trans k3;have q4:=((g.cell (p:=⟨b,a+j * 6+4,none⟩) m).trans (f.o.cell (p:=⟨b,a+j * 6+4,none⟩) (r.o b l))).trans k4;have q5:=((g.cell (p:=⟨b,a+j * 6+5,none⟩) m).trans (f.o.cell (p:=⟨b,a+j * 6+5,none⟩) (r.o b l))).trans k5;clear k0 k1 k2 k3 k4 k5;have xg:=HV.o.1 y (Ao hx);have xi:=x6.o.2 y (Ao hx);obtain ⟨-,-,-,bn,on,rfl,xl,yd,yw⟩:=HN.o.at (j:=j) (by have:=xr.o;omega)
    have xf:=((g.cell (p:=⟨bn,on+j,none⟩) (Ll (r.o bn xl) f.o.size)).trans (f.o.cell (p:=⟨bn,on+j,none⟩) (r.o bn xl))).trans yd;have yj:j<ns.length:=by have:=xr.o;omega
    obtain ⟨sn,xs⟩:∃s,s=ns[j]:=⟨_,rfl⟩;have xt:ns[j]?=some sn:=by rw [xs];exact Ac yj
    rw [←xs] at xf;have R:P[j]?=some (bE sn.data.toList++58::aR d y):=by rw [HP.o];exact aAl xt hx
    have yh:=gX (HV.o.2.2.2 sn (Ao xt));have yt:sn.size≤65536:=by have h:sn.data.toList.length=sn.size:=(by rw [Ah];rfl);omega
    have FQ:=Hh (fun M=>zS sn M (by omega))
    have ys:(j:Int)<(l1:Int):=by have:=yk.o;have:=xr.o;omega
    clear yd xs xt yh;have xm:=zN R;have L:=fU R;have xj:=eK T;rw [Lg,Ag] at xm;have yb:(aR d y).length≤35184372088830:=by have:=N.o;omega
    have xo:A.size≤35184372088830:=by have:=N.o;omega
    have yg:(bE sn.data.toList).length≤35184372088830:=by have:=N.o;omega
    have WR:=Hh (fun (M:World) (hb:Below V.heap.size V M)=>HI.o D S _ y M (xe.same fun b E=>(hb.block b (Ll (r.o b E) f.o.size)).trans (f.o.block b (r.o b E))) (fun b E=>Ll (r.o b E) (Af f.o.size hb.size)) xg xi (by omega) ((HT.o.below f.o).below (hb.mono (Lr _))))
    have bA:=g.alloc (o:=.cells #[Iz y.kind,.bool y.bool,Iz y.num,.string y.text,.slice a3 l3 c3,.slice a4 l4 c4] 28) g.size;have cA:=aA (Hn wr (.cells #[Iz y.kind,.bool y.bool,Iz y.num,.string y.text,.slice a3 l3 c3,.slice a4 l4 c4] 28));have J:wr.heap.size<(wr.alloc (.cells #[Iz y.kind,.bool y.bool,Iz y.num,.string y.text,.slice a3 l3 c3,.slice a4 l4 c4] 28)).heap.size:=by simp
    have yp:V.heap.size≤wr.heap.size:=g.size;obtain ⟨Y,hY⟩:∃Y,Y=aR d y:=⟨_,rfl⟩;rw [←hY] at yb L WR;obtain ⟨yy,I⟩:∃yy:Bt,yy=⟨Y.toArray⟩:=⟨_,rfl⟩;rw [←I] at WR;have x7:yy.size=Y.length:=by rw [I];exact qL Y
    have xx:Hid (yy.data.toList=Y):=Hh (by rw [I])
    obtain ⟨Z,hZ⟩:∃Z,Z=bE sn.data.toList:=⟨_,rfl⟩;rw [←hZ] at yg L FQ;obtain ⟨zz,xn⟩:∃zz:Bt,zz=⟨Z.toArray⟩:=⟨_,rfl⟩;rw [←xn] at FQ;have ym:zz.size=Z.length:=by rw [xn];exact qL Z
    have yi:Hid (zz.data.toList=Z):=Hh (by rw [xn])
    have xp:=Hh L;have HA:=Hh T;have HB:=Hh g;have CA:=Hh cA;clear R xm L T hx xe xg xi hY cA g ya I hZ xn
    go_upto_region 14 with fail
    generalize wr.alloc (.cells #[Iz y.kind,.bool y.bool,Iz y.num,.string y.text,.slice a3 l3 c3,.slice a4 l4 c4] 28)=wa at bA CA J ⊢;have BA:=Hh bA;have CX:Hid (wa.cell? ⟨w.heap.size,0,none⟩=some (Iz 5)∧wa.cell? ⟨w.heap.size,4,none⟩=some (.slice (some ⟨bn,on,none⟩) l1 c1)):=Hh ⟨(bA.cell (p:=⟨w.heap.size,0,none⟩) WL.o).trans CK.o.1,(bA.cell (p:=⟨w.heap.size,4,none⟩) WL.o).trans CK.o.2.2.2.2.1⟩;have CN:Hid (wa.cell? ⟨bn,on+j,none⟩=some (.string sn)):=Hh ((BA.o.cell (p:=⟨bn,on+j,none⟩) (Ll (r.o bn xl) f.o.size)).trans (((HB.o.cell (p:=⟨bn,on+j,none⟩) (Ll (r.o bn xl) f.o.size)).symm.trans xf)));clear bA ck xf;have x9:¬9223372036854775807<A.size+1:=by omega
    go_upto_if 35 with fail
    go_cut [3] from 35 to 54 (fun v M=>∃W,v=.string W∧W.data.toList=dK (P.take j)++(if j=0 then [] else [44])∧M=wa)
    case first=>
     by_cases yf:0<j
     ·have xa:(0:Int)<(j:Int):=by omega
      go_wp2
      go_meet
      case rel=>exact ⟨_,rfl,by rw [Cp,Dw,HA.o,Ae (by omega)],rfl⟩
     ·have xa:¬ (0:Int)<(j:Int):=by omega
      go_wp2
      go_meet
      case rel=>exact ⟨_,rfl,by rw [HA.o,Am (by omega)];simp,rfl⟩
    case rest=>
     obtain ⟨W,rfl,Q,rfl⟩:=hcut;have yc:W.size≤35184372088831:=by
      have:=eK Q;rw [Lg] at this;have h2:=eK HA.o;have:(if j=0 then ([]:Ub) else [44]).length≤1:=by split <;> simp
      omega
     have xz:=Hh Q;have ca:=CA.o;have cx:=CX.o;have cn:=CN.o;clear Q;have xd:¬9223372036854775807<zz.size+1:=by omega
     have yl:¬9223372036854775807<W.size+(zz.size+1):=by omega
     have yq:¬9223372036854775807<W.size+(zz.size+1)+yy.size:=by omega
     clear x7 ym
     go_wp2_with fail
     go_at_call 100
     (with_reducible refine (FQ.o _).mono ?_);rintro e wq ⟨rfl,O⟩
     have BQ:=BA.o.trans (O.mono BA.o.size);have y1:=(O.cell (p:=⟨wr.heap.size,0,none⟩) J).trans ca.1;have yz:=(O.cell (p:=⟨wr.heap.size,1,none⟩) J).trans ca.2.1;have y0:=(O.cell (p:=⟨wr.heap.size,2,none⟩) J).trans ca.2.2.1;have yv:=(O.cell (p:=⟨wr.heap.size,3,none⟩) J).trans ca.2.2.2.1;have yu:=(O.cell (p:=⟨wr.heap.size,4,none⟩) J).trans ca.2.2.2.2.1;have yx:=(O.cell (p:=⟨wr.heap.size,5,none⟩) J).trans ca.2.2.2.2.2;clear ca O cx cn
     go_wp2_with (go_at_call 67;(with_reducible refine (WR.o _ BQ).mono ?_);rintro e wn ⟨rfl,X⟩)
     have x8:=BQ.trans (X.mono BQ.size);clear X
     go_roundw
     case rel=>
      refine ⟨j+1,by go_num,by omega,⟨_,rfl,?_⟩,x8⟩
      rw [xp.o];simp only [Cp,Dw,xz.o,xx.o,yi.o,Aj]
      try simp
     case measure=>simp [intOf];omega
   ·have xk:¬ (j:Int)<(its.length:Int):=by omega
    have xy:P.length≤its.length:=by rw [HP.o];simp [Dg];try omega
    rw [Ak (by omega)] at T
    have xj:=eK T;have xo:A.size≤35184372088830:=by have:=N.o;omega
    have HA:=Hh T;have xb:¬9223372036854775807<1+A.size:=by omega
    have xd:¬9223372036854775807<1+A.size+1:=by omega
    clear T xj xy
    go_wp2
    go_ret
    refine ⟨?_,f.o.trans (g.mono f.o.size)⟩;refine Ad (fun q=>Ending.returned (.string q)) (uA ?_)
    simp [Cp,HA.o]
end Go.Proofs.YtncdpanfefnjlaaGreatDoor