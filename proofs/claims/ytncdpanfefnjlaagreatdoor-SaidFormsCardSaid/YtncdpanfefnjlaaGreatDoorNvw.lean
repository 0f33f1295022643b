import Derived.Test.YtncdpanfefnjlaaGreatDoorProg
import Derived.Test.YtncdpanfefnjlaaGreatDoorRows
import Derived.Test.YtncdpanfefnjlaaGreatDoorMfc
set_option linter.unusedVariables false
set_option linter.unusedSimpArgs false
set_option maxHeartbeats 3200000
set_option maxRecDepth 100000
namespace Go.Proofs.YtncdpanfefnjlaaGreatDoor
open Go.Proofs.Tryz
open Go.Shelf Go.RowKit Go.Lib
def aKu:Go.Shelf.Ren:=⟨fun | 196=>111 | 259=>125 | n=>n,fun | 0=>0 | 3=>3 | 4=>4 | 5=>5 | 9=>9 | 12=>12 | 46=>85 | 53=>130 | 119=>160 | 138=>162 | 139=>163 | n=>n,fun | 3=>3 | 4=>4 | n=>n⟩
theorem UT:Go.Proofs.Lays.n196 prog aKu:={
 mixed:=by kernel_rfl
 f196:=Tryz.func111.trans (Ad some (by kernel_rfl))
 f259:=Tryz.func125.trans (Ad some (by kernel_rfl))
 t0:=underlying0
 a0:=isAgg0
 z0:=sizeOf0
 v0:=zeroValue0
 t3:=underlying3
 a3:=isAgg3
 z3:=sizeOf3
 v3:=zeroValue3
 t4:=underlying4
 a4:=isAgg4
 z4:=sizeOf4
 v4:=zeroValue4
 t5:=underlying5
 a5:=isAgg5
 z5:=sizeOf5
 v5:=zeroValue5
 t9:=underlying9
 a9:=isAgg9
 z9:=sizeOf9
 v9:=zeroValue9
 t12:=underlying12
 a12:=isAgg12
 z12:=sizeOf12
 v12:=zeroValue12
 t46:=underlying85
 a46:=isAgg85
 z46:=sizeOf85
 v46:=zeroValue85
 t53:=underlying130
 a53:=isAgg130
 z53:=sizeOf130
 v53:=zeroValue130
 t119:=underlying160
 a119:=isAgg160
 z119:=sizeOf160
 t138:=underlying162
 a138:=isAgg162
 z138:=sizeOf162
 v138:=zeroValue162
 t139:=underlying163
 a139:=isAgg163
 z139:=sizeOf163
 v139:=zeroValue163
 g3:=by kernel_rfl
 g4:=by kernel_rfl
}
theorem aJk:U8Extra prog aKu:=⟨by kernel_rfl,by kernel_rfl,by kernel_rfl,by kernel_rfl,by kernel_rfl,by kernel_rfl,by kernel_rfl⟩
def jR (w:World):Prop:=Lib.Utf8Tabs 3 4 w
theorem jR.of {w : World} (a : VarReads prog w "unicode/utf8.first" firstData) (b : VarReads prog w "unicode/utf8.acceptRanges" acceptData) : jR w := utf8Tabs_of_readsT (U8Types.of196 UT) aJk a b
theorem DW (s:Bt) (w:World) (b:s.size≤maxLen) (a:jR w):Calls prog 111 #[.string s] w fun e w'=>e=.returned (.bool (Lib.validD s.data.toList))∧Below w.heap.size w w':=
 Any.utf8_ValidString UT s w (Af b (by decide)) a
end Go.Proofs.YtncdpanfefnjlaaGreatDoor
namespace Go.Proofs.YtncdpanfefnjlaaGreatDoor
open Go.Proofs.Tryz
open Go Go.Maps Go.ChangeShapes Go.WideShapes Go.ChangeAt Go.RowKit
def cL (k:Int) (b:Bool) (n:Int) (t:Bt) (a c:Nat):Bool:=
 decide (0≤k) && decide (k≤5) && (!b || decide (k=1)) && (decide (n=0) || decide (k=2)) && (decide (t=⟨#[]⟩) || decide (k=3)) && (decide (c=0) || decide (4≤k)) && (decide (a=0) || decide (k=5))
theorem aEz (l:Nat):((l:Int) == 0)=decide (l=0):=by
 by_cases h:l=0
 ·simp [h]
 ·simp [h]
theorem KY (t:Bt):t=⟨#[]⟩↔t.toList=[]:=by
 constructor
 ·rintro rfl;rw [ByteArray.toList_eq]
 ·intro h
  rw [ByteArray.toList_eq] at h;obtain ⟨⟨l⟩⟩:=t;simp at h;rw [h]
theorem aCe (k:Int) (b:Bool) (n:Int) (t:Bt) (h l:Option Addr) (f c1 d c2:Nat) (w:World):Calls prog 77 #[.agg #[Iz k,.bool b,Iz n,.string t,.slice h f c1,.slice l d c2]] w fun e w'=>e=.returned (.bool (cL k b n t f d))∧Below w.heap.size w w':=by
 have a:=KY t;have j:=Hh a;clear a;rcases Int.lt_or_le k 0 with i | i
 ·go_enter func77,ntmps77
  go_wp2
  go_ret
  exact ⟨by have:decide (0≤k)=false:=Ar (by omega);simp [cL,this],(Br _ _).alloc (Lr _) _⟩
 rcases Int.lt_or_le 5 k with c | c
 ·have g:¬k<0:=by omega
  go_enter func77,ntmps77
  go_wp2
  go_ret
  exact ⟨by have:decide (k≤5)=false:=Ar (by omega);simp [cL,this],(Br _ _).alloc (Lr _) _⟩
 obtain rfl | rfl | rfl | rfl | rfl | rfl:k=0∨k=1∨k=2∨k=3∨k=4∨k=5:=by omega
 all_goals
  go_enter func77,ntmps77
  go_wp2
  all_goals
   go_ret
   exact ⟨by simp [cL,j.o,aEz, *],(Br _ _).alloc (Lr _) _⟩
theorem jR.below {w w':World} (h:jR w) (a:Below w.heap.size w w'):jR w':=Utf8Tabs_below h a
theorem DT (s:Bt) (w:World) (f:s.size≤maxLen - 2) (a:jR w):Calls prog 78 #[.string s] w fun e w'=>e=.returned (.bool (aZ s))∧Below w.heap.size w w':=by
 unfold maxLen at f;have V:=Hh (DW s w (by unfold maxLen;omega) a)
 by_cases h:s.size≤65536
 ·have d:(s.size:Int)≤65536:=by omega
  have e:aZ s=Lib.validD s.data.toList:=by unfold aZ;rw [Ap h];rfl
  rw [e];clear e a;generalize Lib.validD s.data.toList=b at V ⊢
  go_enter func78,ntmps78
  go_wp2_with (go_at_call 111;(with_reducible refine (V.o).mono ?_);rintro e g ⟨rfl,c⟩)
  go_ret
  exact ⟨rfl,c⟩
 ·have d:¬ (s.size:Int)≤65536:=by omega
  have e:aZ s=false:=by unfold aZ;rw [Ar h];rfl
  rw [e];clear e a
  go_enter func78,ntmps78
  go_wp2
  go_ret
  exact ⟨rfl,Br _ _⟩
def jI (ns:List Bt) (a:Nat):Bool:=decide (ns.length=a) && (ns.all aZ && decide ns.Nodup)
theorem bH.at {S:Nat→Prop} {w:World} {d:Option Addr} {l c:Nat} {ns:List Bt} (h:bH S w (.slice d l c) ns) {j:Nat} (o:j<ns.length):l=ns.length∧l≤c∧c≤maxLen∧∃b a,d=some ⟨b,a,none⟩∧S b∧w.cell? ⟨b,a+j,none⟩=some (.string ns[j])∧ns[j].size≤maxLen - 2:=by
 obtain ⟨i,f,e,g,n,m⟩:=h;cases e;obtain ⟨b,a,rfl,k,p,q⟩:=m j _ (Ac o);exact ⟨rfl,g,n,b,a,rfl,k,p,q⟩
theorem lF:Keyed prog 9:=string_keyed underlying9
theorem KG (w:World):(zeroValue 4).run prog w=.ok (.bool false) w:=by kernel_rfl
theorem PM {S:Nat→Prop} (k:Int) (b:Bool) (n:Int) (t:Bt) (U Y:Option Addr) (l1 c1 r c2:Nat) (ns:List Bt) (w:World) (h:bH S w (.slice U l1 c1) ns) (hS:∀b,S b→b<w.heap.size) (xo:r≤1000000) (hT:jR w) :
 Calls prog 79 #[.agg #[Iz k,.bool b,Iz n,.string t,.slice U l1 c1,.slice Y r c2]] w fun e w'=>e=.returned (.bool (jI ns r))∧Below w.heap.size w w':=by
 obtain ⟨ao,xt,e,xp,xh,xl⟩:=id h;cases e;unfold maxLen at xh;have H:=Hh h;have HS:=Hh hS;have HT:=Hh hT;have xq:=@run_makeMap prog;clear h hS hT xl
 by_cases l:ns.length=r
 ·have R:((ns.length:Int) != (r:Int))=false:=by simp [l]
  have hl:ns.length≤1000000:=by omega
  have xb:=Hh l;have B2:Below w.heap.size w ((w.alloc (.cells #[Iz k,.bool b,Iz n,.string t,.slice U ns.length c1,.slice Y r c2] 28)).alloc (.map #[] 0)):=((Br _ _).alloc (Lr _) _).alloc (by simp) _
  have d:dH prog 9 4 ((w.alloc (.cells #[Iz k,.bool b,Iz n,.string t,.slice U ns.length c1,.slice Y r c2] 28)).alloc (.map #[] 0)) (w.heap.size+1) []:=by
   have:=dH.made (w.alloc (.cells #[Iz k,.bool b,Iz n,.string t,.slice U ns.length c1,.slice Y r c2] 28)) prog 9 4;rw [show (w.alloc (.cells #[Iz k,.bool b,Iz n,.string t,.slice U ns.length c1,.slice Y r c2] 28)).heap.size=w.heap.size+1 by simp] at this
   exact this
  have J:=Hh d;clear d l
  go_enter func79,ntmps79
  go_wp2
  go_loopw [5,17] (fun s5 i wr=>∃j:Nat,i=Iz j∧j≤ns.length∧dH prog 9 4 wr (w.heap.size+1) (ns.take j).reverse∧(∀s,s ∈ ns.take j→aZ s=true)∧(ns.take j).Nodup∧Below w.heap.size w wr) (fun _ i _=>ns.length - (intOf i).toNat)
  case atStart=>exact ⟨0,rfl,Av _,J.o,(fun s h=>by simp at h),by simp,B2⟩
  case round=>
   obtain ⟨j,rfl,hj,d,C,B,z⟩:=hrel;clear J B2
   by_cases G:j<ns.length
   ·have xc:(j:Int)<(ns.length:Int):=by omega
    have xs:(0:Int)≤(j:Int):=by omega
    obtain ⟨-,-,-,bb,xn,rfl,xj,hc,hs⟩:=H.o.at G;have xi:=(z.cell (p:=⟨bb,xn+j,none⟩) (HS.o bb xj)).trans hc;obtain ⟨s,T⟩:∃s,s=ns[j]:=⟨_,rfl⟩;rw [←T] at hc hs xi;have N:ns[j]?=some s:=by rw [Ac G,T]
    have xa:ns.take (j+1)=ns.take j++[s]:=by rw [Bf,N];rfl
    have V:=Hh (DT s wr hs (HT.o.below z));have f:=Ck (P:=prog) (k:=9) (s:=s) underlying9 (by unfold maxLen at hs ⊢;omega)
    have O:=Hh xa;have X:=Hh N;have xe:=Hh C;have xg:=Hh B;have M:=Hh d;clear hc hs T N xa C B d
    by_cases x:aZ s=true
    ·rw [x] at V
     by_cases v:s ∈ ns.take j
     ·have g:jI ns r=false:=by
       have:¬ns.Nodup:=fun hn=>by
        rw [List.nodup_iff_pairwise_ne,List.pairwise_iff_getElem] at hn;obtain ⟨q,hq,e⟩:=List.getElem_of_mem v;rw [Bc] at hq;rw [List.getElem_take] at e;refine hn q j (by omega) G (by omega) ?_
        rw [e];have:=X.o;rw [Ac G] at this;exact (Ab this).symm
       unfold jI;rw [Ar this,Bool.and_false,Bool.and_false]
      have F:=Hh g;have L:=fun wx (h:dH prog 9 4 wx (w.heap.size+1) (ns.take j).reverse)=>h.look (t:=127) lF underlying127 underlying4 (KG wx) s f
      rw [(qG s _).2 (List.mem_reverse.2 v)] at L;have LL:=Hh L;clear L g v f
      go_wp2_with (go_at_call 78;(with_reducible refine (V.o).mono ?_);rintro e w1 ⟨rfl,c⟩;(have E:=LL.o w1 (M.o.below c));(have m:=z.trans (c.mono z.size));clear c z)
      go_ret
      exact ⟨by rw [F.o];rfl,m⟩
     ·have L:=fun wx (h:dH prog 9 4 wx (w.heap.size+1) (ns.take j).reverse)=>h.look (t:=127) lF underlying127 underlying4 (KG wx) s f
      have I:inB s (ns.take j).reverse=false:=by
       cases hq:inB s (ns.take j).reverse with
       | false=>rfl
       | true=>exact absurd (List.mem_reverse.1 ((qG s _).1 hq)) v
      rw [I] at L;have LL:=Hh L;have xf:=Hh v;have xd:=Hh f;have xr:(ns.take j).reverse.length<1000000:=by rw [List.length_reverse,Bc];omega
      have xk:=Hh x;clear L v f I x
      go_wp2_with (first
       | (go_at_call 78;(with_reducible refine (V.o).mono ?_);rintro e w1 ⟨rfl,c⟩;(have E:=LL.o w1 (M.o.below c));(have m:=z.trans (c.mono z.size));(have A:=M.o.below c);clear c z)
       | (at_mapUpdate;refine Dq _ rfl _ _ _ 127 rfl 9 4 lF underlying127 _ (w.heap.size+1) (ns.take j).reverse.length _ rfl A (by unfold maxLen;omega) _ _ _ rfl rfl xd.o _ [] (plainElem_bool underlying4 true) ?_;intro w2 D u))
      have Q:dH prog 9 4 w2 (w.heap.size+1) (s::(ns.take j).reverse):=dH.put D;have xm:=gI m u m.size (by omega)
      clear D u m A E
      go_wp2
      go_roundw
      case rel=>
       refine ⟨j+1,by go_num,by omega,?_,?_,?_,xm⟩
       ·rw [O.o,List.reverse_append];exact Q
       ·intro y W
        rw [O.o] at W;rcases Bg.1 W with W | W
        ·exact xe.o y W
        ·cases At.1 W;exact xk.o
       ·rw [O.o,List.nodup_append]
        refine ⟨xg.o,by simp,fun a ha b hb=>?_⟩
        cases At.1 hb;intro e;subst e;exact xf.o ha
      case measure=>simp [intOf];omega
    ·have g:jI ns r=false:=by
      have:ns.all aZ=false:=by
       cases hq:ns.all aZ with
       | false=>rfl
       | true=>exact absurd (Ax.1 hq s (Ao X.o)) x
      unfold jI;rw [this,Bool.false_and,Bool.and_false]
     have F:=Hh g;have K:aZ s=false:=by simpa using x
     rw [K] at V;clear g x K f
     go_wp2_with (go_at_call 78;(with_reducible refine (V.o).mono ?_);rintro e w1 ⟨rfl,c⟩;(have m:=z.trans (c.mono z.size));clear c z)
     go_ret
     exact ⟨by rw [F.o];rfl,m⟩
   ·have xc:¬ (j:Int)<(ns.length:Int):=by omega
    have Z:ns.take j=ns:=Ak (by omega)
    have g:jI ns r=true:=by
     rw [Z] at C B;unfold jI;rw [Ap xb.o,Ax.2 C,Ap B]
     rfl
    have F:=Hh g;clear g Z d C B
    go_wp2
    go_ret
    exact ⟨by rw [F.o];rfl,z⟩
 ·have R:((ns.length:Int) != (r:Int))=true:=by simp;omega
  have e:jI ns r=false:=by unfold jI;rw [Ar l];rfl
  rw [e];clear e l
  go_enter func79,ntmps79
  go_wp2
  go_ret
  exact ⟨rfl,(Br _ _).alloc (Lr _) _⟩
end Go.Proofs.YtncdpanfefnjlaaGreatDoor
namespace Go.Proofs.YtncdpanfefnjlaaGreatDoor
open Go.Proofs.Tryz
open Go Go.ChangeShapes Go.WideShapes Go.ChangeAt Go.RowKit
def iM:Nat→ND→Prop
 | 0,_=>True
 | d+1,x=>x.items.length≤1000000∧∀y,y ∈ x.items→iM d y
theorem fK:∀ {d:Nat} {x:ND},jZ d x→iM d x
 | 0,_,_=>trivial
 | d+1,x,h=>⟨h.2.1,fun y a=>fK (h.2.2 y a)⟩
def nZ (d:Nat):Prop:=∀ (D:Nat) (S:Nat→Prop) (a:Vl) (x:ND) (w:World),aD D S w a x→(∀b,S b→b<w.heap.size)→iM D x→jR w→Calls prog 44 #[.agg a.toArray,Iz (d:Int)] w fun e w'=>e=.returned (.bool (aC d x))∧Below w.heap.size w w'
theorem VT {d:Nat} (k:nZ d) (E:d<100) (p:Nat) {D:Nat} {S:Nat→Prop} (j:Vl) (y:ND) (w:World) (h:aD D S w j y) (c:∀b,S b→b<w.heap.size) (n:iM D y) (q:jR w) (x:p<w.heap.size) (u:w.cell? ⟨p,0,none⟩=some (Iz ((d:Int)+1))) :
 Calls prog 80 #[.agg j.toArray,.pointer (some ⟨p,0,none⟩)] w fun e w'=>e=.returned (.bool (!aC d y))∧Below w.heap.size w w':=by
 obtain ⟨m,r,c1,s,l,c2,rfl⟩:=h.slices;have a:=(Br w.heap.size w).alloc (o:=.cells (Na y m r c1 s l c2) 28) (Lr _);have V:=Hh (k D S _ y (w.alloc (.cells (Na y m r c1 s l c2) 28)) (h.same fun b f=>a.block b (c b f)) (fun b f=>Ll (c b f) a.size) n (q.below a))
 have t:=(a.cell (p:=⟨p,0,none⟩) x).trans u;have A:¬p=w.heap.size:=by omega
 have i:=Hh a;have v:((d:Int)+1 - 1)=(d:Int):=by omega
 have z:IntKind.i64.wrap (d:Int)=(d:Int):=Cc _ (by omega)
 generalize aC d y=C at V ⊢;clear h c n q a k
 go_enter func80,ntmps80
 go_wp2_with (go_at_call 44;(with_reducible refine (V.o).mono ?_);rintro e B ⟨rfl,g⟩)
 go_ret
 exact ⟨rfl,i.o.trans (g.mono i.o.size)⟩
def VH (a:Bool) (w:World) (e:Ending) (w':World):Prop:=∃z:Int,e=.returned (Iz z)∧decide (0≤z)=a∧Below w.heap.size w w'
theorem YX {d:Nat} (R:nZ d) (hd:d<100) (p:Nat) {D:Nat} {S:Nat→Prop} (v:Value) (its:List ND) (w:World) (h:cE (aD D S w) S w v its) (Q:∀b,S b→b<w.heap.size) (Z:∀y,y ∈ its→iM D y) (hT:jR w) (U:p<w.heap.size) (O:w.cell? ⟨p,0,none⟩=some (Iz ((d:Int)+1))) :
 Calls prog 112 #[v,.func (.func 80) #[] #[.pointer (some ⟨p,0,none⟩)]] w (VH (!its.all (aC d)) w):=by
 obtain ⟨K,z,rfl,B,s,u⟩:=h;have H:Hid (cE (aD D S w) S w (.slice K its.length z) its):=Hh ⟨K,z,rfl,B,s,u⟩;unfold maxLen at s;have HL:=Hh Z;have C:=Hh Q;have HT:=Hh hT;have HC:=Hh O;have L:=Hh U;have F:=Hh R;clear Z Q hT O U u R
 go_enter func112,ntmps112
 go_wp2
 go_loopw [5,8] (fun i5 i wr=>∃j:Nat,i=Iz j∧j≤its.length∧(∀y,y ∈ its.take j→aC d y=true)∧Below w.heap.size w wr) (fun _ i _=>its.length - (intOf i).toNat)
 case atStart=>exact ⟨0,rfl,Av _,(fun y m=>by simp at m),Br _ _⟩
 case round=>
  obtain ⟨j,rfl,hj,l,a⟩:=hrel
  by_cases E:j<its.length
  ·have t:(j:Int)<(its.length:Int):=by omega
   have xa:(0:Int)≤(j:Int):=by omega
   obtain ⟨-,-,-,b,g,x,a1,l1,c1,a2,l2,c2,rfl,G,J,r,P,N,T,M,V,X⟩:=H.o.at E;have f:=C.o b G;have q0:=(a.cell (p:=⟨b,g+j * 6,none⟩) f).trans P;have q1:=(a.cell (p:=⟨b,g+j * 6+1,none⟩) f).trans N;have q2:=(a.cell (p:=⟨b,g+j * 6+2,none⟩) f).trans T;have q3:=(a.cell (p:=⟨b,g+j * 6+3,none⟩) f).trans M;have q4:=(a.cell (p:=⟨b,g+j * 6+4,none⟩) f).trans V;have q5:=(a.cell (p:=⟨b,g+j * 6+5,none⟩) f).trans X;clear P N T M V X;have W:=Hh (VT F.o hd p _ x wr (r.same fun b I=>a.block b (C.o b I)) (fun b I=>Ll (C.o b I) a.size) (HL.o x (Ao J)) (HT.o.below a) (Ll L.o a.size) ((a.cell (p:=⟨p,0,none⟩) L.o).trans HC.o))
   have Y:=Hh J;have A:=Hh l;clear J l r;cases hv:aC d x with
   | true=>
    rw [hv] at W;have q:=Hh hv;clear hv
    go_wp2_with (go_at_call 80;(with_reducible refine (W.o).mono ?_);rintro e w1 ⟨rfl,k⟩;(have n:=a.trans (k.mono a.size));clear k a)
    go_roundw
    case rel=>
     refine ⟨j+1,by go_num,by omega,fun y m=>?_,n⟩
     rw [nG Y.o] at m;rcases Bg.1 m with m | m
     ·exact A.o y m
     ·cases At.1 m;exact q.o
    case measure=>simp [intOf];omega
   | false=>
    rw [hv] at W;have q:=Hh hv;clear hv
    go_wp2_with (go_at_call 80;(with_reducible refine (W.o).mono ?_);rintro e w1 ⟨rfl,k⟩;(have n:=a.trans (k.mono a.size));clear k a)
    go_ret
    have c:its.all (aC d)=false:=by
     cases hq:its.all (aC d) with
     | false=>rfl
     | true=>
      have:=Ax.1 hq x (Ao Y.o);rw [q.o] at this;cases this
    exact ⟨(j:Int),rfl,by rw [c,Ap (by omega)];rfl,n⟩
  ·have t:¬ (j:Int)<(its.length:Int):=by omega
   have c:its.all (aC d)=true:=by
    rw [Ak (by omega)] at l
    exact Ax.2 l
   have HA:=Hh c;clear l c
   go_wp2
   go_ret
   exact ⟨-1,rfl,by rw [HA.o];rfl,a⟩
theorem IW {d:Nat} (g:nZ d) (n:d<100) (p:Nat) {D:Nat} {S:Nat→Prop} (v:Value) (its:List ND) (w:World) (h:cE (aD D S w) S w v its) (f:∀b,S b→b<w.heap.size) (i:∀y,y ∈ its→iM D y) (c:jR w) (k:p<w.heap.size) (j:w.cell? ⟨p,0,none⟩=some (Iz ((d:Int)+1))) :
 Calls prog 81 #[v,.func (.func 80) #[] #[.pointer (some ⟨p,0,none⟩)]] w fun e w'=>e=.returned (.bool (!its.all (aC d)))∧Below w.heap.size w w':=by
 have I:=Hh (YX g n p v its w h f i c k j);generalize (!its.all (aC d))=m at I ⊢;clear h f i c k j g
 go_enter func81,ntmps81
 go_wp2_with (go_at_call 112;(with_reducible refine (I.o).mono ?_);rintro e q ⟨z,rfl,l,a⟩)
 go_ret
 exact ⟨by first | rfl | (rw [←l]),a⟩
theorem UV (x:ND):fC x=(cL x.kind x.bool x.num x.text x.names.length x.items.length && (aZ x.text && (decide (x.items.length≤256) && (!decide (x.kind=5) || jI x.names x.items.length)))):=by
 unfold fC cL jI
 by_cases a:x.kind=5
 ·simp [a,Bool.and_assoc]
 ·by_cases b:x.names.length=0
  ·have:x.names=[]:=Aw.1 b
   simp [a,this,Bool.and_assoc]
  ·have:x.names ≠ []:=fun h=>b (by rw [h];rfl)
   simp [a,this]
theorem KK {d:Nat} (HV:nZ d) (hd:d<100):nZ (d+1):=by
 intro D S cs x w h F hl hT;obtain ⟨U,L,c1,T,v,c2,rfl⟩:=h.slices;cases D with
 | zero=>exact h.elim
 | succ D=>
 obtain ⟨vn,vi,e,ht,J,K⟩:=h;simp only [Bu,Dd,Dj] at e;obtain ⟨rfl,rfl⟩:=e;obtain ⟨ai,ci,ei,xf,xi,xd⟩:=id K;have H:v=x.items.length:=by cases ei;rfl
 clear xd ei;obtain ⟨r,f⟩:∃W,W=(w.alloc (.cells (Na x U L c1 T v c2) 28)).alloc (.cells #[Iz ((d:Int)+1)] 3):=⟨_,rfl⟩;have hz:(w.alloc (.cells (Na x U L c1 T v c2) 28)).heap.size=w.heap.size+1:=by simp
 have z:Below w.heap.size w r:=by rw [f];exact ((Br _ _).alloc (Lr _) _).alloc (by simp) _
 have O:r.heap[w.heap.size]?=some (.cells (Na x U L c1 T v c2) 28 (0,0)):=by rw [f];exact (Bj _ _ _ (by omega)).trans (Hn _ _)
 have N:r.heap[w.heap.size+1]?=some (.cells #[Iz ((d:Int)+1)] 3 (0,0)):=by rw [f,←hz];exact Hn _ _
 have cp:r.cell? ⟨w.heap.size+1,0,none⟩=some (Iz ((d:Int)+1)):=by simp [World.cell?,N]
 have Z:w.heap.size+1<r.heap.size:=Aa N;have Q:=aA O
 -- the contracts at whatever world stands behind
 have M:=Hh (fun m=>aCe x.kind x.bool x.num x.text U T L c1 v c2 m)
 have R:=Hh (fun (m:World) (s:Below r.heap.size r m)=>DT x.text m ht ((hT.below z).below s))
 have FN:=Hh (fun (m:World) (s:Below r.heap.size r m)=>PM x.kind x.bool x.num x.text U T L c1 v c2 x.names m (J.same (w':=m) fun b i=>(s.block b (Ll (F b i) z.size)).trans (z.block b (F b i))) (fun b i=>Ll (Ll (F b i) z.size) s.size) (by rw [H];exact hl.1) ((hT.below z).below s))
 have FC:=Hh (fun (m:World) (s:Below r.heap.size r m)=>IW HV hd (w.heap.size+1) (.slice T v c2) x.items m (K.same (w':=m) (R':=aD D S m) (fun b i=>(s.block b (Ll (F b i) z.size)).trans (z.block b (F b i))) fun cs y q=>q.same fun b i=>(s.block b (Ll (F b i) z.size)).trans (z.block b (F b i))) (fun b i=>Ll (Ll (F b i) z.size) s.size) hl.2 ((hT.below z).below s) (Ll Z s.size) ((s.cell (p:=⟨w.heap.size+1,0,none⟩) Z).trans cp))
 have u:=Hh (fun (m:World) (s:Below r.heap.size r m)=>aA ((s.block _ (by omega:w.heap.size<r.heap.size)).trans O))
 have hval:aC (d+1) x=(cL x.kind x.bool x.num x.text x.names.length x.items.length && (aZ x.text && (decide (x.items.length≤256) && (!decide (x.kind=5) || jI x.names x.items.length))) && x.items.all (aC d)):=by rw [cV,UV]
 have V:L=x.names.length:=by obtain ⟨_,_,e,_⟩:=J;cases e;rfl
 have A:=Hh z;have X:(((d+1:Nat):Int))=(d:Int)+1:=by omega
 have xh:∀ (fn:Fn) (first Y:Array Value) (w:World),(Instr.makeFunc fn first Y).run prog w=.ok (.func fn first Y) w:=fun _ _ _ _=>rfl
 rw [X,hval];rw [←V,←H];have xg:v≤1000000:=by have:=hl.1;omega
 clear hval ht J K F hl hT HV hz O N X V H xf;generalize hA:cL x.kind x.bool x.num x.text L v=bA at M ⊢;generalize xa:aZ x.text=bT at R ⊢;generalize hN:jI x.names v=bN at FN ⊢;generalize hC:x.items.all (aC d)=bC at FC ⊢;clear hA xa hN hC;have xj:¬ (d:Int)+1<1:=by omega
 cases bA with
 | false=>
  go_enter func44,ntmps44
  go_upto_region 1 with fail
  rw [←f];clear f
  go_wp2_with ((go_at_call 77;(with_reducible refine (M.o _).mono ?_);rintro e C ⟨rfl,a⟩;(have j:=u.o C a);clear Q))
  go_ret
  exact ⟨rfl,A.o.trans (a.mono A.o.size)⟩
 | true=>
 cases bT with
 | false=>
  go_enter func44,ntmps44
  go_upto_region 1 with fail
  rw [←f];clear f
  go_wp2_with (first
   | (go_at_call 77;(with_reducible refine (M.o _).mono ?_);rintro e C ⟨rfl,a⟩;(have j:=u.o C a);clear Q)
   | (go_at_call 78;(with_reducible refine (R.o _ a).mono ?_);rintro e G ⟨rfl,g⟩;(have c:=a.trans (g.mono a.size));(have t:=u.o G c);clear j))
  go_ret
  exact ⟨rfl,A.o.trans (c.mono A.o.size)⟩
 | true=>
 by_cases l:v≤256
 ·have P:¬ (256:Int)<(v:Int):=by omega
  rw [Ap l]
  by_cases k:x.kind=5
  ·rw [Ap k]
   have xe:(x.kind == 5)=true:=by simp [k]
   have xb:=Hh k;clear k l;cases bN with
   | false=>
    go_enter func44,ntmps44
    go_upto_region 1 with fail
    rw [←f];clear f
    go_wp2_with (first
   | (go_at_call 77;(with_reducible refine (M.o _).mono ?_);rintro e C ⟨rfl,a⟩;(have j:=u.o C a);clear Q)
   | (go_at_call 78;(with_reducible refine (R.o _ a).mono ?_);rintro e G ⟨rfl,g⟩;(have c:=a.trans (g.mono a.size));(have t:=u.o G c);clear j)
   | (go_at_call 79;(with_reducible refine (FN.o _ c).mono ?_);rintro e w4 ⟨rfl,B⟩;(have n:=c.trans (B.mono c.size));(have xc:=u.o w4 n);clear t))
    go_ret
    exact ⟨rfl,A.o.trans (n.mono A.o.size)⟩
   | true=>
    go_enter func44,ntmps44
    go_upto_region 1 with fail
    rw [←f];clear f
    go_wp2_with (first
   | (go_at_call 77;(with_reducible refine (M.o _).mono ?_);rintro e C ⟨rfl,a⟩;(have j:=u.o C a);clear Q)
   | (go_at_call 78;(with_reducible refine (R.o _ a).mono ?_);rintro e G ⟨rfl,g⟩;(have c:=a.trans (g.mono a.size));(have t:=u.o G c);clear j)
   | (go_at_call 79;(with_reducible refine (FN.o _ c).mono ?_);rintro e w4 ⟨rfl,B⟩;(have n:=c.trans (B.mono c.size));(have xc:=u.o w4 n);clear t)
   | (go_at_call 81;(with_reducible refine (FC.o _ n).mono ?_);rintro e w5 ⟨rfl,E⟩;(have I:=n.trans (E.mono n.size))))
    go_ret
    exact ⟨by simp,A.o.trans (I.mono A.o.size)⟩
  ·rw [Ar k]
   have xe:(x.kind == 5)=false:=by simp [k]
   have xb:=Hh k;clear k l
   go_enter func44,ntmps44
   go_upto_region 1 with fail
   rw [←f];clear f
   go_wp2_with (first
   | (go_at_call 77;(with_reducible refine (M.o _).mono ?_);rintro e C ⟨rfl,a⟩;(have j:=u.o C a);clear Q)
   | (go_at_call 78;(with_reducible refine (R.o _ a).mono ?_);rintro e G ⟨rfl,g⟩;(have c:=a.trans (g.mono a.size));(have t:=u.o G c);clear j)
   | (go_at_call 81;(with_reducible refine (FC.o _ c).mono ?_);rintro e w5 ⟨rfl,E⟩;(have I:=c.trans (E.mono c.size))))
   go_ret
   exact ⟨by simp,A.o.trans (I.mono A.o.size)⟩
 ·have P:(256:Int)<(v:Int):=by omega
  rw [Ar l];clear l
  go_enter func44,ntmps44
  go_upto_region 1 with fail
  rw [←f];clear f
  go_wp2_with (first
   | (go_at_call 77;(with_reducible refine (M.o _).mono ?_);rintro e C ⟨rfl,a⟩;(have j:=u.o C a);clear Q)
   | (go_at_call 78;(with_reducible refine (R.o _ a).mono ?_);rintro e G ⟨rfl,g⟩;(have c:=a.trans (g.mono a.size));(have t:=u.o G c);clear j))
  go_ret
  exact ⟨rfl,A.o.trans (c.mono A.o.size)⟩
theorem KJ:nZ 0:=by
 intro D S g x w h b c a;obtain ⟨f,i,c1,d,e,c2,rfl⟩:=h.slices;clear h b c a
 go_enter func44,ntmps44
 go_wp2
 go_ret
 exact ⟨rfl,((Br _ _).alloc (Lr _) _).alloc (by simp) _⟩
theorem yV:∀d,d<100→nZ d
 | 0,_=>KJ
 | d+1,h=>KK (yV d (by omega)) (by omega)
theorem lG {D:Nat} {S:Nat→Prop} (m:Vl) (x:ND) (w:World) (h:aD D S w m x) (f:∀b,S b→b<w.heap.size) (p:iM D x) (g:jR w):Calls prog 23 #[.agg m.toArray] w fun e w'=>e=.returned (.bool (aC 8 x))∧Below w.heap.size w w':=by
 obtain ⟨l,n,c1,j,k,c2,rfl⟩:=h.slices;have a:=(Br w.heap.size w).alloc (o:=.cells (Na x l n c1 j k c2) 28) (Lr _);have V:=Hh (yV 8 (by decide) D S _ x (w.alloc (.cells (Na x l n c1 j k c2) 28)) (h.same fun b c=>a.block b (f b c)) (fun b c=>Ll (f b c) a.size) p (g.below a))
 rw [show ((8:Nat):Int)=8 from rfl] at V
 have i:=Hh a;generalize aC 8 x=q at V ⊢;clear h f p g a
 go_enter func23,ntmps23
 go_wp2_with (go_at_call 44;(with_reducible refine (V.o).mono ?_);rintro e r ⟨rfl,d⟩)
 go_ret
 exact ⟨rfl,i.o.trans (d.mono i.o.size)⟩
theorem pH {D:Nat} {S:Nat→Prop} (a:Vl) (x:ND) (w:World) (h:aD D S w a x) (d:∀b,S b→b<w.heap.size) (f:jZ D x) (c:jR w):Calls prog 23 #[.agg a.toArray] w fun e w'=>e=.returned (.bool (aC 8 x))∧Below w.heap.size w w':=lG a x w h d (fK f) c
end Go.Proofs.YtncdpanfefnjlaaGreatDoor