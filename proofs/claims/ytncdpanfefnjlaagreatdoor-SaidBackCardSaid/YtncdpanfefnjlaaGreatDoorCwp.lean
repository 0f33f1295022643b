import Derived.Test.YtncdpanfefnjlaaGreatDoorCwt
import Derived.Test.YtncdpanfefnjlaaGreatDoorJsm
set_option linter.unusedVariables false
set_option linter.unusedSimpArgs false
set_option maxHeartbeats 6400000
set_option maxRecDepth 100000
namespace Go.Proofs.YtncdpanfefnjlaaGreatDoor
open Go.Proofs.Tryz
open Go Go.ChangeShapes Go.WideShapes Go.ChangeAt Go.RowKit
def BC (ns:List Bt) (s:Bt):Int:=match ns.findIdx? (fun t=>decide (t=s)) with
 | some i=>(i:Int)
 | none=>-1
theorem zO {S:Nat→Prop} (v:Value) (ns:List Bt) (s:Bt) (w:World) (h:bE S w v ns):Calls prog 42 #[v,.string s] w fun e w'=>e=.returned (Iz (BC ns s))∧w=w':=by
 obtain ⟨a1,c1,e1,p1,p2,-⟩:=id h;subst e1;unfold maxLen at p2;have H:=Hh h;clear h
 go_enter func42,ntmps42
 go_wp2
 go_loop [5,8] (fun i5 i=>∃j:Nat,i=Iz j∧j≤ns.length∧∀t,t ∈ ns.take j→t ≠ s) (fun _ i=>ns.length - (intOf i).toNat)
 case atStart=>exact ⟨0,rfl,Ax _,fun t ht=>by simp at ht⟩
 case round=>
  obtain ⟨j,rfl,hj,hno⟩:=hrel
  by_cases hlt:j<ns.length
  ·have hlt':(j:Int)<(ns.length:Int):=by omega
   have hj0:(0:Int)≤(j:Int):=by omega
   obtain ⟨t,ht⟩:∃t,ns[j]?=some t:=⟨_,Ac hlt⟩;obtain ⟨b,off,rfl,hb,k1⟩:=H.o.get ht;have HT:=Hh ht;have HNO:=Hh hno;clear ht hno
   by_cases hst:s=t
   ·have hx:(s.toList == t.toList)=true:=lV hst
    have HST:=Hh hst;clear hst
    go_wp2
    go_ret
    refine ⟨?_,rfl⟩;have hf:ns.findIdx? (fun t=>decide (t=s))=some j:=by
     rw [List.findIdx?_eq_some_iff_getElem];refine ⟨hlt,?_,fun q hq e=>?_⟩
     ·have:=HT.o
      rw [Ac hlt] at this;rw [Ab this,HST.o];exact An rfl
     ·refine HNO.o ns[q] ?_ (Ch e)
      rw [List.mem_take_iff_getElem];exact ⟨q,by omega,rfl⟩
    unfold BC;rw [hf]
    rfl
   ·have hx:(s.toList == t.toList)=false:=iD hst
    have HST:=Hh hst;clear hst
    go_wp2
    go_round
    case rel=>
     refine ⟨j+1,by go_num,by omega,fun u hu=>?_⟩
     rw [Bf,HT.o] at hu;rcases Bb.1 hu with hu | hu
     ·exact HNO.o u hu
     ·simp at hu;subst hu;exact fun e=>HST.o e.symm
    case measure=>simp [intOf];omega
  ·have hlt':¬ (j:Int)<(ns.length:Int):=by omega
   have hf:ns.findIdx? (fun t=>decide (t=s))=none:=by
    rw [List.findIdx?_eq_none_iff];rw [Ao (by omega)] at hno
    exact fun t ht=>Ap (hno t ht)
   have HF:=Hh hf;clear hno hf
   go_wp2
   go_ret
   refine ⟨?_,rfl⟩;unfold BC;rw [HF.o]
   rfl
def aEp (TN:TypeId) (d:Nat) (S:Nat→Prop) (w:World) (its:List ND) (e:Ending) (w':World):Prop:=∃ (v:Value) (A:List NC),e=.returned v∧w'.ownsRow w.heap.size TN 6 v A.length (cF A)∧aE A=its∧(∀y,y ∈ A→aC d S w y.1 y.2)∧Below w.heap.size w w'
theorem cB.cells {d:Nat} {S:Nat→Prop} {w:World} {a:Addr} {l cap:Nat} {its:List ND} (h:cB (aC d S w) S w (.slice (some a) l cap) its):l=its.length∧∃A:List NC,aE A=its∧A.length=its.length∧(∀y,y ∈ A→aC d S w y.1 y.2)∧∀j u,(cF A)[j]?=some u→w.cell? (a.add j)=some u:=by
 obtain ⟨ao,cap',e,h1,h2,h3⟩:=h;cases e;refine ⟨rfl,?_⟩
 -- the six cells of each element, chosen
 have key:∀j,j<its.length→∃cs,aC d S w cs (its.getD j nd0)∧∃b off,a=⟨b,off,none⟩∧∀f u,cs[f]?=some u→w.cell? ⟨b,off+j * 6+f,none⟩=some u:=by
  intro j hj;obtain ⟨b,off,cs,e,hS,hc,hr⟩:=h3 j _ (Ac hj);cases e;exact ⟨cs,by rw [Ct,Ac hj];exact hr,b,off,rfl,hc⟩
 have key2:∀n,n≤its.length→∃A:List NC,aE A=its.take n∧A.length=n∧(∀y,y ∈ A→aC d S w y.1 y.2)∧∀j u,(cF A)[j]?=some u→w.cell? (a.add j)=some u:=by
  intro n
  induction n with
  | zero=>exact fun _=>⟨[],rfl,rfl,(fun y hy=>by cases hy),fun j u h=>by simp [cF] at h⟩
  | succ n ih=>
   intro hn;obtain ⟨A,i1,i2,i3,i4⟩:=ih (by omega)
   obtain ⟨cs,hr,b,off,rfl,hc⟩:=key n (by omega)
   have h6:∀y,y ∈ A→y.1.length=6:=fun y hy=>(i3 y hy).len
   have hlc:=iB A h6;refine ⟨A++[(cs,its.getD n nd0)],?_,by simp [i2],?_,?_⟩
   ·rw [Bf,←i1,Ct,Ac (by omega:n<its.length)]
    simp [aE]
   ·intro y hy
    rcases Bb.1 hy with hy | hy
    ·exact i3 y hy
    ·cases At.1 hy;exact hr
   ·intro j u hj
    rw [jV] at hj;rcases Cc j (cF A).length with hlt | hge
    ·rw [Cq hlt] at hj;exact i4 j u hj
    ·rw [Dl hge,hlc,i2] at hj
     have:=hc (j - n * 6) u (by simpa [cF] using hj)
     rw [Bn,show off+j=off+n * 6+(j - n * 6) by omega]
     exact this
 obtain ⟨A,i1,i2,i3,i4⟩:=key2 its.length (Lr _);rw [List.take_length] at i1;exact ⟨A,i1,i2,i3,i4⟩
theorem YE {d:Nat} {S:Nat→Prop} (v:Value) (its:List ND) (w:World) (h:cB (aC d S w) S w v its) (hl:its.length≤1000000):Calls prog 49 #[v] w (aEp 28 d S w its):=by
 obtain ⟨ip,hip,hz0,hz1,hz2⟩:=qD;have hug:=underlying26;have HI:=Hh hip;clear hip;obtain ⟨ao,cap,e1,p1,p2,p3⟩:=id h;subst e1;unfold maxLen at p2;cases ao with
 | none=>
  have he:its=[]:=by
   cases its with
   | nil=>rfl
   | cons x t=>obtain ⟨_,_,_,h,_⟩:=p3 0 x rfl;cases h
  subst he;clear h p3;have hq:=fun (wx:World)=>Lib.run_eql_slice_nil (P:=prog) wx 26
  go_enter func49,ntmps49
  go_wp2
  go_ret
  exact ⟨_,[],rfl,Dr _ _ _ _,rfl,(fun y hy=>by cases hy),Br _ _⟩
 | some a=>
  obtain ⟨-,A,hA1,hA2,hA3,hA4⟩:=h.cells;have hq:=fun (wx:World)=>Lib.run_eql_slice_nil (P:=prog) wx 26
  have b1:=(Br w.heap.size w).alloc (o:=.cells #[] 28) (Lr _);have hO:=World.ownsRow_lit (base:=w.heap.size) (size:=6) (e:=28) w #[] 0 (Lr _) (by decide) rfl
  have hone:∀u ∈ cF A,u.oneCell'=true:=by
   intro u hu;obtain ⟨y,hy,hu⟩:=List.mem_flatMap.1 hu;exact (hA3 y hy).one u hu
  have hlt:∀j u,(cF A)[j]?=some u→(w.alloc (.cells #[] 28)).cell? (a.add j)=some u:=fun j u hj=>(b1.cell (cD (hA4 j u hj))).trans (hA4 j u hj)
  have HO:=Hh hO;have HLT:=Hh hlt;have HONE:=Hh hone;have HL6:=Hh (iB A fun y hy=>(hA3 y hy).len)
  have HA1:=Hh hA1;have HA2:=Hh hA2;have HA3:=Hh hA3;have B1:=Hh b1;have hs1:=b1.size;clear h p3 hA1 hA2 hA3 hA4 hO hone hlt b1
  go_enter func49,ntmps49
  go_wp2_with ((refine wpList_append_own_at _ rfl (.tmp 5) (.tmp 6) 26 rfl w.heap.size 28 ip (.agg Z6) 6 88 hug HI.o hz0 hz1 hz2 rfl (by decide) (.slice (some ⟨w.heap.size,0,none⟩) 0 0) 0 [] rfl HO.o a its.length cap (cF A) rfl (by rw [HL6.o,HA2.o]) HLT.o HONE.o (by unfold maxLen;omega) (by omega) hs1 ?_);intro v' w2 hown hgrow hx1 hx2)
  go_ret
  refine ⟨_,A,rfl,?_,HA1.o,HA3.o,?_⟩
  ·rw [HA2.o]
   simpa using hown
  ·exact FG B1.o HO.o hgrow hs1
theorem qT:∀ (A:List NC) (i:Nat) (a b c d e f:Value) (x:ND),(∀y,y ∈ A→y.1.length=6)→i<A.length→((((((cF A).set (i * 6) a).set (i * 6+1) b).set (i * 6+2) c).set (i * 6+3) d).set (i * 6+4) e).set (i * 6+5) f=cF (A.set i ([a,b,c,d,e,f],x))
 | [],i,_,_,_,_,_,_,_,_,h=>by simp at h
 | y::t,0,a,b,c,d,e,f,x,h6,h=>by
  obtain ⟨a',b',c',d',e',f',hy⟩:∃a b c d e f,y.1=[a,b,c,d,e,f]:=by
   have:=h6 y (by simp)
   match hq:y.1,this with
   | [a,b,c,d,e,f],_=>exact ⟨_,_,_,_,_,_,rfl⟩
  simp [cF,hy]
 | y::t,i+1,a,b,c,d,e,f,x,h6,h=>by
  have ih:=qT t i a b c d e f x (fun z hz=>h6 z (by simp [hz])) (by simpa using h)
  have hy:=h6 y (by simp)
  have e1:cF (y::t)=y.1++cF t:=by simp [cF]
  have e2:cF ((y::t).set (i+1) ([a,b,c,d,e,f],x))=y.1++cF (t.set i ([a,b,c,d,e,f],x)):=by simp [cF]
  rw [e1,e2,←ih];rw [show (i+1) * 6=i * 6+6 by omega]
  rw [Cz _ _ (by omega),Cz _ _ (by omega),Cz _ _ (by omega),Cz _ _ (by omega),Cz _ _ (by omega),Cz _ _ (by omega),hy]
  congr 1
theorem vS (A:List NC) (i:Nat) (cs:Vl) (x:ND):aE (A.set i (cs,x))=(aE A).set i x:=by simp [aE,List.map_set]
theorem JZ {w:World} {base:Nat} {e:TypeId} {g n cap:Nat} {xs:Vl} (h:w.ownsRow base e 6 (.slice (some ⟨g,0,none⟩) n cap) n xs) (i:Nat) (a b c d e' f:Value) :
 ((((((w.setCell ⟨g,i * 6,none⟩ a).setCell ⟨g,i * 6+1,none⟩ b).setCell ⟨g,i * 6+2,none⟩ c).setCell ⟨g,i * 6+3,none⟩ d).setCell ⟨g,i * 6+4,none⟩ e').setCell ⟨g,i * 6+5,none⟩ f).ownsRow base e 6 (.slice (some ⟨g,0,none⟩) n cap) n ((((((xs.set (i * 6) a).set (i * 6+1) b).set (i * 6+2) c).set (i * 6+3) d).set (i * 6+4) e').set (i * 6+5) f):=
 ((((((h.stored (i * 6) a).1.stored (i * 6+1) b).1.stored (i * 6+2) c).1.stored (i * 6+3) d).1.stored (i * 6+4) e').1.stored (i * 6+5) f).1
theorem yC (w:World) (g o:Nat) (a b c d e f:Value):w.grownBy ((((((w.setCell ⟨g,o,none⟩ a).setCell ⟨g,o+1,none⟩ b).setCell ⟨g,o+2,none⟩ c).setCell ⟨g,o+3,none⟩ d).setCell ⟨g,o+4,none⟩ e).setCell ⟨g,o+5,none⟩ f) (some g):=
 aH (aH (aH (aH (aH (aR w g o a) (aR _ g (o+1) b)) (aR _ g (o+2) c)) (aR _ g (o+3) d)) (aR _ g (o+4) e)) (aR _ g (o+5) f)
section
variable {TN TS:TypeId} {d:Nat} {S:Nat→Prop} {w wx wn:World} {gb:Nat} {cv:Vl} {vn vi:Value} {ns:List Bt} {A:List NC}
end
theorem jH.base {TS:TypeId} {b b':Nat} {w:World} {v:Value} {ns:List Bt} (h:jH TS b w v ns) (hb:b'≤b):jH TS b' w v ns:=by
 obtain ⟨⟨h1,h2 | ⟨g,cap,cur,hv,hg,r⟩⟩,h3⟩:=h
 ·exact ⟨⟨h1,.inl h2⟩,h3⟩
 ·exact ⟨⟨h1,.inr ⟨g,cap,cur,hv,by omega,r⟩⟩,h3⟩
theorem sH {w:World} {b:Nat} {e:TypeId} {size n:Nat} {v:Value} {xs:Vl} (h:w.ownsRow b e size v n xs):∃a c,v=.slice a n c:=by
 rcases h.2 with ⟨rfl,h0⟩ | ⟨g,cap,cur,rfl,_⟩
 ·exact ⟨none,0,by rw [h0]⟩
 ·exact ⟨_,cap,rfl⟩
theorem gA (s:Bt) (w:World):Calls prog 50 #[.string s] w fun e w'=>e=.returned (.agg #[Iz 3,.bool false,Iz 0,.string s,Sn,Sn])∧Below w.heap.size w w':=by
 go_enter func50,ntmps50
 go_wp2
 refine Ar (v:=.agg #[Iz 3,.bool false,Iz 0,.string s,Sn,Sn]) ?_ ?_ ?_;rotate_left
 ·rfl
 ·exact ⟨rfl,(Br _ _).alloc (Lr _) _⟩
 ·obtain ⟨q0,q1,q2,q3,q4,q5⟩:=aA (Hn w (.cells #[Iz 3,.bool false,Iz 0,.string s,Sn,Sn] 28))
  simp [results,results50,go_sem,q0,q1,q2,q3,q4,q5]
theorem sL (z:Int) (w:World):Calls prog 171 #[Iz z] w fun e w'=>e=.returned (.agg #[Iz 2,.bool false,Iz z,.string ⟨#[]⟩,Sn,Sn])∧Below w.heap.size w w':=by
 go_enter func171,ntmps171
 go_wp2
 refine Ar (v:=.agg #[Iz 2,.bool false,Iz z,.string ⟨#[]⟩,Sn,Sn]) ?_ ?_ ?_;rotate_left
 ·rfl
 ·exact ⟨rfl,(Br _ _).alloc (Lr _) _⟩
 ·obtain ⟨q0,q1,q2,q3,q4,q5⟩:=aA (Hn w (.cells #[Iz 2,.bool false,Iz z,.string ⟨#[]⟩,Sn,Sn] 28))
  simp [results,results171,go_sem,q0,q1,q2,q3,q4,q5]
theorem aAr (d:Nat) (S:Nat→Prop) (v v':Value) (ns:List Bt) (its:List ND) (w:World) (h:cB (aC d S w) S w v' its) (hn:bE S w v ns) (hS:∀b,S b→b<w.heap.size) (hl:its.length≤1000000) (hln:ns.length≤1000000) (hlow:∀y,y ∈ its→jG d y):Calls prog 47 #[v,v'] w (nL (d+1) w (.mk 5 false 0 ⟨#[]⟩ ns its)):=by
 obtain ⟨ao,cap,rfl,h1,h2,h3⟩:=id h;obtain ⟨an,capn,rfl,n1,n2,n3⟩:=id hn;have b1:=(Br w.heap.size w).alloc (o:=.cells Z6 28) (Lr _);obtain ⟨w1,hw1⟩:∃W,W=w.alloc (.cells Z6 28):=⟨_,rfl⟩;have hr:=Hn w (.cells Z6 28);have hz1:w1.heap.size=w.heap.size+1:=by rw [hw1];simp
 rw [←hw1] at b1 hr;have CT:=Hh (AB _ ns w1 (hn.same fun b hb=>b1.block b (hS b hb)) hln)
 have CI:=Hh (fun (wx:World) (hb:Below w1.heap.size w1 wx)=>QZ d S _ its wx (h.same (fun b hb'=>(hb.block b (Ll (hS b hb') b1.size)).trans (b1.block b (hS b hb'))) fun cs y q=>q.same fun b hb'=>(hb.block b (Ll (hS b hb') b1.size)).trans (b1.block b (hS b hb'))) (fun b hb'=>Ll (Ll (hS b hb') b1.size) hb.size) hl hlow)
 have B1:=Hh b1;have HR:=Hh hr;have HZ:=Hh hz1;clear h hn hS hl hln hlow h3 n3 b1 hr hz1
 go_enter func47,ntmps47
 go_upto_region 1 with fail
 rw [←hw1];clear hw1
 go_wp2_with (first
  | (go_at_call 83;(with_reducible refine (CT.o).mono ?_);rintro e w2 ⟨v1,rfl,hv1,hv1o,hb2,hrow⟩;obtain ⟨a3,c3,rfl,hv1r⟩:=hv1)
  | (go_at_call 84;(with_reducible refine (CI.o _ hb2).mono ?_);rintro e w3 ⟨v2,rfl,hv2,hb3⟩;obtain ⟨a4,c4,rfl,hv2r⟩:=hv2;(have hk3:=(hb3.block _ (Ll (Aa HR.o) hb2.size)).trans ((hb2.block _ (Aa HR.o)).trans HR.o));(have f3:=aD hk3);(have c3':=aA hk3);clear hk3))
 have hv2:cB (aC d (Fr w2.heap.size w3) w3) (Fr w2.heap.size w3) w3 (.slice a4 its.length c4) its:=⟨a4,c4,rfl,hv2r⟩;have hv1:bE (Fr w1.heap.size w2) w2 (.slice a3 ns.length c3) ns:=⟨a3,c3,rfl,hv1r⟩;have hk3:=(hb3.block _ (Ll (Aa HR.o) hb2.size)).trans ((hb2.block _ (Aa HR.o)).trans HR.o);have hput:=dB hk3 (Iz 5) (.bool false) (Iz 0) (.string ⟨#[]⟩) (.slice a3 ns.length c3) (.slice a4 its.length c4);have hgf:=aM w3 w.heap.size (Iz 5) (.bool false) (Iz 0) (.string ⟨#[]⟩) (.slice a3 ns.length c3) (.slice a4 its.length c4);have hz1:=HZ.o;have hs2:=hb2.size;refine Ar (v:=.agg #[Iz 5,.bool false,Iz 0,.string ⟨#[]⟩,.slice a3 ns.length c3,.slice a4 its.length c4]) ?_ ?_ ?_;rotate_left
 ·rfl
 ·have e1:∀b,Fr w1.heap.size w2 b→(dE w3 w.heap.size (Iz 5) (.bool false) (Iz 0) (.string ⟨#[]⟩) (.slice a3 ns.length c3) (.slice a4 its.length c4)).heap[b]?=w2.heap[b]?:=fun b hb=>(hgf.block b (Ll hb.2.1 hb3.size) (by intro e;have:=Ab e;have:=hb.1;omega)).trans (hb3.block b hb.2.1)
  have e2:∀b,Fr w2.heap.size w3 b→(dE w3 w.heap.size (Iz 5) (.bool false) (Iz 0) (.string ⟨#[]⟩) (.slice a3 ns.length c3) (.slice a4 its.length c4)).heap[b]?=w3.heap[b]?:=fun b hb=>hgf.block b hb.2.1 (by intro e;have:=Ab e;have:=hb.1;omega)
  refine ⟨[Iz 5,.bool false,Iz 0,.string ⟨#[]⟩,.slice a3 ns.length c3,.slice a4 its.length c4],rfl,⟨_,_,rfl,Ax _,?_,?_⟩,?_⟩
  ·exact (hv1.same e1).mono fun b hb=>hb.move (e1 b hb) (by omega) (Ae hb3.size hgf.size)
  ·exact (hv2.same e2 fun cs y q=>q.same e2).mono (fun b hb=>hb.move (e2 b hb) (by omega) hgf.size) fun cs y q=>q.mono fun b hb=>hb.move (e2 b hb) (by omega) hgf.size
  ·have hbb:=B1.o.trans ((hb2.trans (hb3.mono hb2.size)).mono B1.o.size)
   exact ⟨hgf.os.trans hbb.os,hgf.tape.trans hbb.tape,hgf.output.trans hbb.output,Ae hbb.size hgf.size,fun b hb=>(hgf.block b (Ll hb hbb.size) (by intro e;have:=Ab e;omega)).trans (hbb.block b hb)⟩
 ·obtain ⟨q0,q1,q2,q3,q4,q5⟩:=aA hput
  simp only [dE] at q0 q1 q2 q3 q4 q5;simp [results,results47,go_sem,q0,q1,q2,q3,q4,q5]
end Go.Proofs.YtncdpanfefnjlaaGreatDoor
namespace Go.Proofs.YtncdpanfefnjlaaGreatDoor
open Go.Proofs.Tryz
open Go Go.ChangeShapes Go.WideShapes Go.ChangeAt Go.RowKit Go.Shelf
attribute [local go_sem] Oper.semAt_some
abbrev oY (D d:Nat) (S:Nat→Prop) (w:World):={ p:Vl × ND // aC D S w p.1 p.2∧aB d p.2=true∧aO d p.2=true }
def iX {D d:Nat} {S:Nat→Prop} {w:World} (l:List (oY D d S w)):List ND:=l.map fun p=>p.1.2
theorem jK {D d:Nat} {S:Nat→Prop} {w:World} (l:List (oY D d S w)) (p:oY D d S w):iX (l++[p])=iX l++[p.1.2]:=by simp [iX]
theorem JY {D d:Nat} {S:Nat→Prop} {k z:Int} {bb:Bool} {t:Bt} {a1 a2:Option Addr} {l1 c1 l2 c2:Nat} (its:List ND) (w0:World) {g b1:Nat} (hS:∀b,S b→b<g) (hgb:b1 ≠ g)
 (hb1:w0.heap[b1]?=some (.cells #[Iz k,.bool bb,Iz z,.string t,.slice a1 l1 c1,.slice a2 l2 c2] 28 (0,0))) (hk5:k ≠ 5) (his:cB (aC D S w0) S w0 (.slice a2 l2 c2) its) (hv:∀y,y ∈ its→aB d y=true∧aO d y=true) (hlen:its.length≤256) (hgw:g<w0.heap.size) (n:Nat) (hn1:1≤n)
 (l:Nat) (J Jx:List (oY D d S w0)→World→Prop) (W:World) (hW:Below w0.heap.size w0 W) (hJ:AbidesFrom W.heap.size J)
 (hY:∀pre x W1,J pre W1→pre.length<600→YieldAt Fence.wide (n - 1) prog l #[.agg x.1.1.toArray] W1 fun e W'=>(e=.returned (.bool true)∧J (pre++[x]) W'∧KpC g W1 W')∨(e=.returned (.bool false)∧Jx (pre++[x]) W')) (h0:J [] W) :
 CallsIn Fence.wide n prog 195 #[.func (.yield l) #[] #[],.pointer (some ⟨b1,0,none⟩)] W fun e W'=>(∃v,e=.returned v)∧((∃xs,iX xs=its∧J xs W')∨(∃pre,iX pre <+: its∧Jx pre W')):=by
 have hkW:=(hW.block b1 (Aa hb1)).trans hb1;have hgW:g<W.heap.size:=Ll hgw hW.size;obtain ⟨ai,ci,ei,-,-,-⟩:=id his;have hl2:l2=its.length:=by cases ei;rfl
 subst hl2;clear ei;have HI:=Hh his;have HV:=Hh hv;have HB:=Hh hb1;have HW:=Hh hW;have HJ:=Hh hJ;have HY:=Hh hY;have HS:=Hh hS;have HK:=Hh hkW;have ck:=aA hkW;clear his hv hb1 hW hJ hY hS hkW;refine callsIn_of_wp func195 rfl trivial ?_ rfl;simp only [ntmps195,Du,Ag,Bs,Nat.reduceAdd,Nat.reduceSub,Array.replicate_succ,Array.replicate_zero,List.push_toArray,List.append_toArray,Dm,Bm]
 gi_wp2
 gi_loopw [8] (fun i wr=>∃ (j:Nat),j≤its.length∧i=Iz (j:Int)∧(∃pre:List (oY D d S w0),iX pre=its.take j∧J pre wr)∧KpC g W wr) (fun i _=>its.length - (intOf i).toNat)
 case atStart=>exact ⟨0,Ax _,rfl,⟨[],rfl,h0⟩,KpW.refl _ _ _⟩
 case round=>
  obtain ⟨j,hj,rfl,⟨pre,hpre,hJp⟩,hkp⟩:=hrel;have hpl:pre.length=j:=by
   have:=Ad List.length hpre;rw [Ba] at this;simp [iX] at this;omega
  have HPRE:=Hh hpre;have HPL:=Hh hpl;have HKP:=Hh hkp;have ckr:=aA (hkp.2 _ _ _ _ hgb tnu HK.o)
  by_cases hlt:j<its.length
  ·have hlt':(j:Int)<(its.length:Int):=by omega
   have hj0:(0:Int)≤(j:Int):=by omega
   obtain ⟨-,-,-,b,off,y,a3,l3,c3,a4,l4,c4,rfl,hSb,hx,hnd,k0,k1,k2,k3,k4,k5⟩:=HI.o.at hlt;have hbg:=HS.o b hSb;have cc:∀q v,w0.cell? ⟨b,off+j * 6+q,none⟩=some v→wr.cell? ⟨b,off+j * 6+q,none⟩=some v:=fun q v hq=>(HKP.o.1.cell (p:=⟨b,off+j * 6+q,none⟩) hbg).trans ((HW.o.cell (p:=⟨b,off+j * 6+q,none⟩) (Cl hbg hgw)).trans hq)
   have q0:=cc 0 _ k0;have q1:=cc 1 _ k1;have q2:=cc 2 _ k2;have q3:=cc 3 _ k3;have q4:=cc 4 _ k4;have q5:=cc 5 _ k5;rw [Nat.add_zero] at q0;have hyv:=HV.o y (Aq hx);have hgr:g≤wr.heap.size:=Ae (Bo hgW) hkp.1.size;have hJA:J pre (wr.alloc (.cells (Na y a3 l3 c3 a4 l4 c4) 28)):=HJ.o pre wr _ none hJp (World.grownBy_alloc wr _ none) (fun r e=>by cases e)
   have hKA:KpC g wr (wr.alloc (.cells (Na y a3 l3 c3 a4 l4 c4) 28)):=KpW.below ((Br _ _).alloc (Lr _) _) hgr;obtain ⟨px,hp1⟩:∃px:oY D d S w0,px.1=((Nc y a3 l3 c3 a4 l4 c4),y):=⟨⟨_,hnd,hyv⟩,rfl⟩;obtain ⟨fn,tmps,assign,body,hy,hR⟩:=HY.o pre px _ hJA (by omega)
   have hNX:Hid (iX (pre++[px])=its.take (j+1)):=Hh (by rw [jK,hp1,hpre,Bf,hx];rfl)
   have hk5':(k == 5)=false:=by simpa using hk5
   rw [hp1] at hy;simp only [List.toArray] at hy;have ckA:=aA (hKA.2 _ _ _ _ hgb tnu (hkp.2 _ _ _ _ hgb tnu HK.o));have HKA:=Hh hKA;have HR':=Hh hR;clear k0 k1 k2 k3 k4 k5 cc hpre hpl hJp hkp hJA hKA hR hx hyv hp1 hnd ck
   gi_wp2
   refine ⟨trivial,?_⟩
   gi_wp2
   refine ⟨fun _ h=>(by cases h),?_⟩
   gi_wp2
   refine HR'.out.mono ?_;rintro e W3 (⟨rfl,hJ3,hk3⟩ | ⟨rfl,hJx3⟩)
   ·have HJ3:=Hh hJ3
    have HK3:=Hh hk3;clear hJ3 hk3 HR'
    gi_wp2
    go_roundw
    case rel=>exact ⟨j+1,by omega,by go_num,⟨_,hNX.o,HJ3.o⟩,HKP.o.trans (HKA.o.trans HK3.o)⟩
    case measure=>simp [intOf];omega
   ·have HJ3:=Hh hJx3
    clear hJx3 HR'
    gi_wp2
    refine Ar (results_none rfl _ _ _) rfl ?_;exact ⟨⟨_,rfl⟩,.inr ⟨_,⟨_,by rw [hNX.o];exact Dh _ _⟩,HJ3.o⟩⟩
  ·have hje:its.take j=its:=Ao (by omega)
   have hlt':¬ (j:Int)<(its.length:Int):=by omega
   clear hpre hpl hkp ck
   gi_wp2
   go_end0
   exact ⟨⟨_,rfl⟩,.inl ⟨pre,by rw [HPRE.o,hje],hJp⟩⟩
theorem UM {d:Nat} {s:Bt} (h:aV s=true):aB (d+1) (txC s)=true∧aO (d+1) (txC s)=true:=by
 refine ⟨?_,by rw [cJ];rfl⟩
 rw [cQ];unfold eQ txC;simp [h,ND.kind,ND.bool,ND.num,ND.text,ND.names,ND.items]
theorem OV {D d:Nat} {S:Nat→Prop} {z:Int} {bb:Bool} {t:Bt} {a1 a2:Option Addr} {l1 c1 l2 c2:Nat} (ns:List Bt) (its:List ND) (w0:World) {g b1:Nat} (hS:∀b,S b→b<g) (hgb:b1 ≠ g)
 (hb1:w0.heap[b1]?=some (.cells #[Iz 5,.bool bb,Iz z,.string t,.slice a1 l1 c1,.slice a2 l2 c2] 28 (0,0))) (hns:bE S w0 (.slice a1 l1 c1) ns) (his:cB (aC D S w0) S w0 (.slice a2 l2 c2) its) (hnl:ns.length=its.length) (hok:∀s,s ∈ ns→aV s=true) (hv:∀y,y ∈ its→aB d y=true∧aO d y=true) (hlen:its.length≤256) (hgw:g<w0.heap.size) (n:Nat) (hn1:1≤n)
 (l:Nat) (J Jx:List (oY D d S w0)→World→Prop) (W:World) (hW:Below w0.heap.size w0 W) (hJ:AbidesFrom W.heap.size J)
 (hY:∀pre x W1,J pre W1→pre.length<600→YieldAt Fence.wide (n - 1) prog l #[.agg x.1.1.toArray] W1 fun e W'=>(e=.returned (.bool true)∧J (pre++[x]) W'∧KpC g W1 W')∨(e=.returned (.bool false)∧Jx (pre++[x]) W')) (h0:J [] W) :
 CallsIn Fence.wide n prog 195 #[.func (.yield l) #[] #[],.pointer (some ⟨b1,0,none⟩)] W fun e W'=>(∃v,e=.returned v)∧((∃xs,iX xs=(List.zipWith (fun s y=>[txC s,y]) ns its).flatten∧J xs W')∨(∃pre,iX pre <+: (List.zipWith (fun s y=>[txC s,y]) ns its).flatten∧Jx pre W')):=by
 have hkW:=(hW.block b1 (Aa hb1)).trans hb1;have hgW:g<W.heap.size:=Ll hgw hW.size;obtain ⟨ai,ci,ei,-,-,-⟩:=id his;have hl2:l2=its.length:=by cases ei;rfl
 subst hl2;clear ei;obtain ⟨an,cn,en,hn2,hn3,hSn⟩:=hns;have hl1:l1=ns.length∧a1=an:=by cases en;exact ⟨rfl,rfl⟩
 obtain ⟨rfl,rfl⟩:=hl1;clear en;obtain ⟨Q,hQ⟩:∃Q,Q=(List.zipWith (fun s y=>[txC s,y]) ns its).flatten:=⟨_,rfl⟩
 have HQ:=Hh hQ;rw [←hQ];have hQl:Q.length≤512:=by
  have:=EW (.mk 5 false 0 ⟨#[]⟩ ns its) hlen;rw [hQ];exact this
 have hQ2:∀j,(Q.take (2 * j)).length≤512:=fun j=>by rw [Ba];omega
 have hQe:Q.take (2 * its.length)=Q:=by
  refine Ao ?_;rw [hQ];have:∀ (ns:List Bt) (its:List ND),((List.zipWith (fun s y=>[txC s,y]) ns its).flatten).length≤2 * its.length:=by
   intro ns
   induction ns with
   | nil=>intro its;simp
   | cons s t ih=>
    intro its;cases its with
    | nil=>simp
    | cons y u=>
     rw [Bg,Bp,Lg,Ag];have:=ih u;simp at *;omega
  exact this ns its
 have HQ2:=Hh (Ai hQ2 hQe);have HN:=Hh hSn;have HOK:=Hh hok;have HI:=Hh his;have HV:=Hh hv;have HW:=Hh hW;have HJ:=Hh hJ;have HY:=Hh hY;have HS:=Hh hS;have HK:=Hh hkW;have ck:=aA hkW;clear his hv hb1 hW hJ hY hS hkW hSn hok hQ hQ2 hQe hQl;refine callsIn_of_wp func195 rfl trivial ?_ rfl;simp only [ntmps195,Du,Ag,Bs,Nat.reduceAdd,Nat.reduceSub,Array.replicate_succ,Array.replicate_zero,List.push_toArray,List.append_toArray,Dm,Bm]
 gi_wp2
 gi_loopw [8] (fun i wr=>∃ (j:Nat),j≤its.length∧i=Iz (j:Int)∧(∃pre:List (oY D d S w0),iX pre=Q.take (2 * j)∧J pre wr)∧KpC g W wr) (fun i _=>its.length - (intOf i).toNat)
 case atStart=>exact ⟨0,Ax _,rfl,⟨[],rfl,h0⟩,KpW.refl _ _ _⟩
 case round=>
  obtain ⟨j,hj,rfl,⟨pre,hpre,hJp⟩,hkp⟩:=hrel;have hpl:pre.length≤512:=by
   have:=Ad List.length hpre;have h2:=HQ2.o.1 j;simp only [iX,Bi] at this;omega
  have HPRE:=Hh hpre;have HPL:=Hh hpl;have HKP:=Hh hkp;have ckr:=aA (hkp.2 _ _ _ _ hgb tnu HK.o)
  by_cases hlt:j<its.length
  ·have hlt':(j:Int)<(its.length:Int):=by omega
   have hltn:(j:Int)<(ns.length:Int):=by omega
   have hj0:(0:Int)≤(j:Int):=by omega
   obtain ⟨-,-,-,b,off,y,a3,l3,c3,a4,l4,c4,rfl,hSb,hx,hnd,k0,k1,k2,k3,k4,k5⟩:=HI.o.at hlt;obtain ⟨sn,hsn⟩:∃s,ns[j]?=some s:=⟨_,Ac (by omega)⟩
   obtain ⟨bn,on,hab,hSbn,hcn,hsz⟩:=HN.o j sn hsn;subst hab;have hbg:=HS.o b hSb;have hbgn:=HS.o bn hSbn;have cc:∀q v,w0.cell? ⟨b,off+j * 6+q,none⟩=some v→wr.cell? ⟨b,off+j * 6+q,none⟩=some v:=fun q v hq=>(HKP.o.1.cell (p:=⟨b,off+j * 6+q,none⟩) hbg).trans ((HW.o.cell (p:=⟨b,off+j * 6+q,none⟩) (Cl hbg hgw)).trans hq)
   have q0:=cc 0 _ k0;have q1:=cc 1 _ k1;have q2:=cc 2 _ k2;have q3:=cc 3 _ k3;have q4:=cc 4 _ k4;have q5:=cc 5 _ k5;rw [Nat.add_zero] at q0;have hcnr:wr.cell? ⟨bn,on+j,none⟩=some (.string sn):=(HKP.o.1.cell (p:=⟨bn,on+j,none⟩) hbgn).trans ((HW.o.cell (p:=⟨bn,on+j,none⟩) (Cl hbgn hgw)).trans hcn);have hyv:=HV.o y (Aq hx);have hgr:g≤wr.heap.size:=Ae (Bo hgW) hkp.1.size;have hJA:J pre (wr.alloc (.cells (Na y a3 l3 c3 a4 l4 c4) 28)):=HJ.o pre wr _ none hJp (World.grownBy_alloc wr _ none) (fun r e=>by cases e)
   have hKA:KpC g wr (wr.alloc (.cells (Na y a3 l3 c3 a4 l4 c4) 28)):=KpW.below ((Br _ _).alloc (Lr _) _) hgr;have hkA:=Hn wr (.cells (Na y a3 l3 c3 a4 l4 c4) 28);have hcnA:(wr.alloc (.cells (Na y a3 l3 c3 a4 l4 c4) 28)).cell? ⟨bn,on+j,none⟩=some (.string sn):=(hKA.1.cell (p:=⟨bn,on+j,none⟩) hbgn).trans hcnr;obtain ⟨px,hp1⟩:∃px:oY D d S w0,px.1=((Nc y a3 l3 c3 a4 l4 c4),y):=⟨⟨_,hnd,hyv⟩,rfl⟩;obtain ⟨pt,hpt⟩:∃pt:oY D d S w0,pt.1=([Iz 3,.bool false,Iz 0,.string sn,Sn,Sn],txC sn):=by
    have hd1:∃d',d=d'+1:=by
     cases d with
     | zero=>cases hyv.1
     | succ d=>exact ⟨d,rfl⟩
    have hD1:1≤D:=by
     cases D with
     | zero=>exact hnd.elim
     | succ D=>omega
    obtain ⟨d',rfl⟩:=hd1;exact ⟨⟨(_,txC sn),(cC S w0 3 false 0 sn hsz).deeper hD1,UM (HOK.o sn (Aq hsn))⟩,rfl⟩
   obtain ⟨hz1,hz2⟩:=ID ns its j sn y hsn hx;rw [←HQ.o] at hz1 hz2;have hNX1:Hid (iX (pre++[pt]) <+: Q):=Hh (by rw [jK,hpt,hpre,←hz1];exact List.take_prefix _ _)
   have hNX2:Hid (iX (pre++[pt]++[px])=Q.take (2 * (j+1))):=Hh (by rw [jK,jK,hpt,hp1,hpre,←hz2])
   have ckA:=aA (hKA.2 _ _ _ _ hgb tnu (hkp.2 _ _ _ _ hgb tnu HK.o));have HKA:=Hh hKA;have HkA:=Hh hkA;have HJA:=Hh hJA;have HPT:=Hh hpt;have HPX:=Hh hp1;have HBX:Hid (wr.heap.size ≠ g):=Hh (by have:=hkp.1.size;omega)
   clear k0 k1 k2 k3 k4 k5 cc hpre hpl hJp hkp hJA hKA hx hyv hp1 hnd ck hpt hz1 hz2 hsn hcn hsz hcnr hkA
   gi_wp2
   refine ⟨trivial,(callsIn_wide.2 (gA sn _)).mono ?_⟩;rintro e w4 ⟨rfl,hb4⟩;have hJ4:J pre w4:=HJ.o pre _ _ none HJA.o (aK hb4 (Lr _) none) (fun r e=>by cases e)
   have hK4:=KpW.below (TB:=5) hb4 (Ae hgr HKA.o.1.size);obtain ⟨fn,tmps,assign,body,hy,hR⟩:=HY.o pre pt w4 hJ4 (by have:=HPL.o;omega)
   rw [HPT.o] at hy;simp only [List.toArray] at hy;have HR':=Hh hR;have HK4:=Hh hK4;clear hJ4 hK4 hR hb4 ckA hcnA ckr q0 q1 q2 q3 q4 q5
   gi_wp2
   refine HR'.out.mono ?_;rintro e W5 (⟨rfl,hJ5,hk5⟩ | ⟨rfl,hJx5⟩)
   ·have c5:=aA (hk5.2 _ _ _ _ HBX.o tnu (HK4.o.2 _ _ _ _ HBX.o tnu HkA.o))
    obtain ⟨fn2,tmps2,assign2,body2,hy2,hR2⟩:=HY.o (pre++[pt]) px W5 hJ5 (by have:=HPL.o;simp;omega)
    rw [HPX.o] at hy2;simp only [List.toArray] at hy2;have HR2:=Hh hR2;have HK5:=Hh hk5;clear hJ5 hk5 hR2 hy HR'
    gi_wp2
    refine HR2.o.mono ?_;rintro e W6 (⟨rfl,hJ6,hk6⟩ | ⟨rfl,hJx6⟩)
    ·have HJ6:=Hh hJ6
     have HK6:=Hh hk6;clear hJ6 hk6 HR2 hy2 c5
     gi_wp2
     go_roundw
     case rel=>exact ⟨j+1,by omega,by go_num,⟨_,hNX2.o,HJ6.o⟩,HKP.o.trans (HKA.o.trans (HK4.o.trans (HK5.o.trans HK6.o)))⟩
     case measure=>simp [intOf];omega
    ·have HJ6:=Hh hJx6
     clear hJx6 HR2 hy2 c5
     gi_wp2
     refine Ar (results_none rfl _ _ _) rfl ?_;exact ⟨⟨_,rfl⟩,.inr ⟨_,by rw [hNX2.o];exact List.take_prefix _ _,HJ6.o⟩⟩
   ·have HJ5:=Hh hJx5
    clear hJx5 HR' hy
    gi_wp2
    refine Ar (results_none rfl _ _ _) rfl ?_;exact ⟨⟨_,rfl⟩,.inr ⟨_,hNX1.o,HJ5.o⟩⟩
  ·have hje:j=its.length:=by omega
   have hlt':¬ (j:Int)<(its.length:Int):=by omega
   have hQe:=HQ2.o.2;rw [←hje] at hQe;have HQE:=Hh hQe;clear hpre hpl hkp ck hQe hje
   gi_wp2
   go_end0
   exact ⟨⟨_,rfl⟩,.inl ⟨pre,by rw [HPRE.o,HQE.o],hJp⟩⟩
theorem EY {D d:Nat} {S:Nat→Prop} {x:ND} {a1 a2:Option Addr} {l1 c1 l2 c2:Nat} (w0:World) {g b1:Nat} (hS:∀b,S b→b<g) (hgb:b1 ≠ g)
 (hb1:w0.heap[b1]?=some (.cells (Na x a1 l1 c1 a2 l2 c2) 28 (0,0))) (h:aC (D+1) S w0 (Nc x a1 l1 c1 a2 l2 c2) x) (hv:aB (d+1) x=true) (hn:aO (d+1) x=true) (hgw:g<w0.heap.size) (n:Nat) (hn1:1≤n) :
 SeqStopsK Fence.wide n prog 195 #[.pointer (some ⟨b1,0,none⟩)] (fun p:oY D d S w0=>#[.agg p.1.1.toArray]) (KpC g) (fun xs=>iX xs=lZ x) (fun pre=>iX pre <+: lZ x) 600 w0:=fun l J Jx W hW hJ _ hY h0=>by
 obtain ⟨vn,vi,e,-,hns,his⟩:=h;simp only [Bq,Di,Dp] at e;obtain ⟨rfl,rfl⟩:=e;obtain ⟨hi,hl,-,hnm⟩:=aX hv;obtain ⟨-,hni⟩:=cL hn
 by_cases hk5:x.kind=5
 ·have hp:lZ x=(List.zipWith (fun s y=>[txC s,y]) x.names x.items).flatten:=by unfold lZ;rw [Am hk5]
  have hnl:x.names.length=x.items.length:=by
   rcases jA hv with e | e | e | e | e | ⟨-,e⟩
   ·rw [e] at hk5;cases hk5
   ·rw [e] at hk5;cases hk5
   ·rw [e] at hk5;cases hk5
   ·rw [e] at hk5;cases hk5
   ·rw [e] at hk5;cases hk5
   ·exact e
  rw [hp];rw [Na,hk5] at hb1;exact OV x.names x.items w0 hS hgb hb1 hns his hnl hnm (fun y hy=>⟨hi y hy,hni y hy⟩) hl hgw n hn1 l J Jx W hW hJ hY h0
 ·have hp:lZ x=x.items:=by unfold lZ;rw [Af hk5]
  rw [hp];exact JY x.items w0 hS hgb hb1 hk5 his (fun y hy=>⟨hi y hy,hni y hy⟩) hl hgw n hn1 l J Jx W hW hJ hY h0
end Go.Proofs.YtncdpanfefnjlaaGreatDoor