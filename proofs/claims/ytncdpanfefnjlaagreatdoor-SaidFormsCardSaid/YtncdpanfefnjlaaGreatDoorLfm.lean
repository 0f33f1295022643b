import Derived.Test.YtncdpanfefnjlaaGreatDoorLch
set_option linter.unusedVariables false
set_option linter.unusedSimpArgs false
set_option maxHeartbeats 6400000
set_option maxRecDepth 100000
namespace Go.Proofs.YtncdpanfefnjlaaGreatDoor
open Go.Proofs.Tryz
open Go Go.ChangeShapes Go.WideShapes Go.ChangeAt Go.RowKit
structure JT (w:World):Prop where
 f:uL w
 d:DB w
 s:JI w
 l:Lay w
theorem JT.below {w w':World} (h:JT w) (a:Below w.heap.size w w'):JT w':=⟨h.f.below a,h.d.below a,h.s.below a,h.l.go a⟩
def jQ (d:Nat) (X:ND) (s:Bt) (w:World) (e:Ending) (w':World):Prop:=∃a:Vl,e=.returned (.tuple #[.agg a.toArray,.string s,Iz 0])∧aD d (fun b=>w.heap.size≤b∧b<w'.heap.size) w' a X∧Below w.heap.size w w'
structure NB (w:World) (g d:Nat) (X:ND) (a:Option Addr) (l c:Nat) (b:Option Addr) (m n:Nat):Prop where
 blk:w.heap[g]?=some (.cells #[Iz X.kind,.bool X.bool,Iz X.num,.string X.text,.slice a l c,.slice b m n] 28 (0,0))
 nod:aD d (fun i=>i<w.heap.size) w [Iz X.kind,.bool X.bool,Iz X.num,.string X.text,.slice a l c,.slice b m n] X
section
variable {w w':World} {g d:Nat} {X:ND} {a b:Option Addr} {l c m n:Nat}
theorem NB.below (h:NB w g d X a l c b m n) (e:Below w.heap.size w w'):NB w' g d X a l c b m n:=
 ⟨(e.block _ (Aa h.blk)).trans h.blk,(h.nod.same fun i q=>e.block i q).mono fun i q=>Ll q e.size⟩
theorem NB.new {S:Nat→Prop} (g:aD d S w [Iz X.kind,.bool X.bool,Iz X.num,.string X.text,.slice a l c,.slice b m n] X) (e:∀i,S i→i<w.heap.size):NB (w.alloc (.cells #[Iz X.kind,.bool X.bool,Iz X.num,.string X.text,.slice a l c,.slice b m n] 28)) w.heap.size d X a l c b m n:=by
 have f:=(Br w.heap.size w).alloc (o:=.cells #[Iz X.kind,.bool X.bool,Iz X.num,.string X.text,.slice a l c,.slice b m n] 28) (Lr _);exact ⟨Hn w _,(g.same fun i q=>f.block i (e i q)).mono fun i q=>Ll (e i q) f.size⟩
theorem NB.six (h:NB w g d X a l c b m n):w.cell? ⟨g,0,none⟩=some (Iz X.kind)∧w.cell? ⟨g,1,none⟩=some (.bool X.bool)∧w.cell? ⟨g,2,none⟩=some (Iz X.num)∧w.cell? ⟨g,3,none⟩=some (.string X.text)∧w.cell? ⟨g,4,none⟩=some (.slice a l c)∧w.cell? ⟨g,5,none⟩=some (.slice b m n):=aA h.blk
theorem dI (w:World) (o:Obj):Below w.heap.size w (w.alloc o):=(Br w.heap.size w).alloc (Lr _) o
end
theorem LS {d m:Nat} {S:Nat→Prop} (g:Vl) (x:ND) (q:Value) (ls:List Bt) (p:Bt) (k:Int) (w:World) (h:aD (d+1) S w g x) (y:∀b,S b→b<w.heap.size) (j:cO 7 x) (u:aP 8 x=true) (C:bK 8 x≤400000000) (E:bH S w q ls) (a:ls.length≤900000) (t:∀l,l ∈ ls→l.size≤m) (n:ls.length * (6 * m+40)≤100000000) (A:1≤d) (B:wI k) (r:spE x ls p k=0) (i:JT w) :
 Calls prog 10 #[.agg g.toArray,q,.string p,Iz k] w (jQ (d+1) (bI (spM x ls p k) p k) (foS k (bI (spM x ls p k) p k)) w):=
 (LT g x q ls p k w h y (dS 8 (d+1) x ((cK j.kind).2 j)) E a A B (fun _=>u) (fun j c o _=>FM j u C t n a o) i.f i.d i.s i.l).mono fun e w'=>by
  rintro ⟨g,e,v,n⟩;have z:spX x ls p k=bI (spM x ls p k) p k:=by unfold spX;rw [Am r]
  have D:spS x ls p k=foS k (bI (spM x ls p k) p k):=by unfold spS;rw [Am r]
  rw [z] at v;rw [D,r] at e;exact ⟨g,e,v,n⟩
theorem EL {d:Nat} {S:Nat→Prop} (c:Vl) (x:ND) (a:Value) (ls:List Bt) (p:Bt) (k:Int) (w:World) (O:fE x ls p k) (h:aD (d+1) S w c x) (g:∀b,S b→b<w.heap.size) (l:bH S w a ls) (j:1≤d) (i:wI k) (f:JT w) :
 Calls prog 10 #[.agg c.toArray,a,.string p,Iz k] w (jQ (d+1) (bI (spM x ls p k) p k) (foS k (bI (spM x ls p k) p k)) w):=
 LS (m:=1) c x a ls p k w h g O.map O.nums (Af O.cost0 (by decide)) l (Af O.two (by decide)) O.labs (Af (Nat.mul_le_mul O.two (Lr _)) (by decide)) j i O.e f
theorem xJ {S:Nat→Prop} (x:ND) (r:Value) (ls o:List Bt) (p:Bt) (k:Int) (w:World) (O:fE x ls p k) (h:∀l,l ∈ o↔l ∈ ls) (q:o.length≤2) (t:bH S w r o) (D:∀b,S b→b<w.heap.size) (i:JT w) :
 Calls prog 11 #[.string (foS k (bI (spM x ls p k) p k)),r] w (jQ 9 (bI (spM x ls p k) p k) (spD x ls p k) w |> fun P e w'=>P e w'):=by
 obtain ⟨j,u⟩:=O.find;refine (TD (foS k (bI (spM x ls p k) p k)) r o w t D (by omega) (Af (yF k _) (by decide)) (fun v F n a y E G c C I=>?_) i.f i.d i.s i.l).mono fun e w'=>?_
 ·rw [u] at a
  have e:=Ad Prod.fst (Ab a);simp only at e;subst e;obtain ⟨-,rfl⟩:=O.fit.kit.read y;exact FM (m:=1) E O.fit.kit.nums (Af O.cost (by decide)) (fun l t=>O.labs l ((h l).1 t)) (Af (Nat.mul_le_mul q (Lr _)) (by decide)) (by omega) C
 ·rintro (⟨g,-⟩ | ⟨v,F,n,J,B,a,y,e,A,H⟩)
  ·rw [u] at g;cases g
  ·rw [u] at a
   have z:=Ad Prod.fst (Ab a);simp only at z;subst z;obtain ⟨rfl,rfl⟩:=O.fit.kit.read y;obtain ⟨c1,c2⟩:=O.check h;rw [c1,(O.dig h).2] at e;rw [c2] at A;exact ⟨B,e,A,H⟩
def sD:Bt:=⟨#[100]⟩
def cZ:Bt:=⟨#[75,69,82,73]⟩
def awN:ND:=.mk 5 false 0 ⟨#[]⟩ [sD] [nd0]
theorem MS {k:Int} (a:1≤k) (b:k≤3):aY ⟨cZ,1,0,k,0⟩=true:=by
 rcases (by omega:k=1∨k=2∨k=3) with rfl | rfl | rfl <;> decide +kernel
theorem TJ:fE awN [sD] cZ 1:=
 UH ((cK rfl).1 (by decide +kernel)) (by decide +kernel) (by decide +kernel) (by decide) (by decide) (by simp) (by decide +kernel) (fun l a=>by cases At.1 a;decide +kernel) (MS (by decide) (by decide))
theorem aIp:60<(foS 1 (bI (spM awN [sD] cZ 1) cZ 1)).size:=by
 have h:=TJ;have a:=lQ (mK (bL awN [sD] fD) cZ 1);have b:=wH h.fit.val;rw [h.fit.kit.size,h.shape];rw [show spD awN [sD] cZ 1=pN (mK (bL awN [sD] fD) cZ 1) from rfl]
 rw [show fL cZ 1 (vfZ (spM awN [sD] cZ 1) cZ 1)=vtS ⟨cZ,1,0,1,vfZ (spM awN [sD] cZ 1) cZ 1⟩ from rfl]
 generalize pN (mK (bL awN [sD] fD) cZ 1)=d at a ⊢;generalize vtS ⟨cZ,1,0,1,vfZ (spM awN [sD] cZ 1) cZ 1⟩=t at b ⊢;have e:(fW (fN (dR awN) [sD])).map (eL [sD] (tN d))=[(sD,tN d)]:=by
  have c:fN (dR awN) [sD]=dR awN:=yI fun l i=>by cases At.1 i;decide +kernel
  rw [c];have f:fW (dR awN)=[(sD,nd0)]:=by
   show List.filter _ [(sD,nd0)]=_
   rw [List.filter_cons_of_pos (by decide +kernel)];rfl
  rw [f]
  show [eL [sD] (tN d) (sD,nd0)]=_
  unfold eL;rw [Am (At.2 rfl)]
 rw [e];have g:d.data.toList.length=44:=by rw [Ah];exact a.1
 show 60<(123::(((bE sV.data.toList++58::bE t.data.toList)++44::(bE sD.data.toList++58::bE d.data.toList))++[125])).length
 rw [nK a.2];simp only [Ag,Lg,g];have k:(bE sV.data.toList).length=3:=by decide +kernel
 have j:(bE sD.data.toList).length=3:=by decide +kernel
 have m:17≤(bE t.data.toList).length:=by
  rw [b.1,wR b.2.2,Ag,Lg,gG h.fit.val]
  decide
 omega
theorem tL {w:World} (ls:List Bt) (a:ls.length≤100) (c:∀s,s ∈ ls→s.size≤100):bH (fun b=>b<(w.alloc (.cells (ls.map Value.string).toArray 9)).heap.size) (w.alloc (.cells (ls.map Value.string).toArray 9)) (.slice (some ⟨w.heap.size,0,none⟩) ls.length ls.length) ls:=
 qU ls (Hn w _) rfl (by simp) (Af a (by decide)) fun s h=>Af (c s h) (by decide)
theorem OK (w:World) (J:JT w):Calls prog 6 #[] w fun e w'=>e=.returned (.bool true)∧Below w.heap.size w w':=by
 obtain ⟨W,z⟩:∃W,W=((w.alloc (.cells #[.string ⟨#[100]⟩] 9)).alloc (.cells Z6 28)).alloc (.cells #[Iz 5,.bool false,Iz 0,.string ⟨#[]⟩,.slice (some ⟨w.heap.size,0,none⟩) 1 1,.slice (some ⟨w.heap.size+1,0,none⟩) 1 1] 28):=⟨_,rfl⟩;have z1:(w.alloc (.cells #[.string ⟨#[100]⟩] 9)).heap.size=w.heap.size+1:=by simp
 have z2:((w.alloc (.cells #[.string ⟨#[100]⟩] 9)).alloc (.cells Z6 28)).heap.size=w.heap.size+1+1:=by simp
 have i:Below w.heap.size w W:=by rw [z];exact (((Br _ _).alloc (Lr _) _).alloc (by simp) _).alloc (by simp;omega) _
 have S:W.heap[w.heap.size]?=some (.cells #[.string ⟨#[100]⟩] 9 (0,0)):=by rw [z];exact (Bj _ _ _ (by omega)).trans ((Bj _ _ _ (by omega)).trans (Hn _ _))
 have k1:W.heap[w.heap.size+1]?=some (.cells Z6 28 (0,0)):=by
  have:=Hn (w.alloc (.cells #[.string ⟨#[100]⟩] 9)) (.cells Z6 28);rw [z1] at this;rw [z];exact (Bj _ _ _ (by omega)).trans this
 have k2:W.heap[w.heap.size+1+1]?=some (.cells #[Iz 5,.bool false,Iz 0,.string ⟨#[]⟩,.slice (some ⟨w.heap.size,0,none⟩) 1 1,.slice (some ⟨w.heap.size+1,0,none⟩) 1 1] 28 (0,0)):=by
  have:=Hn ((w.alloc (.cells #[.string ⟨#[100]⟩] 9)).alloc (.cells Z6 28)) (.cells #[Iz 5,.bool false,Iz 0,.string ⟨#[]⟩,.slice (some ⟨w.heap.size,0,none⟩) 1 1,.slice (some ⟨w.heap.size+1,0,none⟩) 1 1] 28);rw [z2] at this;rw [z];exact this
 have Y:aD 2 (fun b=>b<W.heap.size) W [Iz 5,.bool false,Iz 0,.string ⟨#[]⟩,.slice (some ⟨w.heap.size,0,none⟩) 1 1,.slice (some ⟨w.heap.size+1,0,none⟩) 1 1] awN:=
  ⟨_,_,rfl,Av _,qU [sD] S rfl (Aa S) (by decide) (fun s N=>by cases At.1 N;decide),
   AK [(Y6,nd0)] k1 rfl (Aa k1) (by decide) fun y L=>by cases At.1 L;exact cJ _ W 0 false 0 ⟨#[]⟩ (by decide)⟩
 have HB:=Hh i;have HN:=Hh Y;have HT:=Hh J;have HK:=Hh k2;have c2:=aA k2;have O:=(Br W.heap.size W).alloc (o:=.cells #[.string ⟨#[100]⟩] 9) (Lr _);have I:Hid (Calls prog 10 #[.agg #[Iz 5,.bool false,Iz 0,.string ⟨#[]⟩,.slice (some ⟨w.heap.size,0,none⟩) 1 1,.slice (some ⟨w.heap.size+1,0,none⟩) 1 1],.slice (some ⟨W.heap.size,0,none⟩) 1 1,.string ⟨#[75,69,82,73]⟩,Iz 1] (W.alloc (.cells #[.string ⟨#[100]⟩] 9)) (jQ 2 (bI (spM awN [sD] cZ 1) cZ 1) (foS 1 (bI (spM awN [sD] cZ 1) cZ 1)) (W.alloc (.cells #[.string ⟨#[100]⟩] 9)))):=
  Hh (EL (d:=1) [Iz 5,.bool false,Iz 0,.string ⟨#[]⟩,.slice (some ⟨w.heap.size,0,none⟩) 1 1,.slice (some ⟨w.heap.size+1,0,none⟩) 1 1] awN _ [sD] cZ 1 _ TJ ((Y.same fun b q=>O.block b q).mono fun b q=>Ll q O.size) (fun b q=>q) (tL [sD] (by decide) (fun s N=>by cases At.1 N;decide)) (by decide) (by unfold wI;omega) (J.below (i.trans (O.mono i.size))))
 have x:Hid (∀c:World,Below w.heap.size w c→Calls prog 11 #[.string (foS 1 (bI (spM awN [sD] cZ 1) cZ 1)),.slice (some ⟨c.heap.size,0,none⟩) 1 1] (c.alloc (.cells #[.string ⟨#[100]⟩] 9)) (jQ 9 (bI (spM awN [sD] cZ 1) cZ 1) (spD awN [sD] cZ 1) (c.alloc (.cells #[.string ⟨#[100]⟩] 9)))):=
  Hh fun c M=>xJ awN _ [sD] [sD] cZ 1 _ TJ (fun _=>Iff.rfl) (by decide) (tL [sD] (by decide) (fun s N=>by cases At.1 N;decide)) (fun b q=>q) (J.below (M.trans (((Br c.heap.size c).alloc (Lr _) _).mono M.size)))
 have F:=Hh O;have k:=Hh aIp;have p:(spD awN [sD] cZ 1).size=44:=(lQ _).1;have n:∃r,(spD awN [sD] cZ 1).data.toList=69::r:=aEp _;generalize spD awN [sD] cZ 1=A at x p n;have DU:=Hh (fun (c:World) (i:Below w.heap.size w c)=>vQ c (J.l.go i))
 have T:=Hh p;have xb:=Hh n;clear i Y J S k1 k2 z1 z2 O p n;generalize bI (spM awN [sD] cZ 1) cZ 1=X at I x k;generalize foS 1 X=s at I x k;unfold jQ at I x
 go_enter func6,ntmps6
 go_upto_region 2 with fail
 rw [←z];clear z
 go_upto_region 3 with ((with_reducible refine (I.o).mono ?_);rintro e K ⟨cx,rfl,hx,u⟩;obtain ⟨a1,l1,c1,a2,l2,Q,rfl⟩:=hx.slices)
 have G:=(Br K.heap.size K).alloc (o:=.cells #[Iz X.kind,.bool X.bool,Iz X.num,.string X.text,.slice a1 l1 c1,.slice a2 l2 Q] 28) (Lr _);have v:=Hn K (.cells #[Iz X.kind,.bool X.bool,Iz X.num,.string X.text,.slice a1 l1 c1,.slice a2 l2 Q] 28);have B:=(hx.same fun b q=>G.block b q.2).mono fun b q=>Ll q.2 G.size
 have f:=HB.o.trans ((F.o.trans ((u.trans (G.mono u.size)).mono F.o.size)).mono HB.o.size);generalize K.alloc _=w4 at G v B f ⊢;generalize K.heap.size=g4 at v ⊢;have E:=Hh f;have H:=Hh v;have U:=Hh B;have C4:=Hh (x.o _ f);have C:=(Br w4.heap.size w4).alloc (o:=.cells #[.string ⟨#[100]⟩] 9) (Lr _);have j:=Hh C;clear hx u G v B f c2 I x C
 go_upto_region 4 with ((with_reducible refine (C4.o).mono ?_);rintro e D ⟨cy,rfl,L,t⟩;obtain ⟨a3,l3,c3,a4,l4,c4,rfl⟩:=L.slices)
 have P:=(Br D.heap.size D).alloc (o:=.cells #[Iz X.kind,.bool X.bool,Iz X.num,.string X.text,.slice a3 l3 c3,.slice a4 l4 c4] 28) (Lr _);have R:=Hn D (.cells #[Iz X.kind,.bool X.bool,Iz X.num,.string X.text,.slice a3 l3 c3,.slice a4 l4 c4] 28);have h6:=(L.same fun b q=>P.block b q.2).mono fun b q=>Ll q.2 P.size
 have a:=j.o.trans ((t.trans (P.mono t.size)).mono j.o.size);generalize D.alloc _=V at P R h6 a ⊢;generalize D.heap.size=g6 at R ⊢;have g:=Hh (E.o.trans (a.mono E.o.size));have v:=(a.block _ (Aa H.o)).trans H.o;have B:=(U.o.same fun b q=>a.block b q).mono fun b q=>Ll q a.size
 have SM:=Hh (uX 2 9 _ _ _ _ X X V B h6 (fun b q=>q) (fun b q=>q))
 have x4:=aA v;have x6:=aA R;have xf:(60:Int)<(s.size:Int):=by have:=k.o;omega
 have xd:(A.size:Int)=44:=by rw [T.o];rfl
 have xg:∀h:0<A.size,((A[0]'h).toNat:Int)=69:=fun h=>by
  obtain ⟨r,hr⟩:=xb.o;have h1:A.data.toList[0]?=some 69:=by rw [hr];rfl
  rw [Array.getElem?_toList,Cd (show 0<A.data.size from h)] at h1
  have h2:A[0]'h=69:=Ab h1;rw [h2];rfl
 have xe:(fD.size:Int)=44:=rfl;have xc:=Hh (fun (c:World) (i:Below V.heap.size V c)=>DU.o c (g.o.trans (i.mono g.o.size)))
 clear L t P R h6 a v B DU C4
 go_wp2_with (first
  | (go_at_call 13;(with_reducible refine (SM.o).mono ?_);rintro e w7 ⟨bz,rfl,Z,m⟩;obtain rfl:bz=true:=Z.2 (by first | exact rfl | trivial))
  | (go_at_call 16;(with_reducible refine (xc.o _ m).mono ?_);rintro e w8 ⟨rfl,xa⟩))
 go_ret
 exact ⟨rfl,g.o.trans ((m.trans (xa.mono m.size)).mono g.o.size)⟩
end Go.Proofs.YtncdpanfefnjlaaGreatDoor
namespace Go.Proofs.YtncdpanfefnjlaaGreatDoor
open Go.Proofs.Tryz
open Go Go.ChangeShapes Go.WideShapes Go.ChangeAt Go.RowKit Go.Shelf Go.Lib
theorem oT {P:Program} {W:World} {a:String} {k:IntKind} {zs:List Int} {l:List (String × DataW Unit)} {g:Nat} {t e:TypeId} {n:Nat}
 (o:P.globalNamed a=some g) (f:(P.globals[g]?).map (·.type)=some t) (u:P.underlying t=some (.array n e)) (q:P.underlying e=some (.int k)) (d:P.cellsOf e=1) (j:P.cellsOf t=n)
 (h:laidMet P l W) (r:(a,Lib.tabData k zs) ∈ l):Lib.TabIs P W a k zs:=by
 obtain ⟨v,w,x,m,p,i,c,b,s⟩:=Lib.laidMet.reads h r;obtain rfl:=Ab (o.symm.trans i);obtain rfl:=Ab (f.symm.trans c);unfold Lib.TabIs;rw [b,←Lib.cells_of_tab u q d j s]
theorem aCx:(Rows.laid_keyevent_hash_roundConstants:DataW Unit)=Lib.tabData .u32 KL:=by kernel_rfl
theorem aCy:(Rows.laid_keyevent_hash_startSums:DataW Unit)=Lib.tabData .u32 HL:=by kernel_rfl
def aKc:List (DataW Unit):=(List.range 9).map fun i=>.agg [.lit (.string (kU i)),.lit (.int .i64 (lC i))]
theorem aCw:(Rows.laid_keyevent_primitive_layouts:DataW Unit)=.agg aKc:=by kernel_rfl
theorem ZY:Tryz.prog.cellsOf 99=2:=by kernel_rfl
theorem ZX:Tryz.prog.cellsOf 9=1:=by kernel_rfl
theorem ZZ:Tryz.prog.cellsOf 3=1:=by kernel_rfl
theorem aCf {a:Vl} {k:Nat} {v:Value} (h:(a.drop k).take 1=[v]):a[k]?=some v:=by
 have:=Ad (·[0]?) h
 simpa [Dn,List.getElem?_drop] using this
theorem aHp {W:World} {e:TypeId × Value→Unit} {base:Nat} {j:Nat→Bool} {a:Bool} {b:Nat} {d:Vl} {c:Ub} {r:Nat} {p:List MemPlace}
 (h:DataW.trod e prog W base j a b 99 d=some (.agg [.lit (.string c),.lit (.int .i64 r)],p)):d[0]?=some (.string ⟨c.toArray⟩)∧d[1]?=some (.int .i64 r):=by
 obtain ⟨v,u,n,g,w,i,f⟩:=trod_struct2 underlying99 h;simp only [ZX,ZZ] at i f;obtain ⟨s,l,q,_⟩:=DataW.trod_string underlying9 i;obtain ⟨z,o,t,_⟩:=DataW.trod_int underlying3 f;subst q t;simp only [Dt,DataW.agg.injEq,Bu,Db,Lit.string.injEq,Lit.int.injEq,Dj,Dd] at g;obtain ⟨⟨k,m⟩,-⟩:=g;refine ⟨?_,?_⟩
 ·rw [aCf l,k]
 ·rw [aCf o,m]
theorem ID {W : World} {t : Array Value} {e : Nat} {p : List MemPlace} (o : W.var? prog "keyevent/primitive.layouts" = some t) (h : DataW.trod (fun _ => ()) prog W 0 (fun _ => true) false e 134 t.toList = some (Rows.laid_keyevent_primitive_layouts, p)) : Lay W := by
 rw [aCw] at h;obtain ⟨j,m,rfl,u,x,w,f⟩:=DataW.trod_array underlying134 h;intro i r;have a:=f i r;rw [ZY] at a;have k:j.map (·.1)=aKc:=by
  have:=Ad Prod.fst u
  simpa using this.symm
 obtain ⟨b,l⟩:∃b,j[i]?=some b:=⟨j[i]'(by omega),Ac (by omega)⟩
 rw [l] at a;have c:b.1=.agg [.lit (.string (kU i)),.lit (.int .i64 (lC i))]:=by
  have:=Ad (·[i]?) k;simp only [Be,l,Option.map_some] at this;simp only [aKc,Be,List.getElem?_range r,Option.map_some,Option.some.injEq] at this;exact this
 obtain ⟨d,q⟩:=b;simp only at c;subst c;obtain ⟨s,n⟩:=aHp a;rw [Dn,Am (by omega),List.getElem?_drop] at s n
 have v:=World.var?_cell (g:=1) (by kernel_rfl) o (i * 2)
 have c1:=World.var?_cell (g:=1) (by kernel_rfl) o (i * 2+1)
 rw [v,c1];exact ⟨by simpa using s,by simpa using n⟩
theorem NW {w : World} (h : laidMetH prog [("math/bits.deBruijn32tab", Rows.laid_math_bits_deBruijn32tab), ("math/bits.deBruijn64tab", Rows.laid_math_bits_deBruijn64tab), ("internal/strconv.uint64pow10", Rows.laid_internal_strconv_uint64pow10), ("unicode/utf8.acceptRanges", Rows.laid_unicode_utf8_acceptRanges), ("keyevent/primitive.layouts", Rows.laid_keyevent_primitive_layouts), ("strconv.ErrRange", Rows.laid_strconv_ErrRange), ("strconv.ErrSyntax", Rows.laid_strconv_ErrSyntax), ("keyevent/hash.roundConstants", Rows.laid_keyevent_hash_roundConstants), ("keyevent/hash.startSums", Rows.laid_keyevent_hash_startSums), ("keyevent/pack.scales", Rows.laid_keyevent_pack_scales), ("unicode/utf8.first", Rows.laid_unicode_utf8_first)] w) : JT w := by
 rw [MakeChecks.laidMetH_plain _ _ _ (by kernel_rfl)] at h
 obtain ⟨a,K,y,-,-,-⟩:=laid_sentinel h.tail.tail.tail.tail.tail (g:=7) (ti:=94) (tp:=253) (te:=255) (ts:=9) (by kernel_rfl) (by kernel_rfl) underlying94 UJ underlying253 underlying255 rfl rfl underlying9 (by kernel_rfl) (by kernel_rfl)
 obtain ⟨b,L,x,-,-,-⟩:=laid_sentinel h.tail.tail.tail.tail.tail.tail (g:=6) (ti:=94) (tp:=253) (te:=255) (ts:=9) (by kernel_rfl) (by kernel_rfl) underlying94 UJ underlying253 underlying255 rfl rfl underlying9 (by kernel_rfl) (by kernel_rfl)
 have l:w.cell? ⟨6,0,none⟩=some (.iface 253 (.pointer (some b))):=by
  have:=World.var?_cell (g:=6) (by kernel_rfl) x 0
  simpa using this
 have k:w.cell? ⟨7,0,none⟩=some (.iface 253 (.pointer (some a))):=by
  have:=World.var?_cell (g:=7) (by kernel_rfl) y 0
  simpa using this
 have I:Scl w:=by
  obtain ⟨C,D,E,o,p,d,f,c,m⟩:=Lib.laidMet.reads h (.tail _ (.tail _ (.tail _ (.tail _ (.tail _ (.tail _ (.tail _ (.tail _ (.tail _ (.head _))))))))));have l : Tryz.prog.globalNamed "keyevent/pack.scales" = some 9 := by kernel_rfl
  obtain rfl:=Ab (l.symm.trans d);have k:(Tryz.prog.globals[9]?).map (·.type)=some 250:=by kernel_rfl
  obtain rfl:=Ab (k.symm.trans f);exact GO c m
 have J:Lay w:=by
  obtain ⟨C,D,E,o,p,d,f,c,m⟩:=Lib.laidMet.reads h (.tail _ (.tail _ (.tail _ (.tail _ (.head _)))));have l : Tryz.prog.globalNamed "keyevent/primitive.layouts" = some 1 := by kernel_rfl
  obtain rfl:=Ab (l.symm.trans d);have k:(Tryz.prog.globals[1]?).map (·.type)=some 134:=by kernel_rfl
  obtain rfl:=Ab (k.symm.trans f);exact ID c m
 have m:DB w:=by
  have A:=h.tail;rw [WC] at A;have r : TabIs prog w "math/bits.deBruijn64tab" .u8 (Lib.deBruijn64tab.map Int.ofNat) := tabIs_of_head (g := 11) (t := 259) (e := 5) (n := 64) (by kernel_rfl) (by kernel_rfl) underlying259 underlying5 (by kernel_rfl) (by kernel_rfl) A
  have k:=World.var?_cell (g:=11) (by kernel_rfl) r 15
  exact k.trans (by kernel_rfl)
 have s:JI w:=by
  have u:=h;rw [aCx,aCy] at u;have G:=oT (P:=prog) (g:=2) (t:=141) (e:=106) (n:=64) (by kernel_rfl) (by kernel_rfl) underlying141 underlying106 (by kernel_rfl) (by kernel_rfl) u (.tail _ (.tail _ (.tail _ (.tail _ (.tail _ (.tail _ (.tail _ (.head _))))))))
  have F:=oT (P:=prog) (g:=0) (t:=107) (e:=106) (n:=8) (by kernel_rfl) (by kernel_rfl) underlying107 underlying106 (by kernel_rfl) (by kernel_rfl) u (.tail _ (.tail _ (.tail _ (.tail _ (.tail _ (.tail _ (.tail _ (.tail _ (.head _)))))))))
  have z:uJ w:=fun i H=>G.cell (g:=2) (by kernel_rfl) i (by rw [show KL.length=64 by decide];exact H)
  have r:aFy w:=by
   intro j v q;have B:j<HL.length:=by
    rcases Cf j HL.length with h | h
    ·exact h
    ·rw [Cb (by rw [dN];exact h)] at q;cases q
   rw [lU HL j B] at q;cases q;rw [Ca];exact F.cell (g:=0) (by kernel_rfl) j B
  refine ⟨z,r,cD (z 0 (by omega)),?_⟩
  have:=r 0 _ (lU HL 0 (by decide))
  exact cD this
 exact ⟨⟨jR.of (MT ▸ Lib.laidMet.reads h (.tail _ (.tail _ (.tail _ (.tail _ (.tail _ (.tail _ (.tail _ (.tail _ (.tail _ (.tail _ (.head _)))))))))))) (IG ▸ Lib.laidMet.reads h (.tail _ (.tail _ (.tail _ (.head _))))),aDk h.tail.tail,⟨⟨_,_,l⟩,⟨_,_,k⟩⟩,I⟩,m,s,J⟩
theorem SO (a : Os) (args : Array Value) : laidMetH prog [("math/bits.deBruijn32tab", Rows.laid_math_bits_deBruijn32tab), ("math/bits.deBruijn64tab", Rows.laid_math_bits_deBruijn64tab), ("internal/strconv.uint64pow10", Rows.laid_internal_strconv_uint64pow10), ("unicode/utf8.acceptRanges", Rows.laid_unicode_utf8_acceptRanges), ("keyevent/primitive.layouts", Rows.laid_keyevent_primitive_layouts), ("strconv.ErrRange", Rows.laid_strconv_ErrRange), ("strconv.ErrSyntax", Rows.laid_strconv_ErrSyntax), ("keyevent/hash.roundConstants", Rows.laid_keyevent_hash_roundConstants), ("keyevent/hash.startSums", Rows.laid_keyevent_hash_startSums), ("keyevent/pack.scales", Rows.laid_keyevent_pack_scales), ("unicode/utf8.first", Rows.laid_unicode_utf8_first)] ((World.laidAll prog a [("math/bits.deBruijn32tab", Rows.laid_math_bits_deBruijn32tab), ("math/bits.deBruijn64tab", Rows.laid_math_bits_deBruijn64tab), ("internal/strconv.uint64pow10", Rows.laid_internal_strconv_uint64pow10), ("unicode/utf8.acceptRanges", Rows.laid_unicode_utf8_acceptRanges), ("keyevent/primitive.layouts", Rows.laid_keyevent_primitive_layouts), ("strconv.ErrRange", Rows.laid_strconv_ErrRange), ("strconv.ErrSyntax", Rows.laid_strconv_ErrSyntax), ("keyevent/hash.roundConstants", Rows.laid_keyevent_hash_roundConstants), ("keyevent/hash.startSums", Rows.laid_keyevent_hash_startSums), ("keyevent/pack.scales", Rows.laid_keyevent_pack_scales), ("unicode/utf8.first", Rows.laid_unicode_utf8_first)]).forCall (fun _ _ => 0) ⟨#[], args, []⟩).memory := by
 rw [MakeChecks.laidMetH_plain _ _ _ (by kernel_rfl)]
 exact laidMet_laidAll _ (by kernel_rfl) (by kernel_rfl)
end Go.Proofs.YtncdpanfefnjlaaGreatDoor
namespace Go.Proofs.YtncdpanfefnjlaaGreatDoor
open Go.Proofs.Tryz
open Go Go.ChangeShapes Go.WideShapes Go.ChangeAt Go.RowKit
theorem IU:∀l,l ∈ [sD]→l.size≤1∧aZ l=true:=by decide +kernel
theorem d_v:sV ∉ [sD]:=by decide +kernel
def JK (d:Nat) (w:World) (y:ND) (e:Ending) (w':World):Prop:=∃ (a:Option Addr) (l c:Nat) (b:Option Addr) (m n:Nat),e=.returned (.tuple #[.agg #[Iz 5,.bool false,Iz 0,.string ⟨#[]⟩,.slice a l c,.slice b m n],Iz 0])∧Below w.heap.size w w'∧aD d (fun i=>w.heap.size≤i∧i<w'.heap.size) w' [Iz 5,.bool false,Iz 0,.string ⟨#[]⟩,.slice a l c,.slice b m n] y
theorem aKn.good10 {d:Nat} {w w':World} {y:ND} {e:Ending} (h:aKn (d+1) w y e w') (k:aC 8 y=true):JK (d+1) w y e w':=by
 rcases h with ⟨-,p,o,rfl,f,g⟩ | ⟨i,rfl,g⟩
 ·obtain ⟨a,l,c,b,m,n,j⟩:=f.slices
  simp only [Bu,Dd] at j;obtain ⟨-,-,-,-,rfl,rfl⟩:=j;exact ⟨a,l,c,b,m,n,rfl,g,f⟩
 ·rw [k] at i;cases i
theorem IQ (a:Option Addr) (P xc:Nat) (zs:List Int) (w:World) (hn:uH w.heap.size w a P xc zs) (hT:JT w) :
 Calls prog 4 #[.slice a P xc] w fun e w'=>e=.returned (.bool true)∧Below w.heap.size w w':=by
 have AW:=Hh (fun (c:World) (I:Below w.heap.size w c)=>OK c (hT.below I))
 have LI:=Hh (fun c:World=>YH a P xc c)
 have HT:=Hh hT;have RO:=Hh (aBr a P xc zs w hn);clear hn hT
 by_cases M:(P:Int)≤500
 ·rw [Ap M] at LI
  clear M
  go_enter func4,ntmps4
  go_upto_region 4 with (first
   | (go_at_call 5;(with_reducible refine (LI.o _).mono ?_);rintro e w3 ⟨rfl,rfl⟩)
   | (go_at_call 8;(with_reducible refine (RO.o).mono ?_);rintro e w2 ⟨rfl,B,xw⟩;(have y3:=xw.lt))
   | (go_at_call 7;(with_reducible refine (YN w.heap.size w.heap.size 4 4 rfl (by decide) (by decide) _ xw).mono ?_);rintro e w4 ⟨⟨zm,n,rfl,hx,hm,hi,ye,hc⟩,yn,y6⟩;obtain ⟨a1,l1,c1,b1,m1,n1,rfl⟩:=hx.slices))
  have xi:eS 4 n=true:=IF (d:=4) (by decide) hm (fun y hy=>zB (ye y hy))
  have yw:cO 7 n:=hm.mono (by decide)
  have x9:aP 8 n=true:=LY (by decide) (eF xi) (fI xi)
  have yl:bK 8 n≤62900:=by rw [BX (e:=4) (by decide) (eF xi)];exact Af hc (by decide)
  have N5:=NB.new hx (fun i q=>q.2)
  have xr:Below w.heap.size w w4:=B.grown yn B.size (fun k hk=>by cases hk;exact Lr _)
  have xs:=xr.trans ((dI w4 (.cells #[Iz n.kind,.bool n.bool,Iz n.num,.string n.text,.slice a1 l1 c1,.slice b1 m1 n1] 28)).mono xr.size);generalize w4.alloc _=w5 at N5 xs ⊢;generalize w4.heap.size=g5 at N5 ⊢;have yt:Hid (∀k:Int,1≤k→k≤3→fE n [sD] cZ k):=Hh fun k h1 h3=>UH yw x9 yl hi (by decide) (by simp) d_v IU (MS h1 h3)
  obtain ⟨H,xz⟩:∃H,H=fD:=⟨_,rfl⟩;have y2:H.size≤100:=by rw [xz];decide
  have yv:=Hh xz;have DU:Hid (∀c,Below w.heap.size w c→Calls prog 16 #[] c fun e w'=>e=.returned (.string H)∧Below c.heap.size c w'):=Hh fun c I=>by rw [yv.o];exact vQ c (HT.o.below I).l
  have NT:=Hh (fun c:World=>QE H c)
  have yo:=Hh N5;have yb:=Hh xs;clear hx hm ye hc yn y6 B xw y3 RO LI xr xs xi yw x9 yl hi N5 xz
  go_upto_region 5 with fail
  go_loopw [4] (fun i wr=>∃j:Nat,1≤j∧j≤4∧i=Iz j∧NB wr g5 4 n a1 l1 c1 b1 m1 n1∧Below w.heap.size w wr) (fun i _=>4 - (intOf i).toNat)
  case atStart=>exact ⟨1,by omega,by omega,rfl,yo.o,yb.o⟩
  case round=>
   clear yo yb;obtain ⟨j,zc,zg,rfl,hN,hB⟩:=hrel
   by_cases hj:4≤j
   ·have yy:¬ (j:Int)≤3:=by omega
    have A1:=Hh (AW.o _ hB);clear hN
    go_wp2_with (go_at_call 6;(with_reducible refine (A1.o).mono ?_);rintro e zl ⟨rfl,yj⟩)
    go_ret
    exact ⟨rfl,hB.trans (yj.mono hB.size)⟩
   have yy:(j:Int)≤3:=by omega
   obtain ⟨k,hk⟩:∃k:Int,k=j:=⟨_,rfl⟩;have O:=yt.o k (by omega) (by omega)
   have yr:wI k:=by unfold wI;omega
   have y1:=Hh hN;have yp:=Hh hB;have P1:Hid (Calls prog 10 #[.agg #[Iz n.kind,.bool n.bool,Iz n.num,.string n.text,.slice a1 l1 c1,.slice b1 m1 n1],.slice (some ⟨wr.heap.size,0,none⟩) 1 1,.string ⟨#[75,69,82,73]⟩,Iz k] (wr.alloc (.cells #[.string ⟨#[100]⟩] 9)) (jQ 4 (bI (spM n [sD] cZ k) cZ k) (foS k (bI (spM n [sD] cZ k) cZ k)) (wr.alloc (.cells #[.string ⟨#[100]⟩] 9)))):=
    Hh (EL (d:=3) [Iz n.kind,.bool n.bool,Iz n.num,.string n.text,.slice a1 l1 c1,.slice b1 m1 n1] n _ [sD] cZ k _ O (hN.below (dI _ _)).nod (fun b q=>q) (tL [sD] (by decide) (fun s hs=>Af (IU s hs).1 (by decide))) (by decide) yr (HT.o.below (hB.trans ((dI wr _).mono hB.size))))
   have C1:Hid (∀c:World,Below w.heap.size w c→Calls prog 11 #[.string (foS k (bI (spM n [sD] cZ k) cZ k)),.slice (some ⟨c.heap.size,0,none⟩) 1 1] (c.alloc (.cells #[.string ⟨#[100]⟩] 9)) (jQ 9 (bI (spM n [sD] cZ k) cZ k) (spD n [sD] cZ k) (c.alloc (.cells #[.string ⟨#[100]⟩] 9)))):=
    Hh fun c V=>xJ n _ [sD] [sD] cZ k _ O (fun _=>Iff.rfl) (by decide) (tL [sD] (by decide) (fun s hs=>Af (IU s hs).1 (by decide))) (fun b q=>q) (HT.o.below (V.trans ((dI c _).mono V.size)))
   have yg:=Hh O.mapX;obtain ⟨i1,xx,ym⟩:=aHv O.mapX (O.get.2 sD (by simp))
   obtain ⟨f1,f2,f3,f4,f5,f6⟩:=O.forms xx;have yi:=Hh xx;have Y:Hid (pN (foS k (bI (bL n [sD] fD) cZ k))=spD n [sD] cZ k):=Hh f2.symm;generalize spD n [sD] cZ k=dg at C1 Y;clear xx ym f2 O;obtain ⟨X,hX⟩:∃X,X=bI (spM n [sD] cZ k) cZ k:=⟨_,rfl⟩;obtain ⟨y,hy⟩:∃y,y=bI (bL n [sD] fD) cZ k:=⟨_,rfl⟩;rw [←hX,←hy] at f1;rw [←hX,←hy] at f3;rw [←hy] at f4 f5 f6 Y;rw [←hX] at P1 C1 yg yi;clear hX hy;rw [←yv.o] at f1;obtain ⟨s,hs⟩:∃s,s=foS k X:=⟨_,rfl⟩;rw [←hs] at P1 C1 f3;obtain ⟨W,xe⟩:∃b,b=foS k y:=⟨_,rfl⟩;rw [←xe] at f3 Y;have xh:W.size≤65536:=by rw [xe];exact yF k y
   have y7:=Hh xh;have za:=Hh f1;have y4:Hid (((W.size:Int) != (s.size:Int))=false):=Hh (by rw [f3];simp)
   have y9:=Hh f5;have EN:Hid (∀ (c:World) (cs:Vl),aD 4 (fun i=>i<c.heap.size) c cs y→Below w.heap.size w c→Calls prog 17 #[Iz k,.agg cs.toArray] c (xZ W 0 c)):=Hh fun c cs h I=>by
    have:=QG k cs y c h (fun b q=>q) (fun _=>f6) (aLj f5 _) (HT.o.below I).f
    rwa [f4,←xe] at this
   unfold xZ at EN;have DI:Hid (∀c,Below w.heap.size w c→Calls prog 18 #[.string W] c fun e w'=>e=.returned (.string dg)∧Below c.heap.size c w'):=Hh fun c I=>by
    have:=BP W c (Af y7.o (by decide)) (HT.o.below I).s (HT.o.below I).l
    rwa [Y.o] at this
   unfold jQ at P1 C1;have x5:=hN.six;have xt:(j:Int)=k:=hk.symm;have yd:=Hh hk;clear hs xe f1 f3 f4 f5 f6 xh yr hk hN hB yt Y;rw [xt] at yy;rw [xt];clear xt
   go_upto_region 8 with ((with_reducible refine (P1.o).mono ?_);rintro e w6 ⟨cx,rfl,hx,xq⟩;obtain ⟨a2,l2,c2,b2,m2,n2,rfl⟩:=hx.slices)
   have N7:=NB.new hx (fun i q=>q.2)
   have xf:=(dI wr (.cells #[.string ⟨#[100]⟩] 9)).trans ((xq.trans ((dI w6 (.cells #[Iz X.kind,.bool X.bool,Iz X.num,.string X.text,.slice a2 l2 c2,.slice b2 m2 n2] 28)).mono xq.size)).mono (dI wr _).size);generalize w6.alloc _=S at N7 xf ⊢;generalize w6.heap.size=g7 at N7 ⊢;have m:=Hh (yp.o.trans (xf.mono yp.o.size));have xa:=Hh N7;have x6:=Hh (y1.o.below xf);have bd:Below S.heap.size S S.drew:=(Br _ _).drew;have Z:=Hh (fun (c:World) (I:Below S.heap.size S c)=>(xa.o.below I).six)
   clear hx xq xf N7 P1 x5;have PU:Hid (∀c,Below S.heap.size S c→Calls prog 14 #[.agg #[Iz X.kind,.bool X.bool,Iz X.num,.string X.text,.slice a2 l2 c2,.slice b2 m2 n2],.string ⟨#[100]⟩,.agg #[Iz 3,.bool false,Iz 0,.string H,Sn,Sn]] c (JK 4 c y)):=Hh fun c I=>(aGx (d:=3) _ X sD H c (xa.o.below I).nod (fun b q=>q) yg.o yi.o (by decide) y2 (HT.o.below (m.o.trans (I.mono m.o.size))).f.u).mono fun e w' q=>by rw [za.o] at q;exact q.good10 y9.o
   unfold JK at PU;refine aI (fun w'=>w'.cell? ⟨g7,0,none⟩=some (Iz X.kind)∧w'.cell? ⟨g7,1,none⟩=some (.bool X.bool)∧w'.cell? ⟨g7,2,none⟩=some (Iz X.num)∧w'.cell? ⟨g7,3,none⟩=some (.string X.text)∧w'.cell? ⟨g7,4,none⟩=some (.slice a2 l2 c2)∧w'.cell? ⟨g7,5,none⟩=some (.slice b2 m2 n2)) [0] (.take 0 (eP.join true (.ask 1 true (.ask 2 true (.ask 3 false (.take 4 (.take 5 (.take 6 (.ask 7 false .stop .stop)))) (.ask 7 true (.ask 3 false (.take 4 (.take 5 (.take 6 .stop))) .stop) .stop)) (.ask 7 true (.ask 2 true (.ask 3 false (.take 4 (.take 5 (.take 6 .stop))) .stop) .stop) .stop)) (.ask 7 true (.ask 1 true (.ask 2 true (.ask 3 false (.take 4 (.take 5 (.take 6 .stop))) .stop) .stop) .stop) .stop)) (.ask 8 false (.take 9 .stop) .stop))) (by kernel_rfl) (by kernel_rfl) (fun _ d _ _ _ h=>by cases d <;> exact h) (Z.o _ bd) ?_
   generalize S.drew=wd at bd ⊢;refine aM _ ?_ rfl rfl (by decide) ?_ (fun K E=>?_);rotate_left;(intro w0 zh;go_simp;(try rfl));(go_simp;refine E _ ?_;clear E K)
   refine dW [8,34,36,37,38,39,40] (fun vs c=>∃ (J:Nat) (p:Option Addr) (t A:Nat) (v:Option Addr) (x r:Nat),vs=[.pointer (some ⟨J,0,none⟩),.tuple #[.agg #[Iz 5,.bool false,Iz 0,.string ⟨#[]⟩,.slice p t A,.slice v x r],Iz 0],.string H,.agg #[Iz 3,.bool false,Iz 0,.string H,Sn,Sn],.tuple #[.agg #[Iz 5,.bool false,Iz 0,.string ⟨#[]⟩,.slice p t A,.slice v x r],Iz 0],.agg #[Iz 5,.bool false,Iz 0,.string ⟨#[]⟩,.slice p t A,.slice v x r],Iz 0]∧c.heap[J]?=some (.cells Z6 28 (0,0))∧S.heap.size≤J∧Below S.heap.size S c∧aD 4 (fun i=>i<c.heap.size∧i ≠ J) c [Iz 5,.bool false,Iz 0,.string ⟨#[]⟩,.slice p t A,.slice v x r] y) ?_ ?_
   ·refine aH _ rfl ?_ ?_
    rotate_left
    ·go_wp2_with (go_at_call 16;(with_reducible refine (DU.o _ (m.o.trans (bd.mono m.o.size))).mono ?_);rintro e v0 ⟨rfl,y8⟩)
     have R:=bd.trans (y8.mono bd.size);refine Seg.mk ⟨Z.o _ R,?_⟩;refine aH _ rfl ?_ ?_;rotate_left
     ·go_wp2_with (go_at_call 15;(with_reducible refine (NT.o _).mono ?_);rintro e v1 ⟨rfl,xd⟩)
      have L:=R.trans (xd.mono R.size);refine Seg.mk ⟨Z.o _ L,?_⟩;refine aB _ rfl ?_ ?_;rotate_left
      ·go_wp2_with (go_at_call 14;(with_reducible refine (PU.o _ L).mono ?_);rintro e v2 ⟨p,t,A,v,x,r,rfl,B,C⟩)
       have D:=L.trans (B.mono L.size);refine Seg.mk ?_
       iterate 3 (refine aF _ ?_ rfl rfl ?_ (fun K E=>?_);rotate_left;(intro w0;go_simp;(try rfl));(go_simp;refine E _ ?_;clear E K))
       refine aB _ rfl trivial ?_;have xk:=dI v2 (.cells Z6 28);have g:=Hn v2 (.cells Z6 28)
       go_wp2_with fail
       generalize hW:v2.alloc (.cells Z6 28)=v3 at xk g ⊢;clear hW;have B3:=D.trans (xk.mono D.size);refine Seg.mk ?_;exact aN [.pointer (some ⟨v2.heap.size,0,none⟩),.tuple #[.agg #[Iz 5,.bool false,Iz 0,.string ⟨#[]⟩,.slice p t A,.slice v x r],Iz 0],.string H,.agg #[Iz 3,.bool false,Iz 0,.string H,Sn,Sn],.tuple #[.agg #[Iz 5,.bool false,Iz 0,.string ⟨#[]⟩,.slice p t A,.slice v x r],Iz 0],.agg #[Iz 5,.bool false,Iz 0,.string ⟨#[]⟩,.slice p t A,.slice v x r],Iz 0] ⟨_,p,t,A,v,x,r,rfl,g,D.size,B3,(C.same fun i z=>xk.block i z.2).mono fun i z=>⟨Ll z.2 xk.size,by have:=z.2;omega⟩⟩ (by simp only [gJ,Act.put,Aq,Az,Ba])
      ·refine aH _ rfl trivial ?_
       have yu:=dI v1 (.cells Z6 28);have g:=Hn v1 (.cells Z6 28)
       go_wp2_with fail
       generalize hW:v1.alloc (.cells Z6 28)=v2 at yu g ⊢;clear hW;have D:=L.trans (yu.mono L.size);refine Seg.mk ⟨Z.o _ D,?_⟩;refine aB _ rfl trivial ?_
       go_wp2_with (go_at_call 14;(with_reducible refine (PU.o _ D).mono ?_);rintro e v3 ⟨p,t,A,v,x,r,rfl,F,C⟩)
       have ya:=Aa g;have g:=(F.block _ (Aa g)).trans g;have B3:=D.trans (F.mono D.size);refine Seg.mk ?_
       iterate 3 (refine aF _ ?_ rfl rfl ?_ (fun K E=>?_);rotate_left;(intro w0;go_simp;(try rfl));(go_simp;refine E _ ?_;clear E K))
       exact aN [.pointer (some ⟨v1.heap.size,0,none⟩),.tuple #[.agg #[Iz 5,.bool false,Iz 0,.string ⟨#[]⟩,.slice p t A,.slice v x r],Iz 0],.string H,.agg #[Iz 3,.bool false,Iz 0,.string H,Sn,Sn],.tuple #[.agg #[Iz 5,.bool false,Iz 0,.string ⟨#[]⟩,.slice p t A,.slice v x r],Iz 0],.agg #[Iz 5,.bool false,Iz 0,.string ⟨#[]⟩,.slice p t A,.slice v x r],Iz 0] ⟨_,p,t,A,v,x,r,rfl,g,L.size,B3,C.mono fun i z=>⟨z.2,by have:=z.1;omega⟩⟩ (by simp only [gJ,Act.put,Aq,Az,Ba])
     ·refine aH _ rfl trivial ?_
      have yf:=dI v0 (.cells Z6 28);have g:=Hn v0 (.cells Z6 28)
      go_wp2_with fail
      generalize hW:v0.alloc (.cells Z6 28)=v1 at yf g ⊢;clear hW;have L:=R.trans (yf.mono R.size);refine Seg.mk ⟨Z.o _ L,?_⟩;refine aH _ rfl trivial ?_
      go_wp2_with (go_at_call 15;(with_reducible refine (NT.o _).mono ?_);rintro e v2 ⟨rfl,B⟩)
      have g:=(B.block _ (Aa g)).trans g;have D:=L.trans (B.mono L.size);refine Seg.mk ⟨Z.o _ D,?_⟩;refine aB _ rfl trivial ?_
      go_wp2_with (go_at_call 14;(with_reducible refine (PU.o _ D).mono ?_);rintro e v3 ⟨p,t,A,v,x,r,rfl,F,C⟩)
      have ya:=Aa g;have g:=(F.block _ (Aa g)).trans g;have B3:=D.trans (F.mono D.size);refine Seg.mk ?_
      iterate 3 (refine aF _ ?_ rfl rfl ?_ (fun K E=>?_);rotate_left;(intro w0;go_simp;(try rfl));(go_simp;refine E _ ?_;clear E K))
      exact aN [.pointer (some ⟨v0.heap.size,0,none⟩),.tuple #[.agg #[Iz 5,.bool false,Iz 0,.string ⟨#[]⟩,.slice p t A,.slice v x r],Iz 0],.string H,.agg #[Iz 3,.bool false,Iz 0,.string H,Sn,Sn],.tuple #[.agg #[Iz 5,.bool false,Iz 0,.string ⟨#[]⟩,.slice p t A,.slice v x r],Iz 0],.agg #[Iz 5,.bool false,Iz 0,.string ⟨#[]⟩,.slice p t A,.slice v x r],Iz 0] ⟨_,p,t,A,v,x,r,rfl,g,R.size,B3,C.mono fun i z=>⟨z.2,by have:=z.1;omega⟩⟩ (by simp only [gJ,Act.put,Aq,Az,Ba])
    ·refine aH _ rfl trivial ?_
     have yh:=dI wd (.cells Z6 28);have g:=Hn wd (.cells Z6 28)
     go_wp2_with fail
     generalize hW:wd.alloc (.cells Z6 28)=v0 at yh g ⊢;clear hW;have R:=bd.trans (yh.mono bd.size);refine Seg.mk ⟨Z.o _ R,?_⟩;refine aH _ rfl trivial ?_
     go_wp2_with (go_at_call 16;(with_reducible refine (DU.o _ (m.o.trans (R.mono m.o.size))).mono ?_);rintro e v1 ⟨rfl,xd⟩)
     have g:=(xd.block _ (Aa g)).trans g;have L:=R.trans (xd.mono R.size);refine Seg.mk ⟨Z.o _ L,?_⟩;refine aH _ rfl trivial ?_
     go_wp2_with (go_at_call 15;(with_reducible refine (NT.o _).mono ?_);rintro e v2 ⟨rfl,B⟩)
     have g:=(B.block _ (Aa g)).trans g;have D:=L.trans (B.mono L.size);refine Seg.mk ⟨Z.o _ D,?_⟩;refine aB _ rfl trivial ?_
     go_wp2_with (go_at_call 14;(with_reducible refine (PU.o _ D).mono ?_);rintro e v3 ⟨p,t,A,v,x,r,rfl,F,C⟩)
     have ya:=Aa g;have g:=(F.block _ (Aa g)).trans g;have B3:=D.trans (F.mono D.size);refine Seg.mk ?_
     iterate 3 (refine aF _ ?_ rfl rfl ?_ (fun K E=>?_);rotate_left;(intro w0;go_simp;(try rfl));(go_simp;refine E _ ?_;clear E K))
     exact aN [.pointer (some ⟨wd.heap.size,0,none⟩),.tuple #[.agg #[Iz 5,.bool false,Iz 0,.string ⟨#[]⟩,.slice p t A,.slice v x r],Iz 0],.string H,.agg #[Iz 3,.bool false,Iz 0,.string H,Sn,Sn],.tuple #[.agg #[Iz 5,.bool false,Iz 0,.string ⟨#[]⟩,.slice p t A,.slice v x r],Iz 0],.agg #[Iz 5,.bool false,Iz 0,.string ⟨#[]⟩,.slice p t A,.slice v x r],Iz 0] ⟨_,p,t,A,v,x,r,rfl,g,bd.size,B3,C.mono fun i z=>⟨z.2,by have:=z.1;omega⟩⟩ (by simp only [gJ,Act.put,Aq,Az,Ba])
   ·rintro vs c ⟨J,p,t,A,v,x,r,rfl,g,y5,V,C⟩
    simp only [gJ,Act.put,Aq,Az,Ba];have q6:=aA g;have p6:=aE g;have xb:=aO c J (Iz 5) (.bool false) (Iz 0) (.string ⟨#[]⟩) (.slice p t A) (.slice v x r);have xg:=Hh (dG g (Iz 5) (.bool false) (Iz 0) (.string ⟨#[]⟩) (.slice p t A) (.slice v x r));have N:=Hh (fO V (Lr _) xb fun b e=>by have:=Ab (show some J=some b from e);omega)
    have xj:Hid (aD 4 (fun i=>i<(dJ c J (Iz 5) (.bool false) (Iz 0) (.string ⟨#[]⟩) (.slice p t A) (.slice v x r)).heap.size) (dJ c J (Iz 5) (.bool false) (Iz 0) (.string ⟨#[]⟩) (.slice p t A) (.slice v x r)) [Iz 5,.bool false,Iz 0,.string ⟨#[]⟩,.slice p t A,.slice v x r] y):=Hh ((C.same fun i z=>xb.block i z.1 (by intro e;exact z.2 (Ab e))).mono fun i z=>Ll z.1 xb.size)
    clear bd g y5 V xb C Z PU;refine aB _ rfl trivial ?_
    go_wp2_with fail
    refine Seg.mk ?_;refine aF _ ?_ rfl rfl ?_ (fun K E=>?_);rotate_left;(intro w0;go_simp;(try rfl));(go_simp;refine E _ ?_;clear E K)
    unfold cQ;simp only [dJ] at xg N xj;clear q6 p6;generalize (((((c.setCell ⟨J,0,none⟩ (Iz 5)).setCell ⟨J,1,none⟩ (.bool false)).setCell ⟨J,2,none⟩ (Iz 0)).setCell ⟨J,3,none⟩ (.string ⟨#[]⟩)).setCell ⟨J,4,none⟩ (.slice p t A)).setCell ⟨J,5,none⟩ (.slice v x r)=wy at xg N xj ⊢;have xp:=Hh (m.o.trans (N.o.mono m.o.size));have xy:=aA xg.o;have E9:=Hh (EN.o wy _ xj.o xp.o);have yc:=Hh (xa.o.below N.o);have yk:=Hh (x6.o.below N.o);clear xg xj N EN xa x6
    go_upto_region 10 with ((with_reducible refine (E9.o).mono ?_);rintro e w9 ⟨rfl,xl⟩)
    have xu:=Hh (xp.o.trans (xl.mono xp.o.size));have yz:=Hh (yc.o.below xl);have yx:=Hh (yk.o.below xl);have C9:=Hh (C1.o w9 xu.o);clear xy E9 xl yc yk C1
    go_upto_region 11 with ((with_reducible refine (C9.o).mono ?_);rintro e xv ⟨cy,rfl,hy,T⟩;obtain ⟨a3,l3,c3,b3,m3,n3,rfl⟩:=hy.slices)
    have Q:=NB.new hy (fun i q=>q.2)
    have G:=(dI w9 (.cells #[.string ⟨#[100]⟩] 9)).trans ((T.trans ((dI xv (.cells #[Iz X.kind,.bool X.bool,Iz X.num,.string X.text,.slice a3 l3 c3,.slice b3 m3 n3] 28)).mono T.size)).mono (dI w9 _).size);generalize xv.alloc _=zb at Q G ⊢;generalize xv.heap.size=zi at Q ⊢;have xo:=Hh (xu.o.trans (G.mono xu.o.size));have N9:=yz.o.below G;have y0:=Hh (yx.o.below G);have x7:=N9.six;have zj:=Q.six;have SM:=Hh (uX 4 9 _ _ _ _ X X zb N9.nod Q.nod (fun b q=>q) (fun b q=>q))
    have zd:=y4.o;have ze:1≤k:=by rw [yd.o];omega
    have es:(dg.toList != dg.toList)=false:=by simp
    clear hy T G N9 Q C9 yz yx
    go_wp2_with (first
     | (go_at_call 13;(with_reducible refine (SM.o).mono ?_);rintro e zf ⟨bz,rfl,xh,xn⟩;obtain rfl:bz=true:=xh.2 (by first | exact rfl | trivial);(have U:=xo.o.trans (xn.mono xo.o.size)))
     | (go_at_call 18;(with_reducible refine (DI.o _ U).mono ?_);rintro e zk ⟨rfl,xm⟩))
    have yq:=U.trans (xm.mono U.size);have ys:=(y0.o.below xn).below xm;have x8:=yd.o
    go_roundw
    case rel=>exact ⟨j+1,by omega,by omega,by rw [x8];go_num,ys,yq⟩
    case measure=>rw [x8];simp [intOf];omega
 ·rw [Ar M] at LI
  clear M
  go_enter func4,ntmps4
  go_wp2_with (first
   | (go_at_call 5;(with_reducible refine (LI.o _).mono ?_);rintro e w3 ⟨rfl,rfl⟩)
   | (go_at_call 6;(with_reducible refine (AW.o _ (Br _ _)).mono ?_);rintro e w1 ⟨rfl,I⟩))
  go_ret
  exact ⟨rfl,I⟩
end Go.Proofs.YtncdpanfefnjlaaGreatDoor