import Derived.Test.YtncdpanfefnjlaaGreatDoorRows
import Derived.Test.YtncdpanfefnjlaaGreatDoorSched
set_option linter.unusedVariables false
set_option linter.unusedSimpArgs false
set_option maxRecDepth 100000
set_option maxHeartbeats 2000000
namespace Go.Proofs.YtncdpanfefnjlaaGreatDoor
open Go.Proofs.Tryz
open Go Go.RowKit
def Arr (w:World) (g:Nat) (T:TypeId) (a:Vl):Prop:=w.heap[g]?=some (.cells a.toArray T (0,0))
theorem Arr.lt {w:World} {g:Nat} {T:TypeId} {a:Vl} (h:Arr w g T a):g<w.heap.size:=Aa h
theorem Arr.cellAt {w:World} {g:Nat} {T:TypeId} {a:Vl} (h:Arr w g T a) {j:Nat} {u:Value} (b:a[j]?=some u):w.cell? ⟨g,j,none⟩=some u:=by
 rw [cell_of_row w g j _ _ _ h];simpa using b
theorem Arr.free {w:World} {g:Nat} {T:TypeId} {a:Vl} (h:Arr w g T a) (j:Nat):w.frozen? ⟨g,j,none⟩=false:=frozen_of_row w g j _ _ h
theorem Arr.of_block {w w':World} {g:Nat} {T:TypeId} {a:Vl} (h:Arr w g T a) (e:w'.heap[g]?=w.heap[g]?):Arr w' g T a:=e.trans h
theorem Arr.alloc {w:World} {g:Nat} {T:TypeId} {a:Vl} (h:Arr w g T a) (o:Obj):Arr (w.alloc o) g T a:=h.of_block (Bj w o g h.lt)
theorem Arr.drew {w:World} {g:Nat} {T:TypeId} {a:Vl} (h:Arr w g T a):Arr w.drew g T a:=h
theorem Arr.below {w w':World} {g:Nat} {T:TypeId} {a:Vl} (h:Arr w g T a) {B:Nat} (c:Below B w w') (b:g<B):Arr w' g T a:=h.of_block (c.block g b)
theorem Arr.beside {w:World} {g:Nat} {T:TypeId} {c:Vl} (h:Arr w g T c) (a:Addr) (v:Value) (b:g ≠ a.block):Arr (w.setCell a v) g T c:=h.of_block (Below.heap_setCell w a v g b)
theorem Arr.new (w:World) (a:Vl) (T:TypeId):Arr (w.alloc (.cells a.toArray T)) w.heap.size T a:=Hn w _
theorem Arr.new2 (w:World) (o:Obj) (a:Vl) (T:TypeId):Arr ((w.alloc o).alloc (.cells a.toArray T)) (w.heap.size+1) T a:=heap_alloc2_new w _ _
theorem Arr.new3 (w:World) (o b:Obj) (a:Vl) (T:TypeId):Arr (((w.alloc o).alloc b).alloc (.cells a.toArray T)) (w.heap.size+2) T a:=by
 have:=Arr.new ((w.alloc o).alloc b) a T
 simpa using this
theorem Arr.store {w:World} {g:Nat} {T:TypeId} {a:Vl} (h:Arr w g T a) (j:Nat) (v:Value):Arr (w.setCell ⟨g,j,none⟩ v) g T (a.set j v):=by
 unfold Arr;rw [heap_setCell_same w g j _ _ v h];simp
theorem Arr.setRow {w:World} {g:Nat} {T:TypeId} {b:Vl} (h:Arr w g T b) (a:Vl):Arr (w.setRow g a.toArray) g T a:=setRow_heap w g _ _ _ _ h
theorem Arr.besideRow {w:World} {g:Nat} {T:TypeId} {b:Vl} (h:Arr w g T b) (k:Nat) (c:Array Value) (a:g ≠ k):Arr (w.setRow k c) g T b:=h.of_block (setRow_other w k g c a)
theorem eI {B:Nat} {a w:World} (h:Below B a w) (g:Nat) (d:B≤g) (b:Array Value):Below B a (w.setRow g b):=
 ⟨h.os,h.tape,h.output,by simpa using h.size,fun k c=>(setRow_other w g k b (by omega)).trans (h.block k c)⟩
theorem JC {B:Nat} {a w:World} (h:Below B a w) (n:Nat):Below B a (w.drewN n):=⟨h.os,h.tape,h.output,h.size,h.block⟩
section
variable {P:Program}
theorem wF {b:Array Oper} {rest:List Oper} {o:Oper} {a:Act} {w:World} {Q:Exit→Act→World→Prop} (d:o.guard=none) (ty:TypeId) (x:Operand) (i:o.op=.load ty x)
 (g:Nat) (k:a.eval x=.pointer (some ⟨g,0,none⟩)) {T:TypeId} {c:Vl} (h:Arr w g T c) {n:Nat} {e:TypeId} (f:P.underlying ty=some (.array n e)) (j:(P.info? ty).map (·.size)=some n) (l:c.length=n)
 (K:wpList P b Q rest (a.put o.dst (.agg c.toArray)) w):wpList P b Q (o::rest) a w:=
 wpList_load_row d ty x i g k T c.toArray (0,0) _ h f rfl (by rw [j];simp [l]) K
theorem qR {d:Array Oper} {rest:List Oper} {o:Oper} {a:Act} {w:World} {Q:Exit→Act→World→Prop} (f:o.guard=none) (ty:TypeId) (x y:Operand) (j:o.op=.store ty x y)
 (g:Nat) (c:Vl) (l:a.eval x=.pointer (some ⟨g,0,none⟩)) (m:a.eval y=.agg c.toArray) {T:TypeId} {e:Vl} (h:Arr w g T e) {n:Nat} (k:(P.info? ty).map (·.size)=some n)
 (p:e.length=n) (b:c.length=n) (i:∀v ∈ c,v.oneCell'=true)
 (K:wpList P d Q rest (a.put o.dst undef) (w.setRow g c.toArray)):wpList P d Q (o::rest) a w:=
 wpList_store_row f ty x y j g c.toArray l m T e.toArray h (by rw [k];simp [b]) (by simp [p,b]) (by simpa using i) K
theorem qW (t e:TypeId) (n:Nat) (a:Vl) (j:Nat) (v:Value) (h:P.underlying t=some (.array n e)) (k:j<n) (c:∀w,(isAgg e).run P w=.ok false w) (b:∀w,(sizeOf e).run P w=.ok 1 w) (d:a[j]?=some v) (w:World) :
 (Instr.index t (.agg a.toArray) (Iz (j:Int))).run P w=.ok v w:=by
 have i:j<a.length:=by
  rcases Cf j a.length with h | h
  ·exact h
  ·simp [Cb h] at d
 have f:(part e a.toArray j).run P w=.ok v w:=by
  simp only [part,Sem.run_bind,b,c,Result.andThen_ok];simp [d]
 have g:(0≤(j:Int)∧(j:Int)<(n:Int)):=⟨by omega,by omega⟩
 simp [Instr.index,asIntOf,run_underlying h,g,b,f,Result.andThen];omega
theorem GQ {b:Func} {p:Tmp} {ty:TypeId} (h:b.results=#[.cell p ty]) (tmps:Array Value) (w:World) (g:Nat) (i:tmps.getD p undef=.pointer (some ⟨g,0,none⟩))
 {T:TypeId} {a:Vl} (j:Arr w g T a) {n:Nat} {e:TypeId} (c:P.underlying ty=some (.array n e)) (f:(P.info? ty).map (·.size)=some n) (d:a.length=n):(results b tmps).run P w=.ok (.agg a.toArray) w:=
 results_cell_row h tmps w g T a.toArray (0,0) _ i j c rfl (by rw [f];simp [d])
end
end Go.Proofs.YtncdpanfefnjlaaGreatDoor
namespace Go.Proofs.YtncdpanfefnjlaaGreatDoor
open Go.Proofs.Tryz
open Go.ChangeShapes Go.WideShapes Go.ChangeAt Go.RowKit
theorem iN (a b:Int):bits .or .u32 a b=bits .or .u32 b a:=by
 show IntKind.u32.wrap ((BitVec.ofInt 32 a ||| BitVec.ofInt 32 b).toNat:Int)=IntKind.u32.wrap ((BitVec.ofInt 32 b ||| BitVec.ofInt 32 a).toNat:Int)
 rw [BitVec.or_comm]
theorem rl2 (x:Int) (w:World):Calls prog 138 #[.int .u32 x,Iz (-2)] w fun e w'=>e=.returned (.int .u32 (roI 2 x))∧w=w':=by
 have H:bits .and .u64 (IntKind.u64.wrap (-2)) 31=30:=by decide
 go_enter func138,ntmps138
 go_wp2
 go_ret
 exact ⟨(Ad (fun u=>Ending.returned (Value.int .u32 u)) (iN _ _)),rfl⟩
theorem aLs (x:Int) (w:World):Calls prog 124 #[.int .u32 x,Iz 2] w fun e w'=>e=.returned (.int .u32 (roI 2 x))∧w=w':=by
 go_enter func124,ntmps124
 go_wp2_with (go_at_call 138;(with_reducible refine (rl2 _ _).mono ?_);rintro e w' ⟨rfl,rfl⟩)
 go_ret
 exact ⟨rfl,rfl⟩
theorem rl6 (x:Int) (w:World):Calls prog 138 #[.int .u32 x,Iz (-6)] w fun e w'=>e=.returned (.int .u32 (roI 6 x))∧w=w':=by
 have H:bits .and .u64 (IntKind.u64.wrap (-6)) 31=26:=by decide
 go_enter func138,ntmps138
 go_wp2
 go_ret
 exact ⟨(Ad (fun u=>Ending.returned (Value.int .u32 u)) (iN _ _)),rfl⟩
theorem aLr (x:Int) (w:World):Calls prog 124 #[.int .u32 x,Iz 6] w fun e w'=>e=.returned (.int .u32 (roI 6 x))∧w=w':=by
 go_enter func124,ntmps124
 go_wp2_with (go_at_call 138;(with_reducible refine (rl6 _ _).mono ?_);rintro e w' ⟨rfl,rfl⟩)
 go_ret
 exact ⟨rfl,rfl⟩
theorem rl7 (x:Int) (w:World):Calls prog 138 #[.int .u32 x,Iz (-7)] w fun e w'=>e=.returned (.int .u32 (roI 7 x))∧w=w':=by
 have H:bits .and .u64 (IntKind.u64.wrap (-7)) 31=25:=by decide
 go_enter func138,ntmps138
 go_wp2
 go_ret
 exact ⟨(Ad (fun u=>Ending.returned (Value.int .u32 u)) (iN _ _)),rfl⟩
theorem aLq (x:Int) (w:World):Calls prog 124 #[.int .u32 x,Iz 7] w fun e w'=>e=.returned (.int .u32 (roI 7 x))∧w=w':=by
 go_enter func124,ntmps124
 go_wp2_with (go_at_call 138;(with_reducible refine (rl7 _ _).mono ?_);rintro e w' ⟨rfl,rfl⟩)
 go_ret
 exact ⟨rfl,rfl⟩
theorem aLz (x:Int) (w:World):Calls prog 138 #[.int .u32 x,Iz (-11)] w fun e w'=>e=.returned (.int .u32 (roI 11 x))∧w=w':=by
 have H:bits .and .u64 (IntKind.u64.wrap (-11)) 31=21:=by decide
 go_enter func138,ntmps138
 go_wp2
 go_ret
 exact ⟨(Ad (fun u=>Ending.returned (Value.int .u32 u)) (iN _ _)),rfl⟩
theorem aLd (x:Int) (w:World):Calls prog 124 #[.int .u32 x,Iz 11] w fun e w'=>e=.returned (.int .u32 (roI 11 x))∧w=w':=by
 go_enter func124,ntmps124
 go_wp2_with (go_at_call 138;(with_reducible refine (aLz _ _).mono ?_);rintro e w' ⟨rfl,rfl⟩)
 go_ret
 exact ⟨rfl,rfl⟩
theorem aLy (x:Int) (w:World):Calls prog 138 #[.int .u32 x,Iz (-13)] w fun e w'=>e=.returned (.int .u32 (roI 13 x))∧w=w':=by
 have H:bits .and .u64 (IntKind.u64.wrap (-13)) 31=19:=by decide
 go_enter func138,ntmps138
 go_wp2
 go_ret
 exact ⟨(Ad (fun u=>Ending.returned (Value.int .u32 u)) (iN _ _)),rfl⟩
theorem aLc (x:Int) (w:World):Calls prog 124 #[.int .u32 x,Iz 13] w fun e w'=>e=.returned (.int .u32 (roI 13 x))∧w=w':=by
 go_enter func124,ntmps124
 go_wp2_with (go_at_call 138;(with_reducible refine (aLy _ _).mono ?_);rintro e w' ⟨rfl,rfl⟩)
 go_ret
 exact ⟨rfl,rfl⟩
theorem aLx (x:Int) (w:World):Calls prog 138 #[.int .u32 x,Iz (-17)] w fun e w'=>e=.returned (.int .u32 (roI 17 x))∧w=w':=by
 have H:bits .and .u64 (IntKind.u64.wrap (-17)) 31=15:=by decide
 go_enter func138,ntmps138
 go_wp2
 go_ret
 exact ⟨(Ad (fun u=>Ending.returned (Value.int .u32 u)) (iN _ _)),rfl⟩
theorem aLb (x:Int) (w:World):Calls prog 124 #[.int .u32 x,Iz 17] w fun e w'=>e=.returned (.int .u32 (roI 17 x))∧w=w':=by
 go_enter func124,ntmps124
 go_wp2_with (go_at_call 138;(with_reducible refine (aLx _ _).mono ?_);rintro e w' ⟨rfl,rfl⟩)
 go_ret
 exact ⟨rfl,rfl⟩
theorem aLw (x:Int) (w:World):Calls prog 138 #[.int .u32 x,Iz (-18)] w fun e w'=>e=.returned (.int .u32 (roI 18 x))∧w=w':=by
 have H:bits .and .u64 (IntKind.u64.wrap (-18)) 31=14:=by decide
 go_enter func138,ntmps138
 go_wp2
 go_ret
 exact ⟨(Ad (fun u=>Ending.returned (Value.int .u32 u)) (iN _ _)),rfl⟩
theorem aLa (x:Int) (w:World):Calls prog 124 #[.int .u32 x,Iz 18] w fun e w'=>e=.returned (.int .u32 (roI 18 x))∧w=w':=by
 go_enter func124,ntmps124
 go_wp2_with (go_at_call 138;(with_reducible refine (aLw _ _).mono ?_);rintro e w' ⟨rfl,rfl⟩)
 go_ret
 exact ⟨rfl,rfl⟩
theorem aLv (x:Int) (w:World):Calls prog 138 #[.int .u32 x,Iz (-19)] w fun e w'=>e=.returned (.int .u32 (roI 19 x))∧w=w':=by
 have H:bits .and .u64 (IntKind.u64.wrap (-19)) 31=13:=by decide
 go_enter func138,ntmps138
 go_wp2
 go_ret
 exact ⟨(Ad (fun u=>Ending.returned (Value.int .u32 u)) (iN _ _)),rfl⟩
theorem aKz (x:Int) (w:World):Calls prog 124 #[.int .u32 x,Iz 19] w fun e w'=>e=.returned (.int .u32 (roI 19 x))∧w=w':=by
 go_enter func124,ntmps124
 go_wp2_with (go_at_call 138;(with_reducible refine (aLv _ _).mono ?_);rintro e w' ⟨rfl,rfl⟩)
 go_ret
 exact ⟨rfl,rfl⟩
theorem aLu (x:Int) (w:World):Calls prog 138 #[.int .u32 x,Iz (-22)] w fun e w'=>e=.returned (.int .u32 (roI 22 x))∧w=w':=by
 have H:bits .and .u64 (IntKind.u64.wrap (-22)) 31=10:=by decide
 go_enter func138,ntmps138
 go_wp2
 go_ret
 exact ⟨(Ad (fun u=>Ending.returned (Value.int .u32 u)) (iN _ _)),rfl⟩
theorem aKy (x:Int) (w:World):Calls prog 124 #[.int .u32 x,Iz 22] w fun e w'=>e=.returned (.int .u32 (roI 22 x))∧w=w':=by
 go_enter func124,ntmps124
 go_wp2_with (go_at_call 138;(with_reducible refine (aLu _ _).mono ?_);rintro e w' ⟨rfl,rfl⟩)
 go_ret
 exact ⟨rfl,rfl⟩
theorem aLt (x:Int) (w:World):Calls prog 138 #[.int .u32 x,Iz (-25)] w fun e w'=>e=.returned (.int .u32 (roI 25 x))∧w=w':=by
 have H:bits .and .u64 (IntKind.u64.wrap (-25)) 31=7:=by decide
 go_enter func138,ntmps138
 go_wp2
 go_ret
 exact ⟨(Ad (fun u=>Ending.returned (Value.int .u32 u)) (iN _ _)),rfl⟩
theorem aKx (x:Int) (w:World):Calls prog 124 #[.int .u32 x,Iz 25] w fun e w'=>e=.returned (.int .u32 (roI 25 x))∧w=w':=by
 go_enter func124,ntmps124
 go_wp2_with (go_at_call 138;(with_reducible refine (aLt _ _).mono ?_);rintro e w' ⟨rfl,rfl⟩)
 go_ret
 exact ⟨rfl,rfl⟩
def LU (w:World) (g o:Nat) (x:Int):World:=
 (((w.setCell ⟨g,o,none⟩ (.int .u8 (dC (x / 16777216)).toNat)).setCell ⟨g,o+1,none⟩ (.int .u8 (dC (x / 65536)).toNat)).setCell ⟨g,o+2,none⟩ (.int .u8 (dC (x / 256)).toNat)).setCell ⟨g,o+3,none⟩ (.int .u8 (dC x).toNat)
theorem oX (g o b d:Nat) (x:Int) (T:TypeId) (a:Vl) (w:World) (f:Arr w g T a) (p:o+4≤a.length) (B:4≤b) (n:d≤maxLen) (q:b≤d) :
 Calls prog 73 #[.slice (some ⟨g,o,none⟩) b d,.int .u32 x] w fun e w'=>e=.returned (.tuple #[])∧w'=LU w g o x:=by
 unfold maxLen at n;have c:∀k,k<4→w.cell? ⟨g,o+k,none⟩=some (a.getD (o+k) (.bool true)):=by
  intro k C;refine f.cellAt ?_;simp only [List.getD];rw [Ac (by omega)]
  rfl
 have m:=c 0 (by omega)
 have c1:=c 1 (by omega)
 have c2:=c 2 (by omega)
 have c3:=c 3 (by omega)
 have t:=f.free o;have A:=f.free (o+1);have r:=f.free (o+2);have z:=f.free (o+3);simp only [Nat.add_zero] at m;obtain ⟨s,l⟩:∃u,u=a.getD o (.bool true):=⟨_,rfl⟩;obtain ⟨v,h⟩:∃u,u=a.getD (o+1) (.bool true):=⟨_,rfl⟩;obtain ⟨D,i⟩:∃u,u=a.getD (o+2) (.bool true):=⟨_,rfl⟩;obtain ⟨y,j⟩:∃u,u=a.getD (o+3) (.bool true):=⟨_,rfl⟩;rw [←l] at m;rw [←h] at c1;rw [←i] at c2;rw [←j] at c3;clear l h i j c f p;have E:LU w g o x=(((w.setCell ⟨g,o,none⟩ (.int .u8 (x / 16777216 % 256))).setCell ⟨g,o+1,none⟩ (.int .u8 (x / 65536 % 256))).setCell ⟨g,o+2,none⟩ (.int .u8 (x / 256 % 256))).setCell ⟨g,o+3,none⟩ (.int .u8 (x % 256)):=by
  unfold LU;simp only [aAc]
 have H:=Hh E;clear E
 go_enter func73,ntmps73
 go_wp2
 go_end0
 exact ⟨rfl,H.o.symm⟩
theorem rO {B g o:Nat} {x:Int} {W w:World} (h:Below B W w) (a:B≤g):Below B W (LU w g o x):=
 (((h.setCell (p:=⟨g,o,none⟩) a _).setCell (p:=⟨g,o+1,none⟩) a _).setCell (p:=⟨g,o+2,none⟩) a _).setCell (p:=⟨g,o+3,none⟩) a _
theorem AD {w:World} {g o:Nat} {T:TypeId} {a b:Vl} {v0 v1 v2 v3:Value} {x:Int} (h:Arr w g T (a++([v0,v1,v2,v3]++b))) (d:a.length=o) :
 Arr (LU w g o x) g T (a++(aS [dC (x / 16777216),dC (x / 65536),dC (x / 256),dC x]++b)):=by
 have c:=(((h.store o (.int .u8 (dC (x / 16777216)).toNat)).store (o+1) (.int .u8 (dC (x / 65536)).toNat)).store (o+2) (.int .u8 (dC (x / 256)).toNat)).store (o+3) (.int .u8 (dC x).toNat);subst d;have e:((((a++([v0,v1,v2,v3]++b)).set a.length (.int .u8 (dC (x / 16777216)).toNat)).set (a.length+1) (.int .u8 (dC (x / 65536)).toNat)).set (a.length+2) (.int .u8 (dC (x / 256)).toNat)).set (a.length+3) (.int .u8 (dC x).toNat)=a++(aS [dC (x / 16777216),dC (x / 65536),dC (x / 256),dC x]++b):=by
  simp [List.set_append,aS]
 rw [e] at c;exact c
def gP (l:List Int):Vl:=l.map (Value.int .u32)
def zs (n:Nat):Vl:=List.replicate n (.int .u32 0)
theorem dN (l:List Int):(gP l).length=l.length:=by simp [gP]
theorem lL (n:Nat):(zs n).length=n:=by simp [zs]
theorem zD (l:List Int) (i:Nat) (x:Int):(gP l).set i (.int .u32 x)=gP (l.set i x):=by
 unfold gP;rw [List.map_set]
theorem mU (l:List Int):∀v ∈ gP l,v.oneCell'=true:=by
 intro v a;obtain ⟨n,_,rfl⟩:=Bp.1 a
 rfl
theorem lU (l:List Int) (j:Nat) (a:j<l.length):(gP l)[j]?=some (.int .u32 (l.getD j 0)):=by
 simp only [gP,Be,List.getD];rw [Ac a]
 rfl
theorem Arr.u32 {w:World} {g:Nat} {T:TypeId} {l:List Int} (h:Arr w g T (gP l)) (j:Nat) (a:j<l.length):w.cell? ⟨g,j,none⟩=some (.int .u32 (l.getD j 0)):=
 h.cellAt (lU l j a)
theorem RS:(Tryz.prog.info? 141).map (·.size)=some 64:=by kernel_rfl
theorem iW:(Tryz.prog.info? 107).map (·.size)=some 8:=by kernel_rfl
theorem SJ (s:Bt) (w:World) (h0:s.size=64) :
 Calls prog 108 #[.string s] w fun e w'=>e=.returned (.agg (gP (wOf s.data.toList)).toArray)∧Below w.heap.size w w':=by
 obtain ⟨L,H⟩:∃L,L=s.data.toList:=⟨_,rfl⟩;have O:=Hh H;rw [←H];clear H
 go_enter func108,ntmps108
 go_wp2
 go_loopw [11] (fun i wr=>∃t:Nat,t≤16∧i=Iz t∧Arr wr w.heap.size 141 (zs 64)∧Arr wr (w.heap.size+1) 141 (gP (stF L t))∧Below w.heap.size w wr) (fun i _=>16 - (intOf i).toNat)
 case atStart=>
  refine ⟨0,by omega,rfl,?_,?_,?_⟩
  ·exact (Arr.new w (zs 64) 141).alloc _
  ·exact Arr.new2 w _ (zs 64) 141
  ·exact ((Br _ _).alloc (Lr _) _).alloc (by simp) _
 case round=>
  obtain ⟨t,F,rfl,b,a,m⟩:=hrel
  by_cases Y:t<16
  ·obtain ⟨q,N⟩:∃q,s.extract (4 * t) (4 * (t+1))=q:=⟨_,rfl⟩
   have xd:q.size=4:=by rw [←N,pL _ _ _ (by omega) (by omega)];omega
   have hw:aAp L t=TY q[0].toNat q[1].toNat q[2].toNat q[3].toNat:=by
    have g:∀i (hi:i<q.size),q[i]=L.getD (4 * t+i) 0:=by
     intro i hi;have:=yH s (4 * t) (4 * (t+1)) i (by rw [N];exact hi)
     rw [O.o,←this]
     congr 1
     exact N.symm
    rw [g 0 (by omega),g 1 (by omega),g 2 (by omega),g 3 (by omega)]
    rfl
   have HW:=Hh hw;clear hw;have b0:=UInt8.toNat_lt q[0];have b1:=UInt8.toNat_lt q[1];have b2:=UInt8.toNat_lt q[2];have b3:=UInt8.toNat_lt q[3];have hc:=a.u32 t (by rw [nI];omega)
   have hf:=a.free t;obtain ⟨z,D⟩:∃z,z=(stF L t).getD t 0:=⟨_,rfl⟩;rw [←D] at hc;clear D;have C:((t:Nat):Int)<64:=by omega
   go_wp2
   go_region
   go_wp2
   go_roundw
   case rel=>
    refine ⟨t+1,by omega,rfl,?_,?_,?_⟩
    ·exact (b.beside _ _ (by simp)).drew
    ·have:=a.store t (.int .u32 (TY q[0].toNat q[1].toNat q[2].toNat q[3].toNat))
     rw [zD,show (stF L t).set t (TY q[0].toNat q[1].toNat q[2].toNat q[3].toNat)=stF L (t+1) by rw [←HW.o];rfl] at this
     exact this
    ·exact (m.setCell (p:=⟨w.heap.size+1,t,none⟩) (by simp) _).drew
   case measure=>simp [intOf];omega
  ·obtain rfl:t=16:=by omega
   have S:wr.heap.size > w.heap.size+1:=a.lt;obtain ⟨X,G⟩:∃X,X=stF L 16:=⟨_,rfl⟩;have U:X.length=64:=by rw [G,nI]
   have HX:=Hh G;rw [←G] at a;clear G;rw [show ((16:Nat):Int)=16 from rfl]
   go_wp2
   go_loopw [6] (fun i wr=>∃n:Nat,n≤48∧i=Iz (16+n:Nat)∧Arr wr w.heap.size 141 (zs 64)∧Arr wr (w.heap.size+1) 141 (gP (exF X n))∧Below w.heap.size w wr) (fun i _=>64 - (intOf i).toNat)
   case atStart=>exact ⟨0,by omega,rfl,b,a,m⟩
   case round=>
    clear b a m S;obtain ⟨n,hn,rfl,b,a,m⟩:=hrel;have k:=rZ X U n
    by_cases Y:n<48
    ·obtain ⟨c,j⟩:∃c,c=exF X n:=⟨_,rfl⟩
     have r:exF X (n+1)=c.set (16+n) (MA c (16+n)):=by rw [j];rfl
     have B:=Hh r;rw [←j] at a k;clear j r;obtain ⟨t,F⟩:∃t,t=16+n:=⟨_,rfl⟩;rw [←F] at B ⊢;have xc:16≤t:=by omega
     have xb:t<64:=by omega
     have HT:=Hh F;clear F;obtain ⟨x,hx⟩:∃x,c.getD (t - 15) 0=x:=⟨_,rfl⟩;obtain ⟨y,Q⟩:∃x,c.getD (t - 2) 0=x:=⟨_,rfl⟩;obtain ⟨x7,f⟩:∃x,c.getD (t - 7) 0=x:=⟨_,rfl⟩;obtain ⟨P,d⟩:∃x,c.getD (t - 16) 0=x:=⟨_,rfl⟩;have E:MA c t=(sg1 y+x7+sg0 x+P) % 4294967296:=by unfold MA;rw [hx,Q,f,d]
     have K:=Hh E;have T:=a.u32 (t - 15) (by omega)
     have g2:=a.u32 (t - 2) (by omega)
     have g7:=a.u32 (t - 7) (by omega)
     have J:=a.u32 (t - 16) (by omega)
     have g0:=a.u32 t (by omega)
     rw [hx] at T;rw [Q] at g2;rw [f] at g7;rw [d] at J;obtain ⟨z,D⟩:∃z,c.getD t 0=z:=⟨_,rfl⟩;rw [D] at g0;clear hx Q f d E D;have xa:((t - 15:Nat):Int)=(t:Int) - 15:=by omega
     have xe:IntKind.i64.wrap ((t:Int) - 15)=((t - 15:Nat):Int):=by rw [IntKind.wrap_i64];omega
     have i2:IntKind.i64.wrap ((t:Int) - 2)=((t - 2:Nat):Int):=by rw [IntKind.wrap_i64];omega
     have C:(t:Int)<64:=by omega
     have hf:=a.free t;obtain ⟨s0,W⟩:∃v,bits .xor .u32 (bits .xor .u32 (roI 7 x) (roI 18 x)) (x / 8)=v:=⟨_,rfl⟩;obtain ⟨s1,Z⟩:∃v,bits .xor .u32 (bits .xor .u32 (roI 17 y) (roI 19 y)) (y / 1024)=v:=⟨_,rfl⟩
     go_wp2
     go_quiet (fail)
     go_wp2_with (first | (go_at_call 124;(with_reducible refine (aLq _ _).mono ?_);rintro e w' ⟨rfl,rfl⟩) | (go_at_call 124;(with_reducible refine (aLa _ _).mono ?_);rintro e w' ⟨rfl,rfl⟩) | (go_at_call 124;(with_reducible refine (aLb _ _).mono ?_);rintro e w' ⟨rfl,rfl⟩) | (go_at_call 124;(with_reducible refine (aKz _ _).mono ?_);rintro e w' ⟨rfl,rfl⟩))
     go_region
     go_wp2
     go_roundw
     case rel=>
      refine ⟨n+1,by omega,by rw [HT.o];push_cast;rfl,?_,?_,?_⟩
      ·exact b.beside _ _ (by simp)
      ·have:=a.store t (.int .u32 (MA c t))
       rw [zD] at this;rw [B.o];rw [K.o] at this ⊢;unfold sg0 sg1 at this ⊢;rw [W,Z] at this ⊢;exact this
      ·exact (JC m _).setCell (p:=⟨w.heap.size+1,t,none⟩) (by simp) _
     case measure=>simp [intOf];omega
    ·obtain rfl:n=48:=by omega
     obtain ⟨R,I⟩:∃R,R=exF X 48:=⟨_,rfl⟩;have A:R=wOf L:=by rw [I,HX.o];rfl
     have HR:=Hh A;rw [←I] at a k;clear I A;have u:=b.setRow (gP R);obtain ⟨V,l⟩:∃V,V=gP R:=⟨_,rfl⟩;have h:V.length=64:=by rw [l,dN,k]
     have M:∀v ∈ V,v.oneCell'=true:=by rw [l];exact mU R
     rw [←l] at a u;have HV:Hid (V=gP (wOf L)):=by rw [HR.o] at l;exact l
     clear l
     go_wp2_with (first | (refine wF rfl 141 (.tmp 3) rfl _ rfl a underlying141 RS h ?_) | (refine qR rfl 141 (.tmp 2) (.tmp 85) rfl _ V rfl rfl b RS (lL 64) h M ?_))
     refine Au (v:=.agg V.toArray) (GQ rfl _ _ _ rfl u underlying141 RS h) rfl ⟨by rw [HV.o],eI m _ (by simp) _⟩
def uJ (w:World):Prop:=∀i,i<64→w.cell? ⟨2,i,none⟩=some (.int .u32 (KL.getD i 0))
theorem uJ.below {w w':World} (h:uJ w) {B:Nat} (a:Below B w w') (b:2<B):uJ w':=fun i c=>by
 rw [a.cell (p:=⟨2,i,none⟩) b];exact h i c
theorem JD (l W:List Int) (w:World) (h8:l.length=8) (xl:W.length=64) (hK:uJ w) (xg:2<w.heap.size) :
 Calls prog 107 #[.agg (gP l).toArray,.agg (gP W).toArray] w fun e w'=>e=.returned (.agg (gP (OB l W)).toArray)∧Below w.heap.size w w':=by
 obtain ⟨J,E⟩:∃V,V=gP l:=⟨_,rfl⟩;obtain ⟨T,R⟩:∃V,V=gP W:=⟨_,rfl⟩;have xw:J.length=8:=by rw [E,dN,h8]
 have xu:T.length=64:=by rw [R,dN,xl]
 have S:∀j,j<8→J[j]?=some (.int .u32 (l.getD j 0)):=fun j hj=>by rw [E];exact lU l j (by omega)
 have gW:∀j,j<64→T[j]?=some (.int .u32 (W.getD j 0)):=fun j hj=>by rw [R];exact lU W j (by omega)
 rw [←E,←R];have xk:=Hh E;clear E R;have c:∀j,j<8→(((w.alloc (.cells J.toArray 107)).alloc (.cells T.toArray 141)).alloc (.cells (zs 8).toArray 107)).cell? ⟨w.heap.size,j,none⟩=some (.int .u32 (l.getD j 0)):=by
  intro j hj;exact (((Arr.new w J 107).alloc _).alloc _).cellAt (S j hj)
 go_enter func107,ntmps107
 go_wp2
 obtain ⟨U,A⟩:∃U,U=((w.alloc (.cells J.toArray 107)).alloc (.cells T.toArray 141)).alloc (.cells (zs 8).toArray 107):=⟨_,rfl⟩;have m:Arr U w.heap.size 107 J:=by rw [A];exact ((Arr.new w J 107).alloc _).alloc _
 have a2:Arr U (w.heap.size+1) 141 T:=by rw [A];exact (Arr.new2 w _ T 141).alloc _
 have F:Arr U (w.heap.size+2) 107 (zs 8):=by rw [A];exact Arr.new3 w _ _ (zs 8) 107
 have b1:Below w.heap.size w U:=by rw [A];exact (((Br _ _).alloc (Lr _) _).alloc (by simp) _).alloc (by simp;omega) _
 rw [show ((w.alloc (.cells J.toArray 107)).alloc (.cells T.toArray 141)).alloc (.cells #[.int .u32 0,.int .u32 0,.int .u32 0,.int .u32 0,.int .u32 0,.int .u32 0,.int .u32 0,.int .u32 0] 107)=U from A.symm]
 clear A;have d0:=m.cellAt (S 0 (by omega))
 have d1:=m.cellAt (S 1 (by omega))
 have d2:=m.cellAt (S 2 (by omega))
 have d3:=m.cellAt (S 3 (by omega))
 have d4:=m.cellAt (S 4 (by omega))
 have d5:=m.cellAt (S 5 (by omega))
 have d6:=m.cellAt (S 6 (by omega))
 have d7:=m.cellAt (S 7 (by omega))
 obtain ⟨x0,Q⟩:∃x,l.getD 0 0=x:=⟨_,rfl⟩;obtain ⟨x1,N⟩:∃x,l.getD 1 0=x:=⟨_,rfl⟩;obtain ⟨x2,H⟩:∃x,l.getD 2 0=x:=⟨_,rfl⟩;obtain ⟨x3,M⟩:∃x,l.getD 3 0=x:=⟨_,rfl⟩;obtain ⟨x4,I⟩:∃x,l.getD 4 0=x:=⟨_,rfl⟩;obtain ⟨x5,K⟩:∃x,l.getD 5 0=x:=⟨_,rfl⟩;obtain ⟨x6,L⟩:∃x,l.getD 6 0=x:=⟨_,rfl⟩;obtain ⟨x7,O⟩:∃x,l.getD 7 0=x:=⟨_,rfl⟩;rw [Q] at d0;rw [N] at d1;rw [H] at d2;rw [M] at d3;rw [I] at d4;rw [K] at d5;rw [L] at d6;rw [O] at d7;have xb:l=[x0,x1,x2,x3,x4,x5,x6,x7]:=by
  obtain ⟨p,q,r,s,t,u,v,y,rfl⟩:=aEn h8;simp at Q N H M I K L O;simp [Q,N,H,M,I,K,L,O]
 have HS:=Hh xb;clear Q N H M I K L O xb c
 go_quiet (fail)
 go_wp2
 go_quiet (fail)
 go_wp2
 clear d0 d1 d2 d3 d4 d5 d6 d7
 go_loopw [5,6,7,8,9,10,11,12,36] (fun a b c d e f g h i wr=>∃t:Nat,∃C nb nc nd B nf ng nh:Int,t≤64∧i=Iz t∧a=.int .u32 C∧b=.int .u32 nb∧c=.int .u32 nc∧d=.int .u32 nd∧e=.int .u32 B∧f=.int .u32 nf∧g=.int .u32 ng∧h=.int .u32 nh∧rF l W t=[C,nb,nc,nd,B,nf,ng,nh]∧Arr wr w.heap.size 107 J∧Arr wr (w.heap.size+1) 141 T∧Arr wr (w.heap.size+2) 107 (zs 8)∧Below w.heap.size w wr) (fun _ _ _ _ _ _ _ _ i _=>64 - (intOf i).toNat)
 case atStart=>exact ⟨0,x0,x1,x2,x3,x4,x5,x6,x7,by omega,rfl,rfl,rfl,rfl,rfl,rfl,rfl,rfl,rfl,HS.o,m,a2,F,JC (JC b1 _) _⟩
 case round=>
  clear m a2 F b1;obtain ⟨t,C,nb,nc,nd,B,nf,ng,nh,ht,rfl,rfl,rfl,rfl,rfl,rfl,rfl,rfl,rfl,hr,m,a2,F,hb⟩:=hrel;have HR:=Hh hr;clear hr
  by_cases n:t<64
  ·have hk:=hK t n
   rw [←hb.cell (p:=⟨2,t,none⟩) xg] at hk;have hw:=a2.cellAt (gW t n);obtain ⟨k,Y⟩:∃k,KL.getD t 0=k:=⟨_,rfl⟩;obtain ⟨v,Z⟩:∃k,W.getD t 0=k:=⟨_,rfl⟩;rw [Y] at hk;rw [Z] at hw;have xf:(t:Int)<64:=by omega
   obtain ⟨S1,xp⟩:∃v,bits .xor .u32 (bits .xor .u32 (roI 6 B) (roI 11 B)) (roI 25 B)=v:=⟨_,rfl⟩;obtain ⟨S0,xo⟩:∃v,bits .xor .u32 (bits .xor .u32 (roI 2 C) (roI 13 C)) (roI 22 C)=v:=⟨_,rfl⟩;have xc:rF l W (t+1)=rnd k v [C,nb,nc,nd,B,nf,ng,nh]:=by rw [←HR.o,←Y,←Z];rfl
   have HN:=Hh xc;clear xc Y Z
   go_wp2_with (first | (go_at_call 124;(with_reducible refine (aLr _ _).mono ?_);rintro e w' ⟨rfl,rfl⟩) | (go_at_call 124;(with_reducible refine (aLd _ _).mono ?_);rintro e w' ⟨rfl,rfl⟩) | (go_at_call 124;(with_reducible refine (aKx _ _).mono ?_);rintro e w' ⟨rfl,rfl⟩) | (go_at_call 124;(with_reducible refine (aLs _ _).mono ?_);rintro e w' ⟨rfl,rfl⟩) | (go_at_call 124;(with_reducible refine (aLc _ _).mono ?_);rintro e w' ⟨rfl,rfl⟩) | (go_at_call 124;(with_reducible refine (aKy _ _).mono ?_);rintro e w' ⟨rfl,rfl⟩))
   have xt:(if IntKind.u32.signed=true then -1 else IntKind.u32.max)=4294967295:=rfl
   go_quiet (fail)
   go_wp2
   go_roundw
   case rel=>
    have xd:aKf B=S1:=xp;have xe:aLl C=S0:=xo;refine ⟨t+1,_,C,nb,nc,_,B,nf,ng,by omega,rfl,rfl,rfl,rfl,rfl,rfl,rfl,rfl,rfl,?_,m,a2,F,JC hb _⟩
    rw [HN.o];simp only [rnd,xd,xe]
    rfl
   case measure=>simp [intOf];omega
  ·obtain rfl:t=64:=by omega
   rw [show ((64:Nat):Int)=64 from rfl]
   obtain ⟨z,xa⟩:∃z,z=rF l W 64:=⟨_,rfl⟩;have X:z=[C,nb,nc,nd,B,nf,ng,nh]:=by rw [xa];exact HR.o
   have xq:z.length=8:=by rw [X];rfl
   obtain ⟨VS,G⟩:∃V,V=gP z:=⟨_,rfl⟩;have gV:∀j,j<8→VS[j]?=some (.int .u32 (z.getD j 0)):=fun j hj=>by rw [G];exact lU z j (by omega)
   have xm:(#[.int .u32 C,.int .u32 nb,.int .u32 nc,.int .u32 nd,.int .u32 B,.int .u32 nf,.int .u32 ng,.int .u32 nh]:Array Value)=VS.toArray:=by rw [G,X];rfl
   have xs:VS.length=8:=by rw [G,dN,xq]
   have xn:=Hh xa;clear xa X G HR
   go_wp2
   clear xm
   go_loopw [110] (fun i wr=>∃j:Nat,j≤8∧i=Iz j∧Arr wr w.heap.size 107 (gP (xV l z j))∧Arr wr (w.heap.size+2) 107 (zs 8)∧Below w.heap.size w wr) (fun i _=>8 - (intOf i).toNat)
   case atStart=>exact ⟨0,by omega,rfl,by rw [aAh l z h8,←xk.o];exact m,F,hb⟩
   case round=>
    clear m a2 F hb;obtain ⟨j,hj,rfl,m,F,hb⟩:=hrel
    by_cases n:j<8
    ·have c1:=m.u32 j (by rw [pT];omega)
     rw [aFl l z j j n,Ae (by omega)] at c1
     have f1:=m.free j;have gj:=gV j n;obtain ⟨x,hx⟩:∃x,l.getD j 0=x:=⟨_,rfl⟩;obtain ⟨y,hy⟩:∃x,z.getD j 0=x:=⟨_,rfl⟩;have hn:=aAi l z j n;rw [hx,hy] at hn;rw [hx] at c1;rw [hy] at gj;have HN:=Hh hn;clear hn hx hy gV;have xf:(j:Int)<8:=by omega
     have xv:=qW (P:=prog) 107 106 8 VS j _ underlying107 n isAgg106 sizeOf106 gj;have xr:(x+y) % 4294967296=(x+y) % 4294967296:=rfl
     go_wp2
     go_roundw
     case rel=>
      refine ⟨j+1,by omega,rfl,?_,?_,?_⟩
      ·have:=m.store j (.int .u32 ((x+y) % 4294967296))
       rw [zD,←HN.o] at this;exact this
      ·exact F.beside _ _ (by simp)
      ·exact hb.setCell (p:=⟨w.heap.size,j,none⟩) (by simp) _
     case measure=>simp [intOf];omega
    ·obtain rfl:j=8:=by omega
     obtain ⟨V,hV⟩:∃V,V=gP (xV l z 8):=⟨_,rfl⟩;have D:V.length=8:=by rw [hV,dN,pT]
     have xh:∀v ∈ V,v.oneCell'=true:=by rw [hV];exact mU _
     have xi:Hid (V=gP (OB l W)):=by rw [xn.o] at hV;exact hV
     rw [←hV] at m;have xj:=F.setRow V;clear hV gV
     go_wp2_with (first | (refine wF rfl 107 (.tmp 2) rfl _ rfl m underlying107 iW D ?_) | (refine qR rfl 107 (.tmp 4) (.tmp 121) rfl _ V rfl rfl F iW (lL 8) D xh ?_))
     refine Au (v:=.agg V.toArray) (GQ rfl _ _ _ rfl xj underlying107 iW D) rfl ⟨by rw [xi.out],eI hb (w.heap.size+2) (by omega) _⟩
end Go.Proofs.YtncdpanfefnjlaaGreatDoor