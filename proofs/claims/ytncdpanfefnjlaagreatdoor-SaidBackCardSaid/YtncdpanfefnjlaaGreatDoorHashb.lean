import Derived.Test.YtncdpanfefnjlaaGreatDoorRows
import Derived.Test.YtncdpanfefnjlaaGreatDoorSched
set_option linter.unusedVariables false
set_option linter.unusedSimpArgs false
set_option maxRecDepth 100000
set_option maxHeartbeats 2000000
namespace Go.Proofs.YtncdpanfefnjlaaGreatDoor
open Go.Proofs.Tryz
open Go Go.RowKit
def Arr (w:World) (g:Nat) (T:TypeId) (xs:Vl):Prop:=w.heap[g]?=some (.cells xs.toArray T (0,0))
theorem Arr.lt {w:World} {g:Nat} {T:TypeId} {xs:Vl} (h:Arr w g T xs):g<w.heap.size:=Aa h
theorem Arr.cellAt {w:World} {g:Nat} {T:TypeId} {xs:Vl} (h:Arr w g T xs) {j:Nat} {u:Value} (hj:xs[j]?=some u):w.cell? ⟨g,j,none⟩=some u:=by
 rw [cell_of_row w g j _ _ _ h];simpa using hj
theorem Arr.free {w:World} {g:Nat} {T:TypeId} {xs:Vl} (h:Arr w g T xs) (j:Nat):w.frozen? ⟨g,j,none⟩=false:=frozen_of_row w g j _ _ h
theorem Arr.of_block {w w':World} {g:Nat} {T:TypeId} {xs:Vl} (h:Arr w g T xs) (e:w'.heap[g]?=w.heap[g]?):Arr w' g T xs:=e.trans h
theorem Arr.alloc {w:World} {g:Nat} {T:TypeId} {xs:Vl} (h:Arr w g T xs) (o:Obj):Arr (w.alloc o) g T xs:=h.of_block (Bh w o g h.lt)
theorem Arr.drew {w:World} {g:Nat} {T:TypeId} {xs:Vl} (h:Arr w g T xs):Arr w.drew g T xs:=h
theorem Arr.below {w w':World} {g:Nat} {T:TypeId} {xs:Vl} (h:Arr w g T xs) {B:Nat} (hb:Below B w w') (hg:g<B):Arr w' g T xs:=h.of_block (hb.block g hg)
theorem Arr.beside {w:World} {g:Nat} {T:TypeId} {xs:Vl} (h:Arr w g T xs) (a:Addr) (v:Value) (hne:g ≠ a.block):Arr (w.setCell a v) g T xs:=h.of_block (Below.heap_setCell w a v g hne)
theorem Arr.new (w:World) (xs:Vl) (T:TypeId):Arr (w.alloc (.cells xs.toArray T)) w.heap.size T xs:=Hn w _
theorem Arr.new2 (w:World) (o:Obj) (xs:Vl) (T:TypeId):Arr ((w.alloc o).alloc (.cells xs.toArray T)) (w.heap.size+1) T xs:=heap_alloc2_new w _ _
theorem Arr.new3 (w:World) (o o':Obj) (xs:Vl) (T:TypeId):Arr (((w.alloc o).alloc o').alloc (.cells xs.toArray T)) (w.heap.size+2) T xs:=by
 have:=Arr.new ((w.alloc o).alloc o') xs T
 simpa using this
theorem Arr.store {w:World} {g:Nat} {T:TypeId} {xs:Vl} (h:Arr w g T xs) (j:Nat) (v:Value):Arr (w.setCell ⟨g,j,none⟩ v) g T (xs.set j v):=by
 unfold Arr;rw [heap_setCell_same w g j _ _ v h];simp
theorem Arr.setRow {w:World} {g:Nat} {T:TypeId} {xs:Vl} (h:Arr w g T xs) (ys:Vl):Arr (w.setRow g ys.toArray) g T ys:=setRow_heap w g _ _ _ _ h
theorem Arr.besideRow {w:World} {g:Nat} {T:TypeId} {xs:Vl} (h:Arr w g T xs) (k:Nat) (ys:Array Value) (hne:g ≠ k):Arr (w.setRow k ys) g T xs:=h.of_block (setRow_other w k g ys hne)
theorem dX {B:Nat} {a w:World} (h:Below B a w) (g:Nat) (hg:B≤g) (ys:Array Value):Below B a (w.setRow g ys):=
 ⟨h.os,h.tape,h.output,by simpa using h.size,fun k hk=>(setRow_other w g k ys (by omega)).trans (h.block k hk)⟩
theorem GJ {B:Nat} {a w:World} (h:Below B a w) (n:Nat):Below B a (w.drewN n):=⟨h.os,h.tape,h.output,h.size,h.block⟩
section
variable {P:Program}
theorem vE {ops:Array Oper} {rest:List Oper} {o:Oper} {a:Act} {w:World} {Q:Exit→Act→World→Prop} (hgd:o.guard=none) (ty:TypeId) (x:Operand) (ho:o.op=.load ty x)
 (g:Nat) (hx:a.eval x=.pointer (some ⟨g,0,none⟩)) {T:TypeId} {xs:Vl} (h:Arr w g T xs) {n:Nat} {e:TypeId} (hu:P.underlying ty=some (.array n e)) (hi:(P.info? ty).map (·.size)=some n) (hl:xs.length=n)
 (K:wpList P ops Q rest (a.put o.dst (.agg xs.toArray)) w):wpList P ops Q (o::rest) a w:=
 wpList_load_row hgd ty x ho g hx T xs.toArray (0,0) _ h hu rfl (by rw [hi];simp [hl]) K
theorem pS {ops:Array Oper} {rest:List Oper} {o:Oper} {a:Act} {w:World} {Q:Exit→Act→World→Prop} (hgd:o.guard=none) (ty:TypeId) (x y:Operand) (ho:o.op=.store ty x y)
 (g:Nat) (ys:Vl) (hx:a.eval x=.pointer (some ⟨g,0,none⟩)) (hy:a.eval y=.agg ys.toArray) {T:TypeId} {xs:Vl} (h:Arr w g T xs) {n:Nat} (hi:(P.info? ty).map (·.size)=some n)
 (hl:xs.length=n) (hly:ys.length=n) (h1:∀v ∈ ys,v.oneCell'=true)
 (K:wpList P ops Q rest (a.put o.dst undef) (w.setRow g ys.toArray)):wpList P ops Q (o::rest) a w:=
 wpList_store_row hgd ty x y ho g ys.toArray hx hy T xs.toArray h (by rw [hi];simp [hly]) (by simp [hl,hly]) (by simpa using h1) K
theorem pX (t e:TypeId) (n:Nat) (cs:Vl) (j:Nat) (v:Value) (h:P.underlying t=some (.array n e)) (hj:j<n) (hag:∀w,(isAgg e).run P w=.ok false w) (hsz:∀w,(sizeOf e).run P w=.ok 1 w) (hv:cs[j]?=some v) (w:World) :
 (Instr.index t (.agg cs.toArray) (Iz (j:Int))).run P w=.ok v w:=by
 have hjl:j<cs.length:=by
  rcases Cc j cs.length with h | h
  ·exact h
  ·simp [By h] at hv
 have hp:(part e cs.toArray j).run P w=.ok v w:=by
  simp only [part,Sem.run_bind,hsz,hag,Result.andThen_ok];simp [hv]
 have h0:(0≤(j:Int)∧(j:Int)<(n:Int)):=⟨by omega,by omega⟩
 simp [Instr.index,asIntOf,run_underlying h,h0,hsz,hp,Result.andThen];omega
theorem ET {fn:Func} {p:Tmp} {ty:TypeId} (h:fn.results=#[.cell p ty]) (tmps:Array Value) (w:World) (g:Nat) (hp:tmps.getD p undef=.pointer (some ⟨g,0,none⟩))
 {T:TypeId} {xs:Vl} (ha:Arr w g T xs) {n:Nat} {e:TypeId} (hu:P.underlying ty=some (.array n e)) (hi:(P.info? ty).map (·.size)=some n) (hl:xs.length=n):(results fn tmps).run P w=.ok (.agg xs.toArray) w:=
 results_cell_row h tmps w g T xs.toArray (0,0) _ hp ha hu rfl (by rw [hi];simp [hl])
end
end Go.Proofs.YtncdpanfefnjlaaGreatDoor
namespace Go.Proofs.YtncdpanfefnjlaaGreatDoor
open Go.Proofs.Tryz
open Go.ChangeShapes Go.WideShapes Go.ChangeAt Go.RowKit
theorem iC (a b:Int):bits .or .u32 a b=bits .or .u32 b a:=by
 show IntKind.u32.wrap ((BitVec.ofInt 32 a ||| BitVec.ofInt 32 b).toNat:Int)=IntKind.u32.wrap ((BitVec.ofInt 32 b ||| BitVec.ofInt 32 a).toNat:Int)
 rw [BitVec.or_comm]
theorem rl2 (x:Int) (w:World):Calls prog 138 #[.int .u32 x,Iz (-2)] w fun e w'=>e=.returned (.int .u32 (roI 2 x))∧w=w':=by
 have H:bits .and .u64 (IntKind.u64.wrap (-2)) 31=30:=by decide
 go_enter func138,ntmps138
 go_wp2
 go_ret
 exact ⟨(Ad (fun u=>Ending.returned (Value.int .u32 u)) (iC _ _)),rfl⟩
theorem aKd (x:Int) (w:World):Calls prog 124 #[.int .u32 x,Iz 2] w fun e w'=>e=.returned (.int .u32 (roI 2 x))∧w=w':=by
 go_enter func124,ntmps124
 go_wp2_with (go_at_call 138;(with_reducible refine (rl2 _ _).mono ?_);rintro e w' ⟨rfl,rfl⟩)
 go_ret
 exact ⟨rfl,rfl⟩
theorem rl6 (x:Int) (w:World):Calls prog 138 #[.int .u32 x,Iz (-6)] w fun e w'=>e=.returned (.int .u32 (roI 6 x))∧w=w':=by
 have H:bits .and .u64 (IntKind.u64.wrap (-6)) 31=26:=by decide
 go_enter func138,ntmps138
 go_wp2
 go_ret
 exact ⟨(Ad (fun u=>Ending.returned (Value.int .u32 u)) (iC _ _)),rfl⟩
theorem aKc (x:Int) (w:World):Calls prog 124 #[.int .u32 x,Iz 6] w fun e w'=>e=.returned (.int .u32 (roI 6 x))∧w=w':=by
 go_enter func124,ntmps124
 go_wp2_with (go_at_call 138;(with_reducible refine (rl6 _ _).mono ?_);rintro e w' ⟨rfl,rfl⟩)
 go_ret
 exact ⟨rfl,rfl⟩
theorem rl7 (x:Int) (w:World):Calls prog 138 #[.int .u32 x,Iz (-7)] w fun e w'=>e=.returned (.int .u32 (roI 7 x))∧w=w':=by
 have H:bits .and .u64 (IntKind.u64.wrap (-7)) 31=25:=by decide
 go_enter func138,ntmps138
 go_wp2
 go_ret
 exact ⟨(Ad (fun u=>Ending.returned (Value.int .u32 u)) (iC _ _)),rfl⟩
theorem aKb (x:Int) (w:World):Calls prog 124 #[.int .u32 x,Iz 7] w fun e w'=>e=.returned (.int .u32 (roI 7 x))∧w=w':=by
 go_enter func124,ntmps124
 go_wp2_with (go_at_call 138;(with_reducible refine (rl7 _ _).mono ?_);rintro e w' ⟨rfl,rfl⟩)
 go_ret
 exact ⟨rfl,rfl⟩
theorem aKk (x:Int) (w:World):Calls prog 138 #[.int .u32 x,Iz (-11)] w fun e w'=>e=.returned (.int .u32 (roI 11 x))∧w=w':=by
 have H:bits .and .u64 (IntKind.u64.wrap (-11)) 31=21:=by decide
 go_enter func138,ntmps138
 go_wp2
 go_ret
 exact ⟨(Ad (fun u=>Ending.returned (Value.int .u32 u)) (iC _ _)),rfl⟩
theorem aJn (x:Int) (w:World):Calls prog 124 #[.int .u32 x,Iz 11] w fun e w'=>e=.returned (.int .u32 (roI 11 x))∧w=w':=by
 go_enter func124,ntmps124
 go_wp2_with (go_at_call 138;(with_reducible refine (aKk _ _).mono ?_);rintro e w' ⟨rfl,rfl⟩)
 go_ret
 exact ⟨rfl,rfl⟩
theorem aKj (x:Int) (w:World):Calls prog 138 #[.int .u32 x,Iz (-13)] w fun e w'=>e=.returned (.int .u32 (roI 13 x))∧w=w':=by
 have H:bits .and .u64 (IntKind.u64.wrap (-13)) 31=19:=by decide
 go_enter func138,ntmps138
 go_wp2
 go_ret
 exact ⟨(Ad (fun u=>Ending.returned (Value.int .u32 u)) (iC _ _)),rfl⟩
theorem aJm (x:Int) (w:World):Calls prog 124 #[.int .u32 x,Iz 13] w fun e w'=>e=.returned (.int .u32 (roI 13 x))∧w=w':=by
 go_enter func124,ntmps124
 go_wp2_with (go_at_call 138;(with_reducible refine (aKj _ _).mono ?_);rintro e w' ⟨rfl,rfl⟩)
 go_ret
 exact ⟨rfl,rfl⟩
theorem aKi (x:Int) (w:World):Calls prog 138 #[.int .u32 x,Iz (-17)] w fun e w'=>e=.returned (.int .u32 (roI 17 x))∧w=w':=by
 have H:bits .and .u64 (IntKind.u64.wrap (-17)) 31=15:=by decide
 go_enter func138,ntmps138
 go_wp2
 go_ret
 exact ⟨(Ad (fun u=>Ending.returned (Value.int .u32 u)) (iC _ _)),rfl⟩
theorem aJl (x:Int) (w:World):Calls prog 124 #[.int .u32 x,Iz 17] w fun e w'=>e=.returned (.int .u32 (roI 17 x))∧w=w':=by
 go_enter func124,ntmps124
 go_wp2_with (go_at_call 138;(with_reducible refine (aKi _ _).mono ?_);rintro e w' ⟨rfl,rfl⟩)
 go_ret
 exact ⟨rfl,rfl⟩
theorem aKh (x:Int) (w:World):Calls prog 138 #[.int .u32 x,Iz (-18)] w fun e w'=>e=.returned (.int .u32 (roI 18 x))∧w=w':=by
 have H:bits .and .u64 (IntKind.u64.wrap (-18)) 31=14:=by decide
 go_enter func138,ntmps138
 go_wp2
 go_ret
 exact ⟨(Ad (fun u=>Ending.returned (Value.int .u32 u)) (iC _ _)),rfl⟩
theorem aJk (x:Int) (w:World):Calls prog 124 #[.int .u32 x,Iz 18] w fun e w'=>e=.returned (.int .u32 (roI 18 x))∧w=w':=by
 go_enter func124,ntmps124
 go_wp2_with (go_at_call 138;(with_reducible refine (aKh _ _).mono ?_);rintro e w' ⟨rfl,rfl⟩)
 go_ret
 exact ⟨rfl,rfl⟩
theorem aKg (x:Int) (w:World):Calls prog 138 #[.int .u32 x,Iz (-19)] w fun e w'=>e=.returned (.int .u32 (roI 19 x))∧w=w':=by
 have H:bits .and .u64 (IntKind.u64.wrap (-19)) 31=13:=by decide
 go_enter func138,ntmps138
 go_wp2
 go_ret
 exact ⟨(Ad (fun u=>Ending.returned (Value.int .u32 u)) (iC _ _)),rfl⟩
theorem aJj (x:Int) (w:World):Calls prog 124 #[.int .u32 x,Iz 19] w fun e w'=>e=.returned (.int .u32 (roI 19 x))∧w=w':=by
 go_enter func124,ntmps124
 go_wp2_with (go_at_call 138;(with_reducible refine (aKg _ _).mono ?_);rintro e w' ⟨rfl,rfl⟩)
 go_ret
 exact ⟨rfl,rfl⟩
theorem aKf (x:Int) (w:World):Calls prog 138 #[.int .u32 x,Iz (-22)] w fun e w'=>e=.returned (.int .u32 (roI 22 x))∧w=w':=by
 have H:bits .and .u64 (IntKind.u64.wrap (-22)) 31=10:=by decide
 go_enter func138,ntmps138
 go_wp2
 go_ret
 exact ⟨(Ad (fun u=>Ending.returned (Value.int .u32 u)) (iC _ _)),rfl⟩
theorem aJi (x:Int) (w:World):Calls prog 124 #[.int .u32 x,Iz 22] w fun e w'=>e=.returned (.int .u32 (roI 22 x))∧w=w':=by
 go_enter func124,ntmps124
 go_wp2_with (go_at_call 138;(with_reducible refine (aKf _ _).mono ?_);rintro e w' ⟨rfl,rfl⟩)
 go_ret
 exact ⟨rfl,rfl⟩
theorem aKe (x:Int) (w:World):Calls prog 138 #[.int .u32 x,Iz (-25)] w fun e w'=>e=.returned (.int .u32 (roI 25 x))∧w=w':=by
 have H:bits .and .u64 (IntKind.u64.wrap (-25)) 31=7:=by decide
 go_enter func138,ntmps138
 go_wp2
 go_ret
 exact ⟨(Ad (fun u=>Ending.returned (Value.int .u32 u)) (iC _ _)),rfl⟩
theorem aJh (x:Int) (w:World):Calls prog 124 #[.int .u32 x,Iz 25] w fun e w'=>e=.returned (.int .u32 (roI 25 x))∧w=w':=by
 go_enter func124,ntmps124
 go_wp2_with (go_at_call 138;(with_reducible refine (aKe _ _).mono ?_);rintro e w' ⟨rfl,rfl⟩)
 go_ret
 exact ⟨rfl,rfl⟩
def JW (w:World) (g o:Nat) (x:Int):World:=
 (((w.setCell ⟨g,o,none⟩ (.int .u8 (cV (x / 16777216)).toNat)).setCell ⟨g,o+1,none⟩ (.int .u8 (cV (x / 65536)).toNat)).setCell ⟨g,o+2,none⟩ (.int .u8 (cV (x / 256)).toNat)).setCell ⟨g,o+3,none⟩ (.int .u8 (cV x).toNat)
theorem oC (g o len cap:Nat) (x:Int) (T:TypeId) (xs:Vl) (w:World) (ha:Arr w g T xs) (ho:o+4≤xs.length) (hl:4≤len) (hc:cap≤maxLen) (hlc:len≤cap) :
 Calls prog 73 #[.slice (some ⟨g,o,none⟩) len cap,.int .u32 x] w fun e w'=>e=.returned (.tuple #[])∧w'=JW w g o x:=by
 unfold maxLen at hc;have c:∀k,k<4→w.cell? ⟨g,o+k,none⟩=some (xs.getD (o+k) (.bool true)):=by
  intro k hk;refine ha.cellAt ?_;simp only [List.getD];rw [Ac (by omega)]
  rfl
 have c0:=c 0 (by omega)
 have c1:=c 1 (by omega)
 have c2:=c 2 (by omega)
 have c3:=c 3 (by omega)
 have f0:=ha.free o;have f1:=ha.free (o+1);have f2:=ha.free (o+2);have f3:=ha.free (o+3);simp only [Nat.add_zero] at c0;obtain ⟨u0,h0⟩:∃u,u=xs.getD o (.bool true):=⟨_,rfl⟩;obtain ⟨u1,h1⟩:∃u,u=xs.getD (o+1) (.bool true):=⟨_,rfl⟩;obtain ⟨u2,h2⟩:∃u,u=xs.getD (o+2) (.bool true):=⟨_,rfl⟩;obtain ⟨u3,h3⟩:∃u,u=xs.getD (o+3) (.bool true):=⟨_,rfl⟩;rw [←h0] at c0;rw [←h1] at c1;rw [←h2] at c2;rw [←h3] at c3;clear h0 h1 h2 h3 c ha ho;have E:JW w g o x=(((w.setCell ⟨g,o,none⟩ (.int .u8 (x / 16777216 % 256))).setCell ⟨g,o+1,none⟩ (.int .u8 (x / 65536 % 256))).setCell ⟨g,o+2,none⟩ (.int .u8 (x / 256 % 256))).setCell ⟨g,o+3,none⟩ (.int .u8 (x % 256)):=by
  unfold JW;simp only [YL]
 have H:=Hh E;clear E
 go_enter func73,ntmps73
 go_wp2
 go_end0
 exact ⟨rfl,H.o.symm⟩
theorem qO {B g o:Nat} {x:Int} {W w:World} (h:Below B W w) (hg:B≤g):Below B W (JW w g o x):=
 (((h.setCell (p:=⟨g,o,none⟩) hg _).setCell (p:=⟨g,o+1,none⟩) hg _).setCell (p:=⟨g,o+2,none⟩) hg _).setCell (p:=⟨g,o+3,none⟩) hg _
theorem yT {w:World} {g o:Nat} {T:TypeId} {a b:Vl} {v0 v1 v2 v3:Value} {x:Int} (h:Arr w g T (a++([v0,v1,v2,v3]++b))) (ho:a.length=o) :
 Arr (JW w g o x) g T (a++(aS [cV (x / 16777216),cV (x / 65536),cV (x / 256),cV x]++b)):=by
 have h1:=(((h.store o (.int .u8 (cV (x / 16777216)).toNat)).store (o+1) (.int .u8 (cV (x / 65536)).toNat)).store (o+2) (.int .u8 (cV (x / 256)).toNat)).store (o+3) (.int .u8 (cV x).toNat);subst ho;have e:((((a++([v0,v1,v2,v3]++b)).set a.length (.int .u8 (cV (x / 16777216)).toNat)).set (a.length+1) (.int .u8 (cV (x / 65536)).toNat)).set (a.length+2) (.int .u8 (cV (x / 256)).toNat)).set (a.length+3) (.int .u8 (cV x).toNat)=a++(aS [cV (x / 16777216),cV (x / 65536),cV (x / 256),cV x]++b):=by
  simp [List.set_append,aS]
 rw [e] at h1;exact h1
def gD (l:List Int):Vl:=l.map (Value.int .u32)
def zs (n:Nat):Vl:=List.replicate n (.int .u32 0)
theorem dJ (l:List Int):(gD l).length=l.length:=by simp [gD]
theorem kW (n:Nat):(zs n).length=n:=by simp [zs]
theorem xX (l:List Int) (i:Nat) (x:Int):(gD l).set i (.int .u32 x)=gD (l.set i x):=by
 unfold gD;rw [List.map_set]
theorem mH (l:List Int):∀v ∈ gD l,v.oneCell'=true:=by
 intro v hv;obtain ⟨n,_,rfl⟩:=Bl.1 hv
 rfl
theorem lG (l:List Int) (j:Nat) (hj:j<l.length):(gD l)[j]?=some (.int .u32 (l.getD j 0)):=by
 simp only [gD,Bc,List.getD];rw [Ac hj]
 rfl
theorem Arr.u32 {w:World} {g:Nat} {T:TypeId} {l:List Int} (h:Arr w g T (gD l)) (j:Nat) (hj:j<l.length):w.cell? ⟨g,j,none⟩=some (.int .u32 (l.getD j 0)):=
 h.cellAt (lG l j hj)
theorem PX:(Tryz.prog.info? 141).map (·.size)=some 64:=by kernel_rfl
theorem iO:(Tryz.prog.info? 107).map (·.size)=some 8:=by kernel_rfl
theorem QM (s:Bt) (w:World) (h0:s.size=64) :
 Calls prog 108 #[.string s] w fun e w'=>e=.returned (.agg (gD (wOf s.data.toList)).toArray)∧Below w.heap.size w w':=by
 obtain ⟨L,hL⟩:∃L,L=s.data.toList:=⟨_,rfl⟩;have HL0:=Hh hL;rw [←hL];clear hL
 go_enter func108,ntmps108
 go_wp2
 go_loopw [11] (fun i wr=>∃t:Nat,t≤16∧i=Iz t∧Arr wr w.heap.size 141 (zs 64)∧Arr wr (w.heap.size+1) 141 (gD (stF L t))∧Below w.heap.size w wr) (fun i _=>16 - (intOf i).toNat)
 case atStart=>
  refine ⟨0,by omega,rfl,?_,?_,?_⟩
  ·exact (Arr.new w (zs 64) 141).alloc _
  ·exact Arr.new2 w _ (zs 64) 141
  ·exact ((Br _ _).alloc (Lr _) _).alloc (by simp) _
 case round=>
  obtain ⟨t,ht,rfl,ha1,ha2,hb⟩:=hrel
  by_cases hlt:t<16
  ·obtain ⟨q,hq⟩:∃q,s.extract (4 * t) (4 * (t+1))=q:=⟨_,rfl⟩
   have hqs:q.size=4:=by rw [←hq,oP _ _ _ (by omega) (by omega)];omega
   have hw:YY L t=RU q[0].toNat q[1].toNat q[2].toNat q[3].toNat:=by
    have g:∀i (hi:i<q.size),q[i]=L.getD (4 * t+i) 0:=by
     intro i hi;have:=xA s (4 * t) (4 * (t+1)) i (by rw [hq];exact hi)
     rw [HL0.o,←this]
     congr 1
     exact hq.symm
    rw [g 0 (by omega),g 1 (by omega),g 2 (by omega),g 3 (by omega)]
    rfl
   have HW:=Hh hw;clear hw;have b0:=UInt8.toNat_lt q[0];have b1:=UInt8.toNat_lt q[1];have b2:=UInt8.toNat_lt q[2];have b3:=UInt8.toNat_lt q[3];have hc:=ha2.u32 t (by rw [mT];omega)
   have hf:=ha2.free t;obtain ⟨z,hz⟩:∃z,z=(stF L t).getD t 0:=⟨_,rfl⟩;rw [←hz] at hc;clear hz;have i64a:((t:Nat):Int)<64:=by omega
   go_wp2
   go_region
   go_wp2
   go_roundw
   case rel=>
    refine ⟨t+1,by omega,rfl,?_,?_,?_⟩
    ·exact (ha1.beside _ _ (by simp)).drew
    ·have:=ha2.store t (.int .u32 (RU q[0].toNat q[1].toNat q[2].toNat q[3].toNat))
     rw [xX,show (stF L t).set t (RU q[0].toNat q[1].toNat q[2].toNat q[3].toNat)=stF L (t+1) by rw [←HW.o];rfl] at this
     exact this
    ·exact (hb.setCell (p:=⟨w.heap.size+1,t,none⟩) (by simp) _).drew
   case measure=>simp [intOf];omega
  ·obtain rfl:t=16:=by omega
   have hsz:wr.heap.size > w.heap.size+1:=ha2.lt;obtain ⟨X,hX⟩:∃X,X=stF L 16:=⟨_,rfl⟩;have hXl:X.length=64:=by rw [hX,mT]
   have HX:=Hh hX;rw [←hX] at ha2;clear hX;rw [show ((16:Nat):Int)=16 from rfl]
   go_wp2
   go_loopw [6] (fun i wr=>∃n:Nat,n≤48∧i=Iz (16+n:Nat)∧Arr wr w.heap.size 141 (zs 64)∧Arr wr (w.heap.size+1) 141 (gD (exF X n))∧Below w.heap.size w wr) (fun i _=>64 - (intOf i).toNat)
   case atStart=>exact ⟨0,by omega,rfl,ha1,ha2,hb⟩
   case round=>
    clear ha1 ha2 hb hsz;obtain ⟨n,hn,rfl,ha1,ha2,hb⟩:=hrel;have hxl:=rC X hXl n
    by_cases hlt:n<48
    ·obtain ⟨xs,hxs⟩:∃xs,xs=exF X n:=⟨_,rfl⟩
     have hxn:exF X (n+1)=xs.set (16+n) (KF xs (16+n)):=by rw [hxs];rfl
     have HXN:=Hh hxn;rw [←hxs] at ha2 hxl;clear hxs hxn;obtain ⟨t,ht⟩:∃t,t=16+n:=⟨_,rfl⟩;rw [←ht] at HXN ⊢;have ht1:16≤t:=by omega
     have ht2:t<64:=by omega
     have HT:=Hh ht;clear ht;obtain ⟨x,hx⟩:∃x,xs.getD (t - 15) 0=x:=⟨_,rfl⟩;obtain ⟨y,hy⟩:∃x,xs.getD (t - 2) 0=x:=⟨_,rfl⟩;obtain ⟨x7,hx7⟩:∃x,xs.getD (t - 7) 0=x:=⟨_,rfl⟩;obtain ⟨x16,hx16⟩:∃x,xs.getD (t - 16) 0=x:=⟨_,rfl⟩;have hnx:KF xs t=(sg1 y+x7+sg0 x+x16) % 4294967296:=by unfold KF;rw [hx,hy,hx7,hx16]
     have HNX:=Hh hnx;have g15:=ha2.u32 (t - 15) (by omega)
     have g2:=ha2.u32 (t - 2) (by omega)
     have g7:=ha2.u32 (t - 7) (by omega)
     have g16:=ha2.u32 (t - 16) (by omega)
     have g0:=ha2.u32 t (by omega)
     rw [hx] at g15;rw [hy] at g2;rw [hx7] at g7;rw [hx16] at g16;obtain ⟨z,hz⟩:∃z,xs.getD t 0=z:=⟨_,rfl⟩;rw [hz] at g0;clear hx hy hx7 hx16 hnx hz;have n15:((t - 15:Nat):Int)=(t:Int) - 15:=by omega
     have i15:IntKind.i64.wrap ((t:Int) - 15)=((t - 15:Nat):Int):=by rw [IntKind.wrap_i64];omega
     have i2:IntKind.i64.wrap ((t:Int) - 2)=((t - 2:Nat):Int):=by rw [IntKind.wrap_i64];omega
     have i64a:(t:Int)<64:=by omega
     have hf:=ha2.free t;obtain ⟨s0,hs0⟩:∃v,bits .xor .u32 (bits .xor .u32 (roI 7 x) (roI 18 x)) (x / 8)=v:=⟨_,rfl⟩;obtain ⟨s1,hs1⟩:∃v,bits .xor .u32 (bits .xor .u32 (roI 17 y) (roI 19 y)) (y / 1024)=v:=⟨_,rfl⟩
     go_wp2
     go_quiet (fail)
     go_wp2_with (first | (go_at_call 124;(with_reducible refine (aKb _ _).mono ?_);rintro e w' ⟨rfl,rfl⟩) | (go_at_call 124;(with_reducible refine (aJk _ _).mono ?_);rintro e w' ⟨rfl,rfl⟩) | (go_at_call 124;(with_reducible refine (aJl _ _).mono ?_);rintro e w' ⟨rfl,rfl⟩) | (go_at_call 124;(with_reducible refine (aJj _ _).mono ?_);rintro e w' ⟨rfl,rfl⟩))
     go_region
     go_wp2
     go_roundw
     case rel=>
      refine ⟨n+1,by omega,by rw [HT.o];push_cast;rfl,?_,?_,?_⟩
      ·exact ha1.beside _ _ (by simp)
      ·have:=ha2.store t (.int .u32 (KF xs t))
       rw [xX] at this;rw [HXN.o];rw [HNX.o] at this ⊢;unfold sg0 sg1 at this ⊢;rw [hs0,hs1] at this ⊢;exact this
      ·exact (GJ hb _).setCell (p:=⟨w.heap.size+1,t,none⟩) (by simp) _
     case measure=>simp [intOf];omega
    ·obtain rfl:n=48:=by omega
     obtain ⟨R,hR⟩:∃R,R=exF X 48:=⟨_,rfl⟩;have hRW:R=wOf L:=by rw [hR,HX.o];rfl
     have HR:=Hh hRW;rw [←hR] at ha2 hxl;clear hR hRW;have hnw:=ha1.setRow (gD R);obtain ⟨V,hV⟩:∃V,V=gD R:=⟨_,rfl⟩;have hVl:V.length=64:=by rw [hV,dJ,hxl]
     have hV1:∀v ∈ V,v.oneCell'=true:=by rw [hV];exact mH R
     rw [←hV] at ha2 hnw;have HV:Hid (V=gD (wOf L)):=by rw [HR.o] at hV;exact hV
     clear hV
     go_wp2_with (first | (refine vE rfl 141 (.tmp 3) rfl _ rfl ha2 underlying141 PX hVl ?_) | (refine pS rfl 141 (.tmp 2) (.tmp 85) rfl _ V rfl rfl ha1 PX (kW 64) hVl hV1 ?_))
     refine Ar (v:=.agg V.toArray) (ET rfl _ _ _ rfl hnw underlying141 PX hVl) rfl ⟨by rw [HV.o],dX hb _ (by simp) _⟩
def tG (w:World):Prop:=∀i,i<64→w.cell? ⟨2,i,none⟩=some (.int .u32 (KL.getD i 0))
theorem tG.below {w w':World} (h:tG w) {B:Nat} (hb:Below B w w') (hB:2<B):tG w':=fun i hi=>by
 rw [hb.cell (p:=⟨2,i,none⟩) hB];exact h i hi
theorem GK (hs W:List Int) (w:World) (h8:hs.length=8) (h64:W.length=64) (hK:tG w) (hsz:2<w.heap.size) :
 Calls prog 107 #[.agg (gD hs).toArray,.agg (gD W).toArray] w fun e w'=>e=.returned (.agg (gD (MD hs W)).toArray)∧Below w.heap.size w w':=by
 obtain ⟨HV,hHV⟩:∃V,V=gD hs:=⟨_,rfl⟩;obtain ⟨WV,hWV⟩:∃V,V=gD W:=⟨_,rfl⟩;have hHl:HV.length=8:=by rw [hHV,dJ,h8]
 have hWl:WV.length=64:=by rw [hWV,dJ,h64]
 have gH:∀j,j<8→HV[j]?=some (.int .u32 (hs.getD j 0)):=fun j hj=>by rw [hHV];exact lG hs j (by omega)
 have gW:∀j,j<64→WV[j]?=some (.int .u32 (W.getD j 0)):=fun j hj=>by rw [hWV];exact lG W j (by omega)
 rw [←hHV,←hWV];have HHV:=Hh hHV;clear hHV hWV;have c:∀j,j<8→(((w.alloc (.cells HV.toArray 107)).alloc (.cells WV.toArray 141)).alloc (.cells (zs 8).toArray 107)).cell? ⟨w.heap.size,j,none⟩=some (.int .u32 (hs.getD j 0)):=by
  intro j hj;exact (((Arr.new w HV 107).alloc _).alloc _).cellAt (gH j hj)
 go_enter func107,ntmps107
 go_wp2
 obtain ⟨w1,hw1⟩:∃w1,w1=((w.alloc (.cells HV.toArray 107)).alloc (.cells WV.toArray 141)).alloc (.cells (zs 8).toArray 107):=⟨_,rfl⟩;have a1:Arr w1 w.heap.size 107 HV:=by rw [hw1];exact ((Arr.new w HV 107).alloc _).alloc _
 have a2:Arr w1 (w.heap.size+1) 141 WV:=by rw [hw1];exact (Arr.new2 w _ WV 141).alloc _
 have a3:Arr w1 (w.heap.size+2) 107 (zs 8):=by rw [hw1];exact Arr.new3 w _ _ (zs 8) 107
 have b1:Below w.heap.size w w1:=by rw [hw1];exact (((Br _ _).alloc (Lr _) _).alloc (by simp) _).alloc (by simp;omega) _
 rw [show ((w.alloc (.cells HV.toArray 107)).alloc (.cells WV.toArray 141)).alloc (.cells #[.int .u32 0,.int .u32 0,.int .u32 0,.int .u32 0,.int .u32 0,.int .u32 0,.int .u32 0,.int .u32 0] 107)=w1 from hw1.symm]
 clear hw1;have d0:=a1.cellAt (gH 0 (by omega))
 have d1:=a1.cellAt (gH 1 (by omega))
 have d2:=a1.cellAt (gH 2 (by omega))
 have d3:=a1.cellAt (gH 3 (by omega))
 have d4:=a1.cellAt (gH 4 (by omega))
 have d5:=a1.cellAt (gH 5 (by omega))
 have d6:=a1.cellAt (gH 6 (by omega))
 have d7:=a1.cellAt (gH 7 (by omega))
 obtain ⟨x0,hx0⟩:∃x,hs.getD 0 0=x:=⟨_,rfl⟩;obtain ⟨x1,hx1⟩:∃x,hs.getD 1 0=x:=⟨_,rfl⟩;obtain ⟨x2,hx2⟩:∃x,hs.getD 2 0=x:=⟨_,rfl⟩;obtain ⟨x3,hx3⟩:∃x,hs.getD 3 0=x:=⟨_,rfl⟩;obtain ⟨x4,hx4⟩:∃x,hs.getD 4 0=x:=⟨_,rfl⟩;obtain ⟨x5,hx5⟩:∃x,hs.getD 5 0=x:=⟨_,rfl⟩;obtain ⟨x6,hx6⟩:∃x,hs.getD 6 0=x:=⟨_,rfl⟩;obtain ⟨x7,hx7⟩:∃x,hs.getD 7 0=x:=⟨_,rfl⟩;rw [hx0] at d0;rw [hx1] at d1;rw [hx2] at d2;rw [hx3] at d3;rw [hx4] at d4;rw [hx5] at d5;rw [hx6] at d6;rw [hx7] at d7;have hsl:hs=[x0,x1,x2,x3,x4,x5,x6,x7]:=by
  obtain ⟨p,q,r,s,t,u,v,y,rfl⟩:=aCx h8;simp at hx0 hx1 hx2 hx3 hx4 hx5 hx6 hx7;simp [hx0,hx1,hx2,hx3,hx4,hx5,hx6,hx7]
 have HS:=Hh hsl;clear hx0 hx1 hx2 hx3 hx4 hx5 hx6 hx7 hsl c
 go_quiet (fail)
 go_wp2
 go_quiet (fail)
 go_wp2
 clear d0 d1 d2 d3 d4 d5 d6 d7
 go_loopw [5,6,7,8,9,10,11,12,36] (fun a b c d e f g h i wr=>∃t:Nat,∃na nb nc nd ne nf ng nh:Int,t≤64∧i=Iz t∧a=.int .u32 na∧b=.int .u32 nb∧c=.int .u32 nc∧d=.int .u32 nd∧e=.int .u32 ne∧f=.int .u32 nf∧g=.int .u32 ng∧h=.int .u32 nh∧rF hs W t=[na,nb,nc,nd,ne,nf,ng,nh]∧Arr wr w.heap.size 107 HV∧Arr wr (w.heap.size+1) 141 WV∧Arr wr (w.heap.size+2) 107 (zs 8)∧Below w.heap.size w wr) (fun _ _ _ _ _ _ _ _ i _=>64 - (intOf i).toNat)
 case atStart=>exact ⟨0,x0,x1,x2,x3,x4,x5,x6,x7,by omega,rfl,rfl,rfl,rfl,rfl,rfl,rfl,rfl,rfl,HS.o,a1,a2,a3,GJ (GJ b1 _) _⟩
 case round=>
  clear a1 a2 a3 b1;obtain ⟨t,na,nb,nc,nd,ne,nf,ng,nh,ht,rfl,rfl,rfl,rfl,rfl,rfl,rfl,rfl,rfl,hr,a1,a2,a3,hb⟩:=hrel;have HR:=Hh hr;clear hr
  by_cases hlt:t<64
  ·have hk:=hK t hlt
   rw [←hb.cell (p:=⟨2,t,none⟩) hsz] at hk;have hw:=a2.cellAt (gW t hlt);obtain ⟨k,hkk⟩:∃k,KL.getD t 0=k:=⟨_,rfl⟩;obtain ⟨v,hvv⟩:∃k,W.getD t 0=k:=⟨_,rfl⟩;rw [hkk] at hk;rw [hvv] at hw;have i64a:(t:Int)<64:=by omega
   obtain ⟨S1,hS1⟩:∃v,bits .xor .u32 (bits .xor .u32 (roI 6 ne) (roI 11 ne)) (roI 25 ne)=v:=⟨_,rfl⟩;obtain ⟨S0,hS0⟩:∃v,bits .xor .u32 (bits .xor .u32 (roI 2 na) (roI 13 na)) (roI 22 na)=v:=⟨_,rfl⟩;have hrn:rF hs W (t+1)=rnd k v [na,nb,nc,nd,ne,nf,ng,nh]:=by rw [←HR.o,←hkk,←hvv];rfl
   have HN:=Hh hrn;clear hrn hkk hvv
   go_wp2_with (first | (go_at_call 124;(with_reducible refine (aKc _ _).mono ?_);rintro e w' ⟨rfl,rfl⟩) | (go_at_call 124;(with_reducible refine (aJn _ _).mono ?_);rintro e w' ⟨rfl,rfl⟩) | (go_at_call 124;(with_reducible refine (aJh _ _).mono ?_);rintro e w' ⟨rfl,rfl⟩) | (go_at_call 124;(with_reducible refine (aKd _ _).mono ?_);rintro e w' ⟨rfl,rfl⟩) | (go_at_call 124;(with_reducible refine (aJm _ _).mono ?_);rintro e w' ⟨rfl,rfl⟩) | (go_at_call 124;(with_reducible refine (aJi _ _).mono ?_);rintro e w' ⟨rfl,rfl⟩))
   have hmx:(if IntKind.u32.signed=true then -1 else IntKind.u32.max)=4294967295:=rfl
   go_quiet (fail)
   go_wp2
   go_roundw
   case rel=>
    have hS1':aIp ne=S1:=hS1;have hS0':aJw na=S0:=hS0;refine ⟨t+1,_,na,nb,nc,_,ne,nf,ng,by omega,rfl,rfl,rfl,rfl,rfl,rfl,rfl,rfl,rfl,?_,a1,a2,a3,GJ hb _⟩
    rw [HN.o];simp only [rnd,hS1',hS0']
    rfl
   case measure=>simp [intOf];omega
  ·obtain rfl:t=64:=by omega
   rw [show ((64:Nat):Int)=64 from rfl]
   obtain ⟨vs,hvs⟩:∃vs,vs=rF hs W 64:=⟨_,rfl⟩;have hvl:vs=[na,nb,nc,nd,ne,nf,ng,nh]:=by rw [hvs];exact HR.o
   have hv8:vs.length=8:=by rw [hvl];rfl
   obtain ⟨VS,hVS⟩:∃V,V=gD vs:=⟨_,rfl⟩;have gV:∀j,j<8→VS[j]?=some (.int .u32 (vs.getD j 0)):=fun j hj=>by rw [hVS];exact lG vs j (by omega)
   have hVA:(#[.int .u32 na,.int .u32 nb,.int .u32 nc,.int .u32 nd,.int .u32 ne,.int .u32 nf,.int .u32 ng,.int .u32 nh]:Array Value)=VS.toArray:=by rw [hVS,hvl];rfl
   have hVl:VS.length=8:=by rw [hVS,dJ,hv8]
   have HVS:=Hh hvs;clear hvs hvl hVS HR
   go_wp2
   clear hVA
   go_loopw [110] (fun i wr=>∃j:Nat,j≤8∧i=Iz j∧Arr wr w.heap.size 107 (gD (wQ hs vs j))∧Arr wr (w.heap.size+2) 107 (zs 8)∧Below w.heap.size w wr) (fun i _=>8 - (intOf i).toNat)
   case atStart=>exact ⟨0,by omega,rfl,by rw [YQ hs vs h8,←HHV.o];exact a1,a3,hb⟩
   case round=>
    clear a1 a2 a3 hb;obtain ⟨j,hj,rfl,a1,a3,hb⟩:=hrel
    by_cases hlt:j<8
    ·have c1:=a1.u32 j (by rw [oW];omega)
     rw [aDw hs vs j j hlt,Af (by omega)] at c1
     have f1:=a1.free j;have gj:=gV j hlt;obtain ⟨x,hx⟩:∃x,hs.getD j 0=x:=⟨_,rfl⟩;obtain ⟨y,hy⟩:∃x,vs.getD j 0=x:=⟨_,rfl⟩;have hn:=YR hs vs j hlt;rw [hx,hy] at hn;rw [hx] at c1;rw [hy] at gj;have HN:=Hh hn;clear hn hx hy gV;have i64a:(j:Int)<8:=by omega
     have hix:=pX (P:=prog) 107 106 8 VS j _ underlying107 hlt isAgg106 sizeOf106 gj;have hcm:(x+y) % 4294967296=(x+y) % 4294967296:=rfl
     go_wp2
     go_roundw
     case rel=>
      refine ⟨j+1,by omega,rfl,?_,?_,?_⟩
      ·have:=a1.store j (.int .u32 ((x+y) % 4294967296))
       rw [xX,←HN.o] at this;exact this
      ·exact a3.beside _ _ (by simp)
      ·exact hb.setCell (p:=⟨w.heap.size,j,none⟩) (by simp) _
     case measure=>simp [intOf];omega
    ·obtain rfl:j=8:=by omega
     obtain ⟨V,hV⟩:∃V,V=gD (wQ hs vs 8):=⟨_,rfl⟩;have hVl':V.length=8:=by rw [hV,dJ,oW]
     have hV1:∀v ∈ V,v.oneCell'=true:=by rw [hV];exact mH _
     have HV':Hid (V=gD (MD hs W)):=by rw [HVS.o] at hV;exact hV
     rw [←hV] at a1;have hnw:=a3.setRow V;clear hV gV
     go_wp2_with (first | (refine vE rfl 107 (.tmp 2) rfl _ rfl a1 underlying107 iO hVl' ?_) | (refine pS rfl 107 (.tmp 4) (.tmp 121) rfl _ V rfl rfl a3 iO (kW 8) hVl' hV1 ?_))
     refine Ar (v:=.agg V.toArray) (ET rfl _ _ _ rfl hnw underlying107 iO hVl') rfl ⟨by rw [HV'.out],dX hb (w.heap.size+2) (by omega) _⟩
end Go.Proofs.YtncdpanfefnjlaaGreatDoor