/- What a writer through a pointer changes: blocks, frames, rows of bytes. -/
import Derived.Test.YtcklddldejejcaaGreatDoorNcop
import Derived.Lib.AppendStr
import Derived.RangeFuncNested
import Derived.RangeFuncBound
import Derived.RangeFuncCalls
import Derived.RangeFuncLeaves
import Derived.Shelf.Abstract
import Derived.Shelf.RegionOpen
import Derived.WalkKit
import Derived.OwnWalkIn
import Derived.TacticsInMore
import Derived.LoopNIn
import Derived.LoopIn
import Derived.Laws.EntriesVeiled
set_option linter.unusedVariables false
set_option linter.unusedSimpArgs false
set_option maxRecDepth 100000
set_option maxHeartbeats 3200000
namespace Go.Proofs.YtcklddldejejcaaGreatDoor
open Go Go.ChangeShapes Go.WideShapes Go.ChangeAt Go.RowKit
theorem cell_blk {w:World} {g j:Nat} {cs:Array Value} {T:TypeId} {fz:Nat × Nat} {u:Value} (h:w.heap[g]?=some (.cells cs T fz)) (hj:cs[j]?=some u):w.cell? ⟨g,j,none⟩=some u:=by simp [World.cell?,h,hj]
theorem free_blk {w:World} {g j:Nat} {cs:Array Value} {T:TypeId} (h:w.heap[g]?=some (.cells cs T (0,0))):w.frozen? ⟨g,j,none⟩=false:=by simp [World.frozen?,h]
def WFr (TB:TypeId) (g:Nat) (w w':World):Prop:=Below g w w'∧∀ (i:Nat) (o:Obj),i ≠ g→w.heap[i]?=some o→(∀cs fz,o ≠ .cells cs TB fz)→w'.heap[i]?=some o
theorem WFr.refl (TB:TypeId) (g:Nat) (w:World):WFr TB g w w:=⟨Br _ _,fun _ _ _ h _=>h⟩
theorem WFr.trans {TB:TypeId} {g:Nat} {a b c:World} (h:WFr TB g a b) (k:WFr TB g b c):WFr TB g a c:=⟨h.1.trans k.1,fun i o hi ho hn=>k.2 i o hi (h.2 i o hi ho hn) hn⟩
theorem WFr.of_below {TB:TypeId} {g:Nat} {w w':World} (h:Below w.heap.size w w') (hg:g≤w.heap.size):WFr TB g w w':=⟨h.mono hg,fun i o _ ho _=>(h.block i (lt_of_block ho)).trans ho⟩
def WSt (TW TB:TypeId) (B:Nat) (w:World) (g m:Nat) (l:List UInt8):Prop:=∃v,w.heap[g]?=some (.cells #[v,.map (some m)] TW (0,0))∧w.ownsRow B TB 1 v l.length (bytesV l)∧g<B∧m<g
theorem WSt.below {TW TB:TypeId} {B:Nat} {w w':World} {g m:Nat} {l:List UInt8} (h:WSt TW TB B w g m l) (hb:Below w.heap.size w w'):WSt TW TB B w' g m l:=by
 obtain ⟨v,h1,h2,h3,h4⟩:=h
 exact ⟨v,(hb.block g (lt_of_block h1)).trans h1,h2.kept (grown_of_below hb (Lr _) none) (by cases e:v.ownBlock with | none=>exact .inl rfl | some b=>exact .inr (by simp)),h3,h4⟩
theorem WSt.lt {TW TB:TypeId} {B:Nat} {w:World} {g m:Nat} {l:List UInt8} (h:WSt TW TB B w g m l):g<w.heap.size:=by obtain ⟨v,h1,_⟩:=h;exact lt_of_block h1
theorem WSt.le {TW TB:TypeId} {B:Nat} {w:World} {g m:Nat} {l:List UInt8} (h:WSt TW TB B w g m l):m<g:=by obtain ⟨v,_,_,_,h4⟩:=h;exact h4
theorem wown_form {w:World} {B e n:Nat} {v:Value} {xs:List Value} (h:w.ownsRow B e 1 v n xs):∃ao cap,v=.slice ao n cap∧n≤cap∧cap≤maxLen:=by
 rcases h.2 with ⟨rfl,rfl⟩ | ⟨g,cap,cur,rfl,_,_,h1,h2,_⟩
 ·exact ⟨none,0,rfl,Lr _,Nat.zero_le _⟩
 ·exact ⟨_,cap,rfl,h1,h2⟩
theorem wst_step {TW TB:TypeId} {B:Nat} {w w8:World} {g m:Nat} {l l':List UInt8} {v v':Value} (h1:w.heap[g]?=some (.cells #[v,.map (some m)] TW (0,0))) (h2:w.ownsRow B TB 1 v l.length (bytesV l)) (hgB:g<B) (hm:m<g) (hTW:TW ≠ TB)
 (hown:w8.ownsRow B TB 1 v' l'.length (bytesV l')) (hgr:w.grownBy w8 v.ownBlock) :
 w8.heap[g]?=some (.cells #[v,.map (some m)] TW (0,0))∧WSt TW TB B (w8.setCell ⟨g,0,none⟩ v') g m l'∧WFr TB g w (w8.setCell ⟨g,0,none⟩ v'):=by
 have hne:v.ownBlock ≠ some g:=by
  intro e
  have:=(h2.lt g e).1
  omega
 have k8:w8.heap[g]?=some (.cells #[v,.map (some m)] TW (0,0)):=(hgr.block g (lt_of_block h1) (fun e=>hne e.symm)).trans h1
 refine ⟨k8,⟨v',?_,?_,hgB,hm⟩,?_,?_⟩
 ·have:=heap_set k8 (j:=0) v'
  simpa using this
 ·refine hown.kept (grown_set w8 g 0 v') ?_
  cases e:v'.ownBlock with
  | none=>exact .inl rfl
  | some b=>exact .inr (fun e'=>by cases e';have:=(hown.lt _ e).1;omega)
 ·have hb8:Below g w w8:=(Br g w).grown hgr (Nat.le_of_lt (lt_of_block h1)) (fun k hk=>by have:=(h2.lt k hk).1;omega)
  exact hb8.grown (grown_set w8 g 0 v') (by have:=lt_of_block k8;omega) (fun k hk=>by cases hk;exact Lr _)
 ·intro i o hi ho hn
  rw [heap_setCell_other w8 ⟨g,0,none⟩ i v' hi]
  refine (hgr.block i (lt_of_block ho) fun e=>?_).trans ho
  rcases h2.2 with ⟨rfl,-⟩ | ⟨b,cap,cur,rfl,-,hb,-⟩
  ·cases e
  ·have e:i=b:=by simpa [Value.ownBlock] using e
   subst e
   rw [hb] at ho
   exact hn _ _ (Option.some.inj ho).symm
def Out (l T l':List UInt8):Prop:=l'=l++T∨(65536<l'.length∧65536<l.length+T.length)
theorem Out.fits {l T l':List UInt8} (h:Out l T l') (hl:¬65536<l'.length):l'=l++T:=h.resolve_right fun q=>hl q.1
theorem Out.over {l T l':List UInt8} (h:Out l T l') (hl:65536<l'.length):65536<l.length+T.length:=by
 rcases h with rfl | h
 ·rwa [Lg] at hl
 ·exact h.2
theorem Out.more {l T U l' l'':List UInt8} (h:Out l T l') (hl:¬65536<l'.length) (k:Out l' U l''):Out l (T++U) l'':=by
 have e:=h.fits hl
 rcases k with rfl | k
 ·exact .inl (by rw [e,List.append_assoc])
 ·refine .inr ⟨k.1,?_⟩
  have:=k.2
  rw [e,Lg] at this
  rw [Lg];omega
theorem Out.push {l T l':List UInt8} (h:Out l T l') (U:List UInt8):Out l (T++U) (l'++U):=by
 rcases h with rfl | h
 ·exact .inl (by rw [List.append_assoc])
 ·exact .inr ⟨by rw [Lg];omega,by rw [Lg];omega⟩
theorem Out.cut {l T l':List UInt8} (h:Out l T l') (hl:65536<l'.length) {U:List UInt8} (hU:T.length≤U.length):Out l U l':=.inr ⟨hl,by have:=h.over hl;omega⟩
end Go.Proofs.YtcklddldejejcaaGreatDoor
namespace Go.Proofs.YtcklddldejejcaaGreatDoor
open Go Go.ChangeShapes Go.WideShapes Go.ChangeAt Go.RowKit Go.Shelf
def WSc (TW TB:TypeId) (B:Nat) (w:World) (g:Nat) (l:List UInt8):Prop:=∃v,w.heap[g]?=some (.cells #[v] TW (0,0))∧w.ownsRow B TB 1 v l.length (bytesV l)∧g<B
theorem WSc.below {TW TB:TypeId} {B:Nat} {w w':World} {g:Nat} {l:List UInt8} (h:WSc TW TB B w g l) (hb:Below w.heap.size w w'):WSc TW TB B w' g l:=by
 obtain ⟨v,h1,h2,h3⟩:=h
 exact ⟨v,(hb.block g (lt_of_block h1)).trans h1,h2.kept (grown_of_below hb (Lr _) none) (by cases e:v.ownBlock with | none=>exact .inl rfl | some b=>exact .inr (by simp)),h3⟩
theorem WSc.lt {TW TB:TypeId} {B:Nat} {w:World} {g:Nat} {l:List UInt8} (h:WSc TW TB B w g l):g<w.heap.size:=by obtain ⟨v,h1,_⟩:=h;exact lt_of_block h1
theorem wsc_step {TW TB:TypeId} {B:Nat} {w w8:World} {g:Nat} {l l':List UInt8} {v v':Value} (h1:w.heap[g]?=some (.cells #[v] TW (0,0))) (h2:w.ownsRow B TB 1 v l.length (bytesV l)) (hgB:g<B) (hTW:TW ≠ TB)
 (hown:w8.ownsRow B TB 1 v' l'.length (bytesV l')) (hgr:w.grownBy w8 v.ownBlock) :
 w8.heap[g]?=some (.cells #[v] TW (0,0))∧WSc TW TB B (w8.setCell ⟨g,0,none⟩ v') g l'∧WFr TB g w (w8.setCell ⟨g,0,none⟩ v'):=by
 have hne:v.ownBlock ≠ some g:=by
  intro e
  have:=(h2.lt g e).1
  omega
 have k8:w8.heap[g]?=some (.cells #[v] TW (0,0)):=(hgr.block g (lt_of_block h1) (fun e=>hne e.symm)).trans h1
 refine ⟨k8,⟨v',?_,?_,hgB⟩,?_,?_⟩
 ·have:=heap_set k8 (j:=0) v'
  simpa using this
 ·refine hown.kept (grown_set w8 g 0 v') ?_
  cases e:v'.ownBlock with
  | none=>exact .inl rfl
  | some b=>exact .inr (fun e'=>by cases e';have:=(hown.lt _ e).1;omega)
 ·have hb8:Below g w w8:=(Br g w).grown hgr (Nat.le_of_lt (lt_of_block h1)) (fun k hk=>by have:=(h2.lt k hk).1;omega)
  exact hb8.grown (grown_set w8 g 0 v') (by have:=lt_of_block k8;omega) (fun k hk=>by cases hk;exact Lr _)
 ·intro i o hi ho hn
  rw [heap_setCell_other w8 ⟨g,0,none⟩ i v' hi]
  refine (hgr.block i (lt_of_block ho) fun e=>?_).trans ho
  rcases h2.2 with ⟨rfl,-⟩ | ⟨b,cap,cur,rfl,-,hb,-⟩
  ·cases e
  ·have e:i=b:=by simpa [Value.ownBlock] using e
   subst e
   rw [hb] at ho
   exact hn _ _ (Option.some.inj ho).symm
def KpW (TB:TypeId) (g:Nat) (w w':World):Prop:=Below g w w'∧∀ (i:Nat) cs T fz,i ≠ g→T ≠ TB→w.heap[i]?=some (.cells cs T fz)→w'.heap[i]?=some (.cells cs T fz)
theorem KpW.refl (TB:TypeId) (g:Nat) (w:World):KpW TB g w w:=⟨Br _ _,fun _ _ _ _ _ _ h=>h⟩
theorem KpW.trans {TB:TypeId} {g:Nat} {a b c:World} (h:KpW TB g a b) (k:KpW TB g b c):KpW TB g a c:=⟨h.1.trans k.1,fun i cs T fz hi hT ho=>k.2 i cs T fz hi hT (h.2 i cs T fz hi hT ho)⟩
theorem KpW.of {TB:TypeId} {g:Nat} {a b:World} (h:WFr TB g a b):KpW TB g a b:=⟨h.1,fun i cs T fz hi hT ho=>h.2 i _ hi ho (fun ds f e=>hT (by cases e;rfl))⟩
theorem KpW.below {TB:TypeId} {g:Nat} {a b:World} (h:Below a.heap.size a b) (hg:g≤a.heap.size):KpW TB g a b:=KpW.of (WFr.of_below h hg)
theorem kpW_b {TB:TypeId} {g:Nat} {w:World} (hg:g≤w.heap.size) (W:World) (l:Nat) (o o':Obj) (hl:w.heap.size≤l) (h:W.heap[l]?=some o) (hc:o.isCells=false) (hw:o.isWalk=false):KpW TB g W (W.putObj l o'):=by
 refine ⟨belowK_b hg W l o o' hl h hc hw,fun i cs T fz hi hT ho=>?_⟩
 by_cases e:i=l
 ·subst e
  rw [h] at ho
  cases ho
  cases hc
 ·exact ((grownBy_putObj' W l o').block i (lt_of_block ho) (fun e'=>e (Option.some.inj e'))).trans ho
def NoPan (Q:Exit→Act→World→Prop):Exit→Act→World→Prop
 | .panic _,_,_=>False
 | e,a,w=>Q e a w
theorem NoPan.out {Q:Exit→Act→World→Prop}:∀e a w,NoPan Q e a w→Q e a w
 | .normal,_,_,h=>h
 | .ret,_,_,h=>h
 | .exit _,_,_,h=>h
 | .goto _,_,_,h=>h
 | .panic _,_,_,h=>h.elim
 | .outgrown,_,_,h=>h
theorem wfr_own {TB:TypeId} {g:Nat} {a W W':World} {row:Option Nat} {B:Nat} (h:WFr TB g a W) (ha:a.heap.size≤B) (hgB:g<B) (hgr:W.grownBy W' row) (hr:∀r,row=some r→B≤r) (hW:B≤W.heap.size):WFr TB g a W':=by
 refine ⟨h.1.grown hgr (by omega) (fun k hk=>by have:=hr k hk;omega),fun i o hi ho hn=>?_⟩
 have hlt:=lt_of_block ho
 refine (hgr.block i (by omega) fun e=>?_).trans (h.2 i o hi ho hn)
 have:=hr i e.symm
 omega
theorem wsc_own {TW TB:TypeId} {B:Nat} {W W':World} {g:Nat} {l:List UInt8} {row:Option Nat} (h:WSc TW TB B W g l) (hgr:W.grownBy W' row) (hr:∀r,row=some r→∃o:Obj,W.heap[r]?=some o∧o.isCells=false):WSc TW TB B W' g l:=by
 obtain ⟨v,k1,k2,k3⟩:=h
 refine ⟨v,(hgr.block g (lt_of_block k1) fun e=>?_).trans k1,k2.kept hgr ?_,k3⟩
 ·obtain ⟨o,ho,hc⟩:=hr g e.symm
  rw [k1] at ho
  cases ho
  cases hc
 ·rcases k2.2 with ⟨rfl,-⟩ | ⟨b,cap,cur,rfl,-,hb,-⟩
  ·exact .inl rfl
  ·right
   intro e
   have e':row=some b:=by rw [←e];rfl
   obtain ⟨o,ho,hc⟩:=hr b e'
   rw [hb] at ho
   cases ho
   cases hc
theorem out_pre {l T U l':List UInt8} (h:Out (l++T) U l'):Out l (T++U) l':=by
 rcases h with rfl | ⟨h1,h2⟩
 ·exact .inl (by rw [List.append_assoc])
 ·exact .inr ⟨h1,by rw [Lg] at h2 ⊢;omega⟩
theorem flat_prefix {A B:Type} {f:A→List B} {p q:List A} (h:p <+: q):(p.flatMap f).length≤(q.flatMap f).length:=by
 obtain ⟨t,rfl⟩:=h
 rw [List.flatMap_append,Lg]
 omega
theorem keeps_of_wfr {TB:TypeId} {g B:Nat} {W W':World} (h:WFr TB g W W') (hg:g≤W.heap.size) (hB:g<B):KeepsFrom B W W':=⟨h.1.size,fun k o hk ho hc=>h.2 k o (by omega) ho (fun cs fz e=>by subst e;cases hc)⟩
theorem WSc.fresh {TW TB:TypeId} (w:World):WSc TW TB (w.heap.size+1) (w.alloc (.cells #[.slice none 0 0] TW)) w.heap.size []:=
 ⟨.slice none 0 0,Hn w _,World.ownsRow_nil _ _ _ _,by omega⟩
end Go.Proofs.YtcklddldejejcaaGreatDoor
namespace Go.Proofs.YtcklddldejejcaaGreatDoor
open Go Go.ChangeShapes Go.WideShapes Go.ChangeAt Go.RowKit
def foC (j:Nat):List Value:=if j=0 then [.int .i64 1,.func (.func 168) #[] #[],.func (.func 169) #[] #[],.func (.func 170) #[] #[]] else if j=1 then [.int .i64 2,.func (.func 171) #[] #[],.func (.func 172) #[] #[],.func (.func 173) #[] #[]] else [.int .i64 3,.func (.func 174) #[] #[],.func (.func 175) #[] #[],.func (.func 176) #[] #[]]
def foAll:List Value:=foC 0++foC 1++foC 2
theorem serials_any (w:World):Calls Tryz.prog 121 #[] w fun e w'=>e=.returned (.slice (some ⟨w.heap.size,0,none⟩) 3 3)∧w'=w.alloc (.cells foAll.toArray 93):=by
 go_enter Tryz.func121,Tryz.ntmps121
 go_wp2
 go_ret
 exact ⟨rfl,rfl⟩
def FoAt (w:World) (g:Nat):Prop:=w.heap[g]?=some (.cells foAll.toArray 93 (0,0))
theorem FoAt.at {w:World} {g:Nat} (h:FoAt w g) (j q:Nat) (hj:j<3) (hq:q<4):w.cell? ⟨g,j * 4+q,none⟩=(foC j)[q]?:=by
 obtain ⟨u,hu⟩:∃u,(foC j)[q]?=some u:=by
  rcases (by omega:j=0∨j=1∨j=2) with rfl | rfl | rfl <;> rcases (by omega:q=0∨q=1∨q=2∨q=3) with rfl | rfl | rfl | rfl <;> exact ⟨_,rfl⟩
 rw [hu]
 refine cell_blk h ?_
 rw [←hu]
 rcases (by omega:j=0∨j=1∨j=2) with rfl | rfl | rfl <;> rcases (by omega:q=0∨q=1∨q=2∨q=3) with rfl | rfl | rfl | rfl <;> rfl
theorem foeq_any (k form:Int) (F1 F2 F3:Nat) (b:Nat) (w:World) (hc:w.cell? ⟨b,0,none⟩=some (.int .i64 form)) (hb:b<w.heap.size):Calls Tryz.prog 123 #[.agg #[.int .i64 k,.func (.func F1) #[] #[],.func (.func F2) #[] #[],.func (.func F3) #[] #[]],.pointer (some ⟨b,0,none⟩)] w fun e w'=>e=.returned (.bool (k == form))∧Below w.heap.size w w':=by
 have b1:=(Br w.heap.size w).alloc (o:=.cells #[.int .i64 k,.func (.func F1) #[] #[],.func (.func F2) #[] #[],.func (.func F3) #[] #[]] 93) (Lr _)
 have k1:=Hn w (.cells #[.int .i64 k,.func (.func F1) #[] #[],.func (.func F2) #[] #[],.func (.func F3) #[] #[]] 93)
 have c1:=(b1.cell (p:=⟨b,0,none⟩) hb).trans hc
 go_enter Tryz.func123,Tryz.ntmps123
 go_upto_region 1 with fail
 generalize w.alloc _=w1 at b1 k1 c1 ⊢
 have c0:=cell_blk k1 (j:=0) rfl
 go_wp2
 go_ret
 exact ⟨rfl,b1⟩
def foI (k:Int):Int:=if k=1 then 0 else if k=2 then 1 else if k=3 then 2 else -1
theorem foix_any (form:Int) (g b:Nat) (w:World) (h:FoAt w g) (hc:w.cell? ⟨b,0,none⟩=some (.int .i64 form)) (hb:b<w.heap.size):Calls Tryz.prog 122 #[.slice (some ⟨g,0,none⟩) 3 3,.func (.func 123) #[] #[.pointer (some ⟨b,0,none⟩)]] w fun e w'=>e=.returned (.int .i64 (foI form))∧Below w.heap.size w w':=by
 have EQ:=Hh (fun (k:Int) (F1 F2 F3:Nat) (wx:World) (hx:Below w.heap.size w wx)=>foeq_any k form F1 F2 F3 b wx ((hx.cell (p:=⟨b,0,none⟩) hb).trans hc) (Ll hb hx.size))
 have H:=Hh h
 have hgl:=lt_of_block h
 clear h hc
 go_enter Tryz.func122,Tryz.ntmps122
 go_upto_region 2 with fail
 go_loopw [8] (fun i wr=>∃j:Nat,j≤3∧i=.int .i64 (j:Int)∧(∀i:Nat,i<j→form ≠ (i:Int)+1)∧Below w.heap.size w wr) (fun i _=>3 - (intOf i).toNat)
 case atStart=>exact ⟨0,by omega,rfl,(fun i hi=>absurd hi (Nat.not_lt_zero _)),Br _ _⟩
 case round=>
  obtain ⟨j,hj,rfl,hno,hbr⟩:=hrel
  have HNO:=Hh hno
  have HBR:=Hh hbr
  have HA:FoAt wr g:=(hbr.block g hgl).trans H.out
  clear hno hbr
  rcases (by omega:j=0∨j=1∨j=2∨j=3) with rfl | rfl | rfl | rfl
  rotate_right
  ·go_wp2
   go_ret
   refine ⟨?_,HBR.out⟩
   have h0:=HNO.out 0 (by omega)
   have h1:=HNO.out 1 (by omega)
   have h2:=HNO.out 2 (by omega)
   unfold foI
   rw [if_neg (by omega),if_neg (by omega),if_neg (by omega)]
   rfl
  ·have s0:wr.cell? ⟨g,0,none⟩=some (.int .i64 1):=HA.at 0 0 (by decide) (by decide)
   have s1:wr.cell? ⟨g,1,none⟩=some (.func (.func 168) #[] #[]):=HA.at 0 1 (by decide) (by decide)
   have s2:wr.cell? ⟨g,2,none⟩=some (.func (.func 169) #[] #[]):=HA.at 0 2 (by decide) (by decide)
   have s3:wr.cell? ⟨g,3,none⟩=some (.func (.func 170) #[] #[]):=HA.at 0 3 (by decide) (by decide)
   have E:=Hh (EQ.out 1 168 169 170 wr HBR.out)
   cases hq:((1:Int) == form) with
   | true=>
    rw [hq] at E
    have hf:Hid (foI form=0):=Hh (by rw [←eq_of_beq hq];rfl)
    clear hq HA
    go_wp2_with (go_at_call 123;(with_reducible refine (E.out).mono ?_);rintro e w3 ⟨rfl,hb3⟩)
    go_ret
    exact ⟨by rw [hf.out];rfl,HBR.out.trans (hb3.mono HBR.out.size)⟩
   | false=>
    rw [hq] at E
    have hne:form ≠ 1:=fun h=>by rw [h] at hq;cases hq
    have HNE:=Hh hne
    clear hq HA hne
    go_wp2_with (go_at_call 123;(with_reducible refine (E.out).mono ?_);rintro e w3 ⟨rfl,hb3⟩)
    go_roundw
    case rel=>exact ⟨1,by omega,by go_num,fun i hi=>by
     rcases (by omega:i<0∨i=0) with h | h
     ·exact HNO.out i h
     ·subst h;exact HNE.out,HBR.out.trans (hb3.mono HBR.out.size)⟩
    case measure=>simp [intOf]
  ·have s0:wr.cell? ⟨g,4,none⟩=some (.int .i64 2):=HA.at 1 0 (by decide) (by decide)
   have s1:wr.cell? ⟨g,5,none⟩=some (.func (.func 171) #[] #[]):=HA.at 1 1 (by decide) (by decide)
   have s2:wr.cell? ⟨g,6,none⟩=some (.func (.func 172) #[] #[]):=HA.at 1 2 (by decide) (by decide)
   have s3:wr.cell? ⟨g,7,none⟩=some (.func (.func 173) #[] #[]):=HA.at 1 3 (by decide) (by decide)
   have E:=Hh (EQ.out 2 171 172 173 wr HBR.out)
   cases hq:((2:Int) == form) with
   | true=>
    rw [hq] at E
    have hf:Hid (foI form=1):=Hh (by rw [←eq_of_beq hq];rfl)
    clear hq HA
    go_wp2_with (go_at_call 123;(with_reducible refine (E.out).mono ?_);rintro e w3 ⟨rfl,hb3⟩)
    go_ret
    exact ⟨by rw [hf.out];rfl,HBR.out.trans (hb3.mono HBR.out.size)⟩
   | false=>
    rw [hq] at E
    have hne:form ≠ 2:=fun h=>by rw [h] at hq;cases hq
    have HNE:=Hh hne
    clear hq HA hne
    go_wp2_with (go_at_call 123;(with_reducible refine (E.out).mono ?_);rintro e w3 ⟨rfl,hb3⟩)
    go_roundw
    case rel=>exact ⟨2,by omega,by go_num,fun i hi=>by
     rcases (by omega:i<1∨i=1) with h | h
     ·exact HNO.out i h
     ·subst h;exact HNE.out,HBR.out.trans (hb3.mono HBR.out.size)⟩
    case measure=>simp [intOf]
  ·have s0:wr.cell? ⟨g,8,none⟩=some (.int .i64 3):=HA.at 2 0 (by decide) (by decide)
   have s1:wr.cell? ⟨g,9,none⟩=some (.func (.func 174) #[] #[]):=HA.at 2 1 (by decide) (by decide)
   have s2:wr.cell? ⟨g,10,none⟩=some (.func (.func 175) #[] #[]):=HA.at 2 2 (by decide) (by decide)
   have s3:wr.cell? ⟨g,11,none⟩=some (.func (.func 176) #[] #[]):=HA.at 2 3 (by decide) (by decide)
   have E:=Hh (EQ.out 3 174 175 176 wr HBR.out)
   cases hq:((3:Int) == form) with
   | true=>
    rw [hq] at E
    have hf:Hid (foI form=2):=Hh (by rw [←eq_of_beq hq];rfl)
    clear hq HA
    go_wp2_with (go_at_call 123;(with_reducible refine (E.out).mono ?_);rintro e w3 ⟨rfl,hb3⟩)
    go_ret
    exact ⟨by rw [hf.out];rfl,HBR.out.trans (hb3.mono HBR.out.size)⟩
   | false=>
    rw [hq] at E
    have hne:form ≠ 3:=fun h=>by rw [h] at hq;cases hq
    have HNE:=Hh hne
    clear hq HA hne
    go_wp2_with (go_at_call 123;(with_reducible refine (E.out).mono ?_);rintro e w3 ⟨rfl,hb3⟩)
    go_roundw
    case rel=>exact ⟨3,by omega,by go_num,fun i hi=>by
     rcases (by omega:i<2∨i=2) with h | h
     ·exact HNO.out i h
     ·subst h;exact HNE.out,HBR.out.trans (hb3.mono HBR.out.size)⟩
    case measure=>simp [intOf]
theorem foI_cases (k:Int):(k=1∧foI k=0)∨(k=2∧foI k=1)∨(k=3∧foI k=2)∨((k<1∨3<k)∧foI k=-1):=by
 unfold foI
 by_cases h1:k=1
 ·exact .inl ⟨h1,by rw [if_pos h1]⟩
 by_cases h2:k=2
 ·exact .inr (.inl ⟨h2,by rw [if_neg h1,if_pos h2]⟩)
 by_cases h3:k=3
 ·exact .inr (.inr (.inl ⟨h3,by rw [if_neg h1,if_neg h2,if_pos h3]⟩))
 exact .inr (.inr (.inr ⟨by omega,by rw [if_neg h1,if_neg h2,if_neg h3]⟩))
def foR (k:Int):List Value:=if k=1 then foC 0 else if k=2 then foC 1 else if k=3 then foC 2 else [.int .i64 0,.nilFunc,.nilFunc,.nilFunc]
section
variable {w:World} {g:Nat} {T:Nat} {a b c d:Value}
theorem four_of (h:w.heap[g]?=some (.cells #[a,b,c,d] T (0,0))):w.cell? ⟨g,0,none⟩=some a∧w.cell? ⟨g,1,none⟩=some b∧w.cell? ⟨g,2,none⟩=some c∧w.cell? ⟨g,3,none⟩=some d:=by
 simp [World.cell?,h]
theorem free_four (h:w.heap[g]?=some (.cells #[a,b,c,d] T (0,0))):w.frozen? ⟨g,0,none⟩=false∧w.frozen? ⟨g,1,none⟩=false∧w.frozen? ⟨g,2,none⟩=false∧w.frozen? ⟨g,3,none⟩=false:=by
 simp [World.frozen?,h]
def set4 (w:World) (g:Nat) (a b c d:Value):World:=(((w.setCell ⟨g,0,none⟩ a).setCell ⟨g,1,none⟩ b).setCell ⟨g,2,none⟩ c).setCell ⟨g,3,none⟩ d
theorem four_put (h:w.heap[g]?=some (.cells #[a,b,c,d] T (0,0))) (a' b' c' d':Value):(set4 w g a' b' c' d').heap[g]?=some (.cells #[a',b',c',d'] T (0,0)):=by
 have h0:(w.setCell ⟨g,0,none⟩ a').heap[g]?=some (.cells #[a',b,c,d] T (0,0)):=heap_set h a'
 have h1:((w.setCell ⟨g,0,none⟩ a').setCell ⟨g,1,none⟩ b').heap[g]?=some (.cells #[a',b',c,d] T (0,0)):=heap_set h0 b'
 have h2:(((w.setCell ⟨g,0,none⟩ a').setCell ⟨g,1,none⟩ b').setCell ⟨g,2,none⟩ c').heap[g]?=some (.cells #[a',b',c',d] T (0,0)):=heap_set h1 c'
 exact heap_set h2 d'
theorem grown_set4 (w:World) (g:Nat) (a b c d:Value):w.grownBy (set4 w g a b c d) (some g):=
 gtrans (gtrans (gtrans (grown_set w g 0 a) (grown_set _ g 1 b)) (grown_set _ g 2 c)) (grown_set _ g 3 d)
end
theorem FoAt.all {w:World} {g:Nat} (h:FoAt w g):(w.cell? ⟨g,0,none⟩=(foC 0)[0]?∧w.cell? ⟨g,1,none⟩=(foC 0)[1]?∧w.cell? ⟨g,2,none⟩=(foC 0)[2]?∧w.cell? ⟨g,3,none⟩=(foC 0)[3]?)∧(w.cell? ⟨g,4,none⟩=(foC 1)[0]?∧w.cell? ⟨g,5,none⟩=(foC 1)[1]?∧w.cell? ⟨g,6,none⟩=(foC 1)[2]?∧w.cell? ⟨g,7,none⟩=(foC 1)[3]?)∧(w.cell? ⟨g,8,none⟩=(foC 2)[0]?∧w.cell? ⟨g,9,none⟩=(foC 2)[1]?∧w.cell? ⟨g,10,none⟩=(foC 2)[2]?∧w.cell? ⟨g,11,none⟩=(foC 2)[3]?):=
 ⟨⟨h.at 0 0 (by decide) (by decide),h.at 0 1 (by decide) (by decide),h.at 0 2 (by decide) (by decide),h.at 0 3 (by decide) (by decide)⟩,⟨h.at 1 0 (by decide) (by decide),h.at 1 1 (by decide) (by decide),h.at 1 2 (by decide) (by decide),h.at 1 3 (by decide) (by decide)⟩,⟨h.at 2 0 (by decide) (by decide),h.at 2 1 (by decide) (by decide),h.at 2 2 (by decide) (by decide),h.at 2 3 (by decide) (by decide)⟩⟩
def foB (k:Int):Bool:=if k=1 then true else if k=2 then true else if k=3 then true else false
theorem foof_none {k:Int} (h:k<1∨3<k):foR k=[.int .i64 0,.nilFunc,.nilFunc,.nilFunc]∧foB k=false:=by
 unfold foR foB
 exact ⟨by rw [if_neg (by omega),if_neg (by omega),if_neg (by omega)],by rw [if_neg (by omega),if_neg (by omega),if_neg (by omega)]⟩
theorem foof_any (k:Int) (w:World):Calls Tryz.prog 75 #[.int .i64 k] w fun e w'=>e=.returned (.tuple #[.agg (foR k).toArray,.bool (foB k)])∧Below w.heap.size w w':=by
 have SE:=Hh (fun wx:World=>serials_any wx)
 have IX:=Hh (fun (g b:Nat) (wx:World) (h:FoAt wx g) (hc:wx.cell? ⟨b,0,none⟩=some (.int .i64 k)) (hb:b<wx.heap.size)=>foix_any k g b wx h hc hb)
 have b1:=(Br w.heap.size w).alloc (o:=.cells #[.int .i64 k] 3) (Lr _)
 have k1:=Hn w (.cells #[.int .i64 k] 3)
 have z1:(w.alloc (.cells #[.int .i64 k] 3)).heap.size=w.heap.size+1:=by simp
 go_enter Tryz.func75,Tryz.ntmps75
 go_upto_region 1 with fail
 generalize w.alloc _=w1 at b1 k1 z1 ⊢
 have b2:=(Br w1.heap.size w1).alloc (o:=.cells #[.int .i64 0,.nilFunc,.nilFunc,.nilFunc] 93) (Lr _)
 have k2:=Hn w1 (.cells #[.int .i64 0,.nilFunc,.nilFunc,.nilFunc] 93)
 rw [z1] at k2
 generalize w1.alloc _=w2 at b2 k2 ⊢
 have hs1:=lt_of_block k1
 have hB2:Below w.heap.size w w2:=b1.trans (b2.mono b1.size)
 have hk2:=(b2.block _ hs1).trans k1
 clear b1 k1 z1 b2 hs1
 go_upto_region 2 with ((with_reducible refine (SE.out _).mono ?_);rintro e w3 ⟨rfl,rfl⟩)
 generalize ae:w2.alloc _=w3
 obtain ⟨b3,k3⟩:=Al ae
 clear ae
 have hl1:=lt_of_block hk2
 have hl2:=lt_of_block k2
 have q1:w3.cell? ⟨w.heap.size,0,none⟩=some (.int .i64 k):=cell_blk ((b3.block _ hl1).trans hk2) (j:=0) rfl
 have IX3:=Hh (IX.out w2.heap.size w.heap.size w3 k3 q1 (Ll hl1 b3.size))
 have hB3:=hB2.trans (b3.mono hB2.size)
 have k23:=(b3.block _ hl2).trans k2
 clear IX SE q1 b3 hk2 hB2 hl1
 go_upto_region 3 with ((with_reducible refine (IX3.out).mono ?_);rintro e w4 ⟨rfl,hb4⟩)
 have k24:=(hb4.block _ (lt_of_block k23)).trans k23
 have k34:FoAt w4 w2.heap.size:=(hb4.block _ (lt_of_block k3)).trans k3
 have HB:=Hh (hB3.trans (hb4.mono hB3.size))
 have HK:=Hh k24
 have f1:=free_four k24
 have c1:=four_of k24
 generalize w2.heap.size=gt at k34 ⊢
 clear k3 k23 k2 hl2 hB3 hb4 IX3 k24
 have fin:Hid (∀a b c d:Value,Below w.heap.size w (set4 w4 (w.heap.size+1) a b c d)):=Hh fun a b c d=>HB.out.grown (grown_set4 w4 (w.heap.size+1) a b c d) HB.out.size (fun k hk=>by cases hk;exact Nat.le_succ _)
 generalize w.heap.size+1=g2 at HK f1 c1 fin ⊢
 rcases foI_cases k with ⟨rfl,hI⟩ | ⟨rfl,hI⟩ | ⟨rfl,hI⟩ | ⟨hk,hI⟩
 rotate_right
 ·rw [hI]
  have HF:=Hh (foof_none hk)
  clear hI hk k34
  go_wp2
  refine bodyPost_ret (v:=.tuple #[.agg #[.int .i64 0,.nilFunc,.nilFunc,.nilFunc],.bool false]) ?_ ?_ ?_
  rotate_left
  ·rfl
  ·exact ⟨by rw [HF.out.1,HF.out.2],fin.out _ _ _ _⟩
  ·obtain ⟨q0,q1,q2,q3⟩:=four_of (four_put HK.out (.int .i64 0) .nilFunc .nilFunc .nilFunc)
   simp only [set4] at q0 q1 q2 q3
   simp [results,Tryz.results75,go_sem,q0,q1,q2,q3]
 ·rw [hI]
  obtain ⟨⟨s0,s1,s2,s3⟩,-,-⟩:=k34.all
  simp [foC] at s0 s1 s2 s3
  clear hI k34
  go_wp2
  refine bodyPost_ret (v:=.tuple #[.agg (foC 0).toArray,.bool true]) ?_ ?_ ?_
  rotate_left
  ·rfl
  ·exact ⟨rfl,fin.out _ _ _ _⟩
  ·obtain ⟨q0,q1,q2,q3⟩:=four_of (four_put HK.out (.int .i64 1) (.func (.func 168) #[] #[]) (.func (.func 169) #[] #[]) (.func (.func 170) #[] #[]))
   simp only [set4] at q0 q1 q2 q3
   simp [results,Tryz.results75,go_sem,q0,q1,q2,q3,foC]
 ·rw [hI]
  obtain ⟨-,⟨s0,s1,s2,s3⟩,-⟩:=k34.all
  simp [foC] at s0 s1 s2 s3
  clear hI k34
  go_wp2
  refine bodyPost_ret (v:=.tuple #[.agg (foC 1).toArray,.bool true]) ?_ ?_ ?_
  rotate_left
  ·rfl
  ·exact ⟨rfl,fin.out _ _ _ _⟩
  ·obtain ⟨q0,q1,q2,q3⟩:=four_of (four_put HK.out (.int .i64 2) (.func (.func 171) #[] #[]) (.func (.func 172) #[] #[]) (.func (.func 173) #[] #[]))
   simp only [set4] at q0 q1 q2 q3
   simp [results,Tryz.results75,go_sem,q0,q1,q2,q3,foC]
 ·rw [hI]
  obtain ⟨-,-,s0,s1,s2,s3⟩:=k34.all
  simp [foC] at s0 s1 s2 s3
  clear hI k34
  go_wp2
  refine bodyPost_ret (v:=.tuple #[.agg (foC 2).toArray,.bool true]) ?_ ?_ ?_
  rotate_left
  ·rfl
  ·exact ⟨rfl,fin.out _ _ _ _⟩
  ·obtain ⟨q0,q1,q2,q3⟩:=four_of (four_put HK.out (.int .i64 3) (.func (.func 174) #[] #[]) (.func (.func 175) #[] #[]) (.func (.func 176) #[] #[]))
   simp only [set4] at q0 q1 q2 q3
   simp [results,Tryz.results75,go_sem,q0,q1,q2,q3,foC]
def EncW (S:ByteArray) (E:Int) (w:World) (e:Ending) (w':World):Prop:=e=.returned (.tuple #[.string S,.int .i64 E])∧Below w.heap.size w w'
def DecW (P:ND→Int→Prop) (w:World) (e:Ending) (w':World):Prop:=∃ (cs:List Value) (x:ND) (er:Int),e=.returned (.tuple #[.agg cs.toArray,.int .i64 er])∧NodeIn 9 (fun b=>w.heap.size≤b∧b<w'.heap.size) w' cs x∧Below w.heap.size w w'∧P x er
theorem encas_at {D:Nat} {Sx:Nat→Prop} (k:Int) (F F2 F3:Nat) (cs:List Value) (x:ND) (w:World) (S:ByteArray) (E:Int) (h:NodeIn D Sx w cs x) (hF:F=168∨F=171∨F=174) (hk:foR k=[.int .i64 k,.func (.func F) #[] #[],.func (.func F2) #[] #[],.func (.func F3) #[] #[]]∧foB k=true)
 (EN:∀wx,Below w.heap.size w wx→Calls Tryz.prog F #[.agg cs.toArray] wx (EncW S E wx)):Calls Tryz.prog 39 #[.int .i64 k,.agg cs.toArray] w (EncW S E w):=by
 obtain ⟨a1,l1,c1,a2,l2,c2,rfl⟩:=h.slices
 have FO:=Hh (fun wx:World=>foof_any k wx)
 simp only [hk.1,hk.2] at FO
 clear h hk
 go_enter Tryz.func39,Tryz.ntmps39
 go_upto_region 1 with fail
 generalize ae:w.alloc _=w1
 obtain ⟨b1,k1⟩:=Al ae
 clear ae
 go_upto_region 2 with ((with_reducible refine (FO.out _).mono ?_);rintro e w2 ⟨rfl,hb2⟩)
 generalize ae:w2.alloc _=w3
 obtain ⟨b3,k3⟩:=Al ae
 clear ae
 have b23:=hb2.trans (b3.mono hb2.size)
 have f1:=six_of ((b23.block _ (lt_of_block k1)).trans k1)
 have f3:=four_of k3
 have hB:=b1.trans (b23.mono b1.size)
 have EN3:=Hh (EN w3 hB)
 have HB:=Hh hB
 generalize w2.heap.size=g3 at f3 ⊢
 clear EN FO k1 k3 b1 hb2 b3 b23 hB
 unfold EncW at EN3
 rcases hF with rfl | rfl | rfl <;> (
  go_wp2_with ((with_reducible refine (EN3.out).mono ?_);rintro e w4 ⟨rfl,hb4⟩)
  refine bodyPost_ret (v:=.tuple #[.string S,.int .i64 E]) ?_ rfl ?_
  ·simp [results,Tryz.results39,go_sem]
  ·exact ⟨rfl,HB.out.trans (hb4.mono HB.out.size)⟩)
theorem encas_no {D:Nat} {Sx:Nat→Prop} (k:Int) (cs:List Value) (x:ND) (w:World) (h:NodeIn D Sx w cs x) (hk:k<1∨3<k):Calls Tryz.prog 39 #[.int .i64 k,.agg cs.toArray] w (EncW ⟨#[]⟩ 2 w):=by
 obtain ⟨a1,l1,c1,a2,l2,c2,rfl⟩:=h.slices
 have FO:=Hh (fun wx:World=>foof_any k wx)
 simp only [(foof_none hk).1,(foof_none hk).2] at FO
 have b1:=(Br w.heap.size w).alloc (o:=.cells #[.int .i64 x.kind,.bool x.bool,.int .i64 x.num,.string x.text,.slice a1 l1 c1,.slice a2 l2 c2] 28) (Lr _)
 clear h hk
 go_enter Tryz.func39,Tryz.ntmps39
 go_upto_region 1 with fail
 generalize w.alloc _=w1 at b1 ⊢
 go_upto_region 2 with ((with_reducible refine (FO.out _).mono ?_);rintro e w2 ⟨rfl,hb2⟩)
 have b3:=(Br w2.heap.size w2).alloc (o:=.cells #[.int .i64 0,.nilFunc,.nilFunc,.nilFunc] 93) (Lr _)
 generalize w2.alloc _=w3 at b3 ⊢
 have b23:=hb2.trans (b3.mono hb2.size)
 go_wp2
 refine bodyPost_ret (v:=.tuple #[.string ⟨#[]⟩,.int .i64 2]) ?_ rfl ?_
 ·simp [results,Tryz.results39,go_sem]
 ·exact ⟨rfl,b1.trans (b23.mono b1.size)⟩
theorem ne_lit {k z:Int} (h:k ≠ z):(k == z)=false:=by simpa using h
theorem rencas_no {D:Nat} {Sx:Nat→Prop} (k:Int) (cs:List Value) (x:ND) (w:World) (h:NodeIn D Sx w cs x) (hk:k<1∨3<k):Calls Tryz.prog 34 #[.int .i64 k,.agg cs.toArray] w (EncW ⟨#[]⟩ 2 w):=by
 obtain ⟨a1,l1,c1,a2,l2,c2,rfl⟩:=h.slices
 have b1:=(Br w.heap.size w).alloc (o:=.cells #[.int .i64 x.kind,.bool x.bool,.int .i64 x.num,.string x.text,.slice a1 l1 c1,.slice a2 l2 c2] 28) (Lr _)
 have n1:=ne_lit (show k ≠ 1 by omega)
 have n2:=ne_lit (show k ≠ 2 by omega)
 have n3:=ne_lit (show k ≠ 3 by omega)
 clear h hk
 go_enter Tryz.func34,Tryz.ntmps34
 go_upto_region 1 with fail
 generalize w.alloc _=w1 at b1 ⊢
 go_wp2
 refine bodyPost_ret (v:=.tuple #[.string ⟨#[]⟩,.int .i64 2]) ?_ rfl ?_
 ·simp [results,Tryz.results34,go_sem]
 ·exact ⟨rfl,b1⟩
theorem rdecas_at (k:Int) (F:Nat) (s:ByteArray) (w:World) (P:ND→Int→Prop) (hF:k=1∧F=43∨k=2∧F=44∨k=3∧F=45)
 (DE:∀wx,Below w.heap.size w wx→w.heap.size<wx.heap.size→Calls Tryz.prog F #[.string s] wx (DecW P wx)):Calls Tryz.prog 16 #[.int .i64 k,.string s] w (DecW P w):=by
 go_enter Tryz.func16,Tryz.ntmps16
 go_upto_region 1 with fail
 generalize ae:w.alloc _=w1
 obtain ⟨b1,k1⟩:=Al ae
 clear ae
 have HZ:=Hh (lt_of_block k1)
 have DE:=Hh (DE w1 b1 HZ.out)
 have HB:=Hh b1
 have HR:=Hh k1
 unfold DecW at DE
 clear b1 k1
 rcases hF with ⟨rfl,rfl⟩ | ⟨rfl,rfl⟩ | ⟨rfl,rfl⟩ <;> (
  go_wp2_with ((with_reducible refine (DE.out).mono ?_);rintro e w4 ⟨cs,x,er,rfl,hm,hb4,hP⟩;go_loud ((obtain ⟨a1,l1,c1,a2,l2,c2,hcs⟩:=hm.slices);subst hcs;(have hr4:=(hb4.block _ (lt_of_block HR.out)).trans HR.out);(have f1:=free_six hr4);(have cz:=six_of hr4);(have HM:=Hh hm);(have HP:=Hh hP);(have HR4:=Hh hr4);(have HB4:=Hh hb4);clear hm hP hr4 hb4))
  refine bodyPost_ret (v:=.tuple #[.agg #[.int .i64 x.kind,.bool x.bool,.int .i64 x.num,.string x.text,.slice a1 l1 c1,.slice a2 l2 c2],.int .i64 er]) ?_ rfl ?_
  ·obtain ⟨q0,q1,q2,q3,q4,q5⟩:=six_of (six_put HR4.out (.int .i64 x.kind) (.bool x.bool) (.int .i64 x.num) (.string x.text) (.slice a1 l1 c1) (.slice a2 l2 c2))
   simp only [set6] at q0 q1 q2 q3 q4 q5
   simp [results,Tryz.results16,go_sem,q0,q1,q2,q3,q4,q5]
  ·have hgs:=grown_set6 w4 w.heap.size (.int .i64 x.kind) (.bool x.bool) (.int .i64 x.num) (.string x.text) (.slice a1 l1 c1) (.slice a2 l2 c2)
   have hz:=HZ.out
   refine ⟨_,x,er,rfl,(HM.out.same fun b hb=>hgs.block b hb.2 (by intro e;have:=Option.some.inj e;omega)).mono fun b hb=>⟨by omega,Ll hb.2 hgs.size⟩,(HB.out.trans (HB4.out.mono HB.out.size)).grown hgs (HB.out.trans (HB4.out.mono HB.out.size)).size (fun k hk=>by cases hk;exact Lr _),HP.out⟩)
theorem rdecas_no (k:Int) (s:ByteArray) (w:World) (P:ND→Int→Prop) (hk:k<1∨3<k) (hP:P nd0 2):Calls Tryz.prog 16 #[.int .i64 k,.string s] w (DecW P w):=by
 have HP:=Hh hP
 have n1:=ne_lit (show k ≠ 1 by omega)
 have n2:=ne_lit (show k ≠ 2 by omega)
 have n3:=ne_lit (show k ≠ 3 by omega)
 clear hk hP
 go_enter Tryz.func16,Tryz.ntmps16
 go_upto_region 1 with fail
 generalize ae:w.alloc _=w1
 obtain ⟨b1,k1⟩:=Al ae
 clear ae
 have HB:=Hh b1
 have HR3:=Hh k1
 have f1:=free_six k1
 have cz:=six_of k1
 clear b1 k1
 go_wp2
 refine bodyPost_ret (v:=.tuple #[.agg #[.int .i64 0,.bool false,.int .i64 0,.string ⟨#[]⟩,.slice none 0 0,.slice none 0 0],.int .i64 2]) ?_ rfl ?_
 ·obtain ⟨q0,q1,q2,q3,q4,q5⟩:=six_of (six_put HR3.out (.int .i64 0) (.bool false) (.int .i64 0) (.string ⟨#[]⟩) (.slice none 0 0) (.slice none 0 0))
  simp only [set6] at q0 q1 q2 q3 q4 q5
  simp [results,Tryz.results16,go_sem,q0,q1,q2,q3,q4,q5]
 ·exact ⟨_,nd0,2,rfl,(node_leaf _ _ 0 false 0 ⟨#[]⟩ (by decide)).deeper (by decide),HB.out.grown (grown_set6 _ w.heap.size (.int .i64 0) (.bool false) (.int .i64 0) (.string ⟨#[]⟩) (.slice none 0 0) (.slice none 0 0)) HB.out.size (fun k hk=>by cases hk;exact Lr _),HP.out⟩
end Go.Proofs.YtcklddldejejcaaGreatDoor