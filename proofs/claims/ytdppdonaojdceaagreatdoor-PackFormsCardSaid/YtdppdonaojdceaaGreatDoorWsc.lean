/- The kit's dice for nodes: one of some strings (Word), a text (Text). Then: A node under construction: what the kit's Node and Map hold while they add names and items. -/
import Derived.Test.YtdppdonaojdceaaGreatDoorBset
import Derived.Lib.AppendStr
import Derived.RangeFuncNested
import Derived.RangeFuncBound
import Derived.RangeFuncCalls
import Derived.RangeFuncLeaves
import Derived.Shelf.Abstract
import Derived.Shelf.RegionOpen
import Derived.WalkKit
import Derived.OwnWalkIn
import Derived.TacticsInMore
import Derived.LoopNIn
import Derived.LoopIn
set_option linter.unusedVariables false
set_option linter.unusedSimpArgs false
set_option maxHeartbeats 1600000
set_option maxRecDepth 100000
namespace Go.Proofs.YtdppdonaojdceaaGreatDoor
open Go.ChangeShapes Go.WideShapes Go.ChangeAt Go.RowKit
theorem word_any (B g b cap:Nat) (n:Nat) (ns:List ByteArray) (w:World) (h1:1≤n) (hn:n<2 ^ 62) (hl:ns.length=n) (hc:∀j s,ns[j]?=some s→w.cell? ⟨b,j,none⟩=some (.string s)) (hb:b ≠ g) (hd:DiceAt B w g) :
 Calls Tryz.prog 29 #[.pointer (some ⟨g,0,none⟩),.slice (some ⟨b,0,none⟩) n cap] w fun e w'=>(∃s,s ∈ ns∧e=.returned (.string s))∧w.grownBy w' (some g)∧DiceAt B w' g:=by
 have N:=Hh (fun (wx:World) (hx:DiceAt B wx g)=>next_any B g n wx h1 hn hx)
 go_enter Tryz.func29,Tryz.ntmps29
 have CC:=Hh hc
 clear hc
 go_wp2_with (go_at_call 19;(with_reducible refine (N.out _ hd).mono ?_);rintro e w1 ⟨⟨k,hk,rfl⟩,hg1,hd1⟩;go_loud ((have hk1:k<ns.length:=by omega);(have hk2:(k:Int)<(n:Int):=by omega);(have hk3:(0:Int)≤(k:Int):=by omega);(have hm:ns[k] ∈ ns:=List.getElem_mem hk1);(have hcell:w1.cell? ⟨b,k,none⟩=some (.string ns[k]):=hg1.cell (CC.out k _ (List.getElem?_eq_getElem hk1)) (by intro e;have:=Option.some.inj e;dsimp only at this;omega));generalize ns[k]=s at hcell hm))
 go_ret
 exact ⟨⟨s,hm,rfl⟩,hg1,hd1⟩
theorem cells_lit {w:World} {b:Nat} {T:TypeId} {cs:Array Value} (vs:List Value) (h:w.heap[b]?=some (.cells cs T (0,0))) (e:cs=vs.toArray):∀j v,vs[j]?=some v→w.cell? ⟨b,j,none⟩=some v:=by
 intro j v hj
 subst e
 simp [World.cell?,h,hj]
theorem cells_lits {w:World} {b:Nat} {T:TypeId} {cs:Array Value} (ns:List ByteArray) (h:w.heap[b]?=some (.cells cs T (0,0))) (e:cs=(ns.map Value.string).toArray):∀j s,ns[j]?=some s→w.cell? ⟨b,j,none⟩=some (.string s):=
 fun j s hj=>cells_lit _ h e j _ (by rw [List.getElem?_map,hj];rfl)
def SomeText (e:Ending):Prop:=∃s:ByteArray,textOk s=true∧s.size≤300∧e=.returned (.string s)
def kTexts:List ByteArray:=[⟨#[]⟩,⟨#[97]⟩,⟨#[66,111,110,110]⟩,⟨#[97,32,34,113,117,111,116,101,100,34,32,92,32,116,101,120,116]⟩,⟨#[108,105,110,101,10,97,110,100,9,116,97,98,1,31,127]⟩,⟨#[195,164,226,130,172,240,159,152,128]⟩,⟨#[75,69,82,73,49,48,74,83,79,78,48,48,48,48,50,97,95]⟩]
theorem kTexts_ok:∀s,s ∈ kTexts→s.size≤20∧Lib.validD s.data.toList=true:=by decide +kernel
def kLens:List Int:=[23,24,31,32,255,256]
theorem kLens_ok:∀j,j<6→∃z:Int,kLens[j]?=some z∧z≤256:=by
 intro j hj
 obtain rfl | rfl | rfl | rfl | rfl | rfl:j=0∨j=1∨j=2∨j=3∨j=4∨j=5:=by omega
 all_goals exact ⟨_,rfl,by decide⟩
theorem ktext_any (B g:Nat) (w:World) (hd:DiceAt B w g) :
 Calls Tryz.prog 28 #[.pointer (some ⟨g,0,none⟩)] w fun e w'=>SomeText e∧w.grownBy w' (some g)∧DiceAt B w' g:=by
 have N10:=Hh (fun (wx:World) (hx:DiceAt B wx g)=>next_lit B g 10 10 rfl wx (by decide) (by decide) hx)
 have N6:=Hh (fun (wx:World) (hx:DiceAt B wx g)=>next_lit B g 6 6 rfl wx (by decide) (by decide) hx)
 have hgw:=hd.lt
 obtain ⟨b0,hb0⟩:∃b0,b0=Obj.cells (kTexts.map Value.string).toArray 9 (0,0):=⟨_,rfl⟩
 have WD:=Hh (word_any B g w.heap.size 7 7 kTexts (w.alloc (.cells (kTexts.map Value.string).toArray 9)) (by decide) (by decide) rfl (cells_lits kTexts (Hn _ _) rfl) (by omega) (hd.go ((Br w.heap.size w).alloc (Lr _) _)))
 have q0:=galloc w (.cells (kTexts.map Value.string).toArray 9) (some g)
 clear hd hb0
 go_enter Tryz.func28,Tryz.ntmps28
 go_upto_if 7 with (first
  | (go_at_call 29;refine (WD.out).mono ?_;rintro e w1 ⟨⟨s0,hs0,rfl⟩,hg1,hd1⟩)
  | (go_at_call 19;(with_reducible refine (N10.out _ hd1).mono ?_);rintro e w2 ⟨⟨k,hk,rfl⟩,hg2,hd2⟩))
 all_goals have hs:=kTexts_ok s0 hs0
 all_goals have q2:=gtrans (gtrans q0 hg1) hg2
 rotate_left
 ·go_ret
  exact ⟨⟨s0,by unfold textOk;rw [hs.2,decide_eq_true (show s0.size≤65536 by omega)];rfl,by omega,rfl⟩,q2,hd2⟩
 ·have HQ:=Hh q2
  have HD:=Hh hd2
  clear q2 hd2 hg1 hg2 hd1 q0 WD N10
  generalize Value.bool ((k:Int) == 1)=vb
  go_loopw [3] (fun v wr=>∃s:ByteArray,Lib.validD s.data.toList=true∧s.size≤256∧v=.string s∧w.grownBy wr (some g)∧DiceAt B wr g) (fun v _=>300 - strSize v)
  case atStart=>exact ⟨s0,hs.2,by omega,rfl,HQ.out,HD.out⟩
  case round=>
   clear HQ HD hs hs0
   obtain ⟨s,hv,hz,rfl,hq,hdi⟩:=hrel
   have hcat:¬9223372036854775807<s.size+1:=by omega
   have hb0:(wr.alloc (.cells #[.int .i64 23,.int .i64 24,.int .i64 31,.int .i64 32,.int .i64 255,.int .i64 256] 3)).heap[wr.heap.size]?=some (.cells #[.int .i64 23,.int .i64 24,.int .i64 31,.int .i64 32,.int .i64 255,.int .i64 256] 3 (0,0)):=Hn _ _
   have hgr:=hdi.lt
   have hdA:=hdi.go ((Br wr.heap.size wr).alloc (o:=.cells #[.int .i64 23,.int .i64 24,.int .i64 31,.int .i64 32,.int .i64 255,.int .i64 256] 3) (Lr _))
   have hqA:=gtrans hq (galloc wr (.cells #[.int .i64 23,.int .i64 24,.int .i64 31,.int .i64 32,.int .i64 255,.int .i64 256] 3) (some g))
   go_upto_if 17 with ((with_reducible refine (N6.out _ hdA).mono ?_);rintro e w3 ⟨⟨k3,hk3,rfl⟩,hg3,hd3⟩;go_loud ((have hb3:=keepG hg3 (by omega) hb0);(obtain ⟨z,hz1,hz2⟩:=kLens_ok k3 hk3);(have hi1:(k3:Int)<6:=by omega);(have hi2:(0:Int)≤(k3:Int):=by omega);(have hcell:w3.cell? ⟨wr.heap.size,k3,none⟩=some (.int .i64 z):=cells_lit (kLens.map fun z=>.int .i64 z) hb3 rfl k3 _ (by rw [List.getElem?_map,hz1];rfl))))
   have hq3:=gtrans hqA hg3
   by_cases hlt:(s.size:Int)<z
   ·go_wp2
    go_roundw
    case rel=>exact ⟨s++{ data:=#[120] },valid_app hv (by decide),by rw [ByteArray.size_append];show s.size+1≤_;omega,rfl,hq3,hd3⟩
    case measure=>
     show 300 - (s++{ data:=#[120] }).size<300 - s.size
     rw [ByteArray.size_append]
     show 300 - (s.size+1)<_
     omega
   ·go_wp2
    go_ret
    exact ⟨⟨s,by unfold textOk;rw [hv,decide_eq_true (show s.size≤65536 by omega)];rfl,by omega,rfl⟩,hq3,hd3⟩
end Go.Proofs.YtdppdonaojdceaaGreatDoor
namespace Go.Proofs.YtdppdonaojdceaaGreatDoor
open Go.RowKit
structure NSt (TN TS:TypeId) (d:Nat) (w wx:World) (g nb C:Nat) (k:Int) (vn vi:Value) (ns:List ByteArray) (A:List NC):Prop where
 res:wx.heap[w.heap.size]?=some (.cells #[.int .i64 0,.bool false,.int .i64 0,.string ⟨#[]⟩,.slice none 0 0,.slice none 0 0] TN (0,0))
 nod:wx.heap[nb]?=some (.cells #[.int .i64 k,.bool false,.int .i64 0,.string ⟨#[]⟩,vn,vi] TN (0,0))
 lo:g<w.heap.size∧w.heap.size<nb∧nb<C∧C≤wx.heap.size
 names:SRow TS C wx vn ns
 items:NRow TN d C vn.ownBlock wx vi A
 gro:w.grownBy wx (some g)
section
variable {TN TS:TypeId} {d:Nat} {w wx wn:World} {g nb C:Nat} {k:Int} {vn vi:Value} {ns:List ByteArray} {A:List NC}
theorem NSt.grown (h:NSt TN TS d w wx g nb C k vn vi ns A) (hg:wx.grownBy wn (some g)):NSt TN TS d w wn g nb C k vn vi ns A:=by
 obtain ⟨l1,l2,l3,l4⟩:=h.lo
 refine ⟨keepG hg (by omega) h.res,keepG hg (by omega) h.nod,⟨l1,l2,l3,Nat.le_trans l4 hg.size⟩,h.names.kept hg ?_,h.items.kept hg (fun r e=>by cases e;exact .inl (by omega)) (.inl rfl),gtrans h.gro hg⟩
 cases e:vn.ownBlock with
 | none=>exact .inl rfl
 | some b=>exact .inr (fun e'=>by cases e';have:=(h.names.1.lt _ e).1;omega)
theorem NSt.below (h:NSt TN TS d w wx g nb C k vn vi ns A) (hb:Below wx.heap.size wx wn):NSt TN TS d w wn g nb C k vn vi ns A:=h.grown (grown_of_below hb (Lr _) _)
theorem NSt.apart (h:NSt TN TS d w wx g nb C k vn vi ns A) {row:Option Nat} (hr:row=vn.ownBlock∨row=vi.ownBlock) (hg:wx.grownBy wn row) (j:Nat) (hj:j<C):wn.heap[j]?=wx.heap[j]?:=by
 obtain ⟨l1,l2,l3,l4⟩:=h.lo
 refine hg.block j (by omega) fun e=>?_
 rcases hr with rfl | rfl
 ·have:=(h.names.1.lt j e.symm).1;omega
 ·have:=(h.items.1.lt j e.symm).1;omega
theorem NSt.gro2 (h:NSt TN TS d w wx g nb C k vn vi ns A) {row:Option Nat} (hr:row=vn.ownBlock∨row=vi.ownBlock) (hg:wx.grownBy wn row):w.grownBy wn (some g):=by
 obtain ⟨l1,l2,l3,l4⟩:=h.lo
 exact ⟨hg.os.trans h.gro.os,hg.tape.trans h.gro.tape,hg.output.trans h.gro.output,Nat.le_trans h.gro.size hg.size,fun i hi hne=>(h.apart hr hg i (by omega)).trans (h.gro.block i hi hne)⟩
theorem NSt.name {vn':Value} {s:ByteArray} (h:NSt TN TS d w wx g nb C k vn vi ns A) (hown:wn.ownsRow C TS 1 vn' (ns.length+1) (ns.map Value.string++[.string s])) (hg:wx.grownBy wn vn.ownBlock) (hat:vn'.ownBlock=vn.ownBlock∨∀b,vn'.ownBlock=some b→wx.heap.size≤b) (hs:s.size≤maxLen - 2) :
 NSt TN TS d w (wn.setCell ⟨nb,4,none⟩ vn') g nb C k vn' vi (ns++[s]) A:=by
 obtain ⟨l1,l2,l3,l4⟩:=h.lo
 have hne:∀i,i ≠ nb→(wn.setCell ⟨nb,4,none⟩ vn').heap[i]?=wn.heap[i]?:=fun i hi=>heap_setCell_other wn ⟨nb,4,none⟩ i _ hi
 have hsz:(wn.setCell ⟨nb,4,none⟩ vn').heap.size=wn.heap.size:=by simp
 have hgs:=grown_set wn nb 4 vn'
 refine ⟨(hne _ (by omega)).trans ((h.apart (.inl rfl) hg _ (by omega)).trans h.res),six_set4 ((h.apart (.inl rfl) hg nb l3).trans h.nod) vn',⟨l1,l2,l3,by rw [hsz];exact Nat.le_trans l4 hg.size⟩,?_,?_,?_⟩
 ·exact (h.names.push hown hs).kept hgs (by
   cases e:vn'.ownBlock with
   | none=>exact .inl rfl
   | some b=>exact .inr (fun e'=>by cases e';have:=(hown.lt _ e).1;omega))
 ·have h1:NRow TN d C vn'.ownBlock wn vi A:=h.items.kept hg (fun r e=>.inr e) hat
  exact h1.kept hgs (fun r e=>by cases e;exact .inl l3) (.inl rfl)
 ·have h2:=h.gro2 (.inl rfl) hg
  exact ⟨h2.os,h2.tape,h2.output,by rw [hsz];exact h2.size,fun i hi hn=>(hne i (by omega)).trans (h2.block i hi hn)⟩
theorem NSt.item {vi':Value} {cs:List Value} {x:ND} (h:NSt TN TS d w wx g nb C k vn vi ns A) (hown:wn.ownsRow C TN 6 vi' (A.length+1) (nCells A++cs)) (hg:wx.grownBy wn vi.ownBlock) (hat:vi'.ownBlock=vi.ownBlock∨∀b,vi'.ownBlock=some b→wx.heap.size≤b)
 (hp:NodeIn d (fun b=>C≤b∧b<wx.heap.size∧vi.ownBlock ≠ some b∧vn.ownBlock ≠ some b) wx cs x) :
 NSt TN TS d w (wn.setCell ⟨nb,5,none⟩ vi') g nb C k vn vi' ns (A++[(cs,x)]):=by
 obtain ⟨l1,l2,l3,l4⟩:=h.lo
 have hne:∀i,i ≠ nb→(wn.setCell ⟨nb,5,none⟩ vi').heap[i]?=wn.heap[i]?:=fun i hi=>heap_setCell_other wn ⟨nb,5,none⟩ i _ hi
 have hsz:(wn.setCell ⟨nb,5,none⟩ vi').heap.size=wn.heap.size:=by simp
 have hgs:=grown_set wn nb 5 vi'
 refine ⟨(hne _ (by omega)).trans ((h.apart (.inr rfl) hg _ (by omega)).trans h.res),six_set5 ((h.apart (.inr rfl) hg nb l3).trans h.nod) vi',⟨l1,l2,l3,by rw [hsz];exact Nat.le_trans l4 hg.size⟩,?_,?_,?_⟩
 ·refine (h.names.kept hg ?_).kept hgs ?_
  ·cases e:vn.ownBlock with
   | none=>exact .inl rfl
   | some b=>exact .inr (fun e'=>h.items.2.1 b e e'.symm)
  ·cases e:vn.ownBlock with
   | none=>exact .inl rfl
   | some b=>exact .inr (fun e'=>by cases e';have:=(h.names.1.lt _ e).1;omega)
 ·exact (h.items.push hown hg hat (fun b e=>(h.names.1.lt b e).2) hp).kept hgs (fun r e=>by cases e;exact .inl l3) (.inl rfl)
 ·have h2:=h.gro2 (.inr rfl) hg
  exact ⟨h2.os,h2.tape,h2.output,by rw [hsz];exact h2.size,fun i hi hn=>(hne i (by omega)).trans (h2.block i hi hn)⟩
theorem NSt.dice {B:Nat} (h:NSt TN TS d w wx g nb C k vn vi ns A) {row:Option Nat} (hr:row=vn.ownBlock∨row=vi.ownBlock) (hd:DiceAt B wx g) (hg:wx.grownBy wn row) (o:Nat) (v:Value):DiceAt B (wn.setCell ⟨nb,o,none⟩ v) g:=by
 obtain ⟨l1,l2,l3,l4⟩:=h.lo
 exact DiceAt.setNew (hd.same fun j hj=>h.apart hr hg j (by omega)) (by omega) _ _
theorem NSt.begin (hres:wx.heap[w.heap.size]?=some (.cells #[.int .i64 0,.bool false,.int .i64 0,.string ⟨#[]⟩,.slice none 0 0,.slice none 0 0] TN (0,0))) (hnod:wx.heap[nb]?=some (.cells #[.int .i64 k,.bool false,.int .i64 0,.string ⟨#[]⟩,.slice none 0 0,.slice none 0 0] TN (0,0)))
 (l1:g<w.heap.size) (l2:w.heap.size<nb) (hg:w.grownBy wx (some g)):NSt TN TS d w wx g nb wx.heap.size k (.slice none 0 0) (.slice none 0 0) [] []:=
 ⟨hres,hnod,⟨l1,l2,lt_of_block hnod,Lr _⟩,SRow.nil _ _ _,NRow.nil _ _ _ _ _,hg⟩
theorem NSt.node (h:NSt TN TS d w wx g nb C k vn vi ns A):NodeIn (d+1) (fun b=>w.heap.size<b∧b<wx.heap.size) wx [.int .i64 k,.bool false,.int .i64 0,.string ⟨#[]⟩,vn,vi] (.mk k false 0 ⟨#[]⟩ ns (nodesOf A)):=by
 obtain ⟨l1,l2,l3,l4⟩:=h.lo
 exact ⟨vn,vi,rfl,(show (0:Nat)≤maxLen - 2 from Nat.zero_le _),h.names.strs.mono fun b hb=>⟨by omega,hb.2⟩,h.items.nodes.mono (fun b hb=>⟨by omega,hb.2⟩) fun cs x q=>q.mono fun b hb=>⟨by omega,hb.2⟩⟩
end
theorem NodeIn.one {d:Nat} {S:Nat→Prop} {w:World} {cs:List Value} {x:ND} (h:NodeIn d S w cs x):∀u ∈ cs,u.oneCell'=true:=by
 cases d with
 | zero=>exact h.elim
 | succ d=>
  obtain ⟨va,vb,rfl,_,⟨a1,c1,rfl,_⟩,⟨a2,c2,rfl,_⟩⟩:=h
  intro u hu
  simp only [List.mem_cons,List.not_mem_nil,or_false] at hu
  rcases hu with rfl | rfl | rfl | rfl | rfl | rfl <;> rfl
theorem NSt.fresh {TN TS:TypeId} {d:Nat} {w wx w6 w7:World} {g nb C:Nat} {k:Int} {vn vi:Value} {ns:List ByteArray} {A:List NC} {cs:List Value} {x:ND}
 (h:NSt TN TS d w wx g nb C k vn vi ns A) (hx:NodeIn d (fun b=>wx.heap.size≤b∧b<w6.heap.size) w6 cs x) (hg:Below w6.heap.size w6 w7) :
 NodeIn d (fun b=>C≤b∧b<w7.heap.size∧vi.ownBlock ≠ some b∧vn.ownBlock ≠ some b) w7 cs x:=by
 obtain ⟨l1,l2,l3,l4⟩:=h.lo
 refine (hx.same (w':=w7) fun b hb=>hg.block b hb.2).mono fun b hb=>⟨by omega,Ll hb.2 hg.size,fun e=>?_,fun e=>?_⟩
 ·have:=(h.items.1.lt b e).2;omega
 ·have:=(h.names.1.lt b e).2;omega
theorem own_at {v:Value} {gg m cc H:Nat} (h:v.ownBlock=some gg∨gg=H):(Value.slice (some ⟨gg,0,none⟩) m cc).ownBlock=v.ownBlock∨∀b,(Value.slice (some ⟨gg,0,none⟩) m cc).ownBlock=some b→H≤b:=by
 rcases h with h | h
 ·exact .inl h.symm
 ·exact .inr fun b hb=>by
   have:gg=b:=by simpa [Value.ownBlock] using hb
   omega
def SomeNode (d:Nat) (w:World) (e:Ending) (w':World):Prop:=
 ∃cs x,e=.returned (.agg cs.toArray)∧NodeIn d (fun b=>w.heap.size≤b∧b<w'.heap.size) w' cs x∧validK d x=true
theorem NSt.viForm {TN TS:TypeId} {d:Nat} {w wx:World} {g nb C:Nat} {k:Int} {vn vi:Value} {ns:List ByteArray} {A:List NC} (h:NSt TN TS d w wx g nb C k vn vi ns A):∃ai ci,vi=.slice ai A.length ci:=by
 obtain ⟨a,c,e,_⟩:=h.items.nodes
 exact ⟨a,c,by rw [e,nodesOf,List.length_map]⟩
theorem NSt.vnForm {TN TS:TypeId} {d:Nat} {w wx:World} {g nb C:Nat} {k:Int} {vn vi:Value} {ns:List ByteArray} {A:List NC} (h:NSt TN TS d w wx g nb C k vn vi ns A):∃an cn,vn=.slice an ns.length cn:=by
 obtain ⟨a,c,e,_⟩:=h.names.strs
 exact ⟨a,c,e⟩
def lenAt (w:World) (b o:Nat):Nat:=match w.cell? ⟨b,o,none⟩ with
 | some (.slice _ l _)=>l
 | _=>0
theorem NSt.len {TN TS:TypeId} {d:Nat} {w wx:World} {g nb C:Nat} {k:Int} {vn vi:Value} {ns:List ByteArray} {A:List NC} (h:NSt TN TS d w wx g nb C k vn vi ns A):lenAt wx nb 5=A.length:=by
 obtain ⟨ai,ci,rfl⟩:=h.viForm
 unfold lenAt
 rw [(six_of h.nod).2.2.2.2.2]
theorem NSt.done {TN TS:TypeId} {d:Nat} {w wx:World} {g nb C:Nat} {k:Int} {vn vi:Value} {ns:List ByteArray} {A:List NC} (h:NSt TN TS d w wx g nb C k vn vi ns A) :
 NodeIn (d+1) (fun b=>w.heap.size≤b∧b<(set6 wx w.heap.size (.int .i64 k) (.bool false) (.int .i64 0) (.string ⟨#[]⟩) vn vi).heap.size) (set6 wx w.heap.size (.int .i64 k) (.bool false) (.int .i64 0) (.string ⟨#[]⟩) vn vi) [.int .i64 k,.bool false,.int .i64 0,.string ⟨#[]⟩,vn,vi] (.mk k false 0 ⟨#[]⟩ ns (nodesOf A))
 ∧ w.grownBy (set6 wx w.heap.size (.int .i64 k) (.bool false) (.int .i64 0) (.string ⟨#[]⟩) vn vi) (some g)∧∀B,DiceAt B wx g→DiceAt B (set6 wx w.heap.size (.int .i64 k) (.bool false) (.int .i64 0) (.string ⟨#[]⟩) vn vi) g:=by
 obtain ⟨l1,l2,l3,l4⟩:=h.lo
 have hgs:=grown_set6 wx w.heap.size (.int .i64 k) (.bool false) (.int .i64 0) (.string ⟨#[]⟩) vn vi
 refine ⟨?_,?_,fun B hd=>?_⟩
 ·exact (h.node.same fun b hb=>hgs.block b hb.2 (by intro e;have:=Option.some.inj e;omega)).mono fun b hb=>⟨by omega,Ll hb.2 hgs.size⟩
 ·have:=h.gro
  exact ⟨hgs.os.trans this.os,hgs.tape.trans this.tape,hgs.output.trans this.output,Nat.le_trans this.size hgs.size,fun i hi hn=>(hgs.block i (Ll hi this.size) (by intro e;have:=Option.some.inj e;omega)).trans (this.block i hi hn)⟩
 ·exact hd.same fun q hq=>hgs.block q (by omega) (by intro e;have:=Option.some.inj e;omega)
theorem leaf_done {n B g:Nat} {w wx:World} (hn:1≤n) (hg:g<w.heap.size) (hgr:w.grownBy wx (some g)) (hd:DiceAt B wx g) (k:Int) (b:Bool) (z:Int) (t:ByteArray) (ht:t.size≤maxLen - 2) (hv:validK n (.mk k b z t [] [])=true) :
 SomeNode n w (.returned (.agg #[.int .i64 k,.bool b,.int .i64 z,.string t,.slice none 0 0,.slice none 0 0])) (set6 wx w.heap.size (.int .i64 k) (.bool b) (.int .i64 z) (.string t) (.slice none 0 0) (.slice none 0 0))
 ∧ w.grownBy (set6 wx w.heap.size (.int .i64 k) (.bool b) (.int .i64 z) (.string t) (.slice none 0 0) (.slice none 0 0)) (some g)∧DiceAt B (set6 wx w.heap.size (.int .i64 k) (.bool b) (.int .i64 z) (.string t) (.slice none 0 0) (.slice none 0 0)) g:=by
 have hgs:=grown_set6 wx w.heap.size (.int .i64 k) (.bool b) (.int .i64 z) (.string t) (.slice none 0 0) (.slice none 0 0)
 refine ⟨⟨[.int .i64 k,.bool b,.int .i64 z,.string t,.slice none 0 0,.slice none 0 0],_,rfl,(node_leaf _ _ k b z t ht).deeper hn,hv⟩,?_,?_⟩
 ·exact ⟨hgs.os.trans hgr.os,hgs.tape.trans hgr.tape,hgs.output.trans hgr.output,Nat.le_trans hgr.size hgs.size,fun i hi hn=>(hgs.block i (Ll hi hgr.size) (by intro e;have:=Option.some.inj e;omega)).trans (hgr.block i hi hn)⟩
 ·exact hd.same fun q hq=>hgs.block q (by have:=hd.lt;omega) (by intro e;have:=Option.some.inj e;omega)
def SomeMapK (d:Nat) (w:World) (e:Ending) (w':World):Prop:=
 ∃cs x,e=.returned (.agg cs.toArray)∧NodeIn d (fun b=>w.heap.size≤b∧b<w'.heap.size) w' cs x∧MapOk (d - 1) x∧x.items.length≤3∧(∀y,y ∈ x.items→validK (d - 1) y=true)∧costN d x≤bndN d
end Go.Proofs.YtdppdonaojdceaaGreatDoor
namespace Go.Proofs.YtdppdonaojdceaaGreatDoor
open Go Go.ChangeShapes Go.WideShapes Go.ChangeAt Go.RowKit
theorem grown_new {w a b:World} {row:Option Nat} {k:Nat} (h:w.grownBy a row) (hk:a.grownBy b (some k)) (hw:w.heap.size≤k):w.grownBy b row:=
 ⟨hk.os.trans h.os,hk.tape.trans h.tape,hk.output.trans h.output,Nat.le_trans h.size hk.size,fun i hi hn=>(hk.block i (Ll hi h.size) (by intro e;have:=Option.some.inj e;omega)).trans (h.block i hi hn)⟩
theorem cell_blk {w:World} {g j:Nat} {cs:Array Value} {T:TypeId} {fz:Nat × Nat} {u:Value} (h:w.heap[g]?=some (.cells cs T fz)) (hj:cs[j]?=some u):w.cell? ⟨g,j,none⟩=some u:=by simp [World.cell?,h,hj]
theorem free_blk {w:World} {g j:Nat} {cs:Array Value} {T:TypeId} (h:w.heap[g]?=some (.cells cs T (0,0))):w.frozen? ⟨g,j,none⟩=false:=by simp [World.frozen?,h]
def WFr (TB:TypeId) (g:Nat) (w w':World):Prop:=Below g w w'∧∀ (i:Nat) (o:Obj),i ≠ g→w.heap[i]?=some o→(∀cs fz,o ≠ .cells cs TB fz)→w'.heap[i]?=some o
theorem WFr.refl (TB:TypeId) (g:Nat) (w:World):WFr TB g w w:=⟨Br _ _,fun _ _ _ h _=>h⟩
theorem WFr.trans {TB:TypeId} {g:Nat} {a b c:World} (h:WFr TB g a b) (k:WFr TB g b c):WFr TB g a c:=⟨h.1.trans k.1,fun i o hi ho hn=>k.2 i o hi (h.2 i o hi ho hn) hn⟩
theorem WFr.of_below {TB:TypeId} {g:Nat} {w w':World} (h:Below w.heap.size w w') (hg:g≤w.heap.size):WFr TB g w w':=⟨h.mono hg,fun i o _ ho _=>(h.block i (lt_of_block ho)).trans ho⟩
def WSt (TW TB:TypeId) (B:Nat) (w:World) (g m:Nat) (l:List UInt8):Prop:=∃v,w.heap[g]?=some (.cells #[v,.map (some m)] TW (0,0))∧w.ownsRow B TB 1 v l.length (bytesV l)∧g<B∧m<g
theorem WSt.below {TW TB:TypeId} {B:Nat} {w w':World} {g m:Nat} {l:List UInt8} (h:WSt TW TB B w g m l) (hb:Below w.heap.size w w'):WSt TW TB B w' g m l:=by
 obtain ⟨v,h1,h2,h3,h4⟩:=h
 exact ⟨v,(hb.block g (lt_of_block h1)).trans h1,h2.kept (grown_of_below hb (Lr _) none) (by cases e:v.ownBlock with | none=>exact .inl rfl | some b=>exact .inr (by simp)),h3,h4⟩
theorem WSt.lt {TW TB:TypeId} {B:Nat} {w:World} {g m:Nat} {l:List UInt8} (h:WSt TW TB B w g m l):g<w.heap.size:=by obtain ⟨v,h1,_⟩:=h;exact lt_of_block h1
theorem WSt.le {TW TB:TypeId} {B:Nat} {w:World} {g m:Nat} {l:List UInt8} (h:WSt TW TB B w g m l):m<g:=by obtain ⟨v,_,_,_,h4⟩:=h;exact h4
theorem wown_form {w:World} {B e n:Nat} {v:Value} {xs:List Value} (h:w.ownsRow B e 1 v n xs):∃ao cap,v=.slice ao n cap∧n≤cap∧cap≤maxLen:=by
 rcases h.2 with ⟨rfl,rfl⟩ | ⟨g,cap,cur,rfl,_,_,h1,h2,_⟩
 ·exact ⟨none,0,rfl,Lr _,Nat.zero_le _⟩
 ·exact ⟨_,cap,rfl,h1,h2⟩
theorem wst_step {TW TB:TypeId} {B:Nat} {w w8:World} {g m:Nat} {l l':List UInt8} {v v':Value} (h1:w.heap[g]?=some (.cells #[v,.map (some m)] TW (0,0))) (h2:w.ownsRow B TB 1 v l.length (bytesV l)) (hgB:g<B) (hm:m<g) (hTW:TW ≠ TB)
 (hown:w8.ownsRow B TB 1 v' l'.length (bytesV l')) (hgr:w.grownBy w8 v.ownBlock) :
 w8.heap[g]?=some (.cells #[v,.map (some m)] TW (0,0))∧WSt TW TB B (w8.setCell ⟨g,0,none⟩ v') g m l'∧WFr TB g w (w8.setCell ⟨g,0,none⟩ v'):=by
 have hne:v.ownBlock ≠ some g:=by
  intro e
  have:=(h2.lt g e).1
  omega
 have k8:w8.heap[g]?=some (.cells #[v,.map (some m)] TW (0,0)):=(hgr.block g (lt_of_block h1) (fun e=>hne e.symm)).trans h1
 refine ⟨k8,⟨v',?_,?_,hgB,hm⟩,?_,?_⟩
 ·have:=heap_set k8 (j:=0) v'
  simpa using this
 ·refine hown.kept (grown_set w8 g 0 v') ?_
  cases e:v'.ownBlock with
  | none=>exact .inl rfl
  | some b=>exact .inr (fun e'=>by cases e';have:=(hown.lt _ e).1;omega)
 ·have hb8:Below g w w8:=(Br g w).grown hgr (Nat.le_of_lt (lt_of_block h1)) (fun k hk=>by have:=(h2.lt k hk).1;omega)
  exact hb8.grown (grown_set w8 g 0 v') (by have:=lt_of_block k8;omega) (fun k hk=>by cases hk;exact Lr _)
 ·intro i o hi ho hn
  rw [heap_setCell_other w8 ⟨g,0,none⟩ i v' hi]
  refine (hgr.block i (lt_of_block ho) fun e=>?_).trans ho
  rcases h2.2 with ⟨rfl,-⟩ | ⟨b,cap,cur,rfl,-,hb,-⟩
  ·cases e
  ·have e:i=b:=by simpa [Value.ownBlock] using e
   subst e
   rw [hb] at ho
   exact hn _ _ (Option.some.inj ho).symm
def Out (l T l':List UInt8):Prop:=l'=l++T∨(65536<l'.length∧65536<l.length+T.length)
theorem Out.fits {l T l':List UInt8} (h:Out l T l') (hl:¬65536<l'.length):l'=l++T:=h.resolve_right fun q=>hl q.1
theorem Out.over {l T l':List UInt8} (h:Out l T l') (hl:65536<l'.length):65536<l.length+T.length:=by
 rcases h with rfl | h
 ·rwa [Lg] at hl
 ·exact h.2
theorem Out.more {l T U l' l'':List UInt8} (h:Out l T l') (hl:¬65536<l'.length) (k:Out l' U l''):Out l (T++U) l'':=by
 have e:=h.fits hl
 rcases k with rfl | k
 ·exact .inl (by rw [e,List.append_assoc])
 ·refine .inr ⟨k.1,?_⟩
  have:=k.2
  rw [e,Lg] at this
  rw [Lg];omega
theorem Out.push {l T l':List UInt8} (h:Out l T l') (U:List UInt8):Out l (T++U) (l'++U):=by
 rcases h with rfl | h
 ·exact .inl (by rw [List.append_assoc])
 ·exact .inr ⟨by rw [Lg];omega,by rw [Lg];omega⟩
theorem Out.cut {l T l':List UInt8} (h:Out l T l') (hl:65536<l'.length) {U:List UInt8} (hU:T.length≤U.length):Out l U l':=.inr ⟨hl,by have:=h.over hl;omega⟩
end Go.Proofs.YtdppdonaojdceaaGreatDoor
namespace Go.Proofs.YtdppdonaojdceaaGreatDoor
open Go Go.ChangeShapes Go.WideShapes Go.ChangeAt Go.RowKit Go.Shelf
def WSc (TW TB:TypeId) (B:Nat) (w:World) (g:Nat) (l:List UInt8):Prop:=∃v,w.heap[g]?=some (.cells #[v] TW (0,0))∧w.ownsRow B TB 1 v l.length (bytesV l)∧g<B
theorem WSc.below {TW TB:TypeId} {B:Nat} {w w':World} {g:Nat} {l:List UInt8} (h:WSc TW TB B w g l) (hb:Below w.heap.size w w'):WSc TW TB B w' g l:=by
 obtain ⟨v,h1,h2,h3⟩:=h
 exact ⟨v,(hb.block g (lt_of_block h1)).trans h1,h2.kept (grown_of_below hb (Lr _) none) (by cases e:v.ownBlock with | none=>exact .inl rfl | some b=>exact .inr (by simp)),h3⟩
theorem WSc.lt {TW TB:TypeId} {B:Nat} {w:World} {g:Nat} {l:List UInt8} (h:WSc TW TB B w g l):g<w.heap.size:=by obtain ⟨v,h1,_⟩:=h;exact lt_of_block h1
theorem wsc_step {TW TB:TypeId} {B:Nat} {w w8:World} {g:Nat} {l l':List UInt8} {v v':Value} (h1:w.heap[g]?=some (.cells #[v] TW (0,0))) (h2:w.ownsRow B TB 1 v l.length (bytesV l)) (hgB:g<B) (hTW:TW ≠ TB)
 (hown:w8.ownsRow B TB 1 v' l'.length (bytesV l')) (hgr:w.grownBy w8 v.ownBlock) :
 w8.heap[g]?=some (.cells #[v] TW (0,0))∧WSc TW TB B (w8.setCell ⟨g,0,none⟩ v') g l'∧WFr TB g w (w8.setCell ⟨g,0,none⟩ v'):=by
 have hne:v.ownBlock ≠ some g:=by
  intro e
  have:=(h2.lt g e).1
  omega
 have k8:w8.heap[g]?=some (.cells #[v] TW (0,0)):=(hgr.block g (lt_of_block h1) (fun e=>hne e.symm)).trans h1
 refine ⟨k8,⟨v',?_,?_,hgB⟩,?_,?_⟩
 ·have:=heap_set k8 (j:=0) v'
  simpa using this
 ·refine hown.kept (grown_set w8 g 0 v') ?_
  cases e:v'.ownBlock with
  | none=>exact .inl rfl
  | some b=>exact .inr (fun e'=>by cases e';have:=(hown.lt _ e).1;omega)
 ·have hb8:Below g w w8:=(Br g w).grown hgr (Nat.le_of_lt (lt_of_block h1)) (fun k hk=>by have:=(h2.lt k hk).1;omega)
  exact hb8.grown (grown_set w8 g 0 v') (by have:=lt_of_block k8;omega) (fun k hk=>by cases hk;exact Lr _)
 ·intro i o hi ho hn
  rw [heap_setCell_other w8 ⟨g,0,none⟩ i v' hi]
  refine (hgr.block i (lt_of_block ho) fun e=>?_).trans ho
  rcases h2.2 with ⟨rfl,-⟩ | ⟨b,cap,cur,rfl,-,hb,-⟩
  ·cases e
  ·have e:i=b:=by simpa [Value.ownBlock] using e
   subst e
   rw [hb] at ho
   exact hn _ _ (Option.some.inj ho).symm
def KpW (TB:TypeId) (g:Nat) (w w':World):Prop:=Below g w w'∧∀ (i:Nat) cs T fz,i ≠ g→T ≠ TB→w.heap[i]?=some (.cells cs T fz)→w'.heap[i]?=some (.cells cs T fz)
theorem KpW.refl (TB:TypeId) (g:Nat) (w:World):KpW TB g w w:=⟨Br _ _,fun _ _ _ _ _ _ h=>h⟩
theorem KpW.trans {TB:TypeId} {g:Nat} {a b c:World} (h:KpW TB g a b) (k:KpW TB g b c):KpW TB g a c:=⟨h.1.trans k.1,fun i cs T fz hi hT ho=>k.2 i cs T fz hi hT (h.2 i cs T fz hi hT ho)⟩
theorem KpW.of {TB:TypeId} {g:Nat} {a b:World} (h:WFr TB g a b):KpW TB g a b:=⟨h.1,fun i cs T fz hi hT ho=>h.2 i _ hi ho (fun ds f e=>hT (by cases e;rfl))⟩
theorem KpW.below {TB:TypeId} {g:Nat} {a b:World} (h:Below a.heap.size a b) (hg:g≤a.heap.size):KpW TB g a b:=KpW.of (WFr.of_below h hg)
theorem kpW_b {TB:TypeId} {g:Nat} {w:World} (hg:g≤w.heap.size) (W:World) (l:Nat) (o o':Obj) (hl:w.heap.size≤l) (h:W.heap[l]?=some o) (hc:o.isCells=false) (hw:o.isWalk=false):KpW TB g W (W.putObj l o'):=by
 refine ⟨belowK_b hg W l o o' hl h hc hw,fun i cs T fz hi hT ho=>?_⟩
 by_cases e:i=l
 ·subst e
  rw [h] at ho
  cases ho
  cases hc
 ·exact ((grownBy_putObj' W l o').block i (lt_of_block ho) (fun e'=>e (Option.some.inj e'))).trans ho
def NoPan (Q:Exit→Act→World→Prop):Exit→Act→World→Prop
 | .panic _,_,_=>False
 | e,a,w=>Q e a w
theorem NoPan.out {Q:Exit→Act→World→Prop}:∀e a w,NoPan Q e a w→Q e a w
 | .normal,_,_,h=>h
 | .ret,_,_,h=>h
 | .exit _,_,_,h=>h
 | .goto _,_,_,h=>h
 | .panic _,_,_,h=>h.elim
 | .outgrown,_,_,h=>h
theorem wfr_own {TB:TypeId} {g:Nat} {a W W':World} {row:Option Nat} {B:Nat} (h:WFr TB g a W) (ha:a.heap.size≤B) (hgB:g<B) (hgr:W.grownBy W' row) (hr:∀r,row=some r→B≤r) (hW:B≤W.heap.size):WFr TB g a W':=by
 refine ⟨h.1.grown hgr (by omega) (fun k hk=>by have:=hr k hk;omega),fun i o hi ho hn=>?_⟩
 have hlt:=lt_of_block ho
 refine (hgr.block i (by omega) fun e=>?_).trans (h.2 i o hi ho hn)
 have:=hr i e.symm
 omega
theorem wsc_own {TW TB:TypeId} {B:Nat} {W W':World} {g:Nat} {l:List UInt8} {row:Option Nat} (h:WSc TW TB B W g l) (hgr:W.grownBy W' row) (hr:∀r,row=some r→∃o:Obj,W.heap[r]?=some o∧o.isCells=false):WSc TW TB B W' g l:=by
 obtain ⟨v,k1,k2,k3⟩:=h
 refine ⟨v,(hgr.block g (lt_of_block k1) fun e=>?_).trans k1,k2.kept hgr ?_,k3⟩
 ·obtain ⟨o,ho,hc⟩:=hr g e.symm
  rw [k1] at ho
  cases ho
  cases hc
 ·rcases k2.2 with ⟨rfl,-⟩ | ⟨b,cap,cur,rfl,-,hb,-⟩
  ·exact .inl rfl
  ·right
   intro e
   have e':row=some b:=by rw [←e];rfl
   obtain ⟨o,ho,hc⟩:=hr b e'
   rw [hb] at ho
   cases ho
   cases hc
theorem out_pre {l T U l':List UInt8} (h:Out (l++T) U l'):Out l (T++U) l':=by
 rcases h with rfl | ⟨h1,h2⟩
 ·exact .inl (by rw [List.append_assoc])
 ·exact .inr ⟨h1,by rw [Lg] at h2 ⊢;omega⟩
theorem flat_prefix {A B:Type} {f:A→List B} {p q:List A} (h:p <+: q):(p.flatMap f).length≤(q.flatMap f).length:=by
 obtain ⟨t,rfl⟩:=h
 rw [List.flatMap_append,Lg]
 omega
theorem keeps_of_wfr {TB:TypeId} {g B:Nat} {W W':World} (h:WFr TB g W W') (hg:g≤W.heap.size) (hB:g<B):KeepsFrom B W W':=⟨h.1.size,fun k o hk ho hc=>h.2 k o (by omega) ho (fun cs fz e=>by subst e;cases hc)⟩
theorem WSc.fresh {TW TB:TypeId} (w:World):WSc TW TB (w.heap.size+1) (w.alloc (.cells #[.slice none 0 0] TW)) w.heap.size []:=
 ⟨.slice none 0 0,Hn w _,World.ownsRow_nil _ _ _ _,by omega⟩
end Go.Proofs.YtdppdonaojdceaaGreatDoor