import Derived.Test.YtncdpanfefnjlaaGreatDoorMfa
import Derived.Test.YtncdpanfefnjlaaGreatDoorPlan
set_option linter.unusedVariables false
set_option linter.unusedSimpArgs false
set_option maxHeartbeats 1600000
set_option maxRecDepth 100000
namespace Go.Proofs.YtncdpanfefnjlaaGreatDoor
open Go.Proofs.Tryz
open Go.RowKit
structure NSt (TN TS:TypeId) (d:Nat) (w wx:World) (g nb C:Nat) (k:Int) (vn vi:Value) (ns:List Bt) (A:List NC):Prop where
 res:wx.heap[w.heap.size]?=some (.cells Z6 TN (0,0))
 nod:wx.heap[nb]?=some (.cells #[Iz k,.bool false,Iz 0,.string ⟨#[]⟩,vn,vi] TN (0,0))
 lo:g<w.heap.size∧w.heap.size<nb∧nb<C∧C≤wx.heap.size
 names:jH TS C wx vn ns
 items:gS TN d C vn.ownBlock wx vi A
 gro:w.grownBy wx (some g)
section
variable {TN TS:TypeId} {d:Nat} {w wx wn:World} {g nb C:Nat} {k:Int} {vn vi:Value} {ns:List Bt} {A:List NC}
theorem NSt.grown (h:NSt TN TS d w wx g nb C k vn vi ns A) (hg:wx.grownBy wn (some g)):NSt TN TS d w wn g nb C k vn vi ns A:=by
 obtain ⟨l1,l2,l3,l4⟩:=h.lo;refine ⟨cM hg (by omega) h.res,cM hg (by omega) h.nod,⟨l1,l2,l3,Ae l4 hg.size⟩,h.names.kept hg ?_,h.items.kept hg (fun r e=>by cases e;exact .inl (by omega)) (.inl rfl),aH h.gro hg⟩
 cases e:vn.ownBlock with
 | none=>exact .inl rfl
 | some b=>exact .inr (fun e'=>by cases e';have:=(h.names.1.lt _ e).1;omega)
theorem NSt.below (h:NSt TN TS d w wx g nb C k vn vi ns A) (hb:Below wx.heap.size wx wn):NSt TN TS d w wn g nb C k vn vi ns A:=h.grown (aK hb (Lr _) _)
theorem NSt.apart (h:NSt TN TS d w wx g nb C k vn vi ns A) {row:Option Nat} (hr:row=vn.ownBlock∨row=vi.ownBlock) (hg:wx.grownBy wn row) (j:Nat) (hj:j<C):wn.heap[j]?=wx.heap[j]?:=by
 obtain ⟨l1,l2,l3,l4⟩:=h.lo;refine hg.block j (by omega) fun e=>?_
 rcases hr with rfl | rfl
 ·have:=(h.names.1.lt j e.symm).1;omega
 ·have:=(h.items.1.lt j e.symm).1;omega
theorem NSt.gro2 (h:NSt TN TS d w wx g nb C k vn vi ns A) {row:Option Nat} (hr:row=vn.ownBlock∨row=vi.ownBlock) (hg:wx.grownBy wn row):w.grownBy wn (some g):=by
 obtain ⟨l1,l2,l3,l4⟩:=h.lo;exact ⟨hg.os.trans h.gro.os,hg.tape.trans h.gro.tape,hg.output.trans h.gro.output,Ae h.gro.size hg.size,fun i hi hne=>(h.apart hr hg i (by omega)).trans (h.gro.block i hi hne)⟩
theorem NSt.name {vn':Value} {s:Bt} (h:NSt TN TS d w wx g nb C k vn vi ns A) (hown:wn.ownsRow C TS 1 vn' (ns.length+1) (ns.map Value.string++[.string s])) (hg:wx.grownBy wn vn.ownBlock) (hat:vn'.ownBlock=vn.ownBlock∨∀b,vn'.ownBlock=some b→wx.heap.size≤b) (hs:s.size≤maxLen - 2) :
 NSt TN TS d w (wn.setCell ⟨nb,4,none⟩ vn') g nb C k vn' vi (ns++[s]) A:=by
 obtain ⟨l1,l2,l3,l4⟩:=h.lo;have hne:∀i,i ≠ nb→(wn.setCell ⟨nb,4,none⟩ vn').heap[i]?=wn.heap[i]?:=fun i hi=>heap_setCell_other wn ⟨nb,4,none⟩ i _ hi
 have hsz:(wn.setCell ⟨nb,4,none⟩ vn').heap.size=wn.heap.size:=by simp
 have hgs:=aR wn nb 4 vn';refine ⟨(hne _ (by omega)).trans ((h.apart (.inl rfl) hg _ (by omega)).trans h.res),lI ((h.apart (.inl rfl) hg nb l3).trans h.nod) vn',⟨l1,l2,l3,by rw [hsz];exact Ae l4 hg.size⟩,?_,?_,?_⟩
 ·exact (h.names.push hown hs).kept hgs (by
   cases e:vn'.ownBlock with
   | none=>exact .inl rfl
   | some b=>exact .inr (fun e'=>by cases e';have:=(hown.lt _ e).1;omega))
 ·have h1:gS TN d C vn'.ownBlock wn vi A:=h.items.kept hg (fun r e=>.inr e) hat
  exact h1.kept hgs (fun r e=>by cases e;exact .inl l3) (.inl rfl)
 ·have h2:=h.gro2 (.inl rfl) hg
  exact ⟨h2.os,h2.tape,h2.output,by rw [hsz];exact h2.size,fun i hi hn=>(hne i (by omega)).trans (h2.block i hi hn)⟩
theorem NSt.item {vi':Value} {cs:Vl} {x:ND} (h:NSt TN TS d w wx g nb C k vn vi ns A) (hown:wn.ownsRow C TN 6 vi' (A.length+1) (cF A++cs)) (hg:wx.grownBy wn vi.ownBlock) (hat:vi'.ownBlock=vi.ownBlock∨∀b,vi'.ownBlock=some b→wx.heap.size≤b)
 (hp:aC d (fun b=>C≤b∧b<wx.heap.size∧vi.ownBlock ≠ some b∧vn.ownBlock ≠ some b) wx cs x) :
 NSt TN TS d w (wn.setCell ⟨nb,5,none⟩ vi') g nb C k vn vi' ns (A++[(cs,x)]):=by
 obtain ⟨l1,l2,l3,l4⟩:=h.lo;have hne:∀i,i ≠ nb→(wn.setCell ⟨nb,5,none⟩ vi').heap[i]?=wn.heap[i]?:=fun i hi=>heap_setCell_other wn ⟨nb,5,none⟩ i _ hi
 have hsz:(wn.setCell ⟨nb,5,none⟩ vi').heap.size=wn.heap.size:=by simp
 have hgs:=aR wn nb 5 vi';refine ⟨(hne _ (by omega)).trans ((h.apart (.inr rfl) hg _ (by omega)).trans h.res),kD ((h.apart (.inr rfl) hg nb l3).trans h.nod) vi',⟨l1,l2,l3,by rw [hsz];exact Ae l4 hg.size⟩,?_,?_,?_⟩
 ·refine (h.names.kept hg ?_).kept hgs ?_
  ·cases e:vn.ownBlock with
   | none=>exact .inl rfl
   | some b=>exact .inr (fun e'=>h.items.2.1 b e e'.symm)
  ·cases e:vn.ownBlock with
   | none=>exact .inl rfl
   | some b=>exact .inr (fun e'=>by cases e';have:=(h.names.1.lt _ e).1;omega)
 ·exact (h.items.push hown hg hat (fun b e=>(h.names.1.lt b e).2) hp).kept hgs (fun r e=>by cases e;exact .inl l3) (.inl rfl)
 ·have h2:=h.gro2 (.inr rfl) hg
  exact ⟨h2.os,h2.tape,h2.output,by rw [hsz];exact h2.size,fun i hi hn=>(hne i (by omega)).trans (h2.block i hi hn)⟩
theorem NSt.dice {B:Nat} (h:NSt TN TS d w wx g nb C k vn vi ns A) {row:Option Nat} (hr:row=vn.ownBlock∨row=vi.ownBlock) (hd:aZ B wx g) (hg:wx.grownBy wn row) (o:Nat) (v:Value):aZ B (wn.setCell ⟨nb,o,none⟩ v) g:=by
 obtain ⟨l1,l2,l3,l4⟩:=h.lo;exact aZ.setNew (hd.same fun j hj=>h.apart hr hg j (by omega)) (by omega) _ _
theorem NSt.begin (hres:wx.heap[w.heap.size]?=some (.cells Z6 TN (0,0))) (hnod:wx.heap[nb]?=some (.cells #[Iz k,.bool false,Iz 0,.string ⟨#[]⟩,Sn,Sn] TN (0,0)))
 (l1:g<w.heap.size) (l2:w.heap.size<nb) (hg:w.grownBy wx (some g)):NSt TN TS d w wx g nb wx.heap.size k (Sn) (Sn) [] []:=
 ⟨hres,hnod,⟨l1,l2,Aa hnod,Lr _⟩,jH.nil _ _ _,gS.nil _ _ _ _ _,hg⟩
theorem NSt.node (h:NSt TN TS d w wx g nb C k vn vi ns A):aC (d+1) (fun b=>w.heap.size<b∧b<wx.heap.size) wx [Iz k,.bool false,Iz 0,.string ⟨#[]⟩,vn,vi] (.mk k false 0 ⟨#[]⟩ ns (aE A)):=by
 obtain ⟨l1,l2,l3,l4⟩:=h.lo;exact ⟨vn,vi,rfl,(show (0:Nat)≤maxLen - 2 from Ax _),h.names.strs.mono fun b hb=>⟨by omega,hb.2⟩,h.items.nodes.mono (fun b hb=>⟨by omega,hb.2⟩) fun cs x q=>q.mono fun b hb=>⟨by omega,hb.2⟩⟩
end
theorem aC.one {d:Nat} {S:Nat→Prop} {w:World} {cs:Vl} {x:ND} (h:aC d S w cs x):∀u ∈ cs,u.oneCell'=true:=by
 cases d with
 | zero=>exact h.elim
 | succ d=>
  obtain ⟨va,vb,rfl,_,⟨a1,c1,rfl,_⟩,⟨a2,c2,rfl,_⟩⟩:=h;intro u hu;simp only [Bz,Ck,or_false] at hu;rcases hu with rfl | rfl | rfl | rfl | rfl | rfl <;> rfl
theorem NSt.fresh {TN TS:TypeId} {d:Nat} {w wx w6 w7:World} {g nb C:Nat} {k:Int} {vn vi:Value} {ns:List Bt} {A:List NC} {cs:Vl} {x:ND}
 (h:NSt TN TS d w wx g nb C k vn vi ns A) (hx:aC d (fun b=>wx.heap.size≤b∧b<w6.heap.size) w6 cs x) (hg:Below w6.heap.size w6 w7) :
 aC d (fun b=>C≤b∧b<w7.heap.size∧vi.ownBlock ≠ some b∧vn.ownBlock ≠ some b) w7 cs x:=by
 obtain ⟨l1,l2,l3,l4⟩:=h.lo;refine (hx.same (w':=w7) fun b hb=>hg.block b hb.2).mono fun b hb=>⟨by omega,Ll hb.2 hg.size,fun e=>?_,fun e=>?_⟩
 ·have:=(h.items.1.lt b e).2;omega
 ·have:=(h.names.1.lt b e).2;omega
theorem fK {v:Value} {gg m cc H:Nat} (h:v.ownBlock=some gg∨gg=H):(Value.slice (some ⟨gg,0,none⟩) m cc).ownBlock=v.ownBlock∨∀b,(Value.slice (some ⟨gg,0,none⟩) m cc).ownBlock=some b→H≤b:=by
 rcases h with h | h
 ·exact .inl h.symm
 ·exact .inr fun b hb=>by
   have:gg=b:=by simpa [Value.ownBlock] using hb
   omega
theorem FD {w:World} {C e size n:Nat} {v:Value} {xs:Vl} (h:w.ownsRow C e size v n xs) {b:Nat} (hb:w.heap.size≤b):v.ownBlock ≠ some b:=fun e'=>by have:=(h.lt b e').2;omega
def oX (d:Nat) (w:World) (e:Ending) (w':World):Prop:=
 ∃cs x,e=.returned (.agg cs.toArray)∧aC d (fun b=>w.heap.size≤b∧b<w'.heap.size) w' cs x∧fR d x=true
theorem NSt.viForm {TN TS:TypeId} {d:Nat} {w wx:World} {g nb C:Nat} {k:Int} {vn vi:Value} {ns:List Bt} {A:List NC} (h:NSt TN TS d w wx g nb C k vn vi ns A):∃ai ci,vi=.slice ai A.length ci:=by
 obtain ⟨a,c,e,_⟩:=h.items.nodes;exact ⟨a,c,by rw [e,aE,Bi]⟩
theorem NSt.vnForm {TN TS:TypeId} {d:Nat} {w wx:World} {g nb C:Nat} {k:Int} {vn vi:Value} {ns:List Bt} {A:List NC} (h:NSt TN TS d w wx g nb C k vn vi ns A):∃an cn,vn=.slice an ns.length cn:=by
 obtain ⟨a,c,e,_⟩:=h.names.strs;exact ⟨a,c,e⟩
def SW (w:World) (b o:Nat):Nat:=match w.cell? ⟨b,o,none⟩ with
 | some (.slice _ l _)=>l
 | _=>0
theorem NSt.len {TN TS:TypeId} {d:Nat} {w wx:World} {g nb C:Nat} {k:Int} {vn vi:Value} {ns:List Bt} {A:List NC} (h:NSt TN TS d w wx g nb C k vn vi ns A):SW wx nb 5=A.length:=by
 obtain ⟨ai,ci,rfl⟩:=h.viForm;unfold SW;rw [(aA h.nod).2.2.2.2.2]
theorem NSt.done {TN TS:TypeId} {d:Nat} {w wx:World} {g nb C:Nat} {k:Int} {vn vi:Value} {ns:List Bt} {A:List NC} (h:NSt TN TS d w wx g nb C k vn vi ns A) :
 aC (d+1) (fun b=>w.heap.size≤b∧b<(dE wx w.heap.size (Iz k) (.bool false) (Iz 0) (.string ⟨#[]⟩) vn vi).heap.size) (dE wx w.heap.size (Iz k) (.bool false) (Iz 0) (.string ⟨#[]⟩) vn vi) [Iz k,.bool false,Iz 0,.string ⟨#[]⟩,vn,vi] (.mk k false 0 ⟨#[]⟩ ns (aE A))
 ∧ w.grownBy (dE wx w.heap.size (Iz k) (.bool false) (Iz 0) (.string ⟨#[]⟩) vn vi) (some g)∧∀B,aZ B wx g→aZ B (dE wx w.heap.size (Iz k) (.bool false) (Iz 0) (.string ⟨#[]⟩) vn vi) g:=by
 obtain ⟨l1,l2,l3,l4⟩:=h.lo;have hgs:=aM wx w.heap.size (Iz k) (.bool false) (Iz 0) (.string ⟨#[]⟩) vn vi;refine ⟨?_,?_,fun B hd=>?_⟩
 ·exact (h.node.same fun b hb=>hgs.block b hb.2 (by intro e;have:=Ab e;omega)).mono fun b hb=>⟨by omega,Ll hb.2 hgs.size⟩
 ·have:=h.gro
  exact ⟨hgs.os.trans this.os,hgs.tape.trans this.tape,hgs.output.trans this.output,Ae this.size hgs.size,fun i hi hn=>(hgs.block i (Ll hi this.size) (by intro e;have:=Ab e;omega)).trans (this.block i hi hn)⟩
 ·exact hd.same fun q hq=>hgs.block q (by omega) (by intro e;have:=Ab e;omega)
theorem mJ {n B g:Nat} {w wx:World} (hn:1≤n) (hg:g<w.heap.size) (hgr:w.grownBy wx (some g)) (hd:aZ B wx g) (k:Int) (b:Bool) (z:Int) (t:Bt) (ht:t.size≤maxLen - 2) (hv:fR n (.mk k b z t [] [])=true) :
 oX n w (.returned (.agg #[Iz k,.bool b,Iz z,.string t,Sn,Sn])) (dE wx w.heap.size (Iz k) (.bool b) (Iz z) (.string t) (Sn) (Sn))
 ∧ w.grownBy (dE wx w.heap.size (Iz k) (.bool b) (Iz z) (.string t) (Sn) (Sn)) (some g)∧aZ B (dE wx w.heap.size (Iz k) (.bool b) (Iz z) (.string t) (Sn) (Sn)) g:=by
 have hgs:=aM wx w.heap.size (Iz k) (.bool b) (Iz z) (.string t) (Sn) (Sn);refine ⟨⟨[Iz k,.bool b,Iz z,.string t,Sn,Sn],_,rfl,(cC _ _ k b z t ht).deeper hn,hv⟩,?_,?_⟩
 ·exact ⟨hgs.os.trans hgr.os,hgs.tape.trans hgr.tape,hgs.output.trans hgr.output,Ae hgr.size hgs.size,fun i hi hn=>(hgs.block i (Ll hi hgr.size) (by intro e;have:=Ab e;omega)).trans (hgr.block i hi hn)⟩
 ·exact hd.same fun q hq=>hgs.block q (by have:=hd.lt;omega) (by intro e;have:=Ab e;omega)
def MQ (d:Nat) (w:World) (e:Ending) (w':World):Prop:=
 ∃cs x,e=.returned (.agg cs.toArray)∧aC d (fun b=>w.heap.size≤b∧b<w'.heap.size) w' cs x∧cH (d - 1) x∧x.items.length≤3∧(∀y,y ∈ x.items→fR (d - 1) y=true)∧bG d x≤pR d
def lM:List Bt:=[⟨#[97]⟩,⟨#[98]⟩,⟨#[118]⟩,⟨#[100]⟩]
def tB (d:Nat) (w:World) (e:Ending) (w':World):Prop:=
 ∃cs x,e=.returned (.agg cs.toArray)∧aC d (fun b=>w.heap.size≤b∧b<w'.heap.size) w' cs x∧cH (d - 1) x∧x.items.length≤3∧(∀y,y ∈ x.items→fR (d - 1) y=true)∧bG d x≤pR d∧∀s,s ∈ x.names→s ∈ lM
theorem tB.k {d:Nat} {w w':World} {e:Ending} (h:tB d w e w'):MQ d w e w':=by
 obtain ⟨cs,x,h1,h2,h3,h4,h5,h6,-⟩:=h;exact ⟨cs,x,h1,h2,h3,h4,h5,h6⟩
end Go.Proofs.YtncdpanfefnjlaaGreatDoor
namespace Go.Proofs.YtncdpanfefnjlaaGreatDoor
open Go.Proofs.Tryz
open Go.ChangeShapes Go.WideShapes Go.ChangeAt Go.RowKit
theorem KS:∀s,s ∈ lM→s.size≤maxLen - 2:=by decide +kernel
theorem PM:∀s,s ∈ lM→s.size≤1:=by decide +kernel
theorem WI:∀s,s ∈ lM→aV s=true:=by decide +kernel
theorem FL:lM.Nodup:=by decide +kernel
theorem qD:∃i,Tryz.prog.info? 28=some i∧i.zero=some (.agg Z6)∧i.size=6∧i.bytes=88:=
 info_parts (show (Tryz.prog.info? 28).map (fun i=>(i.zero,i.size,i.bytes))=some (some (.agg Z6),6,88) by kernel_rfl)
theorem qC:∃i,Tryz.prog.info? 9=some i∧i.zero=some (.string ⟨#[]⟩)∧i.size=1∧i.bytes=16:=
 info_parts (show (Tryz.prog.info? 9).map (fun i=>(i.zero,i.size,i.bytes))=some (some (.string ⟨#[]⟩),1,16) by kernel_rfl)
theorem aBi (B g n:Nat) (w:World) (hn:2≤n) (hn2:n<100) (hd:aZ B w g)
 (KN:∀wx:World,aZ B wx g→Calls prog 20 #[.pointer (some ⟨g,0,none⟩),Iz ((n:Int) - 1)] wx fun e w'=>oX (n - 1) wx e w'∧wx.grownBy w' (some g)∧aZ B w' g) :
 Calls prog 7 #[.pointer (some ⟨g,0,none⟩),Iz n] w fun e w'=>
  tB n w e w'∧w.grownBy w' (some g)∧aZ B w' g:=by
 have N4:=Hh (fun (wx:World) (hx:aZ B wx g)=>iW B g 4 4 rfl wx (by decide) (by decide) hx)
 have HKN:=Hh KN;have hgw:=hd.lt;obtain ⟨z1,hz1⟩:∃o,o=Obj.cells Z6 28 (0,0):=⟨_,rfl⟩;obtain ⟨z2,hz2⟩:∃o,o=Obj.cells #[Iz 5,.bool false,Iz 0,.string ⟨#[]⟩,Sn,Sn] 28 (0,0):=⟨_,rfl⟩;have hst0:NSt 28 9 (n - 1) w ((w.alloc z1).alloc z2) g (w.heap.size+1) ((w.alloc z1).alloc z2).heap.size 5 (Sn) (Sn) [] []:=by
  have e1:(w.alloc z1).heap.size=w.heap.size+1:=by simp
  have h2:=Hn (w.alloc z1) z2;rw [e1] at h2;refine NSt.begin ?_ (h2.trans (by rw [hz2])) hgw (by omega) (aH (dP w z1 _) (dP _ z2 _))
  rw [←hz1];exact (Bh (w.alloc z1) z2 w.heap.size (by omega)).trans (Hn w z1)
 have hd0:aZ B ((w.alloc z1).alloc z2) g:=(hd.go ((Br w.heap.size w).alloc (Lr _) z1)).go ((Br _ _).alloc (Lr _) z2);subst hz1;subst hz2;clear KN hd
 go_enter func7,ntmps7
 go_upto_region 2 with fail
 obtain ⟨W1,hW1⟩:∃W,W=(w.alloc (.cells Z6 28)).alloc (.cells #[Iz 5,.bool false,Iz 0,.string ⟨#[]⟩,Sn,Sn] 28):=⟨_,rfl⟩;rw [←hW1] at hst0 hd0;rw [←hW1];obtain ⟨C,hC⟩:∃C,C=W1.heap.size:=⟨_,rfl⟩;rw [←hC] at hst0;clear hC hW1;obtain ⟨nb,hnb⟩:∃nb,nb=w.heap.size+1:=⟨_,rfl⟩;rw [←hnb] at hst0;rw [←hnb];clear hnb
 go_upto_region 3 with ((with_reducible refine (N4.o _ hd0).mono ?_);rintro e w1 ⟨⟨k,hk,rfl⟩,hg1,hd1⟩)
 have HS0:=Hh (hst0.grown hg1);have HD0:=Hh hd1;clear hst0 hg1 hd1 hd0 N4;obtain ⟨ip,hip,hz0,hz1,hz2⟩:=qD;obtain ⟨iq,hiq,hy0,hy1,hy2⟩:=qC;have hug:=underlying26;have hus:=underlying25
 go_loopw [10] (fun i wr=>∃ (j:Nat) (vn vi:Value) (ns:List Bt) (A:List NC),i=Iz j∧j≤k∧NSt 28 9 (n - 1) w wr g nb C 5 vn vi ns A∧ns=lM.take j∧A.length=j∧(∀y,y ∈ A→fR (n - 1) y.2=true)∧aZ B wr g) (fun i _=>k - (intOf i).toNat)
 case atStart=>exact ⟨0,_,_,[],[],rfl,Ax _,HS0.o,rfl,rfl,(fun y hy=>by simp at hy),HD0.o⟩
 case round=>
  clear HS0 HD0;obtain ⟨j,vn,vi,ns,A,rfl,hjk,hst,hns,hA,hval,hdi⟩:=hrel
  by_cases hj:j<k
  ·have hj':(j:Int)<(k:Int):=by omega
   have hj4:(j:Int)<4:=by omega
   have hj0:(0:Int)≤(j:Int):=by omega
   obtain ⟨s,hs⟩:∃s,lM[j]?=some s:=⟨lM[j]'(by show j<4;omega),Ac _⟩
   have hl4:([Value.string ⟨#[97]⟩,Value.string ⟨#[98]⟩,Value.string ⟨#[118]⟩,Value.string ⟨#[100]⟩]:Vl)[j]?=some (.string s):=by
    have h:(lM.map Value.string)[j]?=some (.string s):=by rw [Bc,hs];rfl
    exact h
   have hss:s.size≤maxLen - 2:=KS s (Aq hs);have hnl:ns.length=j:=by rw [hns,Ba];show min j 4=j;omega
   have HNS:=Hh hns;have HA:=Hh hA;have HV:=Hh hval;have HS:=Hh hs;have hst1:=hst.below ((Br wr.heap.size wr).drew);have hdi1:=hdi.go ((Br wr.heap.size wr).drew);have hc1:=(aA hst1.nod).2.2.2.2.1;clear hns hA hval hs hst hdi
   go_upto_region 5 with fail
   refine aJ (fun w'=>w'.cell? ⟨nb,4,none⟩=some vn) [1] (.take 0 (.take 1 (.take 3 (.ask 2 true (.take 4 (.ask 5 true (.ask 6 true (.ask 7 false (.ask 8 false (.ask 9 false .stop .stop) .stop) .stop) .stop) .stop)) .stop)))) (by kernel_rfl) (by kernel_rfl) (fun _ d _ _ _ h=>by cases d <;> exact h) hc1 ?_
   generalize wr.drew=wd at hst1 hdi1 hc1 ⊢;refine aG _ ?_ rfl rfl ?_ (fun K hK=>?_);rotate_left;(intro w0;go_simp;(try rfl));(go_simp;refine hK _ ?_;clear hK K)
   refine aN _ ?_ rfl rfl (by decide) ?_ (fun K hK=>?_);rotate_left;(intro w0 hw0;go_simp;(try rfl));(go_simp;refine hK _ ?_;clear hK K)
   refine aG _ ?_ rfl rfl ?_ (fun K hK=>?_);rotate_left;(intro w0;go_simp;(try rfl));(go_simp;refine hK _ ?_;clear hK K)
   obtain ⟨o1,ho1⟩:∃o,o=Obj.cells #[.string ⟨#[97]⟩,.string ⟨#[98]⟩,.string ⟨#[118]⟩,.string ⟨#[100]⟩] 9 (0,0):=⟨_,rfl⟩;have hst2:=hst1.below ((Br wd.heap.size wd).alloc (o:=o1) (Lr _));have hdi2:=hdi1.go ((Br wd.heap.size wd).alloc (o:=o1) (Lr _));have hcl:(wd.alloc o1).cell? ⟨wd.heap.size,j,none⟩=some (.string s):=cR _ ((Hn wd o1).trans (by rw [ho1])) rfl j _ hl4
   have hzz2:(wd.alloc o1).heap.size=wd.heap.size+1:=by simp
   rw [ho1] at hcl hzz2 hst2 hdi2;clear ho1;refine aI _ rfl trivial ?_
   go_wp2_with fail
   generalize hW:wd.alloc (.cells #[.string ⟨#[97]⟩,.string ⟨#[98]⟩,.string ⟨#[118]⟩,.string ⟨#[100]⟩] 9)=W2 at hcl hzz2 hst2 hdi2 ⊢;have hc2:=(aA hst2.nod).2.2.2.2.1;clear hW hl4;refine Seg.mk ⟨hc2,?_⟩;refine aG _ ?_ rfl rfl ?_ (fun K hK=>?_);rotate_left;(intro w0;go_simp;(try rfl));(go_simp;refine hK _ ?_;clear hK K)
   refine aI _ rfl trivial ?_
   go_wp2_with fail
   refine Seg.mk ⟨hc2,?_⟩;have hst3:=hst2.below ((Br W2.heap.size W2).alloc (o:=.cells #[.string s] 9) (Lr _));have hdi3:=hdi2.go ((Br W2.heap.size W2).alloc (o:=.cells #[.string s] 9) (Lr _));have hn3:=Hn W2 (.cells #[.string s] 9);rw [hzz2] at hn3;have hzz3:(W2.alloc (.cells #[.string s] 9)).heap.size=W2.heap.size+1:=by simp
   refine aI _ rfl trivial ?_
   go_wp2_with fail
   generalize hW:W2.alloc (.cells #[.string s] 9)=W3 at hn3 hzz3 hst3 hdi3 ⊢;have hc3:=(aA hst3.nod).2.2.2.2.1;clear hW hst2 hdi2;refine Seg.mk ⟨hc3,?_⟩;have hN3:∀q u,([Value.string s]:Vl)[q]?=some u→W3.cell? ((⟨wd.heap.size+1,0,none⟩:Addr).add q)=some u:=by
    intro q u hq;have:=cR [Value.string s] hn3 rfl q u hq;rw [Bn,Bv];exact this
   have HN3:=Hh hN3;have HW:=Hh hzz3;have hO:=Hh hst3.names.1;have hbs:=hst3.lo.2.2.2;have HI:=Hh hiq;clear hN3 hn3 hzz3;refine aF _ rfl trivial ?_
   go_wp2_with ((refine Bk _ rfl (.tmp 14) (.tmp 19) 25 rfl C 9 iq (.string ⟨#[]⟩) 1 16 hus HI.o hy0 hy1 hy2 rfl (by decide) vn ns.length _ rfl hO.o ⟨wd.heap.size+1,0,none⟩ 1 1 [.string s] rfl rfl HN3.o (by intro u hu;simp at hu;subst hu;rfl) (by decide) (by unfold maxLen;omega) (by omega) hbs _ rfl ?_);intro gg cc W4 hown hgrow hat hlt)
   refine Seg.mk ?_;refine aF _ rfl trivial ?_
   go_wp2_with fail
   refine Seg.mk ?_;have hst4:=hst3.name hown hgrow (fK hat) hss;have hdi4:=hst3.dice (.inl rfl) hdi3 hgrow 4 (.slice (some ⟨gg,0,none⟩) (ns.length+1) cc);have hk4:=(hst3.apart (.inl rfl) hgrow nb hst3.lo.2.2.1).trans hst3.nod;have hf4:=aD hk4;have hd4:=aA hk4;rw [hnl] at hst4 hdi4;clear hown hgrow hat hst3 hdi3 hk4 hnl hO HN3 hbs HW hc2 hc3 hc1 hcl hst1 hdi1;refine cG _ rfl trivial ?_
   go_wp2_with fail
   generalize W4.setCell ⟨nb,4,none⟩ (.slice (some ⟨gg,0,none⟩) (j+1) cc)=wl at hst4 hdi4 ⊢;clear hf4 hd4;generalize Value.slice (some ⟨gg,0,none⟩) (j+1) cc=vn' at hst4 ⊢;have hst5:=hst4.below ((Br wl.heap.size wl).drew);have hdi5:=hdi4.go ((Br wl.heap.size wl).drew);have hc5:=(aA hst5.nod).2.2.2.2.2;clear hst4 hdi4;refine aJ (fun w'=>w'.cell? ⟨nb,5,none⟩=some vi) [1] (.take 0 (.take 1 (.take 2 (.take 3 (.take 4 (.ask 5 true (.ask 6 true (.ask 7 false (.ask 8 false (.ask 9 false .stop .stop) .stop) .stop) .stop) .stop)))))) (by kernel_rfl) (by kernel_rfl) (fun _ d _ _ _ h=>by cases d <;> exact h) hc5 ?_
   generalize wl.drew=wd5 at hst5 hdi5 hc5 ⊢;refine aG _ ?_ rfl rfl ?_ (fun K hK=>?_);rotate_left;(intro w0;go_simp;(try rfl));(go_simp;refine hK _ ?_;clear hK K)
   refine aN _ ?_ rfl rfl (by decide) ?_ (fun K hK=>?_);rotate_left;(intro w0 hw0;go_simp;(try rfl));(go_simp;refine hK _ ?_;clear hK K)
   iterate 3 (refine aG _ ?_ rfl rfl ?_ (fun K hK=>?_);rotate_left;(intro w0;go_simp;(try rfl));(go_simp;refine hK _ ?_;clear hK K))
   refine aI _ rfl trivial ?_
   go_wp2_with (go_at_call 20;(with_reducible refine (HKN.o _ hdi5).mono ?_);rintro e w6 ⟨⟨cs,x,rfl,hnode,hvx⟩,hg6,hdi6⟩)
   have hst6:=hst5.grown hg6;have hc6:=(aA hst6.nod).2.2.2.2.2;refine Seg.mk ⟨hc6,?_⟩;have b7:=(Br w6.heap.size w6).alloc (o:=.cells cs.toArray 28) (Lr _);have hst7:=hst6.below b7;have hdi7:=hdi6.go b7;have hfr:=hst5.fresh hnode b7;have hn7:=Hn w6 (.cells cs.toArray 28);have hone:=hnode.one;obtain ⟨va,vb,hcs⟩:=hnode.form;have HCS:=Hh hcs;rw [hcs] at b7 hst7 hdi7 hfr hn7 hone;rw [hcs];clear hcs hnode;refine aI _ rfl trivial ?_
   go_wp2_with fail
   generalize hW:w6.alloc (.cells #[Iz x.kind,.bool x.bool,Iz x.num,.string x.text,va,vb] 28)=W7 at b7 hst7 hdi7 hfr hn7 ⊢;have hc7:=(aA hst7.nod).2.2.2.2.2;clear hW hst6 hc6 hst5 hc5 hdi5 hdi6;refine Seg.mk ⟨hc7,?_⟩;have hN7:∀q u,([Value.int IntKind.i64 x.kind,.bool x.bool,Iz x.num,.string x.text,va,vb]:Vl)[q]?=some u→W7.cell? ((⟨w6.heap.size,0,none⟩:Addr).add q)=some u:=by
    intro q u hq;have:=cR _ hn7 rfl q u hq;rw [Bn,Bv];exact this
   have HN7:=Hh hN7;have HI2:=Hh hip;have hO7:=Hh hst7.items.1;have hbs7:=hst7.lo.2.2.2;have HONE:=Hh hone;have hAl:A.length=j:=HA.o;have HFR:=Hh hfr;clear hN7 hn7 hone hfr;refine aF _ rfl trivial ?_
   go_wp2_with ((refine Bk _ rfl (.tmp 23) (.tmp 28) 26 rfl C 28 ip (.agg Z6) 6 88 hug HI2.o hz0 hz1 hz2 rfl (by decide) vi A.length _ rfl hO7.o ⟨w6.heap.size,0,none⟩ 1 1 [Iz x.kind,.bool x.bool,Iz x.num,.string x.text,va,vb] rfl rfl HN7.o HONE.o (by decide) (by unfold maxLen;omega) (by omega) hbs7 _ rfl ?_);intro g8 c8 W8 hown hgrow hat hlt)
   refine Seg.mk ?_;refine aF _ rfl trivial ?_
   go_wp2_with fail
   refine Seg.mk ?_;have hst8:=hst7.item hown hgrow (fK hat) HFR.o;have hdi8:=hst7.dice (.inr rfl) hdi7 hgrow 5 (.slice (some ⟨g8,0,none⟩) (A.length+1) c8);have hk8:=(hst7.apart (.inr rfl) hgrow nb hst7.lo.2.2.1).trans hst7.nod;have hf8:=aD hk8;have hd8:=aA hk8;rw [hAl] at hst8 hdi8;clear hown hgrow hat hst7 hdi7 hk8 hAl hO7 HN7 hbs7;refine cG _ rfl trivial ?_
   go_wp2_with fail
   generalize W8.setCell ⟨nb,5,none⟩ (.slice (some ⟨g8,0,none⟩) (j+1) c8)=w9 at hst8 hdi8 ⊢;clear hf8 hd8
   go_roundw
   case rel=>
    refine ⟨j+1,_,_,_,_,by go_num,by omega,hst8,?_,?_,?_,hdi8⟩
    ·rw [HNS.o,Bf,HS.o];rfl
    ·rw [Lg,HA.o];rfl
    ·intro y hy
     rcases Bb.1 hy with hy | hy
     ·exact HV.o y hy
     ·cases At.1 hy;exact hvx
   case measure=>simp [intOf];omega
  ·have hjk2:¬ (j:Int)<(k:Int):=by omega
   have hjk3:j=k:=by omega
   obtain ⟨an,L1,cpn,hvn⟩:∃a l c,vn=Value.slice a l c:=by obtain ⟨a,c,h,_⟩:=hst.names.strs;exact ⟨a,_,c,h⟩
   obtain ⟨ai,L2,cpi,hvi⟩:∃a l c,vi=Value.slice a l c:=by obtain ⟨a,c,h,_⟩:=hst.items.nodes;exact ⟨a,_,c,h⟩
   subst hvn;subst hvi;obtain ⟨l1,l2,l3,l4⟩:=hst.lo;have fn:=aD hst.nod;have cn:=aA hst.nod;have fr:=aD hst.res;have cr:=aA hst.res;have hne:¬w.heap.size=nb:=by omega
   have hne2:¬nb=w.heap.size:=by omega
   have HST:=Hh hst;have HNS:=Hh hns;have HA:=Hh hA;have HV:=Hh hval;have HDI:=Hh hdi;have HJ:=Hh hjk3;clear hst hns hA hval hdi hjk3
   go_wp2
   have hput:=dB HST.o.res (Iz 5) (.bool false) (Iz 0) (.string ⟨#[]⟩) (.slice an L1 cpn) (.slice ai L2 cpi);have hgs:=aM wr w.heap.size (Iz 5) (.bool false) (Iz 0) (.string ⟨#[]⟩) (.slice an L1 cpn) (.slice ai L2 cpi);refine Ar (v:=.agg #[Iz 5,.bool false,Iz 0,.string ⟨#[]⟩,.slice an L1 cpn,.slice ai L2 cpi]) ?_ ?_ ?_;rotate_left
   ·rfl
   ·refine ⟨⟨[Iz 5,.bool false,Iz 0,.string ⟨#[]⟩,.slice an L1 cpn,.slice ai L2 cpi],.mk 5 false 0 ⟨#[]⟩ ns (aE A),rfl,?_,?_,?_,?_,?_,fun s hs=>List.mem_of_mem_take (i:=j) (by rw [←HNS.o];exact hs)⟩,?_,?_⟩
    ·have hnd:=HST.o.node
     rw [show n - 1+1=n by omega] at hnd
     exact (hnd.same fun b hb=>hgs.block b hb.2 (by intro e;have:=Ab e;omega)).mono fun b hb=>⟨by omega,Ll hb.2 hgs.size⟩
    ·have hlA:(aE A).length=j:=by rw [aE,Bi];exact HA.o
     have hlN:ns.length=j:=by rw [HNS.o,Ba];show min j 4=j;omega
     refine ⟨rfl,rfl,rfl,rfl,hlN.trans hlA.symm,by show (aE A).length≤256;omega,?_,?_,?_⟩
     ·intro s hs
      have hs':s ∈ lM:=List.mem_of_mem_take (i:=j) (by rw [←HNS.o];exact hs)
      exact WI s hs'
     ·show ns.Nodup
      rw [HNS.o];exact List.Sublist.nodup (List.take_sublist _ _) FL
     ·intro y hy
      obtain ⟨z,hz,rfl⟩:=Bl.1 hy;exact rR (HV.o z hz)
    ·show (aE A).length≤3
     rw [aE,Bi,HA.o];omega
    ·intro y hy
     obtain ⟨z,hz,rfl⟩:=Bl.1 hy;exact HV.o z hz
    ·have hlA:(aE A).length=j:=by rw [aE,Bi];exact HA.o
     have hc:nN (n - 1) (aE A)≤_:=DV (fun y hy=>by
      obtain ⟨z,hz,rfl⟩:=Bl.1 hy;exact HV.o z hz) (by omega)
     have hns:(ns.map fun s=>6 * s.size+8).sum≤56:=by
      refine Ae (tR (c:=14) fun s hs=>?_) ?_
      ·have hs':s ∈ lM:=List.mem_of_mem_take (i:=j) (by rw [←HNS.o];exact hs)
       have:=PM s hs';omega
      ·rw [HNS.o,Ba]
       show 14 * min j 4≤56
       omega
     obtain ⟨m,hm⟩:∃m,n=m+1:=⟨n - 1,by omega⟩
     rw [hm,Nat.add_sub_cancel] at hc;rw [hm,eC,uS];unfold nN at hc
     show 24+6 * 0+(ns.map fun s=>6 * s.size+8).sum+((aE A).map fun y=>bG m y+1).sum≤_
     omega
    ·have:=HST.o.gro
     exact ⟨hgs.os.trans this.os,hgs.tape.trans this.tape,hgs.output.trans this.output,Ae this.size hgs.size,fun i hi hn=>(hgs.block i (Ll hi this.size) (by intro e;have:=Ab e;omega)).trans (this.block i hi hn)⟩
    ·exact HDI.o.same fun q hq=>hgs.block q (by omega) (by intro e;have:=Ab e;omega)
   ·obtain ⟨q0,q1,q2,q3,q4,q5⟩:=aA hput
    simp only [dE] at q0 q1 q2 q3 q4 q5;simp [results,results7,go_sem,q0,q1,q2,q3,q4,q5]
end Go.Proofs.YtncdpanfefnjlaaGreatDoor
namespace Go.Proofs.YtncdpanfefnjlaaGreatDoor
open Go.Proofs.Tryz
def nmW:List Bt:=[⟨#[97]⟩,⟨#[98]⟩,⟨#[118]⟩,⟨#[100]⟩,⟨#[]⟩]
theorem qS:∀s,s ∈ nmW→s.size≤1∧Lib.validD s.data.toList=true:=by decide +kernel
def kM (i:Nat):Ub:=[UInt8.ofNat (48+i % 10),UInt8.ofNat (48+i / 10)]
def uV (i:Nat) (s:Bt):Prop:=∃u ∈ nmW,s=u++⟨(kM i).toArray⟩
theorem aFb:∀i,i<100→Lib.validD (kM i)=true:=by
 have:∀i:Fin 100,Lib.validD (kM i.1)=true:=by decide +kernel
 exact fun i hi=>this ⟨i,hi⟩
theorem aFc {i j:Nat} (hi:i<100) (hj:j<100) (h:kM i=kM j):i=j:=by
 simp only [kM,Bq,Di] at h;obtain ⟨h1,h2⟩:=h;have e1:=Ad UInt8.toNat h1;have e2:=Ad UInt8.toNat h2;simp only [Be] at e1 e2;omega
theorem SN {i:Nat} {s:Bt} (hi:i<100) (h:uV i s):aV s=true∧s.size≤3:=by
 obtain ⟨u,hu,rfl⟩:=h;obtain ⟨h1,h2⟩:=qS u hu;have hs:(u++(⟨(kM i).toArray⟩:Bt)).size≤3:=by
  rw [ByteArray.size_append]
  show u.size+2≤3
  omega
 refine ⟨?_,hs⟩;unfold aV;rw [BV h2 (aFb i hi),An (show (u++(⟨(kM i).toArray⟩:Bt)).size≤65536 by omega)]
 rfl
theorem aFo {i j:Nat} {s:Bt} (hi:i<100) (hj:j<100) (h:uV i s) (k:uV j s):i=j:=by
 obtain ⟨u,hu,rfl⟩:=h;obtain ⟨v,hv,e⟩:=k;have e':=Ad (fun x:Bt=>x.data.toList) e
 simp only [ByteArray.toList_data_append] at e';exact aFc hi hj (List.append_inj_right' e' rfl)
def jX (ns:List Bt):Prop:=∀i s,ns[i]?=some s→uV i s
theorem jX.push {ns:List Bt} {s:Bt} (h:jX ns) (hs:uV ns.length s):jX (ns++[s]):=by
 intro i t ht;rcases Cc i ns.length with hi | hi
 ·rw [Cq hi] at ht;exact h i t ht
 ·rw [Dl hi] at ht
  have:i - ns.length=0:=by
   rcases Nat.eq_zero_or_pos (i - ns.length) with h0 | h0
   ·exact h0
   ·rw [By (by simp;omega)] at ht;cases ht
  rw [this] at ht;obtain rfl:s=t:=by simpa using ht
  obtain rfl:i=ns.length:=by omega
  exact hs
theorem jX.nodup {ns:List Bt} (h:jX ns) (hl:ns.length≤100):ns.Nodup:=by
 rw [List.nodup_iff_pairwise_ne,List.pairwise_iff_getElem];intro i j hi hj hij e;have:=aFo (by omega) (by omega) (h i _ (Ac hi)) (h j _ (by rw [Ac hj,e]))
 omega
theorem jX.texts {ns:List Bt} (h:jX ns) (hl:ns.length≤100):∀s,s ∈ ns→aV s=true:=by
 intro s hs;obtain ⟨i,hi,rfl⟩:=List.getElem_of_mem hs;exact (SN (by omega) (h i _ (Ac hi))).1
theorem GI {n:Nat} {k:Int} {ns:List Bt} {its:List ND} (hn:1≤n) (hk:k=4∧ns=[]∨k=5∧ns.length=its.length∧jX ns) (hl:its.length≤50) (hv:∀y,y ∈ its→aB (n - 1) y=true):aB n (.mk k false 0 ⟨#[]⟩ ns its)=true:=by
 obtain ⟨m,rfl⟩:∃m,n=m+1:=⟨n - 1,by omega⟩
 rw [Nat.add_sub_cancel] at hv;have ht:aV ⟨#[]⟩=true:=by decide
 rcases hk with ⟨rfl,rfl⟩ | ⟨rfl,h1,h2⟩
 ·rw [cQ,Ak,Aw]
  refine ⟨?_,hv⟩;unfold eQ;simp [ND.kind,ND.bool,ND.num,ND.text,ND.items,ND.names,ht];exact An (by omega)
 ·rw [bY rfl]
  exact ⟨rfl,rfl,rfl,rfl,h1,by show its.length≤256;omega,h2.texts (by omega),h2.nodup (by omega),hv⟩
theorem jO {n:Nat} (hn:1≤n) (k:Int) (b:Bool) (z:Int) (t:Bt) (h:eQ (.mk k b z t [] [])=true) (hw:dD z=true) (ht:t.size≤300):fR n (.mk k b z t [] [])=true:=by
 obtain ⟨m,rfl⟩:∃m,n=m+1:=⟨n - 1,by omega⟩
 refine BY (tO ?_ hw (fun y hy=>by cases hy)) ?_
 ·rw [cQ,h]
  rfl
 ·have:=aDl hn
  rw [eC]
  show 24+6 * t.size+0+0≤_
  omega
theorem wF {n:Nat} {k:Int} {ns:List Bt} {its:List ND} (hn:1≤n) (hk:k=4∧ns=[]∨k=5∧ns.length=its.length∧jX ns) (hl:its.length≤20) (hv:∀y,y ∈ its→fR (n - 1) y=true) (hc:nN (n - 1) its≤3 * (pR (n - 1)+1)+25 * its.length):fR n (.mk k false 0 ⟨#[]⟩ ns its)=true:=by
 have h:=GI hn hk (by omega) (fun y hy=>rR (hv y hy))
 obtain ⟨m,rfl⟩:∃m,n=m+1:=⟨n - 1,by omega⟩
 refine BY (tO h (show dD 0=true by decide) fun y hy=>xV (hv y hy)) ?_
 rw [Nat.add_sub_cancel] at hc;have hns:(ns.map fun s=>6 * s.size+8).sum≤520:=by
  rcases hk with ⟨-,rfl⟩ | ⟨-,h1,h2⟩
  ·exact Ax _
  ·refine Ae (tR (c:=26) fun s hs=>?_) (by omega)
   obtain ⟨i,hi,rfl⟩:=List.getElem_of_mem hs;have:=(SN (by omega) (h2 i _ (Ac hi))).2
   omega
 unfold nN at hc;rw [eC,uS]
 show 24+6 * 0+(ns.map fun s=>6 * s.size+8).sum+(its.map fun y=>bG m y+1).sum≤_
 omega
theorem IW {z:Int} (h0:-9223372036854775808≤z) (h1:z≤9223372036854775807):dD z=true:=by
 unfold dD;rw [An h0,An h1];rfl
end Go.Proofs.YtncdpanfefnjlaaGreatDoor