/- The program's withVersion: the map with a version in front; its items lead to old memory. -/
import Derived.Test.YtcklddldejejcaaGreatDoorVfd
import Derived.Test.YtcklddldejejcaaGreatDoorVtx
import Derived.Deep.AppendLies
import Derived.WalkSpells
set_option linter.unusedVariables false
set_option linter.unusedSimpArgs false
set_option maxHeartbeats 3200000
set_option maxRecDepth 100000
namespace Go.Proofs.YtcklddldejejcaaGreatDoor
open Go Go.ChangeShapes Go.WideShapes Go.ChangeAt Go.RowKit
structure VSt (TN TS:TypeId) (d:Nat) (S:Nat→Prop) (w wx:World) (gb:Nat) (cv:List Value) (vn vi:Value) (ns:List ByteArray) (A:List NC):Prop where
 res:wx.heap[w.heap.size+2]?=some (.cells #[.int .i64 0,.bool false,.int .i64 0,.string ⟨#[]⟩,.slice none 0 0,.slice none 0 0] TN (0,0))
 val:wx.heap[w.heap.size]?=some (.cells cv.toArray TN (0,0))
 nod:wx.heap[gb]?=some (.cells #[.int .i64 5,.bool false,.int .i64 0,.string ⟨#[]⟩,vn,vi] TN (0,0))
 lo:w.heap.size+3≤gb
 names:SRow TS (w.heap.size+3) wx vn ns
 items:wx.ownsRow (w.heap.size+3) TN 6 vi A.length (nCells A)
 s1:vn.ownBlock ≠ some gb
 s2:vi.ownBlock ≠ some gb
 s3:∀b,vn.ownBlock=some b→vi.ownBlock ≠ some b
 old:∀y,y ∈ A→NodeIn d S wx y.1 y.2
 bel:Below w.heap.size w wx
section
variable {TN TS:TypeId} {d:Nat} {S:Nat→Prop} {w wx wn:World} {gb:Nat} {cv:List Value} {vn vi:Value} {ns:List ByteArray} {A:List NC}
theorem VSt.below (h:VSt TN TS d S w wx gb cv vn vi ns A) (hb:Below wx.heap.size wx wn) (hS:∀b,S b→b<w.heap.size):VSt TN TS d S w wn gb cv vn vi ns A:=by
 have hk:∀ {b:Nat} {o:Obj},wx.heap[b]?=some o→wn.heap[b]?=some o:=fun h=>(hb.block _ (lt_of_block h)).trans h
 exact ⟨hk h.res,hk h.val,hk h.nod,h.lo,h.names.below hb,owns_below h.items hb,h.s1,h.s2,h.s3,fun y hy=>(h.old y hy).same fun b hb'=>hb.block b (Ll (hS b hb') h.bel.size),h.bel.trans (hb.mono h.bel.size)⟩
theorem VSt.forms (h:VSt TN TS d S w wx gb cv vn vi ns A):(∃an cn,vn=.slice an ns.length cn)∧∃ai ci,vi=.slice ai A.length ci:=by
 constructor
 ·obtain ⟨a,c,e,_⟩:=h.names.strs;exact ⟨a,c,e⟩
 ·rcases h.items.2 with ⟨rfl,h0⟩ | ⟨g,cap,cur,rfl,_⟩
  ·exact ⟨none,0,by rw [h0]⟩
  ·exact ⟨_,cap,rfl⟩
theorem VSt.name {vn':Value} {s:ByteArray} (h:VSt TN TS d S w wx gb cv vn vi ns A) (hS:∀b,S b→b<w.heap.size) (hown:wn.ownsRow (w.heap.size+3) TS 1 vn' (ns.length+1) (ns.map Value.string++[.string s])) (hg:wx.grownBy wn vn.ownBlock) (hat:vn'.ownBlock=vn.ownBlock∨∀b,vn'.ownBlock=some b→wx.heap.size≤b) (hs:s.size≤maxLen - 2) :
 VSt TN TS d S w (wn.setCell ⟨gb,4,none⟩ vn') gb cv vn' vi (ns++[s]) A:=by
 have hgb:=lt_of_block h.nod
 have hlo:=h.lo
 have hne:∀i,i ≠ gb→(wn.setCell ⟨gb,4,none⟩ vn').heap[i]?=wn.heap[i]?:=fun i hi=>heap_setCell_other wn ⟨gb,4,none⟩ i _ hi
 have hsz:(wn.setCell ⟨gb,4,none⟩ vn').heap.size=wn.heap.size:=by simp
 have hgs:=grown_set wn gb 4 vn'
 have hold:∀j,j<w.heap.size+3→j<wx.heap.size→wn.heap[j]?=wx.heap[j]?:=fun j hj hl=>hg.block j hl fun e=>by have:=(h.names.1.lt j e.symm).1;omega
 have hrs:=lt_of_block h.res
 have hn1:vn'.ownBlock ≠ some gb:=fun e=>by
  rcases hat with ha | ha
  ·rw [ha] at e;exact h.s1 e
  ·have:=ha gb e;omega
 refine ⟨(hne _ (by omega)).trans ((hold _ (by omega) hrs).trans h.res),(hne _ (by omega)).trans ((hold _ (by omega) (lt_of_block h.val)).trans h.val),six_set4 ((hg.block gb hgb (fun e=>h.s1 e.symm)).trans h.nod) vn',hlo,?_,?_,hn1,h.s2,?_,?_,?_⟩
 ·exact (h.names.push hown hs).kept hgs (.inr fun e=>hn1 e)
 ·refine (h.items.kept hg ?_).kept hgs (.inr fun e=>h.s2 e)
  cases e2:vi.ownBlock with
  | none=>exact .inl rfl
  | some b2=>exact .inr fun e3=>h.s3 b2 e3.symm e2
 ·intro b hb e
  rcases hat with ha | ha
  ·rw [ha] at hb;exact h.s3 b hb e
  ·have:=ha b hb
   have:=(h.items.lt b e).2
   omega
 ·intro y hy
  refine (h.old y hy).same fun b hb=>(hne b (by have:=hS b hb;omega)).trans (hold b (by have:=hS b hb;omega) (Ll (hS b hb) h.bel.size))
 ·have hb:=h.bel
  exact ⟨hg.os.trans hb.os,hg.tape.trans hb.tape,hg.output.trans hb.output,by rw [hsz];exact Nat.le_trans hb.size hg.size,fun i hi=>(hne i (by omega)).trans ((hold i (by omega) (Ll hi hb.size)).trans (hb.block i hi))⟩
theorem VSt.item {vi':Value} {cs:List Value} {y:ND} (h:VSt TN TS d S w wx gb cv vn vi ns A) (hS:∀b,S b→b<w.heap.size) (hown:wn.ownsRow (w.heap.size+3) TN 6 vi' (A.length+1) (nCells A++cs)) (hg:wx.grownBy wn vi.ownBlock) (hat:vi'.ownBlock=vi.ownBlock∨∀b,vi'.ownBlock=some b→wx.heap.size≤b) (hy:NodeIn d S wx cs y) :
 VSt TN TS d S w (wn.setCell ⟨gb,5,none⟩ vi') gb cv vn vi' ns (A++[(cs,y)]):=by
 have hgb:=lt_of_block h.nod
 have hlo:=h.lo
 have hne:∀i,i ≠ gb→(wn.setCell ⟨gb,5,none⟩ vi').heap[i]?=wn.heap[i]?:=fun i hi=>heap_setCell_other wn ⟨gb,5,none⟩ i _ hi
 have hsz:(wn.setCell ⟨gb,5,none⟩ vi').heap.size=wn.heap.size:=by simp
 have hgs:=grown_set wn gb 5 vi'
 have hold:∀j,j<w.heap.size+3→j<wx.heap.size→wn.heap[j]?=wx.heap[j]?:=fun j hj hl=>hg.block j hl fun e=>by have:=(h.items.lt j e.symm).1;omega
 have hrs:=lt_of_block h.res
 have hn1:vi'.ownBlock ≠ some gb:=fun e=>by
  rcases hat with ha | ha
  ·rw [ha] at e;exact h.s2 e
  ·have:=ha gb e;omega
 have hoy:∀ {cs:List Value} {x:ND},NodeIn d S wx cs x→NodeIn d S (wn.setCell ⟨gb,5,none⟩ vi') cs x:=fun q=>q.same fun b hb=>(hne b (by have:=hS b hb;omega)).trans (hold b (by have:=hS b hb;omega) (Ll (hS b hb) h.bel.size))
 refine ⟨(hne _ (by omega)).trans ((hold _ (by omega) hrs).trans h.res),(hne _ (by omega)).trans ((hold _ (by omega) (lt_of_block h.val)).trans h.val),six_set5 ((hg.block gb hgb (fun e=>h.s2 e.symm)).trans h.nod) vi',hlo,?_,?_,h.s1,hn1,?_,?_,?_⟩
 ·refine (h.names.kept hg ?_).kept hgs (.inr fun e=>h.s1 e)
  cases e2:vn.ownBlock with
  | none=>exact .inl rfl
  | some b2=>exact .inr fun e3=>h.s3 b2 e2 e3.symm
 ·refine World.ownsRow.kept ?_ hgs (.inr fun e=>hn1 e)
  rw [Lg,nCells_append]
  simpa [nCells] using hown
 ·intro b hb e
  rcases hat with ha | ha
  ·rw [ha] at e;exact h.s3 b hb e
  ·have:=ha b e
   have:=(h.names.1.lt b hb).2
   omega
 ·intro z hz
  rcases List.mem_append.1 hz with hz | hz
  ·exact hoy (h.old z hz)
  ·cases List.mem_singleton.1 hz;exact hoy hy
 ·have hb:=h.bel
  exact ⟨hg.os.trans hb.os,hg.tape.trans hb.tape,hg.output.trans hb.output,by rw [hsz];exact Nat.le_trans hb.size hg.size,fun i hi=>(hne i (by omega)).trans ((hold i (by omega) (Ll hi hb.size)).trans (hb.block i hi))⟩
end
theorem sV_list:sV.toList=[118]:=by decide +kernel
theorem keep_snoc {ns:List ByteArray} {its:List ND} {j:Nat} {s:ByteArray} {y:ND} (h1:ns[j]?=some s) (h2:its[j]?=some y):keepL (ns.take (j+1)) (its.take (j+1))=keepL (ns.take j) (its.take j)++(if s=sV then [] else [(s,y)]):=by
 have l1:=lt_of_some h1
 have l2:=lt_of_some h2
 have t1:ns.take (j+1)=ns.take j++[s]:=by rw [List.take_add_one,h1];rfl
 have t2:its.take (j+1)=its.take j++[y]:=by rw [List.take_add_one,h2];rfl
 rw [t1,t2]
 unfold keepL
 rw [List.zip_append (by rw [List.length_take,List.length_take];omega),List.filter_append]
 congr 1
 by_cases h:s=sV
 ·rw [if_pos h];simp [h]
 ·rw [if_neg h];simp [h]
def WvPost (d:Nat) (w:World) (y:ND) (e:Ending) (w':World):Prop:=∃vn vi:Value,e=.returned (.agg #[.int .i64 5,.bool false,.int .i64 0,.string ⟨#[]⟩,vn,vi])∧NodeIn d (fun b=>b<w'.heap.size) w' [.int .i64 5,.bool false,.int .i64 0,.string ⟨#[]⟩,vn,vi] y∧Below w.heap.size w w'
theorem withv_any {d:Nat} {S:Nat→Prop} (cs:List Value) (x:ND) (v:VD) (w:World) (h:NodeIn (d+1) S w cs x) (hS:∀b,S b→b<w.heap.size) (hlow:lowN (d+1) x) (hlen:x.names.length=x.items.length) (hd:1≤d) (hv:WideV v) (hz:(vtS v).size≤100) (hT:DB w) :
 Calls Tryz.prog 40 #[.agg cs.toArray,.agg (vcs v)] w (WvPost (d+1) w (withV x (vtS v))):=by
 obtain ⟨a1,l1,c1,a2,l2,c2,rfl⟩:=h.slices
 obtain ⟨vn,vi,e,ht,hns,his⟩:=h
 simp only [List.cons.injEq,and_true,true_and] at e
 obtain ⟨rfl,rfl⟩:=e
 obtain ⟨w1,hw1⟩:∃W,W=((w.alloc (.cells #[.int .i64 x.kind,.bool x.bool,.int .i64 x.num,.string x.text,.slice a1 l1 c1,.slice a2 l2 c2] 28)).alloc (.cells #[.string v.p,.int .i64 v.a,.int .i64 v.b,.int .i64 v.f,.int .i64 v.z] 37)).alloc (.cells #[.int .i64 0,.bool false,.int .i64 0,.string ⟨#[]⟩,.slice none 0 0,.slice none 0 0] 28):=⟨_,rfl⟩
 have z1:(w.alloc (.cells #[.int .i64 x.kind,.bool x.bool,.int .i64 x.num,.string x.text,.slice a1 l1 c1,.slice a2 l2 c2] 28)).heap.size=w.heap.size+1:=by simp
 have z2:((w.alloc (.cells #[.int .i64 x.kind,.bool x.bool,.int .i64 x.num,.string x.text,.slice a1 l1 c1,.slice a2 l2 c2] 28)).alloc (.cells #[.string v.p,.int .i64 v.a,.int .i64 v.b,.int .i64 v.f,.int .i64 v.z] 37)).heap.size=w.heap.size+2:=by simp
 have b1:Below w.heap.size w w1:=by rw [hw1];exact (((Br _ _).alloc (Lr _) _).alloc (by simp) _).alloc (by simp;omega) _
 have k0:w1.heap[w.heap.size]?=some (.cells #[.int .i64 x.kind,.bool x.bool,.int .i64 x.num,.string x.text,.slice a1 l1 c1,.slice a2 l2 c2] 28 (0,0)):=by rw [hw1];exact (Below.heap_alloc _ _ _ (by omega)).trans ((Below.heap_alloc _ _ _ (by omega)).trans (Hn _ _))
 have k1:w1.heap[w.heap.size+1]?=some (.cells #[.string v.p,.int .i64 v.a,.int .i64 v.b,.int .i64 v.f,.int .i64 v.z] 37 (0,0)):=by
  have:=Hn (w.alloc (.cells #[.int .i64 x.kind,.bool x.bool,.int .i64 x.num,.string x.text,.slice a1 l1 c1,.slice a2 l2 c2] 28)) (.cells #[.string v.p,.int .i64 v.a,.int .i64 v.b,.int .i64 v.f,.int .i64 v.z] 37)
  rw [z1] at this
  rw [hw1];exact (Below.heap_alloc _ _ _ (by omega)).trans this
 have k2:w1.heap[w.heap.size+2]?=some (.cells #[.int .i64 0,.bool false,.int .i64 0,.string ⟨#[]⟩,.slice none 0 0,.slice none 0 0] 28 (0,0)):=by
  have:=Hn ((w.alloc (.cells #[.int .i64 x.kind,.bool x.bool,.int .i64 x.num,.string x.text,.slice a1 l1 c1,.slice a2 l2 c2] 28)).alloc (.cells #[.string v.p,.int .i64 v.a,.int .i64 v.b,.int .i64 v.f,.int .i64 v.z] 37)) (.cells #[.int .i64 0,.bool false,.int .i64 0,.string ⟨#[]⟩,.slice none 0 0,.slice none 0 0] 28)
  rw [z2] at this
  rw [hw1];exact this
 have z3:w1.heap.size=w.heap.size+3:=by rw [hw1];simp
 have TX:=Hh (vertext_any v w1 hv (hT.below b1))
 have NT:=Hh (fun wx:World=>ntext_any (vtS v) wx)
 have HS:=Hh hS
 have HNS:=Hh hns
 have HIS:=Hh his
 have HL:=Hh hlow
 have K0:=Hh k0
 have K2:=Hh k2
 have B1:=Hh b1
 have Z3:=Hh z3
 have c5:=five_of k1
 have HLEN:=Hh hlen
 clear hlow hS hns his k0 k1 k2 b1 z1 z2 z3 ht hv hT hlen
 unfold vcs at TX ⊢
 go_enter Tryz.func40,Tryz.ntmps40
 go_upto_region 1 with fail
 rw [←hw1]
 clear hw1
 go_upto_region 2 with ((with_reducible refine (TX.out).mono ?_);rintro e w2 ⟨rfl,hb2⟩)
 clear c5 TX
 go_upto_region 3 with ((with_reducible refine (NT.out _).mono ?_);rintro e w3 ⟨rfl,hb3⟩)
 have hz2:=hb2.size
 have hz3:=Z3.out
 have bs:=(Br w2.heap.size w2).alloc (o:=.cells #[.string ⟨#[118]⟩] 9) (Lr _)
 have on:=World.ownsRow_lit (base:=w.heap.size+3) (e:=9) (size:=1) w2 #[.string ⟨#[118]⟩] 1 (by omega) (by decide) rfl
 have b3:=bs.trans (hb3.mono bs.size)
 have bi:=(Br w3.heap.size w3).alloc (o:=.cells #[.int .i64 3,.bool false,.int .i64 0,.string (vtS v),.slice none 0 0,.slice none 0 0] 28) (Lr _)
 have oi:=World.ownsRow_lit (base:=w.heap.size+3) (e:=28) (size:=6) w3 #[.int .i64 3,.bool false,.int .i64 0,.string (vtS v),.slice none 0 0,.slice none 0 0] 1 (by have:=b3.size;omega) (by decide) rfl
 have bn:=(Br (w3.alloc (.cells #[.int .i64 3,.bool false,.int .i64 0,.string (vtS v),.slice none 0 0,.slice none 0 0] 28)).heap.size (w3.alloc (.cells #[.int .i64 3,.bool false,.int .i64 0,.string (vtS v),.slice none 0 0,.slice none 0 0] 28))).alloc (o:=.cells #[.int .i64 5,.bool false,.int .i64 0,.string ⟨#[]⟩,.slice (some ⟨w2.heap.size,0,none⟩) 1 1,.slice (some ⟨w3.heap.size,0,none⟩) 1 1] 28) (Lr _)
 have kn:=Hn (w3.alloc (.cells #[.int .i64 3,.bool false,.int .i64 0,.string (vtS v),.slice none 0 0,.slice none 0 0] 28)) (.cells #[.int .i64 5,.bool false,.int .i64 0,.string ⟨#[]⟩,.slice (some ⟨w2.heap.size,0,none⟩) 1 1,.slice (some ⟨w3.heap.size,0,none⟩) 1 1] 28)
 have zi:(w3.alloc (.cells #[.int .i64 3,.bool false,.int .i64 0,.string (vtS v),.slice none 0 0,.slice none 0 0] 28)).heap.size=w3.heap.size+1:=by simp
 have sb:=b3.size
 have sb2:=bs.size
 have szs:(w2.alloc (.cells #[.string ⟨#[118]⟩] 9)).heap.size=w2.heap.size+1:=by simp
 have s3:=hb3.size
 have bW:=bi.trans (bn.mono bi.size)
 have bWW:=b3.trans (bW.mono b3.size)
 have on2:=owns_below (owns_below on hb3) bW
 have oi2:=owns_below oi bn
 clear on oi
 obtain ⟨W,hW⟩:∃W,W=(w3.alloc (.cells #[.int .i64 3,.bool false,.int .i64 0,.string (vtS v),.slice none 0 0,.slice none 0 0] 28)).alloc (.cells #[.int .i64 5,.bool false,.int .i64 0,.string ⟨#[]⟩,.slice (some ⟨w2.heap.size,0,none⟩) 1 1,.slice (some ⟨w3.heap.size,0,none⟩) 1 1] 28):=⟨_,rfl⟩
 rw [←hW] at bW bWW on2 oi2 kn ⊢
 have hkk:∀ {b:Nat} {o:Obj},w1.heap[b]?=some o→W.heap[b]?=some o:=fun {b o} hh=>(bWW.block _ (Ll (lt_of_block hh) hz2)).trans ((hb2.block _ (lt_of_block hh)).trans hh)
 have V0:VSt 28 9 d S w W (w3.heap.size+1) [.int .i64 x.kind,.bool x.bool,.int .i64 x.num,.string x.text,.slice a1 l1 c1,.slice a2 l2 c2] (.slice (some ⟨w2.heap.size,0,none⟩) 1 1) (.slice (some ⟨w3.heap.size,0,none⟩) 1 1) [sV] [([.int .i64 3,.bool false,.int .i64 0,.string (vtS v),.slice none 0 0,.slice none 0 0],tN (vtS v))]:=by
  refine ⟨hkk K2.out,hkk K0.out,by rw [zi] at kn;exact kn,by omega,⟨on2,fun s hs=>?_⟩,by simpa [nCells] using oi2,?_,?_,?_,fun y hy=>?_,B1.out.trans ((hb2.trans (bWW.mono hz2)).mono B1.out.size)⟩
  ·cases List.mem_singleton.1 hs;decide
  ·intro e;have:=Option.some.inj (show some w2.heap.size=some (w3.heap.size+1) from e);omega
  ·intro e;have:=Option.some.inj (show some w3.heap.size=some (w3.heap.size+1) from e);omega
  ·intro b e e';have:=Option.some.inj (show some w2.heap.size=some b from e);have:=Option.some.inj (show some w3.heap.size=some b from e');omega
  ·cases List.mem_singleton.1 hy
   exact (node_leaf S W 3 false 0 (vtS v) (by unfold maxLen;omega)).deeper hd
 clear on2 oi2 kn bW bWW bi bn b3 bs hkk hW zi sb sb2 szs s3 hz2 hb2 hb3
 generalize w3.heap.size+1=gb at V0 ⊢
 generalize Value.slice (some ⟨w2.heap.size,0,none⟩) 1 1=vn0 at V0 ⊢
 generalize Value.slice (some ⟨w3.heap.size,0,none⟩) 1 1=vi0 at V0 ⊢
 have cW:=six_of V0.val
 have VV:=Hh V0
 have hl1:l1=x.names.length:=by obtain ⟨_,_,e,-⟩:=HNS.out;cases e;rfl
 have hl2:l2=x.items.length:=by obtain ⟨_,_,e,-⟩:=HIS.out;cases e;rfl
 subst hl1 hl2
 have hln:=HL.out.1
 have hli:=HL.out.2.1
 clear V0
 go_upto_region 4 with fail
 clear cW
 go_loopw [23] (fun i wr=>∃j:Nat,i=.int .i64 j∧j≤x.names.length∧∃ (vn vi:Value) (ns:List ByteArray) (A:List NC),VSt 28 9 d S w wr gb [.int .i64 x.kind,.bool x.bool,.int .i64 x.num,.string x.text,.slice a1 x.names.length c1,.slice a2 x.items.length c2] vn vi ns A∧ns=sV::(keepL (x.names.take j) (x.items.take j)).map (·.1)∧nodesOf A=tN (vtS v)::(keepL (x.names.take j) (x.items.take j)).map (·.2)) (fun i _=>x.names.length - (intOf i).toNat)
 case atStart=>exact ⟨0,rfl,Nat.zero_le _,_,_,_,_,VV.out,rfl,rfl⟩
 case round=>
  clear VV
  obtain ⟨j,rfl,hj,vn,vi,ns,A,hst,hns,hA⟩:=hrel
  have hkl:=keep_length (x.names.take j) (x.items.take j)
  have hlt0:(x.items.take j).length≤x.items.length:=by rw [List.length_take];exact Nat.min_le_right _ _
  have hnl:ns.length≤1000001:=by rw [hns,List.length_cons,List.length_map];omega
  have hAl:A.length≤1000001:=by
   have:=congrArg List.length hA
   rw [nodesOf,List.length_map,List.length_cons,List.length_map] at this
   omega
  clear hkl hlt0
  by_cases hlt:j<x.names.length
  ·have hlt':(j:Int)<(x.names.length:Int):=by omega
   have hj0:(0:Int)≤(j:Int):=by omega
   have hji:j<x.items.length:=by have:=HLEN.out;omega
   have hlt2:(j:Int)<(x.items.length:Int):=by have:=HLEN.out;omega
   have hjm:(x.names.length:Int)≤1000000:=by omega
   have HLT:=Hh hlt
   obtain ⟨s,hsn⟩:∃s,x.names[j]?=some s:=⟨_,List.getElem?_eq_getElem hlt⟩
   obtain ⟨bq,oq,rfl,hSq,hcq⟩:=HNS.out.get hsn
   have hsq:=HNS.out.sizes s (List.mem_of_getElem? hsn)
   obtain ⟨-,-,-,b,off,y,b1,m1,n1,b2,m2,n2,rfl,hSb,hx,hnd,q0,q1,q2,q3,q4,q5⟩:=HIS.out.at hji
   have hke:=keep_snoc hsn hx
   have hB:=hst.bel
   have rq:=(hB.cell (p:=⟨bq,oq+j,none⟩) (HS.out _ hSq)).trans hcq
   have ck:=six_of hst.nod
   have HST:=Hh hst
   have HNSE:=Hh hns
   have HA:=Hh hA
   have HKE:=Hh hke
   have HND:=Hh hnd
   have Q:=Hh (Ai q0 (Ai q1 (Ai q2 (Ai q3 (Ai q4 q5)))))
   clear hsn hke hB hcq hst hns hA hnd q0 q1 q2 q3 q4 q5 hx
   by_cases hsv:s=sV
   ·have e1:(s.toList == [118])=true:=by rw [←sV_list];exact str_beq hsv
    have HSV:=Hh hsv
    clear hsv
    go_wp2
    go_roundw
    case rel=>exact ⟨j+1,by go_num,by have:=HLT.out;omega,vn,vi,ns,A,HST.out,by rw [HKE.out,if_pos HSV.out,List.append_nil];exact HNSE.out,by rw [HKE.out,if_pos HSV.out,List.append_nil];exact HA.out⟩
    case measure=>have:=HLT.out;simp [intOf];omega
   ·have e1:(s.toList == [118])=false:=by rw [←sV_list];exact str_bne hsv
    have HSV:=Hh hsv
    clear hsv
    obtain ⟨⟨an,cn,rfl⟩,ai,ci,rfl⟩:=HST.out.forms
    go_upto_region 7 with fail
    have b7:=(Br wr.heap.size wr).alloc (o:=.cells #[.string s] 9) (Lr _)
    have hP7:=HST.out.below b7 HS.out
    have HP7:=Hh hP7
    have cn7:=cells_new wr #[.string s] 9 [.string s] rfl
    have HN7:=Hh cn7
    have HO7:=Hh hP7.names.1
    have hbs7:w.heap.size+3≤(wr.alloc (.cells #[.string s] 9)).heap.size:=by have:=lt_of_block hP7.res;omega
    have HBS7:=Hh hbs7
    obtain ⟨iq,hiq,hy0,hy1,hy2⟩:=infos
    obtain ⟨ip,hip,hz0,hz1,hz2⟩:=infon
    have HIQ:=Hh hiq
    have HIP:=Hh hip
    have hus:=Tryz.underlying25
    have hug:=Tryz.underlying26
    clear b7 hP7 cn7 hbs7 hiq hip
    go_upto_region 8 with ((refine wpList_append_lies _ rfl (.tmp 31) (.tmp 33) 25 rfl (w.heap.size+3) 9 iq (.string ⟨#[]⟩) 1 16 hus HIQ.out hy0 hy1 hy2 rfl (by decide) (.slice an ns.length cn) ns.length _ rfl HO7.out ⟨wr.heap.size,0,none⟩ 1 1 [.string s] rfl rfl HN7.out (by intro u hu;simp at hu;subst hu;rfl) (by decide) (by unfold maxLen;omega) (by omega) HBS7.out _ rfl ?_);intro gg cc W8 hown hgrow hat hltg;(have hk8:=(hgrow.block gb (lt_of_block HP7.out.nod) (fun e=>HP7.out.s1 e.symm)).trans HP7.out.nod);(have hf8:=free_six hk8);(have hd8:=six_of hk8);(have hP8a:=HP7.out.name HS.out hown hgrow (own_at hat) hsq);clear hown hgrow hat hk8)
    clear hf8 hd8 HO7 HN7 HBS7 HP7 ck
    generalize W8.setCell ⟨gb,4,none⟩ (.slice (some ⟨gg,0,none⟩) (ns.length+1) cc)=w8a at hP8a ⊢
    have bd:Below w8a.heap.size w8a w8a.drew:=(Br _ _).drew
    have hP8:=hP8a.below bd HS.out
    have HP8:=Hh hP8
    have CK:=Hh (fun (wx:World) (hb:Below w8a.heap.size w8a wx)=>Ai (six_of ((hb.block _ (lt_of_block hP8a.nod)).trans hP8a.nod)).2.2.2.2.2 (Ai (six_of ((hb.block _ (lt_of_block hP8a.val)).trans hP8a.val)).2.2.2.2.2 (show _∧_∧_∧_∧_∧_ from ⟨((hP8a.bel.trans (hb.mono hP8a.bel.size)).cell (p:=⟨b,off+j * 6,none⟩) (HS.out _ hSb)).trans Q.out.1,((hP8a.bel.trans (hb.mono hP8a.bel.size)).cell (p:=⟨b,off+j * 6+1,none⟩) (HS.out _ hSb)).trans Q.out.2.1,((hP8a.bel.trans (hb.mono hP8a.bel.size)).cell (p:=⟨b,off+j * 6+2,none⟩) (HS.out _ hSb)).trans Q.out.2.2.1,((hP8a.bel.trans (hb.mono hP8a.bel.size)).cell (p:=⟨b,off+j * 6+3,none⟩) (HS.out _ hSb)).trans Q.out.2.2.2.1,((hP8a.bel.trans (hb.mono hP8a.bel.size)).cell (p:=⟨b,off+j * 6+4,none⟩) (HS.out _ hSb)).trans Q.out.2.2.2.2.1,((hP8a.bel.trans (hb.mono hP8a.bel.size)).cell (p:=⟨b,off+j * 6+5,none⟩) (HS.out _ hSb)).trans Q.out.2.2.2.2.2⟩)))
    clear hP8a hP8
    refine wp_region_plan (fun w'=>w'.cell? ⟨gb,5,none⟩=some (.slice ai A.length ci)∧w'.cell? ⟨w.heap.size,5,none⟩=some (.slice (some ⟨b,off,none⟩) x.items.length c2)∧(w'.cell? ⟨b,off+j * 6,none⟩=some (.int .i64 y.kind)∧w'.cell? ⟨b,off+j * 6+1,none⟩=some (.bool y.bool)∧w'.cell? ⟨b,off+j * 6+2,none⟩=some (.int .i64 y.num)∧w'.cell? ⟨b,off+j * 6+3,none⟩=some (.string y.text)∧w'.cell? ⟨b,off+j * 6+4,none⟩=some (.slice b1 m1 n1)∧w'.cell? ⟨b,off+j * 6+5,none⟩=some (.slice b2 m2 n2))) [1,3,6] (.take 0 (.take 1 (.take 2 (.take 3 (.take 4 (.take 5 (.take 6 (.ask 7 true (.ask 8 false (.take 9 (.ask 10 false .stop .stop)) .stop) .stop)))))))) (by kernel_rfl) (by kernel_rfl) (fun _ d _ _ _ h=>by cases d <;> exact h) (CK.out _ bd) ?_
    generalize w8a.drew=wd at bd HP8 ⊢
    refine take_any _ ?_ rfl rfl ?_ (fun K hK=>?_);rotate_left;(intro w0;go_simp;(try rfl));(go_simp;refine hK _ ?_;clear hK K)
    refine take_held _ ?_ rfl rfl (by decide) ?_ (fun K hK=>?_);rotate_left;(intro w0 hw0;go_simp;(try rfl));(go_simp;refine hK _ ?_;clear hK K)
    refine take_any _ ?_ rfl rfl ?_ (fun K hK=>?_);rotate_left;(intro w0;go_simp;(try rfl));(go_simp;refine hK _ ?_;clear hK K)
    refine take_held _ ?_ rfl rfl (by decide) ?_ (fun K hK=>?_);rotate_left;(intro w0 hw0;go_simp;(try rfl));(go_simp;refine hK _ ?_;clear hK K)
    refine take_any _ ?_ rfl rfl ?_ (fun K hK=>?_);rotate_left;(intro w0;go_simp;(try rfl));(go_simp;refine hK _ ?_;clear hK K)
    refine take_any _ ?_ rfl rfl ?_ (fun K hK=>?_);rotate_left;(intro w0;go_simp;(try rfl));(go_simp;refine hK _ ?_;clear hK K)
    refine take_held _ ?_ rfl rfl (by decide) ?_ (fun K hK=>?_);rotate_left;(intro w0 hw0;go_simp;(try rfl));(go_simp;refine hK _ ?_;clear hK K)
    have b9:=(Br wd.heap.size wd).alloc (o:=.cells #[.int .i64 y.kind,.bool y.bool,.int .i64 y.num,.string y.text,.slice b1 m1 n1,.slice b2 m2 n2] 28) (Lr _)
    have hP9:=HP8.out.below b9 HS.out
    have HP9:=Hh hP9
    have HN9:=Hh (cells_new wd #[.int .i64 y.kind,.bool y.bool,.int .i64 y.num,.string y.text,.slice b1 m1 n1,.slice b2 m2 n2] 28 [.int .i64 y.kind,.bool y.bool,.int .i64 y.num,.string y.text,.slice b1 m1 n1,.slice b2 m2 n2] rfl)
    have HO9:=Hh hP9.items
    have hbs9:w.heap.size+3≤(wd.alloc (.cells #[.int .i64 y.kind,.bool y.bool,.int .i64 y.num,.string y.text,.slice b1 m1 n1,.slice b2 m2 n2] 28)).heap.size:=by have:=lt_of_block hP9.res;omega
    have HBS9:=Hh hbs9
    have HVW:=Hh (HND.out.same (w':=wd.alloc (.cells #[.int .i64 y.kind,.bool y.bool,.int .i64 y.num,.string y.text,.slice b1 m1 n1,.slice b2 m2 n2] 28)) fun b hb=>hP9.bel.block b (HS.out b hb))
    have HONE:=Hh HND.out.one
    have ck9:=CK.out _ (bd.trans (b9.mono bd.size))
    clear b9 hP9 hbs9
    refine ask_step _ rfl trivial ?_
    go_wp2_with fail
    generalize wd.alloc _=w9 at HP9 HN9 HO9 HBS9 HVW ck9 ⊢
    refine Seg.mk ⟨ck9,?_⟩
    refine ask_late _ rfl trivial ?_
    go_wp2_with ((refine wpList_append_lies _ rfl (.tmp 37) (.tmp 43) 26 rfl (w.heap.size+3) 28 ip (.agg #[.int .i64 0,.bool false,.int .i64 0,.string ⟨#[]⟩,.slice none 0 0,.slice none 0 0]) 6 88 hug HIP.out hz0 hz1 hz2 rfl (by decide) (.slice ai A.length ci) A.length _ rfl HO9.out ⟨wd.heap.size,0,none⟩ 1 1 [.int .i64 y.kind,.bool y.bool,.int .i64 y.num,.string y.text,.slice b1 m1 n1,.slice b2 m2 n2] rfl rfl HN9.out HONE.out (by decide) (by unfold maxLen;omega) (by omega) HBS9.out _ rfl ?_);intro g2 cc2 W9 hown hgrow hat hlt9;(have hk8:=(hgrow.block gb (lt_of_block HP9.out.nod) (fun e=>HP9.out.s2 e.symm)).trans HP9.out.nod);(have hf8:=free_six hk8);(have hd8:=six_of hk8);(have hPF:=HP9.out.item HS.out hown hgrow (own_at hat) HVW.out);clear hown hgrow hat hk8)
    clear HO9 HN9 HBS9 HP9 HONE HVW HP8 ck9
    refine Seg.mk ?_
    refine take_any _ ?_ rfl rfl ?_ (fun K hK=>?_);rotate_left;(intro w0;go_simp;(try rfl));(go_simp;refine hK _ ?_;clear hK K)
    refine ask_last _ rfl trivial ?_
    have HPF:=Hh hPF
    clear hPF
    go_wp2
    go_roundw
    case rel=>exact ⟨j+1,by go_num,by have:=HLT.out;omega,_,_,_,_,HPF.out,by rw [HKE.out,if_neg HSV.out,HNSE.out];simp,by rw [HKE.out,if_neg HSV.out,List.map_append,←List.cons_append,←HA.out];simp [nodesOf]⟩
    case measure=>have:=HLT.out;simp [intOf];omega
  ·have hlt':¬ (j:Int)<(x.names.length:Int):=by omega
   have hjl:j=x.names.length:=by omega
   rw [hjl,List.take_length,HLEN.out,List.take_length] at hns hA
   have q1:=six_of hst.nod
   have q2:=six_of (show wr.heap[w.heap.size+1+1]?=_ from hst.res)
   have q3:=free_six (show wr.heap[w.heap.size+1+1]?=_ from hst.res)
   have HST:=Hh hst
   have HNSE:=Hh hns
   have HA:=Hh hA
   clear hns hA hst hjl
   obtain ⟨⟨an,cn,rfl⟩,ai,ci,rfl⟩:=HST.out.forms
   obtain ⟨Ln,hLn⟩:∃n,n=ns.length:=⟨_,rfl⟩
   obtain ⟨Li,hLi⟩:∃n,n=A.length:=⟨_,rfl⟩
   rw [←hLn,←hLi] at HST q1
   have hres:wr.heap[w.heap.size+1+1]?=some (.cells #[.int .i64 0,.bool false,.int .i64 0,.string ⟨#[]⟩,.slice none 0 0,.slice none 0 0] 28 (0,0)):=HST.out.res
   obtain ⟨gr,hgz⟩:∃g,g=w.heap.size+1+1:=⟨_,rfl⟩
   rw [←hgz] at q2 q3 hres
   rw [←hgz]
   have HRS:=Hh hres
   have HGZ:=Hh hgz
   have HLN:=Hh hLn
   have HLI:=Hh hLi
   clear hres hgz hLn hLi
   go_wp2
   have hput:=six_put HRS.out (.int .i64 5) (.bool false) (.int .i64 0) (.string ⟨#[]⟩) (.slice an Ln cn) (.slice ai Li ci)
   have hgf:=grown_set6 wr gr (.int .i64 5) (.bool false) (.int .i64 0) (.string ⟨#[]⟩) (.slice an Ln cn) (.slice ai Li ci)
   refine bodyPost_ret (v:=.agg #[.int .i64 5,.bool false,.int .i64 0,.string ⟨#[]⟩,.slice an Ln cn,.slice ai Li ci]) ?_ ?_ ?_
   rotate_left
   ·rfl
   ·have hb:=HST.out.bel
    have hgz:=HGZ.out
    have hlo:=HST.out.lo
    have hnd:=HST.out
    have hS:=HS.out
    have hLn:=HLN.out
    have hLi:=HLI.out
    clear HLN HLI
    subst hLn hLi
    refine ⟨_,_,rfl,?_,hb.grown hgf hb.size (fun g e=>by have:=Option.some.inj (show some gr=some g from e);omega)⟩
    have hSB:∀b,(b<wr.heap.size∧b ≠ gr)→(set6 wr gr (.int .i64 5) (.bool false) (.int .i64 0) (.string ⟨#[]⟩) (.slice an ns.length cn) (.slice ai A.length ci)).heap[b]?=wr.heap[b]?:=fun b hb=>hgf.block b hb.1 (by intro e;exact hb.2 (Option.some.inj e))
    have hN:NodeIn (d+1) (fun b=>b<wr.heap.size∧b ≠ gr) wr [.int .i64 5,.bool false,.int .i64 0,.string ⟨#[]⟩,.slice an ns.length cn,.slice ai A.length ci] (.mk 5 false 0 ⟨#[]⟩ ns (nodesOf A)):=by
     have h6:∀y,y ∈ A→y.1.length=6:=fun y hy=>(hnd.old y hy).len
     have hkb:∀b,S b→b<wr.heap.size∧b ≠ gr:=fun b hb=>⟨Ll (hS b hb) hnd.bel.size,by have:=hS b hb;omega⟩
     refine ⟨_,_,rfl,Nat.zero_le _,hnd.names.strs.mono fun b hb=>⟨hb.2,by have:=hb.1;omega⟩,?_⟩
     have hl:(nodesOf A).length=A.length:=by simp [nodesOf]
     have h1:=hnd.items
     rcases h1.2 with ⟨e,hA0⟩ | ⟨g,cap,cur,e,hbg,hg,hnc,hcm,hcs,hcu⟩
     ·have hn:A=[]:=List.length_eq_zero_iff.1 hA0
      subst hn
      rw [e]
      exact NodesIn.nil _ _ _
     ·cases e
      refine ⟨_,ci,by rw [show (ND.mk 5 false 0 ⟨#[]⟩ ns (nodesOf A)).items=nodesOf A from rfl,hl],by rw [show (ND.mk 5 false 0 ⟨#[]⟩ ns (nodesOf A)).items=nodesOf A from rfl,hl];exact hnc,hcm,fun j x hj=>?_⟩
      have hj2:(nodesOf A)[j]?=some x:=hj
      have hj':j<A.length:=by have:=lt_of_some hj2;omega
      have e:A[j]?=some (A[j].1,A[j].2):=by rw [List.getElem?_eq_getElem hj']
      have hx:x=A[j].2:=by
       rw [nodesOf,List.getElem?_map,e] at hj2
       exact (Option.some.inj hj2).symm
      subst hx
      refine ⟨g,0,A[j].1,rfl,⟨lt_of_block hg,by omega⟩,fun f u hu=>?_,(hnd.old _ (List.getElem_mem hj')).mono hkb⟩
      have:=h1.cells (g:=g) rfl _ _ (nCells_at h6 e f u hu)
      rw [Addr.add_lit,←Nat.add_assoc] at this;exact this
    have hW:withV x (vtS v)=.mk 5 false 0 ⟨#[]⟩ ns (nodesOf A):=by rw [HNSE.out,HA.out];rfl
    rw [hW]
    exact (hN.same hSB).mono fun b hb=>Ll hb.1 hgf.size
   ·have s0:=six_set0 HRS.out (.int .i64 5)
    have s1:=six_set1 s0 (.bool false)
    have s2:=six_set2 s1 (.int .i64 0)
    have s3:=six_set3 s2 (.string ⟨#[]⟩)
    have s4:=six_set4 s3 (.slice an Ln cn)
    have s5:=six_set5 s4 (.slice ai Li ci)
    have r0:=(six_of s0).1
    have r1:=(six_of s1).2.1
    have r2:=(six_of s2).2.2.1
    have r3:=(six_of s3).2.2.2.1
    have r4:=(six_of s4).2.2.2.2.1
    have r5:=(six_of s5).2.2.2.2.2
    obtain ⟨q0,q1,q2,q3,q4,q5⟩:=six_of s5
    simp [results,Tryz.results40,go_sem,q0,q1,q2,q3,q4,q5,r0,r1,r2,r3,r4,r5]
end Go.Proofs.YtcklddldejejcaaGreatDoor