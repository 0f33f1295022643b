/- The program's Head; the head of a node. -/
import Derived.Test.YtcklddldejejcaaGreatDoorCen
import Derived.Test.YtcklddldejejcaaGreatDoorCph
set_option linter.unusedVariables false
set_option linter.unusedSimpArgs false
set_option maxHeartbeats 3200000
set_option maxRecDepth 100000
namespace Go.Proofs.YtcklddldejejcaaGreatDoor
open Go Go.ChangeShapes Go.WideShapes Go.ChangeAt Go.RowKit
def headV7 (x:ND):Value:=.agg #[.int .i64 (cMaj x:Int),.int .u64 (cCnt x:Int)]
theorem headOf_any {D d:Nat} {S:Nat→Prop} (cs:List Value) (x:ND) (w:World) (h:NodeIn D S w cs x) (hv:validN (d+1) x=true) (hn:numsB (d+1) x=true):Calls Tryz.prog 222 #[.agg cs.toArray] w fun e w'=>e=.returned (headV7 x)∧Below w.heap.size w w':=by
 have hnl:=numsB_parts hn
 have hvl:=validN_parts hv
 cases D with
 | zero=>exact h.elim
 | succ D=>
 obtain ⟨vn,vi,e,ht,⟨an,cn,en,hn1,hn2,-⟩,⟨ai,ci,ei,hi1,hi2,-⟩⟩:=h
 subst en ei e
 have hk:=kinds hv
 obtain ⟨k,b,n,t,ns,its⟩:=x
 have hmost:=hvl.2.1
 have htsz:=textOk_size hvl.2.2.1
 have htl:t.data.toList.length=t.size:=by rw [Array.length_toList];rfl
 obtain ⟨hwn,-⟩:=hnl
 unfold wideI at hwn
 rw [Bool.and_eq_true,decide_eq_true_eq,decide_eq_true_eq] at hwn
 simp only [ND.kind,ND.bool,ND.num,ND.text,ND.names,ND.items,nd0,ND.mk.injEq,true_and,and_true] at hk ht hmost htsz hwn hn1 hn2 hi1 hi2 ⊢
 clear hvl hv hn
 rcases hk with ⟨rfl,rfl,rfl,rfl,rfl,rfl⟩ | ⟨rfl,rfl,rfl,rfl,rfl⟩ | ⟨rfl,rfl,rfl,rfl,rfl⟩ | ⟨rfl,rfl,rfl,rfl,rfl⟩ | ⟨rfl,rfl,rfl,rfl,rfl⟩ | ⟨⟨rfl,rfl,rfl,rfl⟩,hlen2⟩
 ·rw [show headV7 (.mk 0 false 0 ⟨#[]⟩ [] [])=.agg #[.int .i64 7,.int .u64 22] from rfl]
  clear hmost htsz htl hwn ht
  simp only [List.length_nil] at *
  have b1:=((Br w.heap.size w).alloc (o:=.cells #[.int .i64 0,.bool false,.int .i64 0,.string ⟨#[]⟩,.slice an 0 cn,.slice ai 0 ci] 28) (Lr _)).alloc (o:=.cells #[.int .i64 0,.int .u64 0] 247) (by simp)
  have k2:=Hn (w.alloc (.cells #[.int .i64 0,.bool false,.int .i64 0,.string ⟨#[]⟩,.slice an 0 cn,.slice ai 0 ci] 28)) (.cells #[.int .i64 0,.int .u64 0] 247)
  have k1:=((Br (w.heap.size+1) (w.alloc (.cells #[.int .i64 0,.bool false,.int .i64 0,.string ⟨#[]⟩,.slice an 0 cn,.slice ai 0 ci] 28))).alloc (o:=.cells #[.int .i64 0,.int .u64 0] 247) (by simp)).block w.heap.size (by omega) |>.trans (Hn w (.cells #[.int .i64 0,.bool false,.int .i64 0,.string ⟨#[]⟩,.slice an 0 cn,.slice ai 0 ci] 28))
  rw [World.size_alloc] at k2
  go_enter Tryz.func222,Tryz.ntmps222
  go_upto_region 1 with fail
  generalize (w.alloc (.cells #[.int .i64 0,.bool false,.int .i64 0,.string ⟨#[]⟩,.slice an 0 cn,.slice ai 0 ci] 28)).alloc (.cells #[.int .i64 0,.int .u64 0] 247)=w2 at b1 k1 k2 ⊢
  have c1:=six_of k1
  have f2:=free_two k2
  have c2:=two_of k2
  go_wp2
  refine bodyPost_ret (v:=.agg #[.int .i64 7,.int .u64 22]) ?_ ?_ ?_
  rotate_left
  ·rfl
  ·exact ⟨rfl,(b1.setCell (by simp) _).setCell (by simp) _⟩
  ·have q:=two_put k2 (.int .i64 7) (.int .u64 22)
   have q0:=q.1
   have q1:=q.2
   simp [results,Tryz.results222,go_sem,q0,q1]
 ·clear hmost htsz htl hwn ht
  simp only [List.length_nil] at *
  cases b
  ·rw [show headV7 (.mk 1 false 0 ⟨#[]⟩ [] [])=.agg #[.int .i64 7,.int .u64 20] from rfl]
   have b1:=((Br w.heap.size w).alloc (o:=.cells #[.int .i64 1,.bool false,.int .i64 0,.string ⟨#[]⟩,.slice an 0 cn,.slice ai 0 ci] 28) (Lr _)).alloc (o:=.cells #[.int .i64 0,.int .u64 0] 247) (by simp)
   have k2:=Hn (w.alloc (.cells #[.int .i64 1,.bool false,.int .i64 0,.string ⟨#[]⟩,.slice an 0 cn,.slice ai 0 ci] 28)) (.cells #[.int .i64 0,.int .u64 0] 247)
   have k1:=((Br (w.heap.size+1) (w.alloc (.cells #[.int .i64 1,.bool false,.int .i64 0,.string ⟨#[]⟩,.slice an 0 cn,.slice ai 0 ci] 28))).alloc (o:=.cells #[.int .i64 0,.int .u64 0] 247) (by simp)).block w.heap.size (by omega) |>.trans (Hn w (.cells #[.int .i64 1,.bool false,.int .i64 0,.string ⟨#[]⟩,.slice an 0 cn,.slice ai 0 ci] 28))
   rw [World.size_alloc] at k2
   go_enter Tryz.func222,Tryz.ntmps222
   go_upto_region 1 with fail
   generalize (w.alloc (.cells #[.int .i64 1,.bool false,.int .i64 0,.string ⟨#[]⟩,.slice an 0 cn,.slice ai 0 ci] 28)).alloc (.cells #[.int .i64 0,.int .u64 0] 247)=w2 at b1 k1 k2 ⊢
   have c1:=six_of k1
   have f2:=free_two k2
   have c2:=two_of k2
   go_wp2
   refine bodyPost_ret (v:=.agg #[.int .i64 7,.int .u64 20]) ?_ ?_ ?_
   rotate_left
   ·rfl
   ·exact ⟨rfl,(b1.setCell (by simp) _).setCell (by simp) _⟩
   ·have q:=two_put k2 (.int .i64 7) (.int .u64 20)
    have q0:=q.1
    have q1:=q.2
    simp [results,Tryz.results222,go_sem,q0,q1]
  ·rw [show headV7 (.mk 1 true 0 ⟨#[]⟩ [] [])=.agg #[.int .i64 7,.int .u64 21] from rfl]
   have b1:=((Br w.heap.size w).alloc (o:=.cells #[.int .i64 1,.bool true,.int .i64 0,.string ⟨#[]⟩,.slice an 0 cn,.slice ai 0 ci] 28) (Lr _)).alloc (o:=.cells #[.int .i64 0,.int .u64 0] 247) (by simp)
   have k2:=Hn (w.alloc (.cells #[.int .i64 1,.bool true,.int .i64 0,.string ⟨#[]⟩,.slice an 0 cn,.slice ai 0 ci] 28)) (.cells #[.int .i64 0,.int .u64 0] 247)
   have k1:=((Br (w.heap.size+1) (w.alloc (.cells #[.int .i64 1,.bool true,.int .i64 0,.string ⟨#[]⟩,.slice an 0 cn,.slice ai 0 ci] 28))).alloc (o:=.cells #[.int .i64 0,.int .u64 0] 247) (by simp)).block w.heap.size (by omega) |>.trans (Hn w (.cells #[.int .i64 1,.bool true,.int .i64 0,.string ⟨#[]⟩,.slice an 0 cn,.slice ai 0 ci] 28))
   rw [World.size_alloc] at k2
   go_enter Tryz.func222,Tryz.ntmps222
   go_upto_region 1 with fail
   generalize (w.alloc (.cells #[.int .i64 1,.bool true,.int .i64 0,.string ⟨#[]⟩,.slice an 0 cn,.slice ai 0 ci] 28)).alloc (.cells #[.int .i64 0,.int .u64 0] 247)=w2 at b1 k1 k2 ⊢
   have c1:=six_of k1
   have f2:=free_two k2
   have c2:=two_of k2
   go_wp2
   refine bodyPost_ret (v:=.agg #[.int .i64 7,.int .u64 21]) ?_ ?_ ?_
   rotate_left
   ·rfl
   ·exact ⟨rfl,(b1.setCell (by simp) _).setCell (by simp) _⟩
   ·have q:=two_put k2 (.int .i64 7) (.int .u64 21)
    have q0:=q.1
    have q1:=q.2
    simp [results,Tryz.results222,go_sem,q0,q1]
 ·clear hmost htsz htl ht
  simp only [List.length_nil] at *
  by_cases hneg:n<0
  ·have hw1:IntKind.i64.wrap (-1 - n)=-1 - n:=IntWalk.i64_in _ (by omega)
   have hw2:IntKind.u64.wrap (-1 - n)=-1 - n:=by rw [IntKind.wrap_u64];omega
   rw [show headV7 (.mk 2 false n ⟨#[]⟩ [] [])=.agg #[.int .i64 1,.int .u64 (-1 - n)] by
    unfold headV7 cMaj cCnt
    simp only [ND.kind,ND.num,ND.bool]
    simp [hneg]
    omega]
   clear hwn
   have b1:=((Br w.heap.size w).alloc (o:=.cells #[.int .i64 2,.bool false,.int .i64 n,.string ⟨#[]⟩,.slice an 0 cn,.slice ai 0 ci] 28) (Lr _)).alloc (o:=.cells #[.int .i64 0,.int .u64 0] 247) (by simp)
   have k2:=Hn (w.alloc (.cells #[.int .i64 2,.bool false,.int .i64 n,.string ⟨#[]⟩,.slice an 0 cn,.slice ai 0 ci] 28)) (.cells #[.int .i64 0,.int .u64 0] 247)
   have k1:=((Br (w.heap.size+1) (w.alloc (.cells #[.int .i64 2,.bool false,.int .i64 n,.string ⟨#[]⟩,.slice an 0 cn,.slice ai 0 ci] 28))).alloc (o:=.cells #[.int .i64 0,.int .u64 0] 247) (by simp)).block w.heap.size (by omega) |>.trans (Hn w (.cells #[.int .i64 2,.bool false,.int .i64 n,.string ⟨#[]⟩,.slice an 0 cn,.slice ai 0 ci] 28))
   rw [World.size_alloc] at k2
   go_enter Tryz.func222,Tryz.ntmps222
   go_upto_region 1 with fail
   generalize (w.alloc (.cells #[.int .i64 2,.bool false,.int .i64 n,.string ⟨#[]⟩,.slice an 0 cn,.slice ai 0 ci] 28)).alloc (.cells #[.int .i64 0,.int .u64 0] 247)=w2 at b1 k1 k2 ⊢
   have c1:=six_of k1
   have f2:=free_two k2
   have c2:=two_of k2
   go_wp2
   refine bodyPost_ret (v:=.agg #[.int .i64 1,.int .u64 (-1 - n)]) ?_ ?_ ?_
   rotate_left
   ·rfl
   ·exact ⟨rfl,(b1.setCell (by simp) _).setCell (by simp) _⟩
   ·have q:=two_put k2 (.int .i64 1) (.int .u64 (-1 - n))
    have q0:=q.1
    have q1:=q.2
    simp [results,Tryz.results222,go_sem,q0,q1]
  ·have hw2:IntKind.u64.wrap n=n:=by rw [IntKind.wrap_u64];omega
   rw [show headV7 (.mk 2 false n ⟨#[]⟩ [] [])=.agg #[.int .i64 0,.int .u64 n] by
    unfold headV7 cMaj cCnt
    simp only [ND.kind,ND.num,ND.bool]
    simp [hneg]
    omega]
   clear hwn
   have b1:=((Br w.heap.size w).alloc (o:=.cells #[.int .i64 2,.bool false,.int .i64 n,.string ⟨#[]⟩,.slice an 0 cn,.slice ai 0 ci] 28) (Lr _)).alloc (o:=.cells #[.int .i64 0,.int .u64 0] 247) (by simp)
   have k2:=Hn (w.alloc (.cells #[.int .i64 2,.bool false,.int .i64 n,.string ⟨#[]⟩,.slice an 0 cn,.slice ai 0 ci] 28)) (.cells #[.int .i64 0,.int .u64 0] 247)
   have k1:=((Br (w.heap.size+1) (w.alloc (.cells #[.int .i64 2,.bool false,.int .i64 n,.string ⟨#[]⟩,.slice an 0 cn,.slice ai 0 ci] 28))).alloc (o:=.cells #[.int .i64 0,.int .u64 0] 247) (by simp)).block w.heap.size (by omega) |>.trans (Hn w (.cells #[.int .i64 2,.bool false,.int .i64 n,.string ⟨#[]⟩,.slice an 0 cn,.slice ai 0 ci] 28))
   rw [World.size_alloc] at k2
   go_enter Tryz.func222,Tryz.ntmps222
   go_upto_region 1 with fail
   generalize (w.alloc (.cells #[.int .i64 2,.bool false,.int .i64 n,.string ⟨#[]⟩,.slice an 0 cn,.slice ai 0 ci] 28)).alloc (.cells #[.int .i64 0,.int .u64 0] 247)=w2 at b1 k1 k2 ⊢
   have c1:=six_of k1
   have f2:=free_two k2
   have c2:=two_of k2
   go_wp2
   refine bodyPost_ret (v:=.agg #[.int .i64 0,.int .u64 n]) ?_ ?_ ?_
   rotate_left
   ·rfl
   ·exact ⟨rfl,(b1.setCell (by simp) _).setCell (by simp) _⟩
   ·have q:=two_put k2 (.int .i64 0) (.int .u64 n)
    have q0:=q.1
    have q1:=q.2
    simp [results,Tryz.results222,go_sem,q0,q1]
 ·clear hmost hwn
  simp only [List.length_nil] at *
  have hw2:IntKind.u64.wrap (t.size:Int)=(t.size:Int):=by rw [IntKind.wrap_u64];omega
  rw [show headV7 (.mk 3 false 0 t [] [])=.agg #[.int .i64 3,.int .u64 (t.size:Int)] from rfl]
  clear htsz htl ht
  have b1:=((Br w.heap.size w).alloc (o:=.cells #[.int .i64 3,.bool false,.int .i64 0,.string t,.slice an 0 cn,.slice ai 0 ci] 28) (Lr _)).alloc (o:=.cells #[.int .i64 0,.int .u64 0] 247) (by simp)
  have k2:=Hn (w.alloc (.cells #[.int .i64 3,.bool false,.int .i64 0,.string t,.slice an 0 cn,.slice ai 0 ci] 28)) (.cells #[.int .i64 0,.int .u64 0] 247)
  have k1:=((Br (w.heap.size+1) (w.alloc (.cells #[.int .i64 3,.bool false,.int .i64 0,.string t,.slice an 0 cn,.slice ai 0 ci] 28))).alloc (o:=.cells #[.int .i64 0,.int .u64 0] 247) (by simp)).block w.heap.size (by omega) |>.trans (Hn w (.cells #[.int .i64 3,.bool false,.int .i64 0,.string t,.slice an 0 cn,.slice ai 0 ci] 28))
  rw [World.size_alloc] at k2
  go_enter Tryz.func222,Tryz.ntmps222
  go_upto_region 1 with fail
  generalize (w.alloc (.cells #[.int .i64 3,.bool false,.int .i64 0,.string t,.slice an 0 cn,.slice ai 0 ci] 28)).alloc (.cells #[.int .i64 0,.int .u64 0] 247)=w2 at b1 k1 k2 ⊢
  have c1:=six_of k1
  have f2:=free_two k2
  have c2:=two_of k2
  go_wp2
  refine bodyPost_ret (v:=.agg #[.int .i64 3,.int .u64 (t.size:Int)]) ?_ ?_ ?_
  rotate_left
  ·rfl
  ·exact ⟨rfl,(b1.setCell (by simp) _).setCell (by simp) _⟩
  ·have q:=two_put k2 (.int .i64 3) (.int .u64 (t.size:Int))
   have q0:=q.1
   have q1:=q.2
   simp [results,Tryz.results222,go_sem,q0,q1]
 ·clear htsz htl hwn ht
  simp only [List.length_nil] at hn1 hn2 ⊢
  have hw2:IntKind.u64.wrap (its.length:Int)=(its.length:Int):=by rw [IntKind.wrap_u64];omega
  rw [show headV7 (.mk 4 false 0 ⟨#[]⟩ [] its)=.agg #[.int .i64 4,.int .u64 (its.length:Int)] from rfl]
  clear hmost
  have b1:=((Br w.heap.size w).alloc (o:=.cells #[.int .i64 4,.bool false,.int .i64 0,.string ⟨#[]⟩,.slice an 0 cn,.slice ai its.length ci] 28) (Lr _)).alloc (o:=.cells #[.int .i64 0,.int .u64 0] 247) (by simp)
  have k2:=Hn (w.alloc (.cells #[.int .i64 4,.bool false,.int .i64 0,.string ⟨#[]⟩,.slice an 0 cn,.slice ai its.length ci] 28)) (.cells #[.int .i64 0,.int .u64 0] 247)
  have k1:=((Br (w.heap.size+1) (w.alloc (.cells #[.int .i64 4,.bool false,.int .i64 0,.string ⟨#[]⟩,.slice an 0 cn,.slice ai its.length ci] 28))).alloc (o:=.cells #[.int .i64 0,.int .u64 0] 247) (by simp)).block w.heap.size (by omega) |>.trans (Hn w (.cells #[.int .i64 4,.bool false,.int .i64 0,.string ⟨#[]⟩,.slice an 0 cn,.slice ai its.length ci] 28))
  rw [World.size_alloc] at k2
  go_enter Tryz.func222,Tryz.ntmps222
  go_upto_region 1 with fail
  generalize (w.alloc (.cells #[.int .i64 4,.bool false,.int .i64 0,.string ⟨#[]⟩,.slice an 0 cn,.slice ai its.length ci] 28)).alloc (.cells #[.int .i64 0,.int .u64 0] 247)=w2 at b1 k1 k2 ⊢
  have c1:=six_of k1
  have f2:=free_two k2
  have c2:=two_of k2
  go_wp2
  refine bodyPost_ret (v:=.agg #[.int .i64 4,.int .u64 (its.length:Int)]) ?_ ?_ ?_
  rotate_left
  ·rfl
  ·exact ⟨rfl,(b1.setCell (by simp) _).setCell (by simp) _⟩
  ·have q:=two_put k2 (.int .i64 4) (.int .u64 (its.length:Int))
   have q0:=q.1
   have q1:=q.2
   simp [results,Tryz.results222,go_sem,q0,q1]
 ·clear htsz htl hwn ht
  have hw2:IntKind.u64.wrap (its.length:Int)=(its.length:Int):=by rw [IntKind.wrap_u64];omega
  rw [show headV7 (.mk 5 false 0 ⟨#[]⟩ ns its)=.agg #[.int .i64 5,.int .u64 (its.length:Int)] from rfl]
  clear hmost hlen2
  have b1:=((Br w.heap.size w).alloc (o:=.cells #[.int .i64 5,.bool false,.int .i64 0,.string ⟨#[]⟩,.slice an ns.length cn,.slice ai its.length ci] 28) (Lr _)).alloc (o:=.cells #[.int .i64 0,.int .u64 0] 247) (by simp)
  have k2:=Hn (w.alloc (.cells #[.int .i64 5,.bool false,.int .i64 0,.string ⟨#[]⟩,.slice an ns.length cn,.slice ai its.length ci] 28)) (.cells #[.int .i64 0,.int .u64 0] 247)
  have k1:=((Br (w.heap.size+1) (w.alloc (.cells #[.int .i64 5,.bool false,.int .i64 0,.string ⟨#[]⟩,.slice an ns.length cn,.slice ai its.length ci] 28))).alloc (o:=.cells #[.int .i64 0,.int .u64 0] 247) (by simp)).block w.heap.size (by omega) |>.trans (Hn w (.cells #[.int .i64 5,.bool false,.int .i64 0,.string ⟨#[]⟩,.slice an ns.length cn,.slice ai its.length ci] 28))
  rw [World.size_alloc] at k2
  go_enter Tryz.func222,Tryz.ntmps222
  go_upto_region 1 with fail
  generalize (w.alloc (.cells #[.int .i64 5,.bool false,.int .i64 0,.string ⟨#[]⟩,.slice an ns.length cn,.slice ai its.length ci] 28)).alloc (.cells #[.int .i64 0,.int .u64 0] 247)=w2 at b1 k1 k2 ⊢
  have c1:=six_of k1
  have f2:=free_two k2
  have c2:=two_of k2
  go_wp2
  refine bodyPost_ret (v:=.agg #[.int .i64 5,.int .u64 (its.length:Int)]) ?_ ?_ ?_
  rotate_left
  ·rfl
  ·exact ⟨rfl,(b1.setCell (by simp) _).setCell (by simp) _⟩
  ·have q:=two_put k2 (.int .i64 5) (.int .u64 (its.length:Int))
   have q0:=q.1
   have q1:=q.2
   simp [results,Tryz.results222,go_sem,q0,q1]
def txC (s:ByteArray):ND:=.mk 3 false 0 s [] []
def partsN (x:ND):List ND:=if x.kind=5 then (List.zipWith (fun s y=>[txC s,y]) x.names x.items).flatten else x.items
theorem zip_parts {W V:ND→List UInt8} {f:ByteArray→List UInt8} (h1:∀s,V (txC s)=f s):∀ (ns:List ByteArray) (its:List ND),(∀y,y ∈ its→V y=W y)→((List.zipWith (fun s y=>[txC s,y]) ns its).flatten).flatMap V=(List.zipWith (fun s y=>f s++W y) ns its).flatten
 | [],_,_=>rfl
 | s::t,[],_=>rfl
 | s::t,y::u,h=>by
  rw [List.zipWith_cons_cons,List.zipWith_cons_cons,List.flatten_cons,List.flatten_cons,List.flatMap_append,zip_parts h1 t u (fun z hz=>h z (by simp [hz]))]
  simp [h1,h y (by simp)]
theorem writeC_txC (d:Nat) (s:ByteArray):writeC (d+1) (txC s)=cText s:=by rw [writeC_succ];rfl
theorem writeC_parts {d:Nat} {x:ND} (h:validN (d+1) x=true):writeC (d+1) x=headL (cMaj x) (cCnt x)++x.text.data.toList++(partsN x).flatMap (writeC d):=by
 obtain ⟨hi,-,-,-⟩:=validN_parts h
 have hk:=kinds h
 rw [writeC_succ,List.append_assoc]
 congr 1
 unfold bodyC partsN
 obtain ⟨k,b,n,t,ns,its⟩:=x
 unfold nd0 at hk
 simp only [ND.mk.injEq,ND.kind,ND.bool,ND.num,ND.text,ND.names,ND.items] at *
 rcases hk with ⟨rfl,rfl,rfl,rfl,rfl,rfl⟩ | ⟨rfl,-,rfl,rfl,rfl,rfl⟩ | ⟨rfl,rfl,-,rfl,rfl,rfl⟩ | ⟨rfl,rfl,rfl,-,rfl,rfl⟩ | ⟨rfl,rfl,rfl,rfl,rfl,-⟩ | ⟨⟨rfl,rfl,rfl,rfl,-,-⟩,hlx⟩
 ·rfl
 ·rfl
 ·rfl
 ·simp
 ·simp
 ·simp only [Int.reduceEq,if_false,if_true,↓reduceIte]
  cases d with
  | zero=>
   have:its=[]:=by
    cases its with
    | nil=>rfl
    | cons y u=>have:=hi y (by simp);cases this
   subst this
   have hns:ns=[]:=List.length_eq_zero_iff.1 hlx
   subst hns
   rfl
  | succ d=>
   rw [zip_parts (W:=writeC (d+1)) (writeC_txC d) ns its (fun _ _=>rfl)]
   rfl
theorem parts_len_le (x:ND) (hl:x.items.length≤256):(partsN x).length≤512:=by
 unfold partsN
 split
 ·have:∀ (ns:List ByteArray) (its:List ND),((List.zipWith (fun s y=>[txC s,y]) ns its).flatten).length≤2 * its.length:=by
   intro ns
   induction ns with
   | nil=>intro its;simp
   | cons s t ih=>
    intro its
    cases its with
    | nil=>simp
    | cons y u=>
     rw [List.zipWith_cons_cons,List.flatten_cons,Lg,List.length_cons]
     have:=ih u
     simp at *
     omega
  have:=this x.names x.items
  omega
 ·omega
theorem zip_take:∀ (ns:List ByteArray) (its:List ND) (j:Nat) (s:ByteArray) (y:ND),ns[j]?=some s→its[j]?=some y →
 ((List.zipWith (fun s y=>[txC s,y]) ns its).flatten).take (2 * j+1)=((List.zipWith (fun s y=>[txC s,y]) ns its).flatten).take (2 * j)++[txC s] ∧
 ((List.zipWith (fun s y=>[txC s,y]) ns its).flatten).take (2 * (j+1))=((List.zipWith (fun s y=>[txC s,y]) ns its).flatten).take (2 * j)++[txC s]++[y]
 | [],_,_,_,_,h,_=>by simp at h
 | _::_,[],_,_,_,_,h=>by simp at h
 | s0::t,y0::u,0,s,y,h1,h2=>by
  cases h1;cases h2
  exact ⟨rfl,rfl⟩
 | s0::t,y0::u,j+1,s,y,h1,h2=>by
  obtain ⟨e1,e2⟩:=zip_take t u j s y h1 h2
  rw [List.zipWith_cons_cons,List.flatten_cons,List.cons_append,List.cons_append,List.nil_append]
  refine ⟨?_,?_⟩
  ·rw [show 2 * (j+1)+1=(2 * j+1)+1+1 by omega,show 2 * (j+1)=2 * j+1+1 by omega,List.take_succ_cons,List.take_succ_cons,List.take_succ_cons,List.take_succ_cons,e1]
   rfl
  ·rw [show 2 * (j+1+1)=2 * (j+1)+1+1 by omega,show 2 * (j+1)=2 * j+1+1 by omega,List.take_succ_cons,List.take_succ_cons,List.take_succ_cons,List.take_succ_cons,show 2 * j+1+1=2 * (j+1) by omega,e2]
   rfl
theorem twc:213 ≠ 5:=by decide
theorem tnu:(28:TypeId) ≠ 5:=by decide
abbrev WScC:=WSc 213 5
abbrev KpC:=KpW 5
theorem cexc_any {B g:Nat} {l:List UInt8} (w:World) (h:WScC B w g l):Calls Tryz.prog 199 #[.pointer (some ⟨g,0,none⟩)] w fun e w'=>e=.returned (.bool (decide (65536<l.length)))∧w=w':=by
 obtain ⟨v,h1,h2,-⟩:=h
 have c0:w.cell? ⟨g,0,none⟩=some v:=cell_blk h1 rfl
 obtain ⟨ao,cap,rfl,-,-⟩:=wown_form h2
 clear h1 h2
 by_cases hl:65536<l.length
 ·have hl':(65536:Int)<(l.length:Int):=by omega
  rw [decide_eq_true hl]
  go_enter Tryz.func199,Tryz.ntmps199
  go_wp2
  go_ret
  exact ⟨rfl,rfl⟩
 ·have hl':¬ (65536:Int)<(l.length:Int):=by omega
  rw [decide_eq_false hl]
  go_enter Tryz.func199,Tryz.ntmps199
  go_wp2
  go_ret
  exact ⟨by first | rfl | (refine congrArg (fun q=>Ending.returned (Value.bool q)) ?_;simp;omega),rfl⟩
theorem cparts_any {a1 a2:Option Addr} {k n:Int} {b:Bool} {t:ByteArray} {l1 c1 l2 c2:Nat} (w:World):Calls Tryz.prog 224 #[.agg #[.int .i64 k,.bool b,.int .i64 n,.string t,.slice a1 l1 c1,.slice a2 l2 c2]] w fun e w'=>e=.returned (.func (.func 247) #[] #[.pointer (some ⟨w.heap.size,0,none⟩)])∧w'=w.alloc (.cells #[.int .i64 k,.bool b,.int .i64 n,.string t,.slice a1 l1 c1,.slice a2 l2 c2] 28):=by
 go_enter Tryz.func224,Tryz.ntmps224
 go_wp2
 go_ret
 exact ⟨rfl,rfl⟩
end Go.Proofs.YtcklddldejejcaaGreatDoor