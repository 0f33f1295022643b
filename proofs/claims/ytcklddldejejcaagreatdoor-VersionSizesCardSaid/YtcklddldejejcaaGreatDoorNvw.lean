/- Valid: the recursion over the items, which goes by a closure. -/
import Derived.Test.YtcklddldejejcaaGreatDoorJmap
set_option linter.unusedVariables false
set_option linter.unusedSimpArgs false
set_option maxHeartbeats 3200000
set_option maxRecDepth 100000
namespace Go.Proofs.YtcklddldejejcaaGreatDoor
open Go Go.ChangeShapes Go.WideShapes Go.ChangeAt Go.RowKit
def lowV:Nat→ND→Prop
 | 0,_=>True
 | d+1,x=>x.items.length≤1000000∧∀y,y ∈ x.items→lowV d y
theorem lowV_of_lowN:∀ {d:Nat} {x:ND},lowN d x→lowV d x
 | 0,_,_=>trivial
 | d+1,x,h=>⟨h.2.1,fun y hy=>lowV_of_lowN (h.2.2 y hy)⟩
def ValidAt (d:Nat):Prop:=∀ (D:Nat) (S:Nat→Prop) (cs:List Value) (x:ND) (w:World),NodeIn D S w cs x→(∀b,S b→b<w.heap.size)→lowV D x→Utab w→Calls Tryz.prog 74 #[.agg cs.toArray,.int .i64 (d:Int)] w fun e w'=>e=.returned (.bool (validN d x))∧Below w.heap.size w w'
theorem wrong_any {d:Nat} (HV:ValidAt d) (hd:d<100) (p:Nat) {D:Nat} {S:Nat→Prop} (cs:List Value) (y:ND) (w:World) (h:NodeIn D S w cs y) (hS:∀b,S b→b<w.heap.size) (hl:lowV D y) (hT:Utab w) (hp:p<w.heap.size) (hc:w.cell? ⟨p,0,none⟩=some (.int .i64 ((d:Int)+1))) :
 Calls Tryz.prog 119 #[.agg cs.toArray,.pointer (some ⟨p,0,none⟩)] w fun e w'=>e=.returned (.bool (!validN d y))∧Below w.heap.size w w':=by
 obtain ⟨a1,l1,c1,a2,l2,c2,rfl⟩:=h.slices
 have b1:=(Br w.heap.size w).alloc (o:=.cells #[.int .i64 y.kind,.bool y.bool,.int .i64 y.num,.string y.text,.slice a1 l1 c1,.slice a2 l2 c2] 28) (Lr _)
 have V:=Hh (HV D S _ y (w.alloc (.cells #[.int .i64 y.kind,.bool y.bool,.int .i64 y.num,.string y.text,.slice a1 l1 c1,.slice a2 l2 c2] 28)) (h.same fun b hb=>b1.block b (hS b hb)) (fun b hb=>Ll (hS b hb) b1.size) hl (hT.below b1))
 have hc1:=(b1.cell (p:=⟨p,0,none⟩) hp).trans hc
 have hpn:¬p=w.heap.size:=by omega
 have HB:=Hh b1
 have hd1:((d:Int)+1 - 1)=(d:Int):=by omega
 have hdw:IntKind.i64.wrap (d:Int)=(d:Int):=IntWalk.i64_in _ (by omega)
 generalize validN d y=vb at V ⊢
 clear h hS hl hT b1 HV
 go_enter Tryz.func119,Tryz.ntmps119
 go_wp2_with (go_at_call 74;(with_reducible refine (V.out).mono ?_);rintro e w2 ⟨rfl,hb2⟩)
 go_ret
 exact ⟨rfl,HB.out.trans (hb2.mono HB.out.size)⟩
def IdxPost (bad:Bool) (w:World) (e:Ending) (w':World):Prop:=∃z:Int,e=.returned (.int .i64 z)∧decide (0≤z)=bad∧Below w.heap.size w w'
theorem index_any {d:Nat} (HV:ValidAt d) (hd:d<100) (p:Nat) {D:Nat} {S:Nat→Prop} (v:Value) (its:List ND) (w:World) (h:NodesIn (NodeIn D S w) S w v its) (hS:∀b,S b→b<w.heap.size) (hl:∀y,y ∈ its→lowV D y) (hT:Utab w) (hp:p<w.heap.size) (hc:w.cell? ⟨p,0,none⟩=some (.int .i64 ((d:Int)+1))) :
 Calls Tryz.prog 167 #[v,.func (.func 119) #[] #[.pointer (some ⟨p,0,none⟩)]] w (IdxPost (!its.all (validN d)) w):=by
 obtain ⟨ao,cap,rfl,hc1,hc2,hc3⟩:=h
 have H:Hid (NodesIn (NodeIn D S w) S w (.slice ao its.length cap) its):=Hh ⟨ao,cap,rfl,hc1,hc2,hc3⟩
 unfold maxLen at hc2
 have HL:=Hh hl
 have HS:=Hh hS
 have HT:=Hh hT
 have HC:=Hh hc
 have HP:=Hh hp
 have HVV:=Hh HV
 clear hl hS hT hc hp hc3 HV
 go_enter Tryz.func167,Tryz.ntmps167
 go_wp2
 go_loopw [5,8] (fun i5 i wr=>∃j:Nat,i=.int .i64 j∧j≤its.length∧(∀y,y ∈ its.take j→validN d y=true)∧Below w.heap.size w wr) (fun _ i _=>its.length - (intOf i).toNat)
 case atStart=>exact ⟨0,rfl,Nat.zero_le _,(fun y hy=>by simp at hy),Br _ _⟩
 case round=>
  obtain ⟨j,rfl,hj,hok,hB⟩:=hrel
  by_cases hlt:j<its.length
  ·have hlt':(j:Int)<(its.length:Int):=by omega
   have hj0:(0:Int)≤(j:Int):=by omega
   obtain ⟨-,-,-,b,off,x,a1,l1,c1,a2,l2,c2,rfl,hSb,hx,hnd,k0,k1,k2,k3,k4,k5⟩:=H.out.at hlt
   have hbw:=HS.out b hSb
   have q0:=(hB.cell (p:=⟨b,off+j * 6,none⟩) hbw).trans k0
   have q1:=(hB.cell (p:=⟨b,off+j * 6+1,none⟩) hbw).trans k1
   have q2:=(hB.cell (p:=⟨b,off+j * 6+2,none⟩) hbw).trans k2
   have q3:=(hB.cell (p:=⟨b,off+j * 6+3,none⟩) hbw).trans k3
   have q4:=(hB.cell (p:=⟨b,off+j * 6+4,none⟩) hbw).trans k4
   have q5:=(hB.cell (p:=⟨b,off+j * 6+5,none⟩) hbw).trans k5
   clear k0 k1 k2 k3 k4 k5
   have W:=Hh (wrong_any HVV.out hd p _ x wr (hnd.same fun b hb=>hB.block b (HS.out b hb)) (fun b hb=>Ll (HS.out b hb) hB.size) (HL.out x (List.mem_of_getElem? hx)) (HT.out.below hB) (Ll HP.out hB.size) ((hB.cell (p:=⟨p,0,none⟩) HP.out).trans HC.out))
   have HX:=Hh hx
   have HOK:=Hh hok
   clear hx hok hnd
   cases hv:validN d x with
   | true=>
    rw [hv] at W
    have HV1:=Hh hv
    clear hv
    go_wp2_with (go_at_call 119;(with_reducible refine (W.out).mono ?_);rintro e w1 ⟨rfl,hb1⟩;(have hB1:=hB.trans (hb1.mono hB.size));clear hb1 hB)
    go_roundw
    case rel=>
     refine ⟨j+1,by go_num,by omega,fun y hy=>?_,hB1⟩
     rw [take_snocN HX.out] at hy
     rcases List.mem_append.1 hy with hy | hy
     ·exact HOK.out y hy
     ·cases List.mem_singleton.1 hy;exact HV1.out
    case measure=>simp [intOf];omega
   | false=>
    rw [hv] at W
    have HV1:=Hh hv
    clear hv
    go_wp2_with (go_at_call 119;(with_reducible refine (W.out).mono ?_);rintro e w1 ⟨rfl,hb1⟩;(have hB1:=hB.trans (hb1.mono hB.size));clear hb1 hB)
    go_ret
    have hall:its.all (validN d)=false:=by
     cases hq:its.all (validN d) with
     | false=>rfl
     | true=>
      have:=List.all_eq_true.1 hq x (List.mem_of_getElem? HX.out)
      rw [HV1.out] at this
      cases this
    exact ⟨(j:Int),rfl,by rw [hall,decide_eq_true (by omega)];rfl,hB1⟩
  ·have hlt':¬ (j:Int)<(its.length:Int):=by omega
   have hall:its.all (validN d)=true:=by
    rw [List.take_of_length_le (by omega)] at hok
    exact List.all_eq_true.2 hok
   have HA:=Hh hall
   clear hok hall
   go_wp2
   go_ret
   exact ⟨-1,rfl,by rw [HA.out];rfl,hB⟩
theorem contains_any {d:Nat} (HV:ValidAt d) (hd:d<100) (p:Nat) {D:Nat} {S:Nat→Prop} (v:Value) (its:List ND) (w:World) (h:NodesIn (NodeIn D S w) S w v its) (hS:∀b,S b→b<w.heap.size) (hl:∀y,y ∈ its→lowV D y) (hT:Utab w) (hp:p<w.heap.size) (hc:w.cell? ⟨p,0,none⟩=some (.int .i64 ((d:Int)+1))) :
 Calls Tryz.prog 120 #[v,.func (.func 119) #[] #[.pointer (some ⟨p,0,none⟩)]] w fun e w'=>e=.returned (.bool (!its.all (validN d)))∧Below w.heap.size w w':=by
 have I:=Hh (index_any HV hd p v its w h hS hl hT hp hc)
 generalize (!its.all (validN d))=bad at I ⊢
 clear h hS hl hT hp hc HV
 go_enter Tryz.func120,Tryz.ntmps120
 go_wp2_with (go_at_call 167;(with_reducible refine (I.out).mono ?_);rintro e w2 ⟨z,rfl,hz,hb2⟩)
 go_ret
 exact ⟨by first | rfl | (rw [←hz]),hb2⟩
theorem flat_eq (x:ND):flatOk x=(onlyB x.kind x.bool x.num x.text x.names.length x.items.length && (textOk x.text && (decide (x.items.length≤256) && (!decide (x.kind=5) || namesB x.names x.items.length)))):=by
 unfold flatOk onlyB namesB
 by_cases hk:x.kind=5
 ·simp [hk,Bool.and_assoc]
 ·by_cases hn:x.names.length=0
  ·have:x.names=[]:=List.length_eq_zero_iff.1 hn
   simp [hk,this,Bool.and_assoc]
  ·have:x.names ≠ []:=fun h=>hn (by rw [h];rfl)
   simp [hk,this]
theorem within_step {d:Nat} (HV:ValidAt d) (hd:d<100):ValidAt (d+1):=by
 intro D S cs x w h hS hl hT
 obtain ⟨a1,l1,c1,a2,l2,c2,rfl⟩:=h.slices
 cases D with
 | zero=>exact h.elim
 | succ D=>
 obtain ⟨vn,vi,e,ht,hns,his⟩:=h
 simp only [List.cons.injEq,and_true,true_and] at e
 obtain ⟨rfl,rfl⟩:=e
 obtain ⟨ai,ci,ei,hi1,hi2,hi3⟩:=id his
 have hl2:l2=x.items.length:=by cases ei;rfl
 clear hi3 ei
 obtain ⟨w1,hw1⟩:∃W,W=(w.alloc (.cells #[.int .i64 x.kind,.bool x.bool,.int .i64 x.num,.string x.text,.slice a1 l1 c1,.slice a2 l2 c2] 28)).alloc (.cells #[.int .i64 ((d:Int)+1)] 3):=⟨_,rfl⟩
 have hz:(w.alloc (.cells #[.int .i64 x.kind,.bool x.bool,.int .i64 x.num,.string x.text,.slice a1 l1 c1,.slice a2 l2 c2] 28)).heap.size=w.heap.size+1:=by simp
 have b1:Below w.heap.size w w1:=by rw [hw1];exact ((Br _ _).alloc (Lr _) _).alloc (by simp) _
 have hk1:w1.heap[w.heap.size]?=some (.cells #[.int .i64 x.kind,.bool x.bool,.int .i64 x.num,.string x.text,.slice a1 l1 c1,.slice a2 l2 c2] 28 (0,0)):=by rw [hw1];exact (Below.heap_alloc _ _ _ (by omega)).trans (Hn _ _)
 have hp1:w1.heap[w.heap.size+1]?=some (.cells #[.int .i64 ((d:Int)+1)] 3 (0,0)):=by rw [hw1,←hz];exact Hn _ _
 have cp:w1.cell? ⟨w.heap.size+1,0,none⟩=some (.int .i64 ((d:Int)+1)):=by simp [World.cell?,hp1]
 have hps:w.heap.size+1<w1.heap.size:=lt_of_block hp1
 have ck:=six_of hk1
 -- the contracts at whatever world stands behind
 have FO:=Hh (fun wx=>only_any x.kind x.bool x.num x.text a1 a2 l1 c1 l2 c2 wx)
 have FT:=Hh (fun (wx:World) (hb:Below w1.heap.size w1 wx)=>vtext_any x.text wx ht ((hT.below b1).below hb))
 have FN:=Hh (fun (wx:World) (hb:Below w1.heap.size w1 wx)=>vnames_any x.kind x.bool x.num x.text a1 a2 l1 c1 l2 c2 x.names wx (hns.same (w':=wx) fun b hb'=>(hb.block b (Ll (hS b hb') b1.size)).trans (b1.block b (hS b hb'))) (fun b hb'=>Ll (Ll (hS b hb') b1.size) hb.size) (by rw [hl2];exact hl.1) ((hT.below b1).below hb))
 have FC:=Hh (fun (wx:World) (hb:Below w1.heap.size w1 wx)=>contains_any HV hd (w.heap.size+1) (.slice a2 l2 c2) x.items wx (his.same (w':=wx) (R':=NodeIn D S wx) (fun b hb'=>(hb.block b (Ll (hS b hb') b1.size)).trans (b1.block b (hS b hb'))) fun cs y q=>q.same fun b hb'=>(hb.block b (Ll (hS b hb') b1.size)).trans (b1.block b (hS b hb'))) (fun b hb'=>Ll (Ll (hS b hb') b1.size) hb.size) hl.2 ((hT.below b1).below hb) (Ll hps hb.size) ((hb.cell (p:=⟨w.heap.size+1,0,none⟩) hps).trans cp))
 have FK:=Hh (fun (wx:World) (hb:Below w1.heap.size w1 wx)=>six_of ((hb.block _ (by omega:w.heap.size<w1.heap.size)).trans hk1))
 have hval:validN (d+1) x=(onlyB x.kind x.bool x.num x.text x.names.length x.items.length && (textOk x.text && (decide (x.items.length≤256) && (!decide (x.kind=5) || namesB x.names x.items.length))) && x.items.all (validN d)):=by rw [validN_succ,flat_eq]
 have hl1:l1=x.names.length:=by obtain ⟨_,_,e,_⟩:=hns;cases e;rfl
 have B1:=Hh b1
 have hcd:(((d+1:Nat):Int))=(d:Int)+1:=by omega
 have hmf:∀ (fn:Fn) (first cap:Array Value) (w:World),(Instr.makeFunc fn first cap).run Tryz.prog w=.ok (.func fn first cap) w:=fun _ _ _ _=>rfl
 rw [hcd,hval]
 rw [←hl1,←hl2]
 have hl2b:l2≤1000000:=by have:=hl.1;omega
 clear hval ht hns his hS hl hT HV hz hk1 hp1 hcd hl1 hl2 hi1
 generalize hA:onlyB x.kind x.bool x.num x.text l1 l2=bA at FO ⊢
 generalize hT':textOk x.text=bT at FT ⊢
 generalize hN:namesB x.names l2=bN at FN ⊢
 generalize hC:x.items.all (validN d)=bC at FC ⊢
 clear hA hT' hN hC
 have hdn:¬ (d:Int)+1<1:=by omega
 cases bA with
 | false=>
  go_enter Tryz.func74,Tryz.ntmps74
  go_upto_region 1 with fail
  rw [←hw1]
  clear hw1
  go_wp2_with ((go_at_call 116;(with_reducible refine (FO.out _).mono ?_);rintro e w2 ⟨rfl,hb2⟩;(have fk2:=FK.out w2 hb2);clear ck))
  go_ret
  exact ⟨rfl,B1.out.trans (hb2.mono B1.out.size)⟩
 | true=>
 cases bT with
 | false=>
  go_enter Tryz.func74,Tryz.ntmps74
  go_upto_region 1 with fail
  rw [←hw1]
  clear hw1
  go_wp2_with (first
   | (go_at_call 116;(with_reducible refine (FO.out _).mono ?_);rintro e w2 ⟨rfl,hb2⟩;(have fk2:=FK.out w2 hb2);clear ck)
   | (go_at_call 117;(with_reducible refine (FT.out _ hb2).mono ?_);rintro e w3 ⟨rfl,hb3'⟩;(have hb3:=hb2.trans (hb3'.mono hb2.size));(have fk3:=FK.out w3 hb3);clear fk2))
  go_ret
  exact ⟨rfl,B1.out.trans (hb3.mono B1.out.size)⟩
 | true=>
 by_cases h256:l2≤256
 ·have h256':¬ (256:Int)<(l2:Int):=by omega
  rw [decide_eq_true h256]
  by_cases hk5:x.kind=5
  ·rw [decide_eq_true hk5]
   have hkb:(x.kind == 5)=true:=by simp [hk5]
   have HK5:=Hh hk5
   clear hk5 h256
   cases bN with
   | false=>
    go_enter Tryz.func74,Tryz.ntmps74
    go_upto_region 1 with fail
    rw [←hw1]
    clear hw1
    go_wp2_with (first
   | (go_at_call 116;(with_reducible refine (FO.out _).mono ?_);rintro e w2 ⟨rfl,hb2⟩;(have fk2:=FK.out w2 hb2);clear ck)
   | (go_at_call 117;(with_reducible refine (FT.out _ hb2).mono ?_);rintro e w3 ⟨rfl,hb3'⟩;(have hb3:=hb2.trans (hb3'.mono hb2.size));(have fk3:=FK.out w3 hb3);clear fk2)
   | (go_at_call 118;(with_reducible refine (FN.out _ hb3).mono ?_);rintro e w4 ⟨rfl,hb4'⟩;(have hb4:=hb3.trans (hb4'.mono hb3.size));(have fk4:=FK.out w4 hb4);clear fk3))
    go_ret
    exact ⟨rfl,B1.out.trans (hb4.mono B1.out.size)⟩
   | true=>
    go_enter Tryz.func74,Tryz.ntmps74
    go_upto_region 1 with fail
    rw [←hw1]
    clear hw1
    go_wp2_with (first
   | (go_at_call 116;(with_reducible refine (FO.out _).mono ?_);rintro e w2 ⟨rfl,hb2⟩;(have fk2:=FK.out w2 hb2);clear ck)
   | (go_at_call 117;(with_reducible refine (FT.out _ hb2).mono ?_);rintro e w3 ⟨rfl,hb3'⟩;(have hb3:=hb2.trans (hb3'.mono hb2.size));(have fk3:=FK.out w3 hb3);clear fk2)
   | (go_at_call 118;(with_reducible refine (FN.out _ hb3).mono ?_);rintro e w4 ⟨rfl,hb4'⟩;(have hb4:=hb3.trans (hb4'.mono hb3.size));(have fk4:=FK.out w4 hb4);clear fk3)
   | (go_at_call 120;(with_reducible refine (FC.out _ hb4).mono ?_);rintro e w5 ⟨rfl,hb5'⟩;(have hb5:=hb4.trans (hb5'.mono hb4.size))))
    go_ret
    exact ⟨by simp,B1.out.trans (hb5.mono B1.out.size)⟩
  ·rw [decide_eq_false hk5]
   have hkb:(x.kind == 5)=false:=by simp [hk5]
   have HK5:=Hh hk5
   clear hk5 h256
   go_enter Tryz.func74,Tryz.ntmps74
   go_upto_region 1 with fail
   rw [←hw1]
   clear hw1
   go_wp2_with (first
   | (go_at_call 116;(with_reducible refine (FO.out _).mono ?_);rintro e w2 ⟨rfl,hb2⟩;(have fk2:=FK.out w2 hb2);clear ck)
   | (go_at_call 117;(with_reducible refine (FT.out _ hb2).mono ?_);rintro e w3 ⟨rfl,hb3'⟩;(have hb3:=hb2.trans (hb3'.mono hb2.size));(have fk3:=FK.out w3 hb3);clear fk2)
   | (go_at_call 120;(with_reducible refine (FC.out _ hb3).mono ?_);rintro e w5 ⟨rfl,hb5'⟩;(have hb5:=hb3.trans (hb5'.mono hb3.size))))
   go_ret
   exact ⟨by simp,B1.out.trans (hb5.mono B1.out.size)⟩
 ·have h256':(256:Int)<(l2:Int):=by omega
  rw [decide_eq_false h256]
  clear h256
  go_enter Tryz.func74,Tryz.ntmps74
  go_upto_region 1 with fail
  rw [←hw1]
  clear hw1
  go_wp2_with (first
   | (go_at_call 116;(with_reducible refine (FO.out _).mono ?_);rintro e w2 ⟨rfl,hb2⟩;(have fk2:=FK.out w2 hb2);clear ck)
   | (go_at_call 117;(with_reducible refine (FT.out _ hb2).mono ?_);rintro e w3 ⟨rfl,hb3'⟩;(have hb3:=hb2.trans (hb3'.mono hb2.size));(have fk3:=FK.out w3 hb3);clear fk2))
  go_ret
  exact ⟨rfl,B1.out.trans (hb3.mono B1.out.size)⟩
theorem within_zero:ValidAt 0:=by
 intro D S cs x w h hS hl hT
 obtain ⟨a1,l1,c1,a2,l2,c2,rfl⟩:=h.slices
 clear h hS hl hT
 go_enter Tryz.func74,Tryz.ntmps74
 go_wp2
 go_ret
 exact ⟨rfl,((Br _ _).alloc (Lr _) _).alloc (by simp) _⟩
theorem within_any:∀d,d<100→ValidAt d
 | 0,_=>within_zero
 | d+1,h=>within_step (within_any d (by omega)) (by omega)
theorem isvalidV_any {D:Nat} {S:Nat→Prop} (cs:List Value) (x:ND) (w:World) (h:NodeIn D S w cs x) (hS:∀b,S b→b<w.heap.size) (hl:lowV D x) (hT:Utab w):Calls Tryz.prog 38 #[.agg cs.toArray] w fun e w'=>e=.returned (.bool (validN 8 x))∧Below w.heap.size w w':=by
 obtain ⟨a1,l1,c1,a2,l2,c2,rfl⟩:=h.slices
 have b1:=(Br w.heap.size w).alloc (o:=.cells #[.int .i64 x.kind,.bool x.bool,.int .i64 x.num,.string x.text,.slice a1 l1 c1,.slice a2 l2 c2] 28) (Lr _)
 have V:=Hh (within_any 8 (by decide) D S _ x (w.alloc (.cells #[.int .i64 x.kind,.bool x.bool,.int .i64 x.num,.string x.text,.slice a1 l1 c1,.slice a2 l2 c2] 28)) (h.same fun b hb=>b1.block b (hS b hb)) (fun b hb=>Ll (hS b hb) b1.size) hl (hT.below b1))
 rw [show ((8:Nat):Int)=8 from rfl] at V
 have HB:=Hh b1
 generalize validN 8 x=vb at V ⊢
 clear h hS hl hT b1
 go_enter Tryz.func38,Tryz.ntmps38
 go_wp2_with (go_at_call 74;(with_reducible refine (V.out).mono ?_);rintro e w2 ⟨rfl,hb2⟩)
 go_ret
 exact ⟨rfl,HB.out.trans (hb2.mono HB.out.size)⟩
theorem isvalid_any {D:Nat} {S:Nat→Prop} (cs:List Value) (x:ND) (w:World) (h:NodeIn D S w cs x) (hS:∀b,S b→b<w.heap.size) (hl:lowN D x) (hT:Utab w):Calls Tryz.prog 38 #[.agg cs.toArray] w fun e w'=>e=.returned (.bool (validN 8 x))∧Below w.heap.size w w':=isvalidV_any cs x w h hS (lowV_of_lowN hl) hT
end Go.Proofs.YtcklddldejejcaaGreatDoor