/- Copies of nodes: the program's own (copiedTexts, copiedItems, copied) and the document's (Copy). -/
import Derived.Test.YtdppdonaojdceaaGreatDoorNmap
import Derived.Maps.AppendAt
import Derived.BigFrame
import Derived.Laws.EntriesVeiled
set_option linter.unusedVariables false
set_option linter.unusedSimpArgs false
set_option maxRecDepth 100000
set_option maxHeartbeats 3200000
namespace Go.Proofs.YtdppdonaojdceaaGreatDoor
open Go Go.ChangeShapes Go.WideShapes Go.ChangeAt Go.RowKit
def lowN:Nat→ND→Prop
 | 0,_=>True
 | d+1,x=>x.names.length≤1000000∧x.items.length≤1000000∧∀y,y ∈ x.items→lowN d y
theorem lowN_of_valid:∀ (d e:Nat) (x:ND),validN d x=true→lowN e x
 | _,0,_,_=>trivial
 | 0,e+1,_,h=>by cases h
 | d+1,e+1,x,h=>by
  rw [validN_succ,Bool.and_eq_true,List.all_eq_true] at h
  obtain ⟨hf,hv⟩:=h
  unfold flatOk at hf
  simp only [Bool.and_eq_true,Bool.or_eq_true,decide_eq_true_eq] at hf
  obtain ⟨⟨⟨⟨⟨⟨⟨⟨⟨⟨⟨-,-⟩,-⟩,-⟩,-⟩,-⟩,h1⟩,-⟩,h2⟩,h3⟩,-⟩,-⟩:=hf
  refine ⟨?_,by omega,fun y hy=>lowN_of_valid d e y (hv y hy)⟩
  rcases h1 with h1 | h1
  ·omega
  ·rcases h3 with h3 | h3
   ·exact absurd h1 h3
   ·omega
theorem take_snocN {its:List ND} {j:Nat} {x:ND} (h:its[j]?=some x):its.take (j+1)=its.take j++[x]:=by rw [List.take_add_one,h];rfl
theorem lt_of_some {α:Type} {l:List α} {j:Nat} {x:α} (h:l[j]?=some x):j<l.length:=by
 rcases Nat.lt_or_ge j l.length with h' | h'
 ·exact h'
 ·rw [List.getElem?_eq_none h'] at h;cases h
theorem NodeIn.slices {d:Nat} {S:Nat→Prop} {w:World} {cs:List Value} {x:ND} (h:NodeIn d S w cs x):∃a1 l1 c1 a2 l2 c2,cs=[.int .i64 x.kind,.bool x.bool,.int .i64 x.num,.string x.text,.slice a1 l1 c1,.slice a2 l2 c2]:=by
 cases d with
 | zero=>exact h.elim
 | succ d=>
  obtain ⟨va,vb,rfl,_,⟨a1,c1,rfl,_⟩,⟨a2,c2,rfl,_⟩⟩:=h
  exact ⟨_,_,_,_,_,_,rfl⟩
theorem NodesIn.at {d:Nat} {S:Nat→Prop} {w:World} {ao:Option Addr} {l cap:Nat} {its:List ND} (h:NodesIn (NodeIn d S w) S w (.slice ao l cap) its) {j:Nat} (hj:j<its.length) :
 l=its.length∧l≤cap∧cap≤maxLen∧∃b off x a1 l1 c1 a2 l2 c2,ao=some ⟨b,off,none⟩∧S b∧its[j]?=some x∧NodeIn d S w [.int .i64 x.kind,.bool x.bool,.int .i64 x.num,.string x.text,.slice a1 l1 c1,.slice a2 l2 c2] x ∧
  w.cell? ⟨b,off+j * 6,none⟩=some (.int .i64 x.kind)∧w.cell? ⟨b,off+j * 6+1,none⟩=some (.bool x.bool)∧w.cell? ⟨b,off+j * 6+2,none⟩=some (.int .i64 x.num)∧w.cell? ⟨b,off+j * 6+3,none⟩=some (.string x.text)∧w.cell? ⟨b,off+j * 6+4,none⟩=some (.slice a1 l1 c1)∧w.cell? ⟨b,off+j * 6+5,none⟩=some (.slice a2 l2 c2):=by
 obtain ⟨ao',cap',e,h1,h2,h3⟩:=h
 cases e
 obtain ⟨b,off,cs,rfl,hS,hc,hr⟩:=h3 j _ (List.getElem?_eq_getElem hj)
 obtain ⟨a1,l1,c1,a2,l2,c2,rfl⟩:=hr.slices
 exact ⟨rfl,h1,h2,b,off,its[j],a1,l1,c1,a2,l2,c2,rfl,hS,List.getElem?_eq_getElem hj,hr,hc 0 _ rfl,hc 1 _ rfl,hc 2 _ rfl,hc 3 _ rfl,hc 4 _ rfl,hc 5 _ rfl⟩
def foC (j:Nat):List Value:=if j=0 then [.int .i64 1,.func (.func 39) #[] #[],.func (.func 40) #[] #[],.func (.func 41) #[] #[]] else if j=1 then [.int .i64 2,.func (.func 42) #[] #[],.func (.func 43) #[] #[],.func (.func 44) #[] #[]] else [.int .i64 3,.func (.func 18) #[] #[],.func (.func 45) #[] #[],.func (.func 46) #[] #[]]
def foAll:List Value:=foC 0++foC 1++foC 2
theorem serials_any (w:World):Calls Tryz.prog 24 #[] w fun e w'=>e=.returned (.slice (some ⟨w.heap.size,0,none⟩) 3 3)∧w'=w.alloc (.cells foAll.toArray 49):=by
 go_enter Tryz.func24,Tryz.ntmps24
 go_wp2
 go_ret
 exact ⟨rfl,rfl⟩
def FoAt (w:World) (g:Nat):Prop:=w.heap[g]?=some (.cells foAll.toArray 49 (0,0))
theorem FoAt.at {w:World} {g:Nat} (h:FoAt w g) (j q:Nat) (hj:j<3) (hq:q<4):w.cell? ⟨g,j * 4+q,none⟩=(foC j)[q]?:=by
 obtain ⟨u,hu⟩:∃u,(foC j)[q]?=some u:=by
  rcases (by omega:j=0∨j=1∨j=2) with rfl | rfl | rfl <;> rcases (by omega:q=0∨q=1∨q=2∨q=3) with rfl | rfl | rfl | rfl <;> exact ⟨_,rfl⟩
 rw [hu]
 refine cell_blk h ?_
 rw [←hu]
 rcases (by omega:j=0∨j=1∨j=2) with rfl | rfl | rfl <;> rcases (by omega:q=0∨q=1∨q=2∨q=3) with rfl | rfl | rfl | rfl <;> rfl
theorem foeq_any (k form:Int) (F1 F2 F3:Nat) (b:Nat) (w:World) (hc:w.cell? ⟨b,0,none⟩=some (.int .i64 form)) (hb:b<w.heap.size):Calls Tryz.prog 35 #[.agg #[.int .i64 k,.func (.func F1) #[] #[],.func (.func F2) #[] #[],.func (.func F3) #[] #[]],.pointer (some ⟨b,0,none⟩)] w fun e w'=>e=.returned (.bool (k == form))∧Below w.heap.size w w':=by
 have b1:=(Br w.heap.size w).alloc (o:=.cells #[.int .i64 k,.func (.func F1) #[] #[],.func (.func F2) #[] #[],.func (.func F3) #[] #[]] 49) (Lr _)
 have k1:=Hn w (.cells #[.int .i64 k,.func (.func F1) #[] #[],.func (.func F2) #[] #[],.func (.func F3) #[] #[]] 49)
 have c1:=(b1.cell (p:=⟨b,0,none⟩) hb).trans hc
 go_enter Tryz.func35,Tryz.ntmps35
 go_upto_region 1 with fail
 generalize w.alloc _=w1 at b1 k1 c1 ⊢
 have c0:=cell_blk k1 (j:=0) rfl
 go_wp2
 go_ret
 exact ⟨rfl,b1⟩
def foI (k:Int):Int:=if k=1 then 0 else if k=2 then 1 else if k=3 then 2 else -1
theorem foix_any (form:Int) (g b:Nat) (w:World) (h:FoAt w g) (hc:w.cell? ⟨b,0,none⟩=some (.int .i64 form)) (hb:b<w.heap.size):Calls Tryz.prog 34 #[.slice (some ⟨g,0,none⟩) 3 3,.func (.func 35) #[] #[.pointer (some ⟨b,0,none⟩)]] w fun e w'=>e=.returned (.int .i64 (foI form))∧Below w.heap.size w w':=by
 have EQ:=Hh (fun (k:Int) (F1 F2 F3:Nat) (wx:World) (hx:Below w.heap.size w wx)=>foeq_any k form F1 F2 F3 b wx ((hx.cell (p:=⟨b,0,none⟩) hb).trans hc) (Ll hb hx.size))
 have H:=Hh h
 have hgl:=lt_of_block h
 clear h hc
 go_enter Tryz.func34,Tryz.ntmps34
 go_upto_region 2 with fail
 go_loopw [8] (fun i wr=>∃j:Nat,j≤3∧i=.int .i64 (j:Int)∧(∀i:Nat,i<j→form ≠ (i:Int)+1)∧Below w.heap.size w wr) (fun i _=>3 - (intOf i).toNat)
 case atStart=>exact ⟨0,by omega,rfl,(fun i hi=>absurd hi (Nat.not_lt_zero _)),Br _ _⟩
 case round=>
  obtain ⟨j,hj,rfl,hno,hbr⟩:=hrel
  have HNO:=Hh hno
  have HBR:=Hh hbr
  have HA:FoAt wr g:=(hbr.block g hgl).trans H.out
  clear hno hbr
  rcases (by omega:j=0∨j=1∨j=2∨j=3) with rfl | rfl | rfl | rfl
  rotate_right
  ·go_wp2
   go_ret
   refine ⟨?_,HBR.out⟩
   have h0:=HNO.out 0 (by omega)
   have h1:=HNO.out 1 (by omega)
   have h2:=HNO.out 2 (by omega)
   unfold foI
   rw [if_neg (by omega),if_neg (by omega),if_neg (by omega)]
   rfl
  ·have s0:wr.cell? ⟨g,0,none⟩=some (.int .i64 1):=HA.at 0 0 (by decide) (by decide)
   have s1:wr.cell? ⟨g,1,none⟩=some (.func (.func 39) #[] #[]):=HA.at 0 1 (by decide) (by decide)
   have s2:wr.cell? ⟨g,2,none⟩=some (.func (.func 40) #[] #[]):=HA.at 0 2 (by decide) (by decide)
   have s3:wr.cell? ⟨g,3,none⟩=some (.func (.func 41) #[] #[]):=HA.at 0 3 (by decide) (by decide)
   have E:=Hh (EQ.out 1 39 40 41 wr HBR.out)
   cases hq:((1:Int) == form) with
   | true=>
    rw [hq] at E
    have hf:Hid (foI form=0):=Hh (by rw [←eq_of_beq hq];rfl)
    clear hq HA
    go_wp2_with (go_at_call 35;(with_reducible refine (E.out).mono ?_);rintro e w3 ⟨rfl,hb3⟩)
    go_ret
    exact ⟨by rw [hf.out];rfl,HBR.out.trans (hb3.mono HBR.out.size)⟩
   | false=>
    rw [hq] at E
    have hne:form ≠ 1:=fun h=>by rw [h] at hq;cases hq
    have HNE:=Hh hne
    clear hq HA hne
    go_wp2_with (go_at_call 35;(with_reducible refine (E.out).mono ?_);rintro e w3 ⟨rfl,hb3⟩)
    go_roundw
    case rel=>exact ⟨1,by omega,by go_num,fun i hi=>by
     rcases (by omega:i<0∨i=0) with h | h
     ·exact HNO.out i h
     ·subst h;exact HNE.out,HBR.out.trans (hb3.mono HBR.out.size)⟩
    case measure=>simp [intOf]
  ·have s0:wr.cell? ⟨g,4,none⟩=some (.int .i64 2):=HA.at 1 0 (by decide) (by decide)
   have s1:wr.cell? ⟨g,5,none⟩=some (.func (.func 42) #[] #[]):=HA.at 1 1 (by decide) (by decide)
   have s2:wr.cell? ⟨g,6,none⟩=some (.func (.func 43) #[] #[]):=HA.at 1 2 (by decide) (by decide)
   have s3:wr.cell? ⟨g,7,none⟩=some (.func (.func 44) #[] #[]):=HA.at 1 3 (by decide) (by decide)
   have E:=Hh (EQ.out 2 42 43 44 wr HBR.out)
   cases hq:((2:Int) == form) with
   | true=>
    rw [hq] at E
    have hf:Hid (foI form=1):=Hh (by rw [←eq_of_beq hq];rfl)
    clear hq HA
    go_wp2_with (go_at_call 35;(with_reducible refine (E.out).mono ?_);rintro e w3 ⟨rfl,hb3⟩)
    go_ret
    exact ⟨by rw [hf.out];rfl,HBR.out.trans (hb3.mono HBR.out.size)⟩
   | false=>
    rw [hq] at E
    have hne:form ≠ 2:=fun h=>by rw [h] at hq;cases hq
    have HNE:=Hh hne
    clear hq HA hne
    go_wp2_with (go_at_call 35;(with_reducible refine (E.out).mono ?_);rintro e w3 ⟨rfl,hb3⟩)
    go_roundw
    case rel=>exact ⟨2,by omega,by go_num,fun i hi=>by
     rcases (by omega:i<1∨i=1) with h | h
     ·exact HNO.out i h
     ·subst h;exact HNE.out,HBR.out.trans (hb3.mono HBR.out.size)⟩
    case measure=>simp [intOf]
  ·have s0:wr.cell? ⟨g,8,none⟩=some (.int .i64 3):=HA.at 2 0 (by decide) (by decide)
   have s1:wr.cell? ⟨g,9,none⟩=some (.func (.func 18) #[] #[]):=HA.at 2 1 (by decide) (by decide)
   have s2:wr.cell? ⟨g,10,none⟩=some (.func (.func 45) #[] #[]):=HA.at 2 2 (by decide) (by decide)
   have s3:wr.cell? ⟨g,11,none⟩=some (.func (.func 46) #[] #[]):=HA.at 2 3 (by decide) (by decide)
   have E:=Hh (EQ.out 3 18 45 46 wr HBR.out)
   cases hq:((3:Int) == form) with
   | true=>
    rw [hq] at E
    have hf:Hid (foI form=2):=Hh (by rw [←eq_of_beq hq];rfl)
    clear hq HA
    go_wp2_with (go_at_call 35;(with_reducible refine (E.out).mono ?_);rintro e w3 ⟨rfl,hb3⟩)
    go_ret
    exact ⟨by rw [hf.out];rfl,HBR.out.trans (hb3.mono HBR.out.size)⟩
   | false=>
    rw [hq] at E
    have hne:form ≠ 3:=fun h=>by rw [h] at hq;cases hq
    have HNE:=Hh hne
    clear hq HA hne
    go_wp2_with (go_at_call 35;(with_reducible refine (E.out).mono ?_);rintro e w3 ⟨rfl,hb3⟩)
    go_roundw
    case rel=>exact ⟨3,by omega,by go_num,fun i hi=>by
     rcases (by omega:i<2∨i=2) with h | h
     ·exact HNO.out i h
     ·subst h;exact HNE.out,HBR.out.trans (hb3.mono HBR.out.size)⟩
    case measure=>simp [intOf]
theorem foI_cases (k:Int):(k=1∧foI k=0)∨(k=2∧foI k=1)∨(k=3∧foI k=2)∨((k<1∨3<k)∧foI k=-1):=by
 unfold foI
 by_cases h1:k=1
 ·exact .inl ⟨h1,by rw [if_pos h1]⟩
 by_cases h2:k=2
 ·exact .inr (.inl ⟨h2,by rw [if_neg h1,if_pos h2]⟩)
 by_cases h3:k=3
 ·exact .inr (.inr (.inl ⟨h3,by rw [if_neg h1,if_neg h2,if_pos h3]⟩))
 exact .inr (.inr (.inr ⟨by omega,by rw [if_neg h1,if_neg h2,if_neg h3]⟩))
def foR (k:Int):List Value:=if k=1 then foC 0 else if k=2 then foC 1 else if k=3 then foC 2 else [.int .i64 0,.nilFunc,.nilFunc,.nilFunc]
section
variable {w:World} {g:Nat} {T:Nat} {a b c d:Value}
theorem four_of (h:w.heap[g]?=some (.cells #[a,b,c,d] T (0,0))):w.cell? ⟨g,0,none⟩=some a∧w.cell? ⟨g,1,none⟩=some b∧w.cell? ⟨g,2,none⟩=some c∧w.cell? ⟨g,3,none⟩=some d:=by
 simp [World.cell?,h]
theorem free_four (h:w.heap[g]?=some (.cells #[a,b,c,d] T (0,0))):w.frozen? ⟨g,0,none⟩=false∧w.frozen? ⟨g,1,none⟩=false∧w.frozen? ⟨g,2,none⟩=false∧w.frozen? ⟨g,3,none⟩=false:=by
 simp [World.frozen?,h]
def set4 (w:World) (g:Nat) (a b c d:Value):World:=(((w.setCell ⟨g,0,none⟩ a).setCell ⟨g,1,none⟩ b).setCell ⟨g,2,none⟩ c).setCell ⟨g,3,none⟩ d
theorem four_put (h:w.heap[g]?=some (.cells #[a,b,c,d] T (0,0))) (a' b' c' d':Value):(set4 w g a' b' c' d').heap[g]?=some (.cells #[a',b',c',d'] T (0,0)):=by
 have h0:(w.setCell ⟨g,0,none⟩ a').heap[g]?=some (.cells #[a',b,c,d] T (0,0)):=heap_set h a'
 have h1:((w.setCell ⟨g,0,none⟩ a').setCell ⟨g,1,none⟩ b').heap[g]?=some (.cells #[a',b',c,d] T (0,0)):=heap_set h0 b'
 have h2:(((w.setCell ⟨g,0,none⟩ a').setCell ⟨g,1,none⟩ b').setCell ⟨g,2,none⟩ c').heap[g]?=some (.cells #[a',b',c',d] T (0,0)):=heap_set h1 c'
 exact heap_set h2 d'
theorem grown_set4 (w:World) (g:Nat) (a b c d:Value):w.grownBy (set4 w g a b c d) (some g):=
 gtrans (gtrans (gtrans (grown_set w g 0 a) (grown_set _ g 1 b)) (grown_set _ g 2 c)) (grown_set _ g 3 d)
end
theorem FoAt.all {w:World} {g:Nat} (h:FoAt w g):(w.cell? ⟨g,0,none⟩=(foC 0)[0]?∧w.cell? ⟨g,1,none⟩=(foC 0)[1]?∧w.cell? ⟨g,2,none⟩=(foC 0)[2]?∧w.cell? ⟨g,3,none⟩=(foC 0)[3]?)∧(w.cell? ⟨g,4,none⟩=(foC 1)[0]?∧w.cell? ⟨g,5,none⟩=(foC 1)[1]?∧w.cell? ⟨g,6,none⟩=(foC 1)[2]?∧w.cell? ⟨g,7,none⟩=(foC 1)[3]?)∧(w.cell? ⟨g,8,none⟩=(foC 2)[0]?∧w.cell? ⟨g,9,none⟩=(foC 2)[1]?∧w.cell? ⟨g,10,none⟩=(foC 2)[2]?∧w.cell? ⟨g,11,none⟩=(foC 2)[3]?):=
 ⟨⟨h.at 0 0 (by decide) (by decide),h.at 0 1 (by decide) (by decide),h.at 0 2 (by decide) (by decide),h.at 0 3 (by decide) (by decide)⟩,⟨h.at 1 0 (by decide) (by decide),h.at 1 1 (by decide) (by decide),h.at 1 2 (by decide) (by decide),h.at 1 3 (by decide) (by decide)⟩,⟨h.at 2 0 (by decide) (by decide),h.at 2 1 (by decide) (by decide),h.at 2 2 (by decide) (by decide),h.at 2 3 (by decide) (by decide)⟩⟩
def foB (k:Int):Bool:=if k=1 then true else if k=2 then true else if k=3 then true else false
theorem foof_none {k:Int} (h:k<1∨3<k):foR k=[.int .i64 0,.nilFunc,.nilFunc,.nilFunc]∧foB k=false:=by
 unfold foR foB
 exact ⟨by rw [if_neg (by omega),if_neg (by omega),if_neg (by omega)],by rw [if_neg (by omega),if_neg (by omega),if_neg (by omega)]⟩
theorem foof_any (k:Int) (w:World):Calls Tryz.prog 20 #[.int .i64 k] w fun e w'=>e=.returned (.tuple #[.agg (foR k).toArray,.bool (foB k)])∧Below w.heap.size w w':=by
 have SE:=Hh (fun wx:World=>serials_any wx)
 have IX:=Hh (fun (g b:Nat) (wx:World) (h:FoAt wx g) (hc:wx.cell? ⟨b,0,none⟩=some (.int .i64 k)) (hb:b<wx.heap.size)=>foix_any k g b wx h hc hb)
 have b1:=(Br w.heap.size w).alloc (o:=.cells #[.int .i64 k] 3) (Lr _)
 have k1:=Hn w (.cells #[.int .i64 k] 3)
 have z1:(w.alloc (.cells #[.int .i64 k] 3)).heap.size=w.heap.size+1:=by simp
 go_enter Tryz.func20,Tryz.ntmps20
 go_upto_region 1 with fail
 generalize w.alloc _=w1 at b1 k1 z1 ⊢
 have b2:=(Br w1.heap.size w1).alloc (o:=.cells #[.int .i64 0,.nilFunc,.nilFunc,.nilFunc] 49) (Lr _)
 have k2:=Hn w1 (.cells #[.int .i64 0,.nilFunc,.nilFunc,.nilFunc] 49)
 rw [z1] at k2
 generalize w1.alloc _=w2 at b2 k2 ⊢
 have hs1:=lt_of_block k1
 have hB2:Below w.heap.size w w2:=b1.trans (b2.mono b1.size)
 have hk2:=(b2.block _ hs1).trans k1
 clear b1 k1 z1 b2 hs1
 go_upto_region 2 with ((with_reducible refine (SE.out _).mono ?_);rintro e w3 ⟨rfl,rfl⟩)
 generalize ae:w2.alloc _=w3
 obtain ⟨b3,k3⟩:=Al ae
 clear ae
 have hl1:=lt_of_block hk2
 have hl2:=lt_of_block k2
 have q1:w3.cell? ⟨w.heap.size,0,none⟩=some (.int .i64 k):=cell_blk ((b3.block _ hl1).trans hk2) (j:=0) rfl
 have IX3:=Hh (IX.out w2.heap.size w.heap.size w3 k3 q1 (Ll hl1 b3.size))
 have hB3:=hB2.trans (b3.mono hB2.size)
 have k23:=(b3.block _ hl2).trans k2
 clear IX SE q1 b3 hk2 hB2 hl1
 go_upto_region 3 with ((with_reducible refine (IX3.out).mono ?_);rintro e w4 ⟨rfl,hb4⟩)
 have k24:=(hb4.block _ (lt_of_block k23)).trans k23
 have k34:FoAt w4 w2.heap.size:=(hb4.block _ (lt_of_block k3)).trans k3
 have HB:=Hh (hB3.trans (hb4.mono hB3.size))
 have HK:=Hh k24
 have f1:=free_four k24
 have c1:=four_of k24
 generalize w2.heap.size=gt at k34 ⊢
 clear k3 k23 k2 hl2 hB3 hb4 IX3 k24
 have fin:Hid (∀a b c d:Value,Below w.heap.size w (set4 w4 (w.heap.size+1) a b c d)):=Hh fun a b c d=>HB.out.grown (grown_set4 w4 (w.heap.size+1) a b c d) HB.out.size (fun k hk=>by cases hk;exact Nat.le_succ _)
 generalize w.heap.size+1=g2 at HK f1 c1 fin ⊢
 rcases foI_cases k with ⟨rfl,hI⟩ | ⟨rfl,hI⟩ | ⟨rfl,hI⟩ | ⟨hk,hI⟩
 rotate_right
 ·rw [hI]
  have HF:=Hh (foof_none hk)
  clear hI hk k34
  go_wp2
  refine bodyPost_ret (v:=.tuple #[.agg #[.int .i64 0,.nilFunc,.nilFunc,.nilFunc],.bool false]) ?_ ?_ ?_
  rotate_left
  ·rfl
  ·exact ⟨by rw [HF.out.1,HF.out.2],fin.out _ _ _ _⟩
  ·obtain ⟨q0,q1,q2,q3⟩:=four_of (four_put HK.out (.int .i64 0) .nilFunc .nilFunc .nilFunc)
   simp only [set4] at q0 q1 q2 q3
   simp [results,Tryz.results20,go_sem,q0,q1,q2,q3]
 ·rw [hI]
  obtain ⟨⟨s0,s1,s2,s3⟩,-,-⟩:=k34.all
  simp [foC] at s0 s1 s2 s3
  clear hI k34
  go_wp2
  refine bodyPost_ret (v:=.tuple #[.agg (foC 0).toArray,.bool true]) ?_ ?_ ?_
  rotate_left
  ·rfl
  ·exact ⟨rfl,fin.out _ _ _ _⟩
  ·obtain ⟨q0,q1,q2,q3⟩:=four_of (four_put HK.out (.int .i64 1) (.func (.func 39) #[] #[]) (.func (.func 40) #[] #[]) (.func (.func 41) #[] #[]))
   simp only [set4] at q0 q1 q2 q3
   simp [results,Tryz.results20,go_sem,q0,q1,q2,q3,foC]
 ·rw [hI]
  obtain ⟨-,⟨s0,s1,s2,s3⟩,-⟩:=k34.all
  simp [foC] at s0 s1 s2 s3
  clear hI k34
  go_wp2
  refine bodyPost_ret (v:=.tuple #[.agg (foC 1).toArray,.bool true]) ?_ ?_ ?_
  rotate_left
  ·rfl
  ·exact ⟨rfl,fin.out _ _ _ _⟩
  ·obtain ⟨q0,q1,q2,q3⟩:=four_of (four_put HK.out (.int .i64 2) (.func (.func 42) #[] #[]) (.func (.func 43) #[] #[]) (.func (.func 44) #[] #[]))
   simp only [set4] at q0 q1 q2 q3
   simp [results,Tryz.results20,go_sem,q0,q1,q2,q3,foC]
 ·rw [hI]
  obtain ⟨-,-,s0,s1,s2,s3⟩:=k34.all
  simp [foC] at s0 s1 s2 s3
  clear hI k34
  go_wp2
  refine bodyPost_ret (v:=.tuple #[.agg (foC 2).toArray,.bool true]) ?_ ?_ ?_
  rotate_left
  ·rfl
  ·exact ⟨rfl,fin.out _ _ _ _⟩
  ·obtain ⟨q0,q1,q2,q3⟩:=four_of (four_put HK.out (.int .i64 3) (.func (.func 18) #[] #[]) (.func (.func 45) #[] #[]) (.func (.func 46) #[] #[]))
   simp only [set4] at q0 q1 q2 q3
   simp [results,Tryz.results20,go_sem,q0,q1,q2,q3,foC]
def EncW (S:ByteArray) (E:Int) (w:World) (e:Ending) (w':World):Prop:=e=.returned (.tuple #[.string S,.int .i64 E])∧Below w.heap.size w w'
def DecW (P:ND→Int→Prop) (w:World) (e:Ending) (w':World):Prop:=∃ (cs:List Value) (x:ND) (er:Int),e=.returned (.tuple #[.agg cs.toArray,.int .i64 er])∧NodeIn 9 (fun b=>w.heap.size≤b∧b<w'.heap.size) w' cs x∧Below w.heap.size w w'∧P x er
theorem encas_at {D:Nat} {Sx:Nat→Prop} (k:Int) (F F2 F3:Nat) (cs:List Value) (x:ND) (w:World) (S:ByteArray) (E:Int) (h:NodeIn D Sx w cs x) (hF:F=39∨F=42∨F=18) (hk:foR k=[.int .i64 k,.func (.func F) #[] #[],.func (.func F2) #[] #[],.func (.func F3) #[] #[]]∧foB k=true)
 (EN:∀wx,Below w.heap.size w wx→Calls Tryz.prog F #[.agg cs.toArray] wx (EncW S E wx)):Calls Tryz.prog 9 #[.int .i64 k,.agg cs.toArray] w (EncW S E w):=by
 obtain ⟨a1,l1,c1,a2,l2,c2,rfl⟩:=h.slices
 have FO:=Hh (fun wx:World=>foof_any k wx)
 simp only [hk.1,hk.2] at FO
 clear h hk
 go_enter Tryz.func9,Tryz.ntmps9
 go_upto_region 1 with fail
 generalize ae:w.alloc _=w1
 obtain ⟨b1,k1⟩:=Al ae
 clear ae
 go_upto_region 2 with ((with_reducible refine (FO.out _).mono ?_);rintro e w2 ⟨rfl,hb2⟩)
 generalize ae:w2.alloc _=w3
 obtain ⟨b3,k3⟩:=Al ae
 clear ae
 have b23:=hb2.trans (b3.mono hb2.size)
 have f1:=six_of ((b23.block _ (lt_of_block k1)).trans k1)
 have f3:=four_of k3
 have hB:=b1.trans (b23.mono b1.size)
 have EN3:=Hh (EN w3 hB)
 have HB:=Hh hB
 generalize w2.heap.size=g3 at f3 ⊢
 clear EN FO k1 k3 b1 hb2 b3 b23 hB
 unfold EncW at EN3
 rcases hF with rfl | rfl | rfl <;> (
  go_wp2_with ((with_reducible refine (EN3.out).mono ?_);rintro e w4 ⟨rfl,hb4⟩)
  refine bodyPost_ret (v:=.tuple #[.string S,.int .i64 E]) ?_ rfl ?_
  ·simp [results,Tryz.results9,go_sem]
  ·exact ⟨rfl,HB.out.trans (hb4.mono HB.out.size)⟩)
theorem encas_no {D:Nat} {Sx:Nat→Prop} (k:Int) (cs:List Value) (x:ND) (w:World) (h:NodeIn D Sx w cs x) (hk:k<1∨3<k):Calls Tryz.prog 9 #[.int .i64 k,.agg cs.toArray] w (EncW ⟨#[]⟩ 2 w):=by
 obtain ⟨a1,l1,c1,a2,l2,c2,rfl⟩:=h.slices
 have FO:=Hh (fun wx:World=>foof_any k wx)
 simp only [(foof_none hk).1,(foof_none hk).2] at FO
 have b1:=(Br w.heap.size w).alloc (o:=.cells #[.int .i64 x.kind,.bool x.bool,.int .i64 x.num,.string x.text,.slice a1 l1 c1,.slice a2 l2 c2] 30) (Lr _)
 clear h hk
 go_enter Tryz.func9,Tryz.ntmps9
 go_upto_region 1 with fail
 generalize w.alloc _=w1 at b1 ⊢
 go_upto_region 2 with ((with_reducible refine (FO.out _).mono ?_);rintro e w2 ⟨rfl,hb2⟩)
 have b3:=(Br w2.heap.size w2).alloc (o:=.cells #[.int .i64 0,.nilFunc,.nilFunc,.nilFunc] 49) (Lr _)
 generalize w2.alloc _=w3 at b3 ⊢
 have b23:=hb2.trans (b3.mono hb2.size)
 go_wp2
 refine bodyPost_ret (v:=.tuple #[.string ⟨#[]⟩,.int .i64 2]) ?_ rfl ?_
 ·simp [results,Tryz.results9,go_sem]
 ·exact ⟨rfl,b1.trans (b23.mono b1.size)⟩
theorem decas_at (k:Int) (F F2 F3:Nat) (s:ByteArray) (w:World) (P:ND→Int→Prop) (hF:F2=40∨F2=43∨F2=45) (hk:foR k=[.int .i64 k,.func (.func F) #[] #[],.func (.func F2) #[] #[],.func (.func F3) #[] #[]]∧foB k=true)
 (DE:∀wx,Below w.heap.size w wx→Calls Tryz.prog F2 #[.string s] wx (DecW P wx)):Calls Tryz.prog 13 #[.int .i64 k,.string s] w (DecW P w):=by
 have FO:=Hh (fun wx:World=>foof_any k wx)
 simp only [hk.1,hk.2] at FO
 clear hk
 go_enter Tryz.func13,Tryz.ntmps13
 go_upto_region 1 with fail
 generalize ae:w.alloc _=w1
 obtain ⟨b1,k1⟩:=Al ae
 clear ae
 go_upto_region 2 with ((with_reducible refine (FO.out _).mono ?_);rintro e w2 ⟨rfl,hb2⟩)
 generalize ae:w2.alloc _=w3
 obtain ⟨b3,k3⟩:=Al ae
 clear ae
 have b23:=hb2.trans (b3.mono hb2.size)
 have hr3:=(b23.block _ (lt_of_block k1)).trans k1
 have f3:=four_of k3
 have hB:=b1.trans (b23.mono b1.size)
 have DE3:=Hh (DE w3 hB)
 have HB:=Hh hB
 have HR3:=Hh hr3
 have hg3:=b3.size
 have hg23:w.heap.size<w3.heap.size:=lt_of_block hr3
 have HZ:=Hh hg23
 have f1:=free_six hr3
 generalize w2.heap.size=g3 at f3 ⊢
 clear DE FO k1 k3 b1 hb2 b3 b23 hB hr3 hg3 hg23 f1
 unfold DecW at DE3
 rcases hF with rfl | rfl | rfl <;> (
  go_wp2_with ((with_reducible refine (DE3.out).mono ?_);rintro e w4 ⟨cs,x,er,rfl,hm,hb4,hP⟩;go_loud ((obtain ⟨a1,l1,c1,a2,l2,c2,hcs⟩:=hm.slices);subst hcs;(have hr4:=(hb4.block _ (lt_of_block HR3.out)).trans HR3.out);(have f1:=free_six hr4);(have cz:=six_of hr4);(have HM:=Hh hm);(have HP:=Hh hP);(have HR4:=Hh hr4);(have HB4:=Hh hb4);clear hm hP hr4 hb4))
  refine bodyPost_ret (v:=.tuple #[.agg #[.int .i64 x.kind,.bool x.bool,.int .i64 x.num,.string x.text,.slice a1 l1 c1,.slice a2 l2 c2],.int .i64 er]) ?_ rfl ?_
  ·obtain ⟨q0,q1,q2,q3,q4,q5⟩:=six_of (six_put HR4.out (.int .i64 x.kind) (.bool x.bool) (.int .i64 x.num) (.string x.text) (.slice a1 l1 c1) (.slice a2 l2 c2))
   simp only [set6] at q0 q1 q2 q3 q4 q5
   simp [results,Tryz.results13,go_sem,q0,q1,q2,q3,q4,q5]
  ·have hgs:=grown_set6 w4 w.heap.size (.int .i64 x.kind) (.bool x.bool) (.int .i64 x.num) (.string x.text) (.slice a1 l1 c1) (.slice a2 l2 c2)
   have hz:=HZ.out
   refine ⟨_,x,er,rfl,(HM.out.same fun b hb=>hgs.block b hb.2 (by intro e;have:=Option.some.inj e;omega)).mono fun b hb=>⟨by omega,Ll hb.2 hgs.size⟩,(HB.out.trans (HB4.out.mono HB.out.size)).grown hgs (HB.out.trans (HB4.out.mono HB.out.size)).size (fun k hk=>by cases hk;exact Lr _),HP.out⟩)
theorem decas_no (k:Int) (s:ByteArray) (w:World) (P:ND→Int→Prop) (hk:k<1∨3<k) (hP:P nd0 2):Calls Tryz.prog 13 #[.int .i64 k,.string s] w (DecW P w):=by
 have FO:=Hh (fun wx:World=>foof_any k wx)
 simp only [(foof_none hk).1,(foof_none hk).2] at FO
 have HP:=Hh hP
 clear hk hP
 go_enter Tryz.func13,Tryz.ntmps13
 go_upto_region 1 with fail
 generalize ae:w.alloc _=w1
 obtain ⟨b1,k1⟩:=Al ae
 clear ae
 go_upto_region 2 with ((with_reducible refine (FO.out _).mono ?_);rintro e w2 ⟨rfl,hb2⟩)
 have b3:=(Br w2.heap.size w2).alloc (o:=.cells #[.int .i64 0,.nilFunc,.nilFunc,.nilFunc] 49) (Lr _)
 generalize w2.alloc _=w3 at b3 ⊢
 have b23:=hb2.trans (b3.mono hb2.size)
 have hr3:=(b23.block _ (lt_of_block k1)).trans k1
 have HB:=Hh (b1.trans (b23.mono b1.size))
 have HR3:=Hh hr3
 have f1:=free_six hr3
 have cz:=six_of hr3
 clear FO k1 b1 hb2 b3 b23 hr3
 go_wp2
 refine bodyPost_ret (v:=.tuple #[.agg #[.int .i64 0,.bool false,.int .i64 0,.string ⟨#[]⟩,.slice none 0 0,.slice none 0 0],.int .i64 2]) ?_ rfl ?_
 ·obtain ⟨q0,q1,q2,q3,q4,q5⟩:=six_of (six_put HR3.out (.int .i64 0) (.bool false) (.int .i64 0) (.string ⟨#[]⟩) (.slice none 0 0) (.slice none 0 0))
  simp only [set6] at q0 q1 q2 q3 q4 q5
  simp [results,Tryz.results13,go_sem,q0,q1,q2,q3,q4,q5]
 ·exact ⟨_,nd0,2,rfl,(node_leaf _ _ 0 false 0 ⟨#[]⟩ (by decide)).deeper (by decide),HB.out.grown (grown_set6 _ w.heap.size (.int .i64 0) (.bool false) (.int .i64 0) (.string ⟨#[]⟩) (.slice none 0 0) (.slice none 0 0)) HB.out.size (fun k hk=>by cases hk;exact Lr _),HP.out⟩
end Go.Proofs.YtdppdonaojdceaaGreatDoor