/- A region that draws its order, walked by a plan: first what yields one value in whatever world, or in each world that meets S (loads); then a tree of the orders that the draw allows. S is to be shown again behind an operation only as long as no operation has come up that waits for all those loads. For every program. -/
import Derived.Test.YtcklddldejejcaaGreatDoorNnam
import Derived.OrdersHeld
import Derived.StillTailTactics
import Derived.WalkKit
import Derived.Deep.AppendLies
set_option linter.unusedVariables false
set_option linter.unusedSimpArgs false
set_option maxHeartbeats 1600000
set_option maxRecDepth 100000
namespace Go.Proofs.YtcklddldejejcaaGreatDoor
open Go
section
variable {P:Program} {ops:Array Oper} {md:Region.Mode} {Q:Exit→Act→World→Prop} {S:World→Prop} {hs:List Nat}
def waits (md:Region.Mode) (ops:Array Oper):Nat→Nat→Nat→Bool
 | 0,_,_=>false
 | n+1,j,i=>match ops[j]? with
  | some o=>o.after.any fun e=>Region.binds md e && (e.on == i || waits md ops n e.on i)
  | none=>false
def lateB (md:Region.Mode) (ops:Array Oper) (hs:List Nat) (j:Nat):Bool:=hs.all fun i=>waits md ops ops.size j i
def Shut (md:Region.Mode) (ops:Array Oper) (listed:Array Bool):Prop:=
 ∀j oj,ops[j]?=some oj→listed.getD j false=true→∀e ∈ oj.after,Region.binds md e=true→listed.getD e.on false=true
def Opn (md:Region.Mode) (ops:Array Oper) (hs:List Nat) (listed:Array Bool):Prop:=∀j,lateB md ops hs j=true→listed.getD j false=false
def opnB (md:Region.Mode) (ops:Array Oper) (hs:List Nat) (listed:Array Bool):Bool:=(List.range ops.size).all fun j => !lateB md ops hs j || !listed.getD j false
theorem not_opn {listed:Array Bool} (h:opnB md ops hs listed=false):¬Opn md ops hs listed:=fun ho=>by
 have:opnB md ops hs listed=true:=List.all_eq_true.2 fun j _=>by
  cases hl:lateB md ops hs j with
  | false=>rfl
  | true=>simp [ho j hl]
 rw [h] at this
 cases this
theorem waits_listed {listed:Array Bool} (hc:Shut md ops listed):∀ (n j i:Nat) (oj:Oper),ops[j]?=some oj→(∀e ∈ oj.after,Region.binds md e=true→listed.getD e.on false=true)→waits md ops n j i=true→listed.getD i false=true
 | 0,_,_,_,_,_,h=>by simp [waits] at h
 | n+1,j,i,oj,hj,hall,h=>by
  simp only [waits,hj] at h
  obtain ⟨e,he,hb⟩:=Array.any_eq_true'.1 h
  simp only [Bool.and_eq_true,Bool.or_eq_true,beq_iff_eq] at hb
  obtain ⟨hb1,hb2⟩:=hb
  rcases hb2 with rfl | hb2
  ·exact hall e he hb1
  ·cases ho:ops[e.on]? with
   | none=>
    cases n with
    | zero=>simp [waits] at hb2
    | succ n=>simp [waits,ho] at hb2
   | some oe=>exact waits_listed hc n e.on i oe ho (hc e.on oe ho (hall e he hb1)) hb2
theorem Shut.set {listed:Array Bool} (hc:Shut md ops listed) {i:Nat} (hr:i ∈ Region.ready md ops listed):Shut md ops (listed.setIfInBounds i true):=by
 intro j oj hj hl e he hb
 by_cases hij:i=j
 ·subst hij
  obtain ⟨_,o,ho,hall⟩:=mem_ready.1 hr
  rw [hj] at ho
  cases ho
  exact getD_set_true (hall e he hb)
 ·rw [getD_set_ne false hij] at hl
  exact getD_set_true (hc j oj hj hl e he hb)
theorem Shut.start (n:Nat):Shut md ops (Array.replicate n false):=by
 intro j oj hj hl
 rw [Array.getD_eq_getD_getElem?,Array.getElem?_replicate] at hl
 split at hl <;> simp at hl
theorem Opn.back {listed:Array Bool} {i:Nat} (h:Opn md ops hs (listed.setIfInBounds i true)):Opn md ops hs listed:=fun j hl=>by
 have:=h j hl
 by_cases hij:i=j
 ·subst hij
  cases hg:listed.getD i false with
  | false=>rfl
  | true=>rw [getD_set_true hg] at this;cases this
 ·rw [getD_set_ne false hij] at this;exact this
theorem Opn.on {listed:Array Bool} {i:Nat} (h:Opn md ops hs listed) (hi:lateB md ops hs i=false):Opn md ops hs (listed.setIfInBounds i true):=fun j hl=>by
 by_cases hij:i=j
 ·subst hij;rw [hi] at hl;cases hl
 ·rw [getD_set_ne false hij];exact h j hl
def wpAnyL (P:Program) (md:Region.Mode) (ops:Array Oper) (Q:Exit→Act→World→Prop) (S:World→Prop) (hs:List Nat):Nat→Array Bool→Act→World→Prop
 | 0,listed,a,w=>Region.ready md ops listed=[]∧Q .normal a w
 | fuel+1,listed,a,w=>
  (Region.ready md ops listed=[]→Q .normal a w) ∧
  ∀i ∈ Region.ready md ops listed,wpOp P ops Q i (fun a' w'=>(Opn md ops hs (listed.setIfInBounds i true)→S w')∧wpAnyL P md ops Q S hs fuel (listed.setIfInBounds i true) a' w') a w
theorem wpAny_of_l:∀ (fuel:Nat) (listed:Array Bool) (a:Act) (w:World),wpAnyL P md ops Q S hs fuel listed a w→wpAny P md ops Q fuel listed a w
 | 0,_,_,_,h=>h
 | fuel+1,_,_,_,h=>⟨h.1,fun i hi=>wpOp_mono (fun a' w' h'=>wpAny_of_l fuel _ a' w' h'.2) (h.2 i hi)⟩
theorem wpAnyL_done {listed:Array Bool} {a:Act} {w:World} (hr:Region.ready md ops listed=[]) (h:Q .normal a w):∀fuel,wpAnyL P md ops Q S hs fuel listed a w
 | 0=>⟨hr,h⟩
 | _+1=>⟨fun _=>h,by rw [hr];simp⟩
theorem wpAnyL_first {S0:World→Prop} {i:Nat} {oi:Oper} {v:Value} (hi:ops[i]?=some oi) (hsel:∀ (j:Nat) (o:Oper) cs b,ops[j]?=some o→o.op ≠ .select cs b)
 (hQ:∀c a w,Q (.panic c) (a.put oi.dst v) w→Q (.panic c) a w) (h0:(∀w,S0 w)∨(i ∈ hs∧∀w,S w→S0 w)) :
 ∀ (fuel:Nat) (listed:Array Bool) (a:Act) (w:World),Shut md ops listed→(lateB md ops hs i=false∨hs=[]∨¬Opn md ops hs listed) →
  (∀j oj,ops[j]?=some oj→j ≠ i→listed.getD j true=false→(∀e ∈ oj.after,Region.binds md e=true→e.on ≠ i)→oi.apart ops oj=true) →
  i ∈ Region.ready md ops listed→YieldsIf P ops S0 oi v a→(Opn md ops hs listed→S w) →
  wpAnyL P md ops Q S hs fuel (listed.setIfInBounds i true) (a.put oi.dst v) w→wpAnyL P md ops Q S hs (fuel+1) listed a w:=by
 -- as long as i has not come up, nothing late has, if i is one of hs
 have hop:∀ {listed:Array Bool},Shut md ops listed→i ∈ Region.ready md ops listed→i ∈ hs→Opn md ops hs listed:=by
  intro listed hsh hr him j hl
  cases hg:listed.getD j false with
  | false=>rfl
  | true=>
   have hun:=(mem_ready.1 hr).1
   have hw:=List.all_eq_true.1 hl i him
   cases hoj:ops[j]? with
   | none=>
    exfalso
    revert hw
    cases ops.size with
    | zero=>simp [waits]
    | succ n=>simp [waits,hoj]
   | some oj=>
    have:=waits_listed hsh _ j i oj hoj (hsh j oj hoj hg) hw
    rcases Nat.lt_or_ge i listed.size with h' | h'
    ·simp [h'] at this hun;rw [hun] at this;cases this
    ·simp [Array.getElem?_eq_none h'] at this
 have hS0:∀ {listed:Array Bool} {w:World},Shut md ops listed→i ∈ Region.ready md ops listed→(Opn md ops hs listed→S w)→S0 w:=fun hsh hr hS=>by
  rcases h0 with h0 | h0
  ·exact h0 _
  ·exact h0.2 _ (hS (hop hsh hr h0.1))
 intro fuel
 induction fuel with
 | zero=>
  intro listed a w hsh _ _ hr hy hS H
  refine ⟨fun h=>(by rw [h] at hr;cases hr),fun j hj=>?_⟩
  by_cases hji:j=i
  ·subst hji;exact hy.wpOp hi (hS0 hsh hr hS) ⟨fun ho=>hS ho.back,H⟩
  ·have:=ready_mono hj hji
   rw [H.1] at this
   cases this
 | succ fuel ih=>
  intro listed a w hsh hnl hfree hr hy hS H
  refine ⟨fun h=>(by rw [h] at hr;cases hr),fun j hj=>?_⟩
  by_cases hji:j=i
  ·subst hji;exact hy.wpOp hi (hS0 hsh hr hS) ⟨fun ho=>hS ho.back,H⟩
  ·have h1:=H.2 j (ready_mono hj hji)
   obtain ⟨hjun,oj,hoj,hall⟩:=mem_ready.1 hj
   have hnot:∀e ∈ oj.after,Region.binds md e=true→e.on ≠ i:=fun e he hb heq=>by
    have h1:=hall e he hb
    have h0:=(mem_ready.1 hr).1
    rw [heq] at h1
    rcases Nat.lt_or_ge i listed.size with h' | h'
    ·simp [h'] at h0 h1;rw [h0] at h1;cases h1
    ·simp [Array.getElem?_eq_none h'] at h1
   have h2:=wpOp_putIf hoj (hfree j oj hoj hji hjun hnot) (fun cs b=>hsel i oi cs b hi) (fun cs b=>hsel j oj cs b hoj) hQ hy h1
   have hfree':∀k ok,ops[k]?=some ok→k ≠ i→(listed.setIfInBounds j true).getD k true=false →
    (∀e ∈ ok.after,Region.binds md e=true→e.on ≠ i)→oi.apart ops ok=true:=fun k ok hk hki hun hno=>by
    refine hfree k ok hk hki ?_ hno
    by_cases hjk:j=k
    ·subst hjk;exact hjun
    ·rw [getD_set_ne true hjk] at hun;exact hun
   refine wpOp_mono (fun a' w' h3=>?_) h2
   have hS':Opn md ops hs (listed.setIfInBounds j true)→S w':=fun ho=>by
    rcases hnl with hnl | rfl | hno
    ·exact h3.2.1 (by rw [Array.setIfInBounds_comm _ _ (Ne.symm hji)];exact ho.on hnl)
    ·have h9:=ho j rfl
     rcases Nat.lt_or_ge j listed.size with h' | h'
     ·simp [h'] at h9
     ·simp [Array.getElem?_eq_none h'] at hjun
    ·exact (hno ho.back).elim
   have hnl':lateB md ops hs i=false∨hs=[]∨¬Opn md ops hs (listed.setIfInBounds j true):=by
    rcases hnl with hnl | hnl | hno
    ·exact .inl hnl
    ·exact .inr (.inl hnl)
    ·exact .inr (.inr fun ho=>hno ho.back)
   refine ⟨hS',ih (listed.setIfInBounds j true) a' w' (hsh.set hj) hnl' hfree' (ready_mono hr (Ne.symm hji)) h3.1 hS' ?_⟩
   rw [Array.setIfInBounds_comm _ _ hji]
   exact h3.2.2
inductive Plan where
 | stop
 | take (k:Nat) (p:Plan)
 | ask (k:Nat) (s:Bool) (p alt:Plan)
namespace Plan
def heads:Plan→List Nat
 | .stop=>[]
 | .take _ _=>[]
 | .ask k _ _ alt=>k::alt.heads
def deep:Plan→Nat
 | .stop=>0
 | .take _ p=>p.deep+1
 | .ask _ _ p alt=>max (p.deep+1) alt.deep
def chk (md:Region.Mode) (ops:Array Oper) (hs:List Nat):Bool→Plan→Array Bool→Bool
 | top,.stop,l => !top || (Region.ready md ops l).isEmpty
 | top,.take k p,l=>top && (Region.ready md ops l).contains k && Region.free md ops l k && (!lateB md ops hs k || hs.isEmpty || !opnB md ops hs l) && chk md ops hs true p (l.setIfInBounds k true)
 | top,.ask k s p alt,l=>(!top || decide (Region.ready md ops l=k::alt.heads)) && (s || !opnB md ops hs (l.setIfInBounds k true)) && chk md ops hs true p (l.setIfInBounds k true) && chk md ops hs false alt l
def join:Bool→Plan→Plan→Plan
 | true,.stop,p=>p
 | false,.stop,_=>.stop
 | _,.take k q,p=>.take k (join true q p)
 | _,.ask k s q alt,p=>.ask k s (join true q p) (join false alt p)
end Plan
def Seg (K:Act→World→Prop) (Q:Exit→Act→World→Prop):Exit→Act→World→Prop
 | .normal,a,w=>K a w
 | e,a,w=>Q e a w
def wpPlan (P:Program) (ops:Array Oper) (Q:Exit→Act→World→Prop) (S:World→Prop) (hs:List Nat):Bool→Plan→Act→World→Prop
 | true,.stop,a,w=>Q .normal a w
 | false,.stop,_,_=>True
 | _,.take k p,a,w=>∃o v,ops[k]?=some o∧YieldsIf P ops (fun w=>k ∈ hs→S w) o v a∧wpPlan P ops Q S hs true p (a.put o.dst v) w
 | _,.ask k s p alt,a,w=>wpOp P ops Q k (fun a' w'=>(s=true→S w')∧wpPlan P ops Q S hs true p a' w') a w∧wpPlan P ops Q S hs false alt a w
def puts (a:Act):List Nat→List Value→Act
 | s::ss,v::vs=>puts (a.put (some s) v) ss vs
 | _,_=>a
def Meet (a:Act) (ss:List Nat) (rel:List Value→World→Prop) (Q:Exit→Act→World→Prop):Exit→Act→World→Prop
 | .normal,a',w=>∃vs,rel vs w∧a'=puts a ss vs
 | e,a',w=>Q e a' w
theorem meet_op {k:Nat} {K:Act→World→Prop} {a0:Act} {ss:List Nat} {rel:List Value→World→Prop} {a:Act} {w:World} (h:wpOp P ops (Meet a0 ss rel Q) k K a w):wpOp P ops Q k K a w:=by
 have hl:LetsOut (Meet a0 ss rel Q)→LetsOut Q:=fun ⟨a,w,h⟩=>⟨a,w,h⟩
 unfold wpOp at *
 split
 ·rename_i ho
  simpa only [ho] using h
 ·rename_i o ho
  simp only [ho] at h
  split
  ·rename_i hw
   rw [if_pos hw] at h
   rcases h with h | h
   ·refine .inl ?_
    unfold Oper.wp at *
    generalize (execOp a.eval o).run P w=r at *
    cases r with
    | ok n w'=>
     cases n <;> simp only [Oper.upon] at h ⊢ <;>
      first
       | exact h
       | exact Calls.mono h (fun e w'' he=>by cases e <;> first | exact he | exact hl he)
       | exact Rows.mono h (fun _ _ he=>he)
    | halt x w'=>cases x <;> simp only [Oper.upon] at h ⊢ <;> exact h
   ·exact .inr ⟨h.1,hl h.2⟩
  ·rename_i hw
   rw [if_neg hw] at h
   exact h
theorem plan_join {a0:Act} {ss:List Nat} {rel:List Value→World→Prop} {p:Plan} (h2:∀vs w',rel vs w'→wpPlan P ops Q S hs true p (puts a0 ss vs) w'):∀ (b:Bool) (t:Plan) (a:Act) (w:World),wpPlan P ops (Meet a0 ss rel Q) S hs b t a w→wpPlan P ops Q S hs b (Plan.join b t p) a w
 | true,.stop,a,w,h=>by
  obtain ⟨vs,hr,rfl⟩:=h
  exact h2 vs w hr
 | false,.stop,a,w,h=>trivial
 | true,.take k q,a,w,h=>by
  obtain ⟨o,v,ho,hy,h'⟩:=h
  exact ⟨o,v,ho,hy,plan_join h2 true q _ w h'⟩
 | false,.take k q,a,w,h=>by
  obtain ⟨o,v,ho,hy,h'⟩:=h
  exact ⟨o,v,ho,hy,plan_join h2 true q _ w h'⟩
 | true,.ask k s q alt,a,w,h=>⟨wpOp_mono (fun a' w' h'=>⟨h'.1,plan_join h2 true q a' w' h'.2⟩) (meet_op h.1),plan_join h2 false alt a w h.2⟩
 | false,.ask k s q alt,a,w,h=>⟨wpOp_mono (fun a' w' h'=>⟨h'.1,plan_join h2 true q a' w' h'.2⟩) (meet_op h.1),plan_join h2 false alt a w h.2⟩
theorem plan_pick {listed:Array Bool} {a:Act} {w:World} {i:Nat}:∀ (p:Plan),i ∈ p.heads→p.chk md ops hs false listed=true→wpPlan P ops Q S hs false p a w →
 ∃s q,(s=true∨opnB md ops hs (listed.setIfInBounds i true)=false)∧q.chk md ops hs true (listed.setIfInBounds i true)=true∧q.deep+1≤p.deep ∧
  wpOp P ops Q i (fun a' w'=>(s=true→S w')∧wpPlan P ops Q S hs true q a' w') a w
 | .stop,h,_,_=>by simp [Plan.heads] at h
 | .take _ _,h,_,_=>by simp [Plan.heads] at h
 | .ask k s p alt,h,hc,hw=>by
  simp only [Plan.chk,Bool.not_false,Bool.true_or,Bool.true_and,Bool.and_eq_true,Bool.or_eq_true,Bool.not_eq_true'] at hc
  obtain ⟨⟨h1,h3⟩,h4⟩:=hc
  rcases List.mem_cons.1 h with rfl | h
  ·exact ⟨s,p,h1,h3,Nat.le_max_left _ _,hw.1⟩
  ·obtain ⟨s',q,g1,g2,g3,g4⟩:=plan_pick alt h h4 hw.2
   exact ⟨s',q,g1,g2,Nat.le_trans g3 (Nat.le_max_right _ _),g4⟩
theorem plan_any (hsn:Region.noSelect ops=true) (hQ:∀c d v a w,Q (.panic c) (Act.put a d v) w→Q (.panic c) a w):∀ (fuel:Nat) (p:Plan) (listed:Array Bool) (a:Act) (w:World),p.deep≤fuel→Shut md ops listed→p.chk md ops hs true listed=true→(Opn md ops hs listed→S w)→wpPlan P ops Q S hs true p a w→wpAnyL P md ops Q S hs fuel listed a w
 | fuel,.stop,listed,a,w,_,_,hr,_,h=>wpAnyL_done (by simpa [Plan.chk] using hr) h fuel
 | 0,.take k p,_,_,_,hd,_,_,_,_=>by simp only [Plan.deep] at hd;omega
 | 0,.ask k s p alt,_,_,_,hd,_,_,_,_=>by simp only [Plan.deep] at hd;omega
 | fuel+1,.take k p,listed,a,w,hd,hsh,hc,hS,hw=>by
  simp only [Plan.chk,Bool.true_and,Bool.and_eq_true,Bool.or_eq_true,Bool.not_eq_true',List.isEmpty_iff] at hc
  obtain ⟨⟨⟨hr,hf⟩,hnl⟩,hB'⟩:=hc
  have hr':k ∈ Region.ready md ops listed:=by simpa using hr
  obtain ⟨o,v,ho,hy,h'⟩:=hw
  have:=plan_any hsn hQ fuel p (listed.setIfInBounds k true) (a.put o.dst v) w (by simp only [Plan.deep] at hd;omega) (hsh.set hr') hB' (fun hop=>hS hop.back) h'
  have hnl':lateB md ops hs k=false∨hs=[]∨¬Opn md ops hs listed:=by
   rcases hnl with (hnl | hnl) | hnl
   ·exact .inl hnl
   ·exact .inr (.inl hnl)
   ·exact .inr (.inr (not_opn hnl))
  refine wpAnyL_first ho (Region.noSelect_spec hsn) (fun c a w h=>hQ c _ _ a w h) ?_ _ listed a w hsh hnl' (Region.free_spec ho hf) hr' hy hS this
  by_cases hk:k ∈ hs
  ·exact .inr ⟨hk,fun w hS _=>hS⟩
  ·exact .inl fun w hk'=>(hk hk').elim
 | fuel+1,.ask k s p alt,listed,a,w,hd,hsh,hc,hS,hw=>by
  have hc':=hc
  simp only [Plan.chk,Bool.not_true,Bool.false_or,Bool.and_eq_true,decide_eq_true_eq] at hc
  have hr:=hc.1.1.1
  refine ⟨fun h0=>(by rw [hr] at h0;cases h0),fun i hi=>?_⟩
  have hi':=hi
  rw [hr] at hi
  obtain ⟨s',q,g1,g2,g3,g4⟩:=plan_pick (.ask k s p alt) hi (by
   simp only [Plan.chk,Bool.not_false,Bool.true_or,Bool.true_and,Bool.and_eq_true]
   exact ⟨⟨hc.1.1.2,hc.1.2⟩,hc.2⟩) hw
  refine wpOp_mono (fun a' w' h'=>?_) g4
  have hSw:Opn md ops hs (listed.setIfInBounds i true)→S w':=fun ho=>by
   rcases g1 with g1 | g1
   ·exact h'.1 g1
   ·exact (not_opn g1 ho).elim
  exact ⟨hSw,plan_any hsn hQ fuel q _ a' w' (by omega) (hsh.set hi') g2 hSw h'.2⟩
theorem wp_region_plan {id:Nat} {a:Act} {w:World} {l:List Oper} (S:World→Prop) (hs:List Nat) (p:Plan) (hm:P.follows .mixedOrders=true)
 (hB:(Region.noSelect l.toArray && decide (p.deep=l.length) && p.chk .any l.toArray hs true (Array.replicate l.toArray.size false))=true)
 (hQ:∀c d v a w,Q (.panic c) (Act.put a d v) w→Q (.panic c) a w) (hS:S w.drew)
 (h:wpPlan P l.toArray Q S hs true p a w.drew):(Code.region id l.toArray true).wp P Q a w:=by
 simp only [Bool.and_eq_true,decide_eq_true_eq] at hB
 obtain ⟨⟨hsn,hn⟩,hsc⟩:=hB
 refine wp_region_any hm ?_
 have H:=plan_any (md:=.any) (Q:=Q) hsn hQ p.deep p _ a w.drew (Lr _) (Shut.start _) hsc (fun _=>hS) h
 rw [hn,show l.length=l.toArray.size by simp] at H
 exact wpAny_of_l _ _ _ _ H
theorem Seg.mk {K:Act→World→Prop} {a:Act} {w:World} (h:K a w):Seg K Q .normal a w:=h
theorem Seg.lets {K:Act→World→Prop} (h:LetsOut (Seg K Q)):LetsOut Q:=by
 obtain ⟨a,w,h⟩:=h
 exact ⟨a,w,h⟩
theorem wpOp_of_list {k:Nat} {o:Oper} {K:Act→World→Prop} {a:Act} {w:World} (ho:ops[k]?=some o) (h:wpList P ops (Seg K Q) [o] a w):wpOp P ops Q k K a w:=by
 unfold wpOp
 simp only [ho]
 simp only [wpList] at h
 split
 ·rename_i hw
  rw [if_pos hw] at h
  rcases h with h | h
  ·refine .inl ?_
   unfold Oper.wp at *
   generalize (execOp a.eval o).run P w=r at *
   cases r with
   | ok n w'=>
    cases n <;> simp only [Oper.upon] at h ⊢ <;>
     first
      | exact h
      | exact Calls.mono h (fun e w'' he=>by cases e <;> first | exact he | exact Seg.lets he)
      | exact Rows.mono h (fun _ _ he=>he)
   | halt x w'=>cases x <;> simp only [Oper.upon] at h ⊢ <;> exact h
  ·exact .inr ⟨h.1,Seg.lets h.2⟩
 ·rename_i hw
  rw [if_neg hw] at h
  exact h
theorem wpOp_of_last {k:Nat} {o:Oper} {a:Act} {w:World} (ho:ops[k]?=some o) (h:wpList P ops Q [o] a w):wpOp P ops Q k (fun a' w'=>Q .normal a' w') a w:=by
 unfold wpOp
 simp only [ho]
 exact h
end
section
variable {P:Program} {l:List Oper} {Q:Exit→Act→World→Prop} {S:World→Prop} {hs:List Nat}
theorem take_held {b:Bool} {k:Nat} {p:Plan} {a:Act} {w:World} (o:Oper) (v:Value) (ho:l[k]?=some o) (hw:Region.wanted o (yielded l.toArray a.tmps)=true)
 (hk:k ∈ hs) (hv:∀w,S w→(execOp a.eval o).run P w=.ok (.value v) w) (h:∀K':Act→Prop,(∀a,wpPlan P l.toArray Q S hs true p a w→K' a)→K' (a.put o.dst v)):wpPlan P l.toArray Q S hs b (.take k p) a w:=by
 have:wpPlan P l.toArray Q S hs true (.take k p) a w:=⟨o,v,by simpa using ho,.inl ⟨hw,fun w hS=>hv w (hS hk)⟩,h _ fun _ h=>h⟩
 cases b <;> exact this
theorem take_any {b:Bool} {k:Nat} {p:Plan} {a:Act} {w:World} (o:Oper) (v:Value) (ho:l[k]?=some o) (hw:Region.wanted o (yielded l.toArray a.tmps)=true)
 (hv:∀w,(execOp a.eval o).run P w=.ok (.value v) w) (h:∀K':Act→Prop,(∀a,wpPlan P l.toArray Q S hs true p a w→K' a)→K' (a.put o.dst v)):wpPlan P l.toArray Q S hs b (.take k p) a w:=by
 have:wpPlan P l.toArray Q S hs true (.take k p) a w:=⟨o,v,by simpa using ho,.inl ⟨hw,fun w _=>hv w⟩,h _ fun _ h=>h⟩
 cases b <;> exact this
theorem ask_step {b:Bool} {k:Nat} {p alt:Plan} {a:Act} {w:World} (o:Oper) (ho:l[k]?=some o) (ha:wpPlan P l.toArray Q S hs false alt a w)
 (h:wpList P l.toArray (Seg (fun a' w'=>S w'∧wpPlan P l.toArray Q S hs true p a' w') Q) [o] a w):wpPlan P l.toArray Q S hs b (.ask k true p alt) a w:=by
 have:wpPlan P l.toArray Q S hs true (.ask k true p alt) a w:=⟨wpOp_mono (fun a' w' h=>⟨fun _=>h.1,h.2⟩) (wpOp_of_list (by simpa using ho) h),ha⟩
 cases b <;> exact this
theorem ask_late {b:Bool} {k:Nat} {p alt:Plan} {a:Act} {w:World} (o:Oper) (ho:l[k]?=some o) (ha:wpPlan P l.toArray Q S hs false alt a w)
 (h:wpList P l.toArray (Seg (fun a' w'=>wpPlan P l.toArray Q S hs true p a' w') Q) [o] a w):wpPlan P l.toArray Q S hs b (.ask k false p alt) a w:=by
 have:wpPlan P l.toArray Q S hs true (.ask k false p alt) a w:=⟨wpOp_mono (fun a' w' h=>⟨fun e=>(by cases e),h⟩) (wpOp_of_list (by simpa using ho) h),ha⟩
 cases b <;> exact this
theorem plan_cut {t p:Plan} {a:Act} {w:World} (ss:List Nat) (rel:List Value→World→Prop) (h1:wpPlan P l.toArray (Meet a ss rel Q) S hs true t a w)
 (h2:∀vs w',rel vs w'→wpPlan P l.toArray Q S hs true p (puts a ss vs) w'):wpPlan P l.toArray Q S hs true (Plan.join true t p) a w:=
 plan_join h2 true t a w h1
theorem plan_meet {a a0:Act} {ss:List Nat} {rel:List Value→World→Prop} {w:World} (vs:List Value) (h:rel vs w) (e:a=puts a0 ss vs):wpPlan P l.toArray (Meet a0 ss rel Q) S hs true .stop a w:=
 ⟨vs,h,e⟩
theorem ask_last {b:Bool} {k:Nat} {alt:Plan} {a:Act} {w:World} (o:Oper) (ho:l[k]?=some o) (ha:wpPlan P l.toArray Q S hs false alt a w) (h:wpList P l.toArray Q [o] a w):wpPlan P l.toArray Q S hs b (.ask k false .stop alt) a w:=by
 have:wpPlan P l.toArray Q S hs true (.ask k false .stop alt) a w:=⟨wpOp_mono (fun a' w' h=>⟨fun e=>(by cases e),h⟩) (wpOp_of_last (by simpa using ho) h),ha⟩
 cases b <;> exact this
end
end Go.Proofs.YtcklddldejejcaaGreatDoor
namespace Go.Proofs.YtcklddldejejcaaGreatDoor
open Go.ChangeShapes Go.WideShapes Go.ChangeAt Go.RowKit
theorem mNames_size:∀s,s ∈ mNames→s.size≤maxLen - 2:=by decide +kernel
theorem mNames_one:∀s,s ∈ mNames→s.size≤1:=by decide +kernel
theorem mNames_ok:∀s,s ∈ mNames→textOk s=true:=by decide +kernel
theorem mNames_nodup:mNames.Nodup:=by decide +kernel
theorem infon:∃i,Tryz.prog.info? 28=some i∧i.zero=some (.agg #[.int .i64 0,.bool false,.int .i64 0,.string ⟨#[]⟩,.slice none 0 0,.slice none 0 0])∧i.size=6∧i.bytes=88:=
 info_parts (show (Tryz.prog.info? 28).map (fun i=>(i.zero,i.size,i.bytes))=some (some (.agg #[.int .i64 0,.bool false,.int .i64 0,.string ⟨#[]⟩,.slice none 0 0,.slice none 0 0]),6,88) by kernel_rfl)
theorem infos:∃i,Tryz.prog.info? 9=some i∧i.zero=some (.string ⟨#[]⟩)∧i.size=1∧i.bytes=16:=
 info_parts (show (Tryz.prog.info? 9).map (fun i=>(i.zero,i.size,i.bytes))=some (some (.string ⟨#[]⟩),1,16) by kernel_rfl)
theorem kmap_any (B g n:Nat) (w:World) (hn:2≤n) (hn2:n<100) (hd:DiceAt B w g)
 (KN:∀wx:World,DiceAt B wx g→Calls Tryz.prog 20 #[.pointer (some ⟨g,0,none⟩),.int .i64 ((n:Int) - 1)] wx fun e w'=>SomeNode (n - 1) wx e w'∧wx.grownBy w' (some g)∧DiceAt B w' g) :
 Calls Tryz.prog 11 #[.pointer (some ⟨g,0,none⟩),.int .i64 n] w fun e w'=>
  SomeMapN n w e w'∧w.grownBy w' (some g)∧DiceAt B w' g:=by
 have N4:=Hh (fun (wx:World) (hx:DiceAt B wx g)=>next_lit B g 4 4 rfl wx (by decide) (by decide) hx)
 have HKN:=Hh KN
 have hgw:=hd.lt
 obtain ⟨z1,hz1⟩:∃o,o=Obj.cells #[.int .i64 0,.bool false,.int .i64 0,.string ⟨#[]⟩,.slice none 0 0,.slice none 0 0] 28 (0,0):=⟨_,rfl⟩
 obtain ⟨z2,hz2⟩:∃o,o=Obj.cells #[.int .i64 5,.bool false,.int .i64 0,.string ⟨#[]⟩,.slice none 0 0,.slice none 0 0] 28 (0,0):=⟨_,rfl⟩
 have hst0:NSt 28 9 (n - 1) w ((w.alloc z1).alloc z2) g (w.heap.size+1) ((w.alloc z1).alloc z2).heap.size 5 (.slice none 0 0) (.slice none 0 0) [] []:=by
  have e1:(w.alloc z1).heap.size=w.heap.size+1:=by simp
  have h2:=Hn (w.alloc z1) z2
  rw [e1] at h2
  refine NSt.begin ?_ (h2.trans (by rw [hz2])) hgw (by omega) (gtrans (galloc w z1 _) (galloc _ z2 _))
  rw [←hz1]
  exact (Below.heap_alloc (w.alloc z1) z2 w.heap.size (by omega)).trans (Hn w z1)
 have hd0:DiceAt B ((w.alloc z1).alloc z2) g:=(hd.go ((Br w.heap.size w).alloc (Lr _) z1)).go ((Br _ _).alloc (Lr _) z2)
 subst hz1
 subst hz2
 clear KN hd
 go_enter Tryz.func11,Tryz.ntmps11
 go_upto_region 2 with fail
 obtain ⟨W1,hW1⟩:∃W,W=(w.alloc (.cells #[.int .i64 0,.bool false,.int .i64 0,.string ⟨#[]⟩,.slice none 0 0,.slice none 0 0] 28)).alloc (.cells #[.int .i64 5,.bool false,.int .i64 0,.string ⟨#[]⟩,.slice none 0 0,.slice none 0 0] 28):=⟨_,rfl⟩
 rw [←hW1] at hst0 hd0
 rw [←hW1]
 obtain ⟨C,hC⟩:∃C,C=W1.heap.size:=⟨_,rfl⟩
 rw [←hC] at hst0
 clear hC hW1
 obtain ⟨nb,hnb⟩:∃nb,nb=w.heap.size+1:=⟨_,rfl⟩
 rw [←hnb] at hst0
 rw [←hnb]
 clear hnb
 go_upto_region 3 with ((with_reducible refine (N4.out _ hd0).mono ?_);rintro e w1 ⟨⟨k,hk,rfl⟩,hg1,hd1⟩)
 have HS0:=Hh (hst0.grown hg1)
 have HD0:=Hh hd1
 clear hst0 hg1 hd1 hd0 N4
 obtain ⟨ip,hip,hz0,hz1,hz2⟩:=infon
 obtain ⟨iq,hiq,hy0,hy1,hy2⟩:=infos
 have hug:=Tryz.underlying26
 have hus:=Tryz.underlying25
 go_loopw [10] (fun i wr=>∃ (j:Nat) (vn vi:Value) (ns:List ByteArray) (A:List NC),i=.int .i64 j∧j≤k∧NSt 28 9 (n - 1) w wr g nb C 5 vn vi ns A∧ns=mNames.take j∧A.length=j∧(∀y,y ∈ A→validK (n - 1) y.2=true)∧DiceAt B wr g) (fun i _=>k - (intOf i).toNat)
 case atStart=>exact ⟨0,_,_,[],[],rfl,Nat.zero_le _,HS0.out,rfl,rfl,(fun y hy=>by simp at hy),HD0.out⟩
 case round=>
  clear HS0 HD0
  obtain ⟨j,vn,vi,ns,A,rfl,hjk,hst,hns,hA,hval,hdi⟩:=hrel
  by_cases hj:j<k
  ·have hj':(j:Int)<(k:Int):=by omega
   have hj4:(j:Int)<4:=by omega
   have hj0:(0:Int)≤(j:Int):=by omega
   obtain ⟨s,hs⟩:∃s,mNames[j]?=some s:=⟨mNames[j]'(by show j<4;omega),List.getElem?_eq_getElem _⟩
   have hl4:([Value.string ⟨#[97]⟩,Value.string ⟨#[98]⟩,Value.string ⟨#[118]⟩,Value.string ⟨#[100]⟩]:List Value)[j]?=some (.string s):=by
    have h:(mNames.map Value.string)[j]?=some (.string s):=by rw [List.getElem?_map,hs];rfl
    exact h
   have hss:s.size≤maxLen - 2:=mNames_size s (List.mem_of_getElem? hs)
   have hnl:ns.length=j:=by rw [hns,List.length_take];show min j 4=j;omega
   have HNS:=Hh hns
   have HA:=Hh hA
   have HV:=Hh hval
   have HS:=Hh hs
   have hst1:=hst.below ((Br wr.heap.size wr).drew)
   have hdi1:=hdi.go ((Br wr.heap.size wr).drew)
   have hc1:=(six_of hst1.nod).2.2.2.2.1
   clear hns hA hval hs hst hdi
   go_upto_region 5 with fail
   refine wp_region_plan (fun w'=>w'.cell? ⟨nb,4,none⟩=some vn) [1] (.take 0 (.take 1 (.take 3 (.ask 2 true (.take 4 (.ask 5 true (.ask 6 true (.ask 7 false (.ask 8 false (.ask 9 false .stop .stop) .stop) .stop) .stop) .stop)) .stop)))) (by kernel_rfl) (by kernel_rfl) (fun _ d _ _ _ h=>by cases d <;> exact h) hc1 ?_
   generalize wr.drew=wd at hst1 hdi1 hc1 ⊢
   refine take_any _ ?_ rfl rfl ?_ (fun K hK=>?_);rotate_left;(intro w0;go_simp;(try rfl));(go_simp;refine hK _ ?_;clear hK K)
   refine take_held _ ?_ rfl rfl (by decide) ?_ (fun K hK=>?_);rotate_left;(intro w0 hw0;go_simp;(try rfl));(go_simp;refine hK _ ?_;clear hK K)
   refine take_any _ ?_ rfl rfl ?_ (fun K hK=>?_);rotate_left;(intro w0;go_simp;(try rfl));(go_simp;refine hK _ ?_;clear hK K)
   obtain ⟨o1,ho1⟩:∃o,o=Obj.cells #[.string ⟨#[97]⟩,.string ⟨#[98]⟩,.string ⟨#[118]⟩,.string ⟨#[100]⟩] 9 (0,0):=⟨_,rfl⟩
   have hst2:=hst1.below ((Br wd.heap.size wd).alloc (o:=o1) (Lr _))
   have hdi2:=hdi1.go ((Br wd.heap.size wd).alloc (o:=o1) (Lr _))
   have hcl:(wd.alloc o1).cell? ⟨wd.heap.size,j,none⟩=some (.string s):=cells_lit _ ((Hn wd o1).trans (by rw [ho1])) rfl j _ hl4
   have hzz2:(wd.alloc o1).heap.size=wd.heap.size+1:=by simp
   rw [ho1] at hcl hzz2 hst2 hdi2
   clear ho1
   refine ask_step _ rfl trivial ?_
   go_wp2_with fail
   generalize hW:wd.alloc (.cells #[.string ⟨#[97]⟩,.string ⟨#[98]⟩,.string ⟨#[118]⟩,.string ⟨#[100]⟩] 9)=W2 at hcl hzz2 hst2 hdi2 ⊢
   have hc2:=(six_of hst2.nod).2.2.2.2.1
   clear hW hl4
   refine Seg.mk ⟨hc2,?_⟩
   refine take_any _ ?_ rfl rfl ?_ (fun K hK=>?_);rotate_left;(intro w0;go_simp;(try rfl));(go_simp;refine hK _ ?_;clear hK K)
   refine ask_step _ rfl trivial ?_
   go_wp2_with fail
   refine Seg.mk ⟨hc2,?_⟩
   have hst3:=hst2.below ((Br W2.heap.size W2).alloc (o:=.cells #[.string s] 9) (Lr _))
   have hdi3:=hdi2.go ((Br W2.heap.size W2).alloc (o:=.cells #[.string s] 9) (Lr _))
   have hn3:=Hn W2 (.cells #[.string s] 9)
   rw [hzz2] at hn3
   have hzz3:(W2.alloc (.cells #[.string s] 9)).heap.size=W2.heap.size+1:=by simp
   refine ask_step _ rfl trivial ?_
   go_wp2_with fail
   generalize hW:W2.alloc (.cells #[.string s] 9)=W3 at hn3 hzz3 hst3 hdi3 ⊢
   have hc3:=(six_of hst3.nod).2.2.2.2.1
   clear hW hst2 hdi2
   refine Seg.mk ⟨hc3,?_⟩
   have hN3:∀q u,([Value.string s]:List Value)[q]?=some u→W3.cell? ((⟨wd.heap.size+1,0,none⟩:Addr).add q)=some u:=by
    intro q u hq
    have:=cells_lit [Value.string s] hn3 rfl q u hq
    rw [Addr.add_lit,Nat.zero_add];exact this
   have HN3:=Hh hN3
   have HW:=Hh hzz3
   have hO:=Hh hst3.names.1
   have hbs:=hst3.lo.2.2.2
   have HI:=Hh hiq
   clear hN3 hn3 hzz3
   refine ask_late _ rfl trivial ?_
   go_wp2_with ((refine wpList_append_lies _ rfl (.tmp 14) (.tmp 19) 25 rfl C 9 iq (.string ⟨#[]⟩) 1 16 hus HI.out hy0 hy1 hy2 rfl (by decide) vn ns.length _ rfl hO.out ⟨wd.heap.size+1,0,none⟩ 1 1 [.string s] rfl rfl HN3.out (by intro u hu;simp at hu;subst hu;rfl) (by decide) (by unfold maxLen;omega) (by omega) hbs _ rfl ?_);intro gg cc W4 hown hgrow hat hlt)
   refine Seg.mk ?_
   refine ask_late _ rfl trivial ?_
   go_wp2_with fail
   refine Seg.mk ?_
   have hst4:=hst3.name hown hgrow (own_at hat) hss
   have hdi4:=hst3.dice (.inl rfl) hdi3 hgrow 4 (.slice (some ⟨gg,0,none⟩) (ns.length+1) cc)
   have hk4:=(hst3.apart (.inl rfl) hgrow nb hst3.lo.2.2.1).trans hst3.nod
   have hf4:=free_six hk4
   have hd4:=six_of hk4
   rw [hnl] at hst4 hdi4
   clear hown hgrow hat hst3 hdi3 hk4 hnl hO HN3 hbs HW hc2 hc3 hc1 hcl hst1 hdi1
   refine ask_last _ rfl trivial ?_
   go_wp2_with fail
   generalize W4.setCell ⟨nb,4,none⟩ (.slice (some ⟨gg,0,none⟩) (j+1) cc)=wl at hst4 hdi4 ⊢
   clear hf4 hd4
   generalize Value.slice (some ⟨gg,0,none⟩) (j+1) cc=vn' at hst4 ⊢
   have hst5:=hst4.below ((Br wl.heap.size wl).drew)
   have hdi5:=hdi4.go ((Br wl.heap.size wl).drew)
   have hc5:=(six_of hst5.nod).2.2.2.2.2
   clear hst4 hdi4
   refine wp_region_plan (fun w'=>w'.cell? ⟨nb,5,none⟩=some vi) [1] (.take 0 (.take 1 (.take 2 (.take 3 (.take 4 (.ask 5 true (.ask 6 true (.ask 7 false (.ask 8 false (.ask 9 false .stop .stop) .stop) .stop) .stop) .stop)))))) (by kernel_rfl) (by kernel_rfl) (fun _ d _ _ _ h=>by cases d <;> exact h) hc5 ?_
   generalize wl.drew=wd5 at hst5 hdi5 hc5 ⊢
   refine take_any _ ?_ rfl rfl ?_ (fun K hK=>?_);rotate_left;(intro w0;go_simp;(try rfl));(go_simp;refine hK _ ?_;clear hK K)
   refine take_held _ ?_ rfl rfl (by decide) ?_ (fun K hK=>?_);rotate_left;(intro w0 hw0;go_simp;(try rfl));(go_simp;refine hK _ ?_;clear hK K)
   iterate 3 (refine take_any _ ?_ rfl rfl ?_ (fun K hK=>?_);rotate_left;(intro w0;go_simp;(try rfl));(go_simp;refine hK _ ?_;clear hK K))
   refine ask_step _ rfl trivial ?_
   go_wp2_with (go_at_call 20;(with_reducible refine (HKN.out _ hdi5).mono ?_);rintro e w6 ⟨⟨cs,x,rfl,hnode,hvx⟩,hg6,hdi6⟩)
   have hst6:=hst5.grown hg6
   have hc6:=(six_of hst6.nod).2.2.2.2.2
   refine Seg.mk ⟨hc6,?_⟩
   have b7:=(Br w6.heap.size w6).alloc (o:=.cells cs.toArray 28) (Lr _)
   have hst7:=hst6.below b7
   have hdi7:=hdi6.go b7
   have hfr:=hst5.fresh hnode b7
   have hn7:=Hn w6 (.cells cs.toArray 28)
   have hone:=hnode.one
   obtain ⟨va,vb,hcs⟩:=hnode.form
   have HCS:=Hh hcs
   rw [hcs] at b7 hst7 hdi7 hfr hn7 hone
   rw [hcs]
   clear hcs hnode
   refine ask_step _ rfl trivial ?_
   go_wp2_with fail
   generalize hW:w6.alloc (.cells #[.int .i64 x.kind,.bool x.bool,.int .i64 x.num,.string x.text,va,vb] 28)=W7 at b7 hst7 hdi7 hfr hn7 ⊢
   have hc7:=(six_of hst7.nod).2.2.2.2.2
   clear hW hst6 hc6 hst5 hc5 hdi5 hdi6
   refine Seg.mk ⟨hc7,?_⟩
   have hN7:∀q u,([Value.int IntKind.i64 x.kind,.bool x.bool,.int .i64 x.num,.string x.text,va,vb]:List Value)[q]?=some u→W7.cell? ((⟨w6.heap.size,0,none⟩:Addr).add q)=some u:=by
    intro q u hq
    have:=cells_lit _ hn7 rfl q u hq
    rw [Addr.add_lit,Nat.zero_add];exact this
   have HN7:=Hh hN7
   have HI2:=Hh hip
   have hO7:=Hh hst7.items.1
   have hbs7:=hst7.lo.2.2.2
   have HONE:=Hh hone
   have hAl:A.length=j:=HA.out
   have HFR:=Hh hfr
   clear hN7 hn7 hone hfr
   refine ask_late _ rfl trivial ?_
   go_wp2_with ((refine wpList_append_lies _ rfl (.tmp 23) (.tmp 28) 26 rfl C 28 ip (.agg #[.int .i64 0,.bool false,.int .i64 0,.string ⟨#[]⟩,.slice none 0 0,.slice none 0 0]) 6 88 hug HI2.out hz0 hz1 hz2 rfl (by decide) vi A.length _ rfl hO7.out ⟨w6.heap.size,0,none⟩ 1 1 [.int .i64 x.kind,.bool x.bool,.int .i64 x.num,.string x.text,va,vb] rfl rfl HN7.out HONE.out (by decide) (by unfold maxLen;omega) (by omega) hbs7 _ rfl ?_);intro g8 c8 W8 hown hgrow hat hlt)
   refine Seg.mk ?_
   refine ask_late _ rfl trivial ?_
   go_wp2_with fail
   refine Seg.mk ?_
   have hst8:=hst7.item hown hgrow (own_at hat) HFR.out
   have hdi8:=hst7.dice (.inr rfl) hdi7 hgrow 5 (.slice (some ⟨g8,0,none⟩) (A.length+1) c8)
   have hk8:=(hst7.apart (.inr rfl) hgrow nb hst7.lo.2.2.1).trans hst7.nod
   have hf8:=free_six hk8
   have hd8:=six_of hk8
   rw [hAl] at hst8 hdi8
   clear hown hgrow hat hst7 hdi7 hk8 hAl hO7 HN7 hbs7
   refine ask_last _ rfl trivial ?_
   go_wp2_with fail
   generalize W8.setCell ⟨nb,5,none⟩ (.slice (some ⟨g8,0,none⟩) (j+1) c8)=w9 at hst8 hdi8 ⊢
   clear hf8 hd8
   go_roundw
   case rel=>
    refine ⟨j+1,_,_,_,_,by go_num,by omega,hst8,?_,?_,?_,hdi8⟩
    ·rw [HNS.out,List.take_add_one,HS.out];rfl
    ·rw [Lg,HA.out];rfl
    ·intro y hy
     rcases List.mem_append.1 hy with hy | hy
     ·exact HV.out y hy
     ·cases List.mem_singleton.1 hy;exact hvx
   case measure=>simp [intOf];omega
  ·have hjk2:¬ (j:Int)<(k:Int):=by omega
   have hjk3:j=k:=by omega
   obtain ⟨an,L1,cpn,hvn⟩:∃a l c,vn=Value.slice a l c:=by obtain ⟨a,c,h,_⟩:=hst.names.strs;exact ⟨a,_,c,h⟩
   obtain ⟨ai,L2,cpi,hvi⟩:∃a l c,vi=Value.slice a l c:=by obtain ⟨a,c,h,_⟩:=hst.items.nodes;exact ⟨a,_,c,h⟩
   subst hvn
   subst hvi
   obtain ⟨l1,l2,l3,l4⟩:=hst.lo
   have fn:=free_six hst.nod
   have cn:=six_of hst.nod
   have fr:=free_six hst.res
   have cr:=six_of hst.res
   have hne:¬w.heap.size=nb:=by omega
   have hne2:¬nb=w.heap.size:=by omega
   have HST:=Hh hst
   have HNS:=Hh hns
   have HA:=Hh hA
   have HV:=Hh hval
   have HDI:=Hh hdi
   have HJ:=Hh hjk3
   clear hst hns hA hval hdi hjk3
   go_wp2
   have hput:=six_put HST.out.res (.int .i64 5) (.bool false) (.int .i64 0) (.string ⟨#[]⟩) (.slice an L1 cpn) (.slice ai L2 cpi)
   have hgs:=grown_set6 wr w.heap.size (.int .i64 5) (.bool false) (.int .i64 0) (.string ⟨#[]⟩) (.slice an L1 cpn) (.slice ai L2 cpi)
   refine bodyPost_ret (v:=.agg #[.int .i64 5,.bool false,.int .i64 0,.string ⟨#[]⟩,.slice an L1 cpn,.slice ai L2 cpi]) ?_ ?_ ?_
   rotate_left
   ·rfl
   ·refine ⟨⟨[.int .i64 5,.bool false,.int .i64 0,.string ⟨#[]⟩,.slice an L1 cpn,.slice ai L2 cpi],.mk 5 false 0 ⟨#[]⟩ ns (nodesOf A),rfl,?_,?_,?_,?_,?_,fun s hs=>List.mem_of_mem_take (i:=j) (by rw [←HNS.out];exact hs)⟩,?_,?_⟩
    ·have hnd:=HST.out.node
     rw [show n - 1+1=n by omega] at hnd
     exact (hnd.same fun b hb=>hgs.block b hb.2 (by intro e;have:=Option.some.inj e;omega)).mono fun b hb=>⟨by omega,Ll hb.2 hgs.size⟩
    ·have hlA:(nodesOf A).length=j:=by rw [nodesOf,List.length_map];exact HA.out
     have hlN:ns.length=j:=by rw [HNS.out,List.length_take];show min j 4=j;omega
     refine ⟨rfl,rfl,rfl,rfl,hlN.trans hlA.symm,by show (nodesOf A).length≤256;omega,?_,?_,?_⟩
     ·intro s hs
      have hs':s ∈ mNames:=List.mem_of_mem_take (i:=j) (by rw [←HNS.out];exact hs)
      exact mNames_ok s hs'
     ·show ns.Nodup
      rw [HNS.out]
      exact List.Sublist.nodup (List.take_sublist _ _) mNames_nodup
     ·intro y hy
      obtain ⟨z,hz,rfl⟩:=List.mem_map.1 hy
      exact validK_valid (HV.out z hz)
    ·show (nodesOf A).length≤3
     rw [nodesOf,List.length_map,HA.out];omega
    ·intro y hy
     obtain ⟨z,hz,rfl⟩:=List.mem_map.1 hy
     exact HV.out z hz
    ·have hlA:(nodesOf A).length=j:=by rw [nodesOf,List.length_map];exact HA.out
     have hc:costs (n - 1) (nodesOf A)≤_:=costs_few (fun y hy=>by
      obtain ⟨z,hz,rfl⟩:=List.mem_map.1 hy
      exact HV.out z hz) (by omega)
     have hns:(ns.map fun s=>6 * s.size+8).sum≤56:=by
      refine Nat.le_trans (sum_le (c:=14) fun s hs=>?_) ?_
      ·have hs':s ∈ mNames:=List.mem_of_mem_take (i:=j) (by rw [←HNS.out];exact hs)
       have:=mNames_one s hs'
       omega
      ·rw [HNS.out,List.length_take]
       show 14 * min j 4≤56
       omega
     obtain ⟨m,hm⟩:∃m,n=m+1:=⟨n - 1,by omega⟩
     rw [hm,Nat.add_sub_cancel] at hc
     rw [hm,costN_succ,bndN_succ]
     unfold costs at hc
     show 24+6 * 0+(ns.map fun s=>6 * s.size+8).sum+((nodesOf A).map fun y=>costN m y+1).sum≤_
     omega
    ·have:=HST.out.gro
     exact ⟨hgs.os.trans this.os,hgs.tape.trans this.tape,hgs.output.trans this.output,Nat.le_trans this.size hgs.size,fun i hi hn=>(hgs.block i (Ll hi this.size) (by intro e;have:=Option.some.inj e;omega)).trans (this.block i hi hn)⟩
    ·exact HDI.out.same fun q hq=>hgs.block q (by omega) (by intro e;have:=Option.some.inj e;omega)
   ·obtain ⟨q0,q1,q2,q3,q4,q5⟩:=six_of hput
    simp only [set6] at q0 q1 q2 q3 q4 q5
    simp [results,Tryz.results11,go_sem,q0,q1,q2,q3,q4,q5]
end Go.Proofs.YtcklddldejejcaaGreatDoor