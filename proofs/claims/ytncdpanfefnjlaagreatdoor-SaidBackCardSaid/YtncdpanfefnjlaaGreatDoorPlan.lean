import Derived.Test.YtncdpanfefnjlaaGreatDoorAa
set_option linter.unusedVariables false
set_option linter.unusedSimpArgs false
namespace Go.Proofs.YtncdpanfefnjlaaGreatDoor
open Go.Proofs.Tryz
open Go
section
variable {P:Program} {ops:Array Oper} {md:Region.Mode} {Q:Exit→Act→World→Prop} {S:World→Prop} {hs:List Nat}
def rQ (md:Region.Mode) (ops:Array Oper):Nat→Nat→Nat→Bool
 | 0,_,_=>false
 | n+1,j,i=>match ops[j]? with
  | some o=>o.after.any fun e=>Region.binds md e && (e.on == i || rQ md ops n e.on i)
  | none=>false
def vV (md:Region.Mode) (ops:Array Oper) (hs:List Nat) (j:Nat):Bool:=hs.all fun i=>rQ md ops ops.size j i
def AQ (md:Region.Mode) (ops:Array Oper) (listed:Array Bool):Prop:=
 ∀j oj,ops[j]?=some oj→listed.getD j false=true→∀e ∈ oj.after,Region.binds md e=true→listed.getD e.on false=true
def Opn (md:Region.Mode) (ops:Array Oper) (hs:List Nat) (listed:Array Bool):Prop:=∀j,vV md ops hs j=true→listed.getD j false=false
def aAl (md:Region.Mode) (ops:Array Oper) (hs:List Nat) (listed:Array Bool):Bool:=(List.range ops.size).all fun j => !vV md ops hs j || !listed.getD j false
theorem SL {listed:Array Bool} (h:aAl md ops hs listed=false):¬Opn md ops hs listed:=fun ho=>by
 have:aAl md ops hs listed=true:=Aw.2 fun j _=>by
  cases hl:vV md ops hs j with
  | false=>rfl
  | true=>simp [ho j hl]
 rw [h] at this;cases this
theorem rP {listed:Array Bool} (hc:AQ md ops listed):∀ (n j i:Nat) (oj:Oper),ops[j]?=some oj→(∀e ∈ oj.after,Region.binds md e=true→listed.getD e.on false=true)→rQ md ops n j i=true→listed.getD i false=true
 | 0,_,_,_,_,_,h=>by simp [rQ] at h
 | n+1,j,i,oj,hj,hall,h=>by
  simp only [rQ,hj] at h;obtain ⟨e,he,hb⟩:=Array.any_eq_true'.1 h;simp only [Ak,Dw,beq_iff_eq] at hb;obtain ⟨hb1,hb2⟩:=hb;rcases hb2 with rfl | hb2
  ·exact hall e he hb1
  ·cases ho:ops[e.on]? with
   | none=>
    cases n with
    | zero=>simp [rQ] at hb2
    | succ n=>simp [rQ,ho] at hb2
   | some oe=>exact rP hc n e.on i oe ho (hc e.on oe ho (hall e he hb1)) hb2
theorem AQ.set {listed:Array Bool} (hc:AQ md ops listed) {i:Nat} (hr:i ∈ Region.ready md ops listed):AQ md ops (listed.setIfInBounds i true):=by
 intro j oj hj hl e he hb
 by_cases hij:i=j
 ·subst hij
  obtain ⟨_,o,ho,hall⟩:=mem_ready.1 hr;rw [hj] at ho;cases ho;exact getD_set_true (hall e he hb)
 ·rw [getD_set_ne false hij] at hl
  exact getD_set_true (hc j oj hj hl e he hb)
theorem AQ.start (n:Nat):AQ md ops (Array.replicate n false):=by
 intro j oj hj hl;rw [Array.getD_eq_getD_getElem?,Array.getElem?_replicate] at hl
 split at hl <;> simp at hl
theorem Opn.back {listed:Array Bool} {i:Nat} (h:Opn md ops hs (listed.setIfInBounds i true)):Opn md ops hs listed:=fun j hl=>by
 have:=h j hl
 by_cases hij:i=j
 ·subst hij
  cases hg:listed.getD i false with
  | false=>rfl
  | true=>rw [getD_set_true hg] at this;cases this
 ·rw [getD_set_ne false hij] at this;exact this
theorem Opn.on {listed:Array Bool} {i:Nat} (h:Opn md ops hs listed) (hi:vV md ops hs i=false):Opn md ops hs (listed.setIfInBounds i true):=fun j hl=>by
 by_cases hij:i=j
 ·subst hij;rw [hi] at hl;cases hl
 ·rw [getD_set_ne false hij];exact h j hl
def tK (P:Program) (md:Region.Mode) (ops:Array Oper) (Q:Exit→Act→World→Prop) (S:World→Prop) (hs:List Nat):Nat→Array Bool→Act→World→Prop
 | 0,listed,a,w=>Region.ready md ops listed=[]∧Q .normal a w
 | fuel+1,listed,a,w=>
  (Region.ready md ops listed=[]→Q .normal a w) ∧
  ∀i ∈ Region.ready md ops listed,wpOp P ops Q i (fun a' w'=>(Opn md ops hs (listed.setIfInBounds i true)→S w')∧tK P md ops Q S hs fuel (listed.setIfInBounds i true) a' w') a w
theorem xN:∀ (fuel:Nat) (listed:Array Bool) (a:Act) (w:World),tK P md ops Q S hs fuel listed a w→wpAny P md ops Q fuel listed a w
 | 0,_,_,_,h=>h
 | fuel+1,_,_,_,h=>⟨h.1,fun i hi=>wpOp_mono (fun a' w' h'=>xN fuel _ a' w' h'.2) (h.2 i hi)⟩
theorem IQ {listed:Array Bool} {a:Act} {w:World} (hr:Region.ready md ops listed=[]) (h:Q .normal a w):∀fuel,tK P md ops Q S hs fuel listed a w
 | 0=>⟨hr,h⟩
 | _+1=>⟨fun _=>h,by rw [hr];simp⟩
theorem EG {S0:World→Prop} {i:Nat} {oi:Oper} {v:Value} (hi:ops[i]?=some oi) (hsel:∀ (j:Nat) (o:Oper) cs b,ops[j]?=some o→o.op ≠ .select cs b)
 (hQ:∀c a w,Q (.panic c) (a.put oi.dst v) w→Q (.panic c) a w) (h0:(∀w,S0 w)∨(i ∈ hs∧∀w,S w→S0 w)) :
 ∀ (fuel:Nat) (listed:Array Bool) (a:Act) (w:World),AQ md ops listed→(vV md ops hs i=false∨hs=[]∨¬Opn md ops hs listed) →
  (∀j oj,ops[j]?=some oj→j ≠ i→listed.getD j true=false→(∀e ∈ oj.after,Region.binds md e=true→e.on ≠ i)→oi.apart ops oj=true) →
  i ∈ Region.ready md ops listed→YieldsIf P ops S0 oi v a→(Opn md ops hs listed→S w) →
  tK P md ops Q S hs fuel (listed.setIfInBounds i true) (a.put oi.dst v) w→tK P md ops Q S hs (fuel+1) listed a w:=by
 -- as long as i has not come up, nothing late has, if i is one of hs
 have hop:∀ {listed:Array Bool},AQ md ops listed→i ∈ Region.ready md ops listed→i ∈ hs→Opn md ops hs listed:=by
  intro listed hsh hr him j hl;cases hg:listed.getD j false with
  | false=>rfl
  | true=>
   have hun:=(mem_ready.1 hr).1;have hw:=Aw.1 hl i him;cases hoj:ops[j]? with
   | none=>
    exfalso
    revert hw
    cases ops.size with
    | zero=>simp [rQ]
    | succ n=>simp [rQ,hoj]
   | some oj=>
    have:=rP hsh _ j i oj hoj (hsh j oj hoj hg) hw;rcases Cc i listed.size with h' | h'
    ·simp [h'] at this hun;rw [hun] at this;cases this
    ·simp [Array.getElem?_eq_none h'] at this
 have hS0:∀ {listed:Array Bool} {w:World},AQ md ops listed→i ∈ Region.ready md ops listed→(Opn md ops hs listed→S w)→S0 w:=fun hsh hr hS=>by
  rcases h0 with h0 | h0
  ·exact h0 _
  ·exact h0.2 _ (hS (hop hsh hr h0.1))
 intro fuel
 induction fuel with
 | zero=>
  intro listed a w hsh _ _ hr hy hS H;refine ⟨fun h=>(by rw [h] at hr;cases hr),fun j hj=>?_⟩
  by_cases hji:j=i
  ·subst hji;exact hy.wpOp hi (hS0 hsh hr hS) ⟨fun ho=>hS ho.back,H⟩
  ·have:=ready_mono hj hji
   rw [H.1] at this;cases this
 | succ fuel ih=>
  intro listed a w hsh hnl hfree hr hy hS H;refine ⟨fun h=>(by rw [h] at hr;cases hr),fun j hj=>?_⟩
  by_cases hji:j=i
  ·subst hji;exact hy.wpOp hi (hS0 hsh hr hS) ⟨fun ho=>hS ho.back,H⟩
  ·have h1:=H.2 j (ready_mono hj hji)
   obtain ⟨hjun,oj,hoj,hall⟩:=mem_ready.1 hj;have hnot:∀e ∈ oj.after,Region.binds md e=true→e.on ≠ i:=fun e he hb heq=>by
    have h1:=hall e he hb;have h0:=(mem_ready.1 hr).1;rw [heq] at h1;rcases Cc i listed.size with h' | h'
    ·simp [h'] at h0 h1;rw [h0] at h1;cases h1
    ·simp [Array.getElem?_eq_none h'] at h1
   have h2:=wpOp_putIf hoj (hfree j oj hoj hji hjun hnot) (fun cs b=>hsel i oi cs b hi) (fun cs b=>hsel j oj cs b hoj) hQ hy h1
   have hfree':∀k ok,ops[k]?=some ok→k ≠ i→(listed.setIfInBounds j true).getD k true=false →
    (∀e ∈ ok.after,Region.binds md e=true→e.on ≠ i)→oi.apart ops ok=true:=fun k ok hk hki hun hno=>by
    refine hfree k ok hk hki ?_ hno
    by_cases hjk:j=k
    ·subst hjk;exact hjun
    ·rw [getD_set_ne true hjk] at hun;exact hun
   refine wpOp_mono (fun a' w' h3=>?_) h2
   have hS':Opn md ops hs (listed.setIfInBounds j true)→S w':=fun ho=>by
    rcases hnl with hnl | rfl | hno
    ·exact h3.2.1 (by rw [Array.setIfInBounds_comm _ _ (Ne.symm hji)];exact ho.on hnl)
    ·have h9:=ho j rfl
     rcases Cc j listed.size with h' | h'
     ·simp [h'] at h9
     ·simp [Array.getElem?_eq_none h'] at hjun
    ·exact (hno ho.back).elim
   have hnl':vV md ops hs i=false∨hs=[]∨¬Opn md ops hs (listed.setIfInBounds j true):=by
    rcases hnl with hnl | hnl | hno
    ·exact .inl hnl
    ·exact .inr (.inl hnl)
    ·exact .inr (.inr fun ho=>hno ho.back)
   refine ⟨hS',ih (listed.setIfInBounds j true) a' w' (hsh.set hj) hnl' hfree' (ready_mono hr (Ne.symm hji)) h3.1 hS' ?_⟩;rw [Array.setIfInBounds_comm _ _ hji];exact h3.2.2
inductive eN where
 | stop
 | take (k:Nat) (p:eN)
 | ask (k:Nat) (s:Bool) (p alt:eN)
namespace eN
def heads:eN→List Nat
 | .stop=>[]
 | .take _ _=>[]
 | .ask k _ _ alt=>k::alt.heads
def deep:eN→Nat
 | .stop=>0
 | .take _ p=>p.deep+1
 | .ask _ _ p alt=>max (p.deep+1) alt.deep
def chk (md:Region.Mode) (ops:Array Oper) (hs:List Nat):Bool→eN→Array Bool→Bool
 | top,.stop,l => !top || (Region.ready md ops l).isEmpty
 | top,.take k p,l=>top && (Region.ready md ops l).contains k && Region.free md ops l k && (!vV md ops hs k || hs.isEmpty || !aAl md ops hs l) && chk md ops hs true p (l.setIfInBounds k true)
 | top,.ask k s p alt,l=>(!top || decide (Region.ready md ops l=k::alt.heads)) && (s || !aAl md ops hs (l.setIfInBounds k true)) && chk md ops hs true p (l.setIfInBounds k true) && chk md ops hs false alt l
def join:Bool→eN→eN→eN
 | true,.stop,p=>p
 | false,.stop,_=>.stop
 | _,.take k q,p=>.take k (join true q p)
 | _,.ask k s q alt,p=>.ask k s (join true q p) (join false alt p)
end eN
def Seg (K:Act→World→Prop) (Q:Exit→Act→World→Prop):Exit→Act→World→Prop
 | .normal,a,w=>K a w
 | e,a,w=>Q e a w
def cN (P:Program) (ops:Array Oper) (Q:Exit→Act→World→Prop) (S:World→Prop) (hs:List Nat):Bool→eN→Act→World→Prop
 | true,.stop,a,w=>Q .normal a w
 | false,.stop,_,_=>True
 | _,.take k p,a,w=>∃o v,ops[k]?=some o∧YieldsIf P ops (fun w=>k ∈ hs→S w) o v a∧cN P ops Q S hs true p (a.put o.dst v) w
 | _,.ask k s p alt,a,w=>wpOp P ops Q k (fun a' w'=>(s=true→S w')∧cN P ops Q S hs true p a' w') a w∧cN P ops Q S hs false alt a w
def gX (a:Act):List Nat→Vl→Act
 | s::ss,v::vs=>gX (a.put (some s) v) ss vs
 | _,_=>a
def aEg (a:Act) (ss:List Nat) (rel:Vl→World→Prop) (Q:Exit→Act→World→Prop):Exit→Act→World→Prop
 | .normal,a',w=>∃vs,rel vs w∧a'=gX a ss vs
 | e,a',w=>Q e a' w
theorem SQ {k:Nat} {K:Act→World→Prop} {a0:Act} {ss:List Nat} {rel:Vl→World→Prop} {a:Act} {w:World} (h:wpOp P ops (aEg a0 ss rel Q) k K a w):wpOp P ops Q k K a w:=by
 have hl:LetsOut (aEg a0 ss rel Q)→LetsOut Q:=fun ⟨a,w,h⟩=>⟨a,w,h⟩
 unfold wpOp at *
 split
 ·rename_i ho
  simpa only [ho] using h
 ·rename_i o ho
  simp only [ho] at h
  split
  ·rename_i hw
   rw [Am hw] at h;rcases h with h | h
   ·refine .inl ?_
    unfold Oper.wp at *;generalize (execOp a.eval o).run P w=r at *;cases r with
    | ok n w'=>
     cases n <;> simp only [Oper.upon] at h ⊢ <;>
      first
       | exact h
       | exact Calls.mono h (fun e w'' he=>by cases e <;> first | exact he | exact hl he)
       | exact Rows.mono h (fun _ _ he=>he)
    | halt x w'=>cases x <;> simp only [Oper.upon] at h ⊢ <;> exact h
   ·exact .inr ⟨h.1,hl h.2⟩
  ·rename_i hw
   rw [Af hw] at h;exact h
theorem jJ {a0:Act} {ss:List Nat} {rel:Vl→World→Prop} {p:eN} (h2:∀vs w',rel vs w'→cN P ops Q S hs true p (gX a0 ss vs) w'):∀ (b:Bool) (t:eN) (a:Act) (w:World),cN P ops (aEg a0 ss rel Q) S hs b t a w→cN P ops Q S hs b (eN.join b t p) a w
 | true,.stop,a,w,h=>by
  obtain ⟨vs,hr,rfl⟩:=h;exact h2 vs w hr
 | false,.stop,a,w,h=>trivial
 | true,.take k q,a,w,h=>by
  obtain ⟨o,v,ho,hy,h'⟩:=h;exact ⟨o,v,ho,hy,jJ h2 true q _ w h'⟩
 | false,.take k q,a,w,h=>by
  obtain ⟨o,v,ho,hy,h'⟩:=h;exact ⟨o,v,ho,hy,jJ h2 true q _ w h'⟩
 | true,.ask k s q alt,a,w,h=>⟨wpOp_mono (fun a' w' h'=>⟨h'.1,jJ h2 true q a' w' h'.2⟩) (SQ h.1),jJ h2 false alt a w h.2⟩
 | false,.ask k s q alt,a,w,h=>⟨wpOp_mono (fun a' w' h'=>⟨h'.1,jJ h2 true q a' w' h'.2⟩) (SQ h.1),jJ h2 false alt a w h.2⟩
theorem CY {listed:Array Bool} {a:Act} {w:World} {i:Nat}:∀ (p:eN),i ∈ p.heads→p.chk md ops hs false listed=true→cN P ops Q S hs false p a w →
 ∃s q,(s=true∨aAl md ops hs (listed.setIfInBounds i true)=false)∧q.chk md ops hs true (listed.setIfInBounds i true)=true∧q.deep+1≤p.deep ∧
  wpOp P ops Q i (fun a' w'=>(s=true→S w')∧cN P ops Q S hs true q a' w') a w
 | .stop,h,_,_=>by simp [eN.heads] at h
 | .take _ _,h,_,_=>by simp [eN.heads] at h
 | .ask k s p alt,h,hc,hw=>by
  simp only [eN.chk,Bool.not_false,Bool.true_or,Bool.true_and,Ak,Dw,Bool.not_eq_true'] at hc;obtain ⟨⟨h1,h3⟩,h4⟩:=hc;rcases Bz.1 h with rfl | h
  ·exact ⟨s,p,h1,h3,Nat.le_max_left _ _,hw.1⟩
  ·obtain ⟨s',q,g1,g2,g3,g4⟩:=CY alt h h4 hw.2
   exact ⟨s',q,g1,g2,Ae g3 (Nat.le_max_right _ _),g4⟩
theorem yV (hsn:Region.noSelect ops=true) (hQ:∀c d v a w,Q (.panic c) (Act.put a d v) w→Q (.panic c) a w):∀ (fuel:Nat) (p:eN) (listed:Array Bool) (a:Act) (w:World),p.deep≤fuel→AQ md ops listed→p.chk md ops hs true listed=true→(Opn md ops hs listed→S w)→cN P ops Q S hs true p a w→tK P md ops Q S hs fuel listed a w
 | fuel,.stop,listed,a,w,_,_,hr,_,h=>IQ (by simpa [eN.chk] using hr) h fuel
 | 0,.take k p,_,_,_,hd,_,_,_,_=>by simp only [eN.deep] at hd;omega
 | 0,.ask k s p alt,_,_,_,hd,_,_,_,_=>by simp only [eN.deep] at hd;omega
 | fuel+1,.take k p,listed,a,w,hd,hsh,hc,hS,hw=>by
  simp only [eN.chk,Bool.true_and,Ak,Dw,Bool.not_eq_true',List.isEmpty_iff] at hc;obtain ⟨⟨⟨hr,hf⟩,hnl⟩,hB'⟩:=hc;have hr':k ∈ Region.ready md ops listed:=by simpa using hr
  obtain ⟨o,v,ho,hy,h'⟩:=hw;have:=yV hsn hQ fuel p (listed.setIfInBounds k true) (a.put o.dst v) w (by simp only [eN.deep] at hd;omega) (hsh.set hr') hB' (fun hop=>hS hop.back) h'
  have hnl':vV md ops hs k=false∨hs=[]∨¬Opn md ops hs listed:=by
   rcases hnl with (hnl | hnl) | hnl
   ·exact .inl hnl
   ·exact .inr (.inl hnl)
   ·exact .inr (.inr (SL hnl))
  refine EG ho (Region.noSelect_spec hsn) (fun c a w h=>hQ c _ _ a w h) ?_ _ listed a w hsh hnl' (Region.free_spec ho hf) hr' hy hS this
  by_cases hk:k ∈ hs
  ·exact .inr ⟨hk,fun w hS _=>hS⟩
  ·exact .inl fun w hk'=>(hk hk').elim
 | fuel+1,.ask k s p alt,listed,a,w,hd,hsh,hc,hS,hw=>by
  have hc':=hc;simp only [eN.chk,Bool.not_true,Bool.false_or,Ak,Av] at hc;have hr:=hc.1.1.1;refine ⟨fun h0=>(by rw [hr] at h0;cases h0),fun i hi=>?_⟩
  have hi':=hi;rw [hr] at hi;obtain ⟨s',q,g1,g2,g3,g4⟩:=CY (.ask k s p alt) hi (by
   simp only [eN.chk,Bool.not_false,Bool.true_or,Bool.true_and,Ak];exact ⟨⟨hc.1.1.2,hc.1.2⟩,hc.2⟩) hw
  refine wpOp_mono (fun a' w' h'=>?_) g4
  have hSw:Opn md ops hs (listed.setIfInBounds i true)→S w':=fun ho=>by
   rcases g1 with g1 | g1
   ·exact h'.1 g1
   ·exact (SL g1 ho).elim
  exact ⟨hSw,yV hsn hQ fuel q _ a' w' (by omega) (hsh.set hi') g2 hSw h'.2⟩
theorem aJ {id:Nat} {a:Act} {w:World} {l:List Oper} (S:World→Prop) (hs:List Nat) (p:eN) (hm:P.follows .mixedOrders=true)
 (hB:(Region.noSelect l.toArray && decide (p.deep=l.length) && p.chk .any l.toArray hs true (Array.replicate l.toArray.size false))=true)
 (hQ:∀c d v a w,Q (.panic c) (Act.put a d v) w→Q (.panic c) a w) (hS:S w.drew)
 (h:cN P l.toArray Q S hs true p a w.drew):(Code.region id l.toArray true).wp P Q a w:=by
 simp only [Ak,Av] at hB;obtain ⟨⟨hsn,hn⟩,hsc⟩:=hB;refine wp_region_any hm ?_;have H:=yV (md:=.any) (Q:=Q) hsn hQ p.deep p _ a w.drew (Lr _) (AQ.start _) hsc (fun _=>hS) h
 rw [hn,show l.length=l.toArray.size by simp] at H
 exact xN _ _ _ _ H
theorem Seg.mk {K:Act→World→Prop} {a:Act} {w:World} (h:K a w):Seg K Q .normal a w:=h
theorem Seg.lets {K:Act→World→Prop} (h:LetsOut (Seg K Q)):LetsOut Q:=by
 obtain ⟨a,w,h⟩:=h;exact ⟨a,w,h⟩
theorem rL {k:Nat} {o:Oper} {K:Act→World→Prop} {a:Act} {w:World} (ho:ops[k]?=some o) (h:wpList P ops (Seg K Q) [o] a w):wpOp P ops Q k K a w:=by
 unfold wpOp;simp only [ho];simp only [wpList] at h
 split
 ·rename_i hw
  rw [Am hw] at h;rcases h with h | h
  ·refine .inl ?_
   unfold Oper.wp at *;generalize (execOp a.eval o).run P w=r at *;cases r with
   | ok n w'=>
    cases n <;> simp only [Oper.upon] at h ⊢ <;>
     first
      | exact h
      | exact Calls.mono h (fun e w'' he=>by cases e <;> first | exact he | exact Seg.lets he)
      | exact Rows.mono h (fun _ _ he=>he)
   | halt x w'=>cases x <;> simp only [Oper.upon] at h ⊢ <;> exact h
  ·exact .inr ⟨h.1,Seg.lets h.2⟩
 ·rename_i hw
  rw [Af hw] at h;exact h
theorem EE {k:Nat} {o:Oper} {a:Act} {w:World} (ho:ops[k]?=some o) (h:wpList P ops Q [o] a w):wpOp P ops Q k (fun a' w'=>Q .normal a' w') a w:=by
 unfold wpOp;simp only [ho];exact h
end
section
variable {P:Program} {l:List Oper} {Q:Exit→Act→World→Prop} {S:World→Prop} {hs:List Nat}
theorem aN {b:Bool} {k:Nat} {p:eN} {a:Act} {w:World} (o:Oper) (v:Value) (ho:l[k]?=some o) (hw:Region.wanted o (yielded l.toArray a.tmps)=true)
 (hk:k ∈ hs) (hv:∀w,S w→(execOp a.eval o).run P w=.ok (.value v) w) (h:∀K':Act→Prop,(∀a,cN P l.toArray Q S hs true p a w→K' a)→K' (a.put o.dst v)):cN P l.toArray Q S hs b (.take k p) a w:=by
 have:cN P l.toArray Q S hs true (.take k p) a w:=⟨o,v,by simpa using ho,.inl ⟨hw,fun w hS=>hv w (hS hk)⟩,h _ fun _ h=>h⟩
 cases b <;> exact this
theorem aG {b:Bool} {k:Nat} {p:eN} {a:Act} {w:World} (o:Oper) (v:Value) (ho:l[k]?=some o) (hw:Region.wanted o (yielded l.toArray a.tmps)=true)
 (hv:∀w,(execOp a.eval o).run P w=.ok (.value v) w) (h:∀K':Act→Prop,(∀a,cN P l.toArray Q S hs true p a w→K' a)→K' (a.put o.dst v)):cN P l.toArray Q S hs b (.take k p) a w:=by
 have:cN P l.toArray Q S hs true (.take k p) a w:=⟨o,v,by simpa using ho,.inl ⟨hw,fun w _=>hv w⟩,h _ fun _ h=>h⟩
 cases b <;> exact this
theorem aI {b:Bool} {k:Nat} {p alt:eN} {a:Act} {w:World} (o:Oper) (ho:l[k]?=some o) (ha:cN P l.toArray Q S hs false alt a w)
 (h:wpList P l.toArray (Seg (fun a' w'=>S w'∧cN P l.toArray Q S hs true p a' w') Q) [o] a w):cN P l.toArray Q S hs b (.ask k true p alt) a w:=by
 have:cN P l.toArray Q S hs true (.ask k true p alt) a w:=⟨wpOp_mono (fun a' w' h=>⟨fun _=>h.1,h.2⟩) (rL (by simpa using ho) h),ha⟩
 cases b <;> exact this
theorem aF {b:Bool} {k:Nat} {p alt:eN} {a:Act} {w:World} (o:Oper) (ho:l[k]?=some o) (ha:cN P l.toArray Q S hs false alt a w)
 (h:wpList P l.toArray (Seg (fun a' w'=>cN P l.toArray Q S hs true p a' w') Q) [o] a w):cN P l.toArray Q S hs b (.ask k false p alt) a w:=by
 have:cN P l.toArray Q S hs true (.ask k false p alt) a w:=⟨wpOp_mono (fun a' w' h=>⟨fun e=>(by cases e),h⟩) (rL (by simpa using ho) h),ha⟩
 cases b <;> exact this
theorem fC {t p:eN} {a:Act} {w:World} (ss:List Nat) (rel:Vl→World→Prop) (h1:cN P l.toArray (aEg a ss rel Q) S hs true t a w)
 (h2:∀vs w',rel vs w'→cN P l.toArray Q S hs true p (gX a ss vs) w'):cN P l.toArray Q S hs true (eN.join true t p) a w:=
 jJ h2 true t a w h1
theorem aQ {a a0:Act} {ss:List Nat} {rel:Vl→World→Prop} {w:World} (vs:Vl) (h:rel vs w) (e:a=gX a0 ss vs):cN P l.toArray (aEg a0 ss rel Q) S hs true .stop a w:=
 ⟨vs,h,e⟩
theorem cG {b:Bool} {k:Nat} {alt:eN} {a:Act} {w:World} (o:Oper) (ho:l[k]?=some o) (ha:cN P l.toArray Q S hs false alt a w) (h:wpList P l.toArray Q [o] a w):cN P l.toArray Q S hs b (.ask k false .stop alt) a w:=by
 have:cN P l.toArray Q S hs true (.ask k false .stop alt) a w:=⟨wpOp_mono (fun a' w' h=>⟨fun e=>(by cases e),h⟩) (EE (by simpa using ho) h),ha⟩
 cases b <;> exact this
end
end Go.Proofs.YtncdpanfefnjlaaGreatDoor