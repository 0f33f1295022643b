import Derived.Test.YtncdpanfefnjlaaGreatDoorAa
set_option linter.unusedVariables false
set_option linter.unusedSimpArgs false
namespace Go.Proofs.YtncdpanfefnjlaaGreatDoor
open Go.Proofs.Tryz
open Go
section
variable {P:Program} {ops:Array Oper} {md:Region.Mode} {Q:Exit→Act→World→Prop} {S:World→Prop} {hs:List Nat}
def sP (md:Region.Mode) (a:Array Oper):Nat→Nat→Nat→Bool
 | 0,_,_=>false
 | n+1,j,i=>match a[j]? with
  | some o=>o.after.any fun e=>Region.binds md e && (e.on == i || sP md a n e.on i)
  | none=>false
def xB (md:Region.Mode) (a:Array Oper) (b:List Nat) (j:Nat):Bool:=b.all fun i=>sP md a a.size j i
def CQ (md:Region.Mode) (b:Array Oper) (a:Array Bool):Prop:=
 ∀j c,b[j]?=some c→a.getD j false=true→∀e ∈ c.after,Region.binds md e=true→a.getD e.on false=true
def Opn (md:Region.Mode) (b:Array Oper) (c:List Nat) (a:Array Bool):Prop:=∀j,xB md b c j=true→a.getD j false=false
def aCd (md:Region.Mode) (b:Array Oper) (c:List Nat) (a:Array Bool):Bool:=(List.range b.size).all fun j => !xB md b c j || !a.getD j false
theorem UN {a:Array Bool} (h:aCd md ops hs a=false):¬Opn md ops hs a:=fun b=>by
 have:aCd md ops hs a=true:=Ax.2 fun j _=>by
  cases hl:xB md ops hs j with
  | false=>rfl
  | true=>simp [b j hl]
 rw [h] at this;cases this
theorem sO {a:Array Bool} (g:CQ md ops a):∀ (n j i:Nat) (d:Oper),ops[j]?=some d→(∀e ∈ d.after,Region.binds md e=true→a.getD e.on false=true)→sP md ops n j i=true→a.getD i false=true
 | 0,_,_,_,_,_,h=>by simp [sP] at h
 | n+1,j,i,d,hj,hall,h=>by
  simp only [sP,hj] at h;obtain ⟨e,k,f⟩:=Array.any_eq_true'.1 h;simp only [An,Ee,beq_iff_eq] at f;obtain ⟨c,b⟩:=f;rcases b with rfl | b
  ·exact hall e k c
  ·cases ho:ops[e.on]? with
   | none=>
    cases n with
    | zero=>simp [sP] at b
    | succ n=>simp [sP,ho] at b
   | some oe=>exact sO g n e.on i oe ho (g e.on oe ho (hall e k c)) b
theorem CQ.set {a:Array Bool} (m:CQ md ops a) {i:Nat} (n:i ∈ Region.ready md ops a):CQ md ops (a.setIfInBounds i true):=by
 intro j l g k e h d
 by_cases c:i=j
 ·subst c
  obtain ⟨_,o,f,b⟩:=mem_ready.1 n;rw [g] at f;cases f;exact getD_set_true (b e h d)
 ·rw [getD_set_ne false c] at k
  exact getD_set_true (m j l g k e h d)
theorem CQ.start (n:Nat):CQ md ops (Array.replicate n false):=by
 intro j c b a;rw [Array.getD_eq_getD_getElem?,Array.getElem?_replicate] at a
 split at a <;> simp at a
theorem Opn.back {a:Array Bool} {i:Nat} (h:Opn md ops hs (a.setIfInBounds i true)):Opn md ops hs a:=fun j c=>by
 have:=h j c
 by_cases b:i=j
 ·subst b
  cases hg:a.getD i false with
  | false=>rfl
  | true=>rw [getD_set_true hg] at this;cases this
 ·rw [getD_set_ne false b] at this;exact this
theorem Opn.on {a:Array Bool} {i:Nat} (h:Opn md ops hs a) (d:xB md ops hs i=false):Opn md ops hs (a.setIfInBounds i true):=fun j c=>by
 by_cases b:i=j
 ·subst b;rw [d] at c;cases c
 ·rw [getD_set_ne false b];exact h j c
def uO (P:Program) (md:Region.Mode) (b:Array Oper) (Q:Exit→Act→World→Prop) (S:World→Prop) (c:List Nat):Nat→Array Bool→Act→World→Prop
 | 0,listed,a,w=>Region.ready md b listed=[]∧Q .normal a w
 | fuel+1,listed,a,w=>
  (Region.ready md b listed=[]→Q .normal a w) ∧
  ∀i ∈ Region.ready md b listed,wpOp P b Q i (fun d w'=>(Opn md b c (listed.setIfInBounds i true)→S w')∧uO P md b Q S c fuel (listed.setIfInBounds i true) d w') a w
theorem yT:∀ (c:Nat) (b:Array Bool) (a:Act) (w:World),uO P md ops Q S hs c b a w→wpAny P md ops Q c b a w
 | 0,_,_,_,h=>h
 | c+1,_,_,_,h=>⟨h.1,fun i d=>wpOp_mono (fun f w' e=>yT c _ f w' e.2) (h.2 i d)⟩
theorem KI {b:Array Bool} {a:Act} {w:World} (d:Region.ready md ops b=[]) (h:Q .normal a w):∀c,uO P md ops Q S hs c b a w
 | 0=>⟨d,h⟩
 | _+1=>⟨fun _=>h,by rw [d];simp⟩
theorem GF {T:World→Prop} {i:Nat} {E:Oper} {v:Value} (hi:ops[i]?=some E) (C:∀ (j:Nat) (o:Oper) G b,ops[j]?=some o→o.op ≠ .select G b)
 (hQ:∀c a w,Q (.panic c) (a.put E.dst v) w→Q (.panic c) a w) (A:(∀w,T w)∨(i ∈ hs∧∀w,S w→T w)) :
 ∀ (m:Nat) (d:Array Bool) (a:Act) (w:World),CQ md ops d→(xB md ops hs i=false∨hs=[]∨¬Opn md ops hs d) →
  (∀j y,ops[j]?=some y→j ≠ i→d.getD j true=false→(∀e ∈ y.after,Region.binds md e=true→e.on ≠ i)→E.apart ops y=true) →
  i ∈ Region.ready md ops d→YieldsIf P ops T E v a→(Opn md ops hs d→S w) →
  uO P md ops Q S hs m (d.setIfInBounds i true) (a.put E.dst v) w→uO P md ops Q S hs (m+1) d a w:=by
 -- as long as i has not come up, nothing late has, if i is one of hs
 have Z:∀ {d:Array Bool},CQ md ops d→i ∈ Region.ready md ops d→i ∈ hs→Opn md ops hs d:=by
  intro d f q X j hl;cases hg:d.getD j false with
  | false=>rfl
  | true=>
   have s:=(mem_ready.1 q).1;have hw:=Ax.1 hl i X;cases p:ops[j]? with
   | none=>
    exfalso
    revert hw
    cases ops.size with
    | zero=>simp [sP]
    | succ n=>simp [sP,p]
   | some y=>
    have:=sO f _ j i y p (f j y p hg) hw;rcases Cf i d.size with u | u
    ·simp [u] at this s;rw [s] at this;cases this
    ·simp [Array.getElem?_eq_none u] at this
 have J:∀ {d:Array Bool} {w:World},CQ md ops d→i ∈ Region.ready md ops d→(Opn md ops hs d→S w)→T w:=fun f q F=>by
  rcases A with A | A
  ·exact A _
  ·exact A.2 _ (F (Z f q A.1))
 intro m
 induction m with
 | zero=>
  intro d a w f _ _ q U F H;refine ⟨fun h=>(by rw [h] at q;cases q),fun j L=>?_⟩
  by_cases g:j=i
  ·subst g;exact U.wpOp hi (J f q F) ⟨fun z=>F z.back,H⟩
  ·have:=ready_mono L g
   rw [H.1] at this;cases this
 | succ m ih=>
  intro d a w f l t q U F H;refine ⟨fun h=>(by rw [h] at q;cases q),fun j L=>?_⟩
  by_cases g:j=i
  ·subst g;exact U.wpOp hi (J f q F) ⟨fun z=>F z.back,H⟩
  ·have D:=H.2 j (ready_mono L g)
   obtain ⟨x,y,p,I⟩:=mem_ready.1 L;have R:∀e ∈ y.after,Region.binds md e=true→e.on ≠ i:=fun e he hb Y=>by
    have D:=I e he hb;have A:=(mem_ready.1 q).1;rw [Y] at D;rcases Cf i d.size with u | u
    ·simp [u] at A D;rw [A] at D;cases D
    ·simp [Array.getElem?_eq_none u] at D
   have h2:=wpOp_putIf p (t j y p g x R) (fun G b=>C i E G b hi) (fun G b=>C j y G b p) hQ U D
   have B:∀k K,ops[k]?=some K→k ≠ i→(d.setIfInBounds j true).getD k true=false →
    (∀e ∈ K.after,Region.binds md e=true→e.on ≠ i)→E.apart ops K=true:=fun k K hk W s r=>by
    refine t k K hk W ?_ r
    by_cases N:j=k
    ·subst N;exact x
    ·rw [getD_set_ne true N] at s;exact s
   refine wpOp_mono (fun a' w' V=>?_) h2
   have M:Opn md ops hs (d.setIfInBounds j true)→S w':=fun z=>by
    rcases l with l | rfl | r
    ·exact V.2.1 (by rw [Array.setIfInBounds_comm _ _ (Ne.symm g)];exact z.on l)
    ·have h9:=z j rfl
     rcases Cf j d.size with u | u
     ·simp [u] at h9
     ·simp [Array.getElem?_eq_none u] at x
    ·exact (r z.back).elim
   have O:xB md ops hs i=false∨hs=[]∨¬Opn md ops hs (d.setIfInBounds j true):=by
    rcases l with l | l | r
    ·exact .inl l
    ·exact .inr (.inl l)
    ·exact .inr (.inr fun z=>r z.back)
   refine ⟨M,ih (d.setIfInBounds j true) a' w' (f.set L) O B (ready_mono q (Ne.symm g)) V.1 M ?_⟩;rw [Array.setIfInBounds_comm _ _ g];exact V.2.2
inductive eP where
 | stop
 | take (k:Nat) (p:eP)
 | ask (k:Nat) (s:Bool) (p alt:eP)
namespace eP
def heads:eP→List Nat
 | .stop=>[]
 | .take _ _=>[]
 | .ask k _ _ alt=>k::alt.heads
def deep:eP→Nat
 | .stop=>0
 | .take _ p=>p.deep+1
 | .ask _ _ p alt=>max (p.deep+1) alt.deep
def chk (md:Region.Mode) (a:Array Oper) (b:List Nat):Bool→eP→Array Bool→Bool
 | top,.stop,l => !top || (Region.ready md a l).isEmpty
 | top,.take k p,l=>top && (Region.ready md a l).contains k && Region.free md a l k && (!xB md a b k || b.isEmpty || !aCd md a b l) && chk md a b true p (l.setIfInBounds k true)
 | top,.ask k s p alt,l=>(!top || decide (Region.ready md a l=k::alt.heads)) && (s || !aCd md a b (l.setIfInBounds k true)) && chk md a b true p (l.setIfInBounds k true) && chk md a b false alt l
def join:Bool→eP→eP→eP
 | true,.stop,p=>p
 | false,.stop,_=>.stop
 | _,.take k q,p=>.take k (join true q p)
 | _,.ask k s q alt,p=>.ask k s (join true q p) (join false alt p)
end eP
def Seg (K:Act→World→Prop) (Q:Exit→Act→World→Prop):Exit→Act→World→Prop
 | .normal,a,w=>K a w
 | e,a,w=>Q e a w
def cQ (P:Program) (b:Array Oper) (Q:Exit→Act→World→Prop) (S:World→Prop) (c:List Nat):Bool→eP→Act→World→Prop
 | true,.stop,a,w=>Q .normal a w
 | false,.stop,_,_=>True
 | _,.take k p,a,w=>∃o v,b[k]?=some o∧YieldsIf P b (fun w=>k ∈ c→S w) o v a∧cQ P b Q S c true p (a.put o.dst v) w
 | _,.ask k s p alt,a,w=>wpOp P b Q k (fun d w'=>(s=true→S w')∧cQ P b Q S c true p d w') a w∧cQ P b Q S c false alt a w
def gJ (a:Act):List Nat→Vl→Act
 | s::ss,v::vs=>gJ (a.put (some s) v) ss vs
 | _,_=>a
def aFv (a:Act) (c:List Nat) (rel:Vl→World→Prop) (Q:Exit→Act→World→Prop):Exit→Act→World→Prop
 | .normal,a',w=>∃b,rel b w∧a'=gJ a c b
 | e,a',w=>Q e a' w
theorem UP {k:Nat} {K:Act→World→Prop} {c:Act} {d:List Nat} {rel:Vl→World→Prop} {a:Act} {w:World} (h:wpOp P ops (aFv c d rel Q) k K a w):wpOp P ops Q k K a w:=by
 have f:LetsOut (aFv c d rel Q)→LetsOut Q:=fun ⟨a,w,h⟩=>⟨a,w,h⟩
 unfold wpOp at *
 split
 ·rename_i ho
  simpa only [ho] using h
 ·rename_i o ho
  simp only [ho] at h
  split
  ·rename_i hw
   rw [Am hw] at h;rcases h with h | h
   ·refine .inl ?_
    unfold Oper.wp at *;generalize (execOp a.eval o).run P w=r at *;cases r with
    | ok n w'=>
     cases n <;> simp only [Oper.upon] at h ⊢ <;>
      first
       | exact h
       | exact Calls.mono h (fun e g b=>by cases e <;> first | exact b | exact f b)
       | exact Rows.mono h (fun _ _ b=>b)
    | halt x w'=>cases x <;> simp only [Oper.upon] at h ⊢ <;> exact h
   ·exact .inr ⟨h.1,f h.2⟩
  ·rename_i hw
   rw [Ae hw] at h;exact h
theorem jV {j:Act} {l:List Nat} {rel:Vl→World→Prop} {p:eP} (d:∀e w',rel e w'→cQ P ops Q S hs true p (gJ j l e) w'):∀ (b:Bool) (t:eP) (a:Act) (w:World),cQ P ops (aFv j l rel Q) S hs b t a w→cQ P ops Q S hs b (eP.join b t p) a w
 | true,.stop,a,w,h=>by
  obtain ⟨e,m,rfl⟩:=h;exact d e w m
 | false,.stop,a,w,h=>trivial
 | true,.take k q,a,w,h=>by
  obtain ⟨o,v,f,g,c⟩:=h;exact ⟨o,v,f,g,jV d true q _ w c⟩
 | false,.take k q,a,w,h=>by
  obtain ⟨o,v,f,g,c⟩:=h;exact ⟨o,v,f,g,jV d true q _ w c⟩
 | true,.ask k s q alt,a,w,h=>⟨wpOp_mono (fun i w' c=>⟨c.1,jV d true q i w' c.2⟩) (UP h.1),jV d false alt a w h.2⟩
 | false,.ask k s q alt,a,w,h=>⟨wpOp_mono (fun i w' c=>⟨c.1,jV d true q i w' c.2⟩) (UP h.1),jV d false alt a w h.2⟩
theorem EP {b:Array Bool} {a:Act} {w:World} {i:Nat}:∀ (p:eP),i ∈ p.heads→p.chk md ops hs false b=true→cQ P ops Q S hs false p a w →
 ∃s q,(s=true∨aCd md ops hs (b.setIfInBounds i true)=false)∧q.chk md ops hs true (b.setIfInBounds i true)=true∧q.deep+1≤p.deep ∧
  wpOp P ops Q i (fun f w'=>(s=true→S w')∧cQ P ops Q S hs true q f w') a w
 | .stop,h,_,_=>by simp [eP.heads] at h
 | .take _ _,h,_,_=>by simp [eP.heads] at h
 | .ask k s p alt,h,hc,hw=>by
  simp only [eP.chk,Bool.not_false,Bool.true_or,Bool.true_and,An,Ee,Bool.not_eq_true'] at hc;obtain ⟨⟨d,l⟩,m⟩:=hc;rcases Bl.1 h with rfl | h
  ·exact ⟨s,p,d,l,Nat.le_max_left _ _,hw.1⟩
  ·obtain ⟨n,q,c,j,g,e⟩:=EP alt h m hw.2
   exact ⟨n,q,c,j,Af g (Nat.le_max_right _ _),e⟩
theorem AF (g:Region.noSelect ops=true) (y:∀c d v a w,Q (.panic c) (Act.put a d v) w→Q (.panic c) a w):∀ (e:Nat) (p:eP) (b:Array Bool) (a:Act) (w:World),p.deep≤e→CQ md ops b→p.chk md ops hs true b=true→(Opn md ops hs b→S w)→cQ P ops Q S hs true p a w→uO P md ops Q S hs e b a w
 | e,.stop,b,a,w,_,_,j,_,h=>KI (by simpa [eP.chk] using j) h e
 | 0,.take k p,_,_,_,hd,_,_,_,_=>by simp only [eP.deep] at hd;omega
 | 0,.ask k s p alt,_,_,_,hd,_,_,_,_=>by simp only [eP.deep] at hd;omega
 | e+1,.take k p,b,a,w,hd,hsh,hc,m,hw=>by
  simp only [eP.chk,Bool.true_and,An,Ee,Bool.not_eq_true',List.isEmpty_iff] at hc;obtain ⟨⟨⟨j,K⟩,f⟩,A⟩:=hc;have l:k ∈ Region.ready md ops b:=by simpa using j
  obtain ⟨o,v,u,L,x⟩:=hw;have:=AF g y e p (b.setIfInBounds k true) (a.put o.dst v) w (by simp only [eP.deep] at hd;omega) (hsh.set l) A (fun C=>m C.back) x
  have t:xB md ops hs k=false∨hs=[]∨¬Opn md ops hs b:=by
   rcases f with (f | f) | f
   ·exact .inl f
   ·exact .inr (.inl f)
   ·exact .inr (.inr (UN f))
  refine GF u (Region.noSelect_spec g) (fun c a w h=>y c _ _ a w h) ?_ _ b a w hsh t (Region.free_spec u K) l L m this
  by_cases F:k ∈ hs
  ·exact .inr ⟨F,fun w m _=>m⟩
  ·exact .inl fun w D=>(F D).elim
 | e+1,.ask k s p alt,b,a,w,hd,hsh,hc,m,hw=>by
  have J:=hc;simp only [eP.chk,Bool.not_true,Bool.false_or,An,As] at hc;have j:=hc.1.1.1;refine ⟨fun E=>(by rw [j] at E;cases E),fun i B=>?_⟩
  have z:=B;rw [j] at B;obtain ⟨N,q,n,I,M,G⟩:=EP (.ask k s p alt) B (by
   simp only [eP.chk,Bool.not_false,Bool.true_or,Bool.true_and,An];exact ⟨⟨hc.1.1.2,hc.1.2⟩,hc.2⟩) hw
  refine wpOp_mono (fun H w' x=>?_) G
  have r:Opn md ops hs (b.setIfInBounds i true)→S w':=fun u=>by
   rcases n with n | n
   ·exact x.1 n
   ·exact (UN n u).elim
  exact ⟨r,AF g y e q _ H w' (by omega) (hsh.set z) I r x.2⟩
theorem aI {id:Nat} {a:Act} {w:World} {l:List Oper} (S:World→Prop) (g:List Nat) (p:eP) (k:P.follows .mixedOrders=true)
 (f:(Region.noSelect l.toArray && decide (p.deep=l.length) && p.chk .any l.toArray g true (Array.replicate l.toArray.size false))=true)
 (m:∀c d v a w,Q (.panic c) (Act.put a d v) w→Q (.panic c) a w) (j:S w.drew)
 (h:cQ P l.toArray Q S g true p a w.drew):(Code.region id l.toArray true).wp P Q a w:=by
 simp only [An,As] at f;obtain ⟨⟨e,i⟩,b⟩:=f;refine wp_region_any k ?_;have H:=AF (md:=.any) (Q:=Q) e m p.deep p _ a w.drew (Lr _) (CQ.start _) b (fun _=>j) h
 rw [i,show l.length=l.toArray.size by simp] at H
 exact yT _ _ _ _ H
theorem Seg.mk {K:Act→World→Prop} {a:Act} {w:World} (h:K a w):Seg K Q .normal a w:=h
theorem Seg.lets {K:Act→World→Prop} (h:LetsOut (Seg K Q)):LetsOut Q:=by
 obtain ⟨a,w,h⟩:=h;exact ⟨a,w,h⟩
theorem sK {k:Nat} {o:Oper} {K:Act→World→Prop} {a:Act} {w:World} (d:ops[k]?=some o) (h:wpList P ops (Seg K Q) [o] a w):wpOp P ops Q k K a w:=by
 unfold wpOp;simp only [d];simp only [wpList] at h
 split
 ·rename_i hw
  rw [Am hw] at h;rcases h with h | h
  ·refine .inl ?_
   unfold Oper.wp at *;generalize (execOp a.eval o).run P w=r at *;cases r with
   | ok n w'=>
    cases n <;> simp only [Oper.upon] at h ⊢ <;>
     first
      | exact h
      | exact Calls.mono h (fun e c b=>by cases e <;> first | exact b | exact Seg.lets b)
      | exact Rows.mono h (fun _ _ b=>b)
   | halt x w'=>cases x <;> simp only [Oper.upon] at h ⊢ <;> exact h
  ·exact .inr ⟨h.1,Seg.lets h.2⟩
 ·rename_i hw
  rw [Ae hw] at h;exact h
theorem GD {k:Nat} {o:Oper} {a:Act} {w:World} (b:ops[k]?=some o) (h:wpList P ops Q [o] a w):wpOp P ops Q k (fun c w'=>Q .normal c w') a w:=by
 unfold wpOp;simp only [b];exact h
end
section
variable {P:Program} {l:List Oper} {Q:Exit→Act→World→Prop} {S:World→Prop} {hs:List Nat}
theorem aM {b:Bool} {k:Nat} {p:eP} {a:Act} {w:World} (o:Oper) (v:Value) (e:l[k]?=some o) (g:Region.wanted o (yielded l.toArray a.tmps)=true)
 (i:k ∈ hs) (d:∀w,S w→(execOp a.eval o).run P w=.ok (.value v) w) (h:∀c:Act→Prop,(∀a,cQ P l.toArray Q S hs true p a w→c a)→c (a.put o.dst v)):cQ P l.toArray Q S hs b (.take k p) a w:=by
 have:cQ P l.toArray Q S hs true (.take k p) a w:=⟨o,v,by simpa using e,.inl ⟨g,fun w f=>d w (f i)⟩,h _ fun _ h=>h⟩
 cases b <;> exact this
theorem aF {b:Bool} {k:Nat} {p:eP} {a:Act} {w:World} (o:Oper) (v:Value) (e:l[k]?=some o) (f:Region.wanted o (yielded l.toArray a.tmps)=true)
 (d:∀w,(execOp a.eval o).run P w=.ok (.value v) w) (h:∀c:Act→Prop,(∀a,cQ P l.toArray Q S hs true p a w→c a)→c (a.put o.dst v)):cQ P l.toArray Q S hs b (.take k p) a w:=by
 have:cQ P l.toArray Q S hs true (.take k p) a w:=⟨o,v,by simpa using e,.inl ⟨f,fun w _=>d w⟩,h _ fun _ h=>h⟩
 cases b <;> exact this
theorem aH {b:Bool} {k:Nat} {p c:eP} {a:Act} {w:World} (o:Oper) (e:l[k]?=some o) (f:cQ P l.toArray Q S hs false c a w)
 (h:wpList P l.toArray (Seg (fun d w'=>S w'∧cQ P l.toArray Q S hs true p d w') Q) [o] a w):cQ P l.toArray Q S hs b (.ask k true p c) a w:=by
 have:cQ P l.toArray Q S hs true (.ask k true p c) a w:=⟨wpOp_mono (fun d w' h=>⟨fun _=>h.1,h.2⟩) (sK (by simpa using e) h),f⟩
 cases b <;> exact this
theorem aB {b:Bool} {k:Nat} {p c:eP} {a:Act} {w:World} (o:Oper) (f:l[k]?=some o) (g:cQ P l.toArray Q S hs false c a w)
 (h:wpList P l.toArray (Seg (fun d w'=>cQ P l.toArray Q S hs true p d w') Q) [o] a w):cQ P l.toArray Q S hs b (.ask k false p c) a w:=by
 have:cQ P l.toArray Q S hs true (.ask k false p c) a w:=⟨wpOp_mono (fun d w' h=>⟨fun e=>(by cases e),h⟩) (sK (by simpa using f) h),g⟩
 cases b <;> exact this
theorem dW {t p:eP} {a:Act} {w:World} (b:List Nat) (rel:Vl→World→Prop) (d:cQ P l.toArray (aFv a b rel Q) S hs true t a w)
 (e:∀c w',rel c w'→cQ P l.toArray Q S hs true p (gJ a b c) w'):cQ P l.toArray Q S hs true (eP.join true t p) a w:=
 jV e true t a w d
theorem aN {a d:Act} {c:List Nat} {rel:Vl→World→Prop} {w:World} (b:Vl) (h:rel b w) (e:a=gJ d c b):cQ P l.toArray (aFv d c rel Q) S hs true .stop a w:=
 ⟨b,h,e⟩
theorem bQ {b:Bool} {k:Nat} {c:eP} {a:Act} {w:World} (o:Oper) (d:l[k]?=some o) (f:cQ P l.toArray Q S hs false c a w) (h:wpList P l.toArray Q [o] a w):cQ P l.toArray Q S hs b (.ask k false .stop c) a w:=by
 have:cQ P l.toArray Q S hs true (.ask k false .stop c) a w:=⟨wpOp_mono (fun g w' h=>⟨fun e=>(by cases e),h⟩) (GD (by simpa using d) h),f⟩
 cases b <;> exact this
end
end Go.Proofs.YtncdpanfefnjlaaGreatDoor