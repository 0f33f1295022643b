import Derived.Test.YtncdpanfefnjlaaGreatDoorJcur
set_option linter.unusedVariables false
set_option linter.unusedSimpArgs false
set_option maxHeartbeats 3200000
set_option maxRecDepth 100000
namespace Go.Proofs.YtncdpanfefnjlaaGreatDoor
open Go.Proofs.Tryz
open Go.Lib
theorem FY (s:Bt):(⟨s.data.toList.toArray⟩:Bt)=s:=by cases s;simp
theorem MJ {V:Ub→Option (ND × Ub)} {W:ND→Ub} {t:Ub}:∀ (its:List ND) (ns:List Bt) (n:Nat) (a:List Bt) (done:List ND),its ≠ []→ns.length=its.length→its.length≤n→done.length+its.length≤256 →
 (∀y,y ∈ its→∀r,okR r→V (W y++r)=some (y,r)) →
 dE V true 125 n a done (dK (List.zipWith (fun s y=>bE s.data.toList++58::W y) ns its)++125::t)=some ((a++ns,done++its),t)
 | [],_,_,_,_,h,_,_,_,_=>absurd rfl h
 | y::ys,[],_,_,_,_,h,_,_,_=>by simp at h
 | y::ys,s::ss,0,_,_,_,_,h,_,_=>by simp at h
 | y::ys,s::ss,n+1,a,done,_,hl,hn,hd,hy=>by
  have f:=hy y (by simp)
  have i:∀r,AN true a (bE s.data.toList++58::r)=some (a++[s],r):=by
   intro r;have e:bE s.data.toList++58::r=34::(s.data.toList.flatMap eN++34::58::r):=by unfold bE;simp
   rw [e]
   show (match dA (s.data.toList.flatMap eN++34::58::r) with
    | some (o,58::r')=>some (a++[(⟨o.toArray⟩:Bt)],r')
    | _=>none)=_
   rw [nJ]
   show some (a++[(⟨s.data.toList.toArray⟩:Bt)],r)=_
   rw [FY]
  have b:∀r,¬ (done=[]∧((bE s.data.toList++58::W y)++r).head?=some 125):=by
   rintro r ⟨-,h⟩;have:((bE s.data.toList++58::W y)++r).head?=some 34:=rfl;rw [this] at h;exact absurd (Ab h) (by decide)
  unfold dE;cases ys with
  | nil=>
   cases ss with
   | cons _ _=>simp at hl
   | nil=>
    show (if done=[]∧((bE s.data.toList++58::W y)++125::t).head?=some 125 then _ else match AN true a ((bE s.data.toList++58::W y)++125::t) with
     | none=>none
     | some (ns',t1)=>match V t1 with
      | none=>none
      | some (x,t2)=>match t2 with
       | []=>none
       | c::t3=>if c=125 then some ((ns',done++[x]),t3) else if c ≠ 44∨256<done.length+1 then none else dE V true 125 n ns' (done++[x]) t3)=_
    rw [Ae (b _),Aj,Bo,i]
    show (match V (W y++125::t) with | none=>none | some (x,t2)=>_)=_
    rw [f _ (tH (by decide))]
    rfl
  | cons z zs=>
   cases ss with
   | nil=>simp at hl
   | cons d ss=>
    rw [Bh,uW (by simp),Aj,Ae (b _),Aj,Bo,i]
    have j:=MJ (V:=V) (W:=W) (t:=t) (z::zs) (d::ss) n (a++[s]) (done++[y]) (by simp) (by simpa using hl) (by simpa using hn) (by simp at hd ⊢;omega) (fun w g=>hy w (by simp at g ⊢;exact .inr g))
    show (match V (W y++(44::dK (List.zipWith (fun s y=>bE s.data.toList++58::W y) (d::ss) (z::zs))++125::t)) with
     | none=>none
     | some (x,t2)=>match t2 with
      | []=>none
      | c::t3=>if c=125 then some ((a++[s],done++[x]),t3) else if c ≠ 44∨256<done.length+1 then none else dE V true 125 n (a++[s]) (done++[x]) t3)=_
    rw [Bo,f _ (tH (by decide))]
    show (if (44:UInt8)=125 then _ else if (44:UInt8) ≠ 44∨256<done.length+1 then none else dE V true 125 n (a++[s]) (done++[y]) (dK (List.zipWith (fun s y=>bE s.data.toList++58::W y) (d::ss) (z::zs))++125::t))=_
    rw [Ae (by decide),Ae (by simp at hd ⊢;omega),j]
    simp
theorem zM:∀ (l:List (Ub)),(∀a,a ∈ l→1≤a.length)→l.length≤(dK l).length
 | [],_=>Lr _
 | [a],h=>h a (by simp)
 | a::b::t,h=>by
  have:=zM (b::t) (fun c d=>h c (by simp at d ⊢;exact .inr d))
  show _≤(a++44::dK (b::t)).length
  rw [Lg,Ag];simp only [Ag] at this ⊢;omega
theorem aX {d:Nat} {x:ND} (h:aC (d+1) x=true):(∀y,y ∈ x.items→aC d y=true)∧x.items.length≤256∧aZ x.text=true∧∀s,s ∈ x.names→aZ s=true:=by
 rw [cV,An,Ax] at h;obtain ⟨a,f⟩:=h;unfold fC at a;simp only [An,Ee,As,Ax] at a;obtain ⟨⟨⟨⟨⟨-,b⟩,e⟩,-⟩,c⟩,-⟩:=a;exact ⟨f,e,b,c⟩
theorem cG {d:Nat} {x:ND} (h:aP (d+1) x=true):dD x.num=true∧∀y,y ∈ x.items→aP d y=true:=by
 rw [cS,An,Ax] at h;exact h
theorem OX {d:Nat} {x:ND} (h:aC d x=true):1≤(aR d x).length:=by
 cases d with
 | zero=>cases h
 | succ d=>
  obtain ⟨c,r,e,-⟩:=wE h;rw [e];simp
theorem sI (d:Nat) (its:List ND):aR (d+1) (.mk 4 false 0 ⟨#[]⟩ [] its)=91::(dK (its.map (aR d))++[93]):=rfl
theorem sH (d:Nat) (ns:List Bt) (its:List ND):aR (d+1) (.mk 5 false 0 ⟨#[]⟩ ns its)=123::(dK (List.zipWith (fun s y=>bE s.data.toList++58::aR d y) ns its)++[125]):=rfl
theorem TU (W:ND→Ub):∀ (ns:List Bt) (its:List ND),∀a,a ∈ List.zipWith (fun s y=>bE s.data.toList++58::W y) ns its→1≤a.length
 | [],_,a,h=>by simp at h
 | _::_,[],a,h=>by simp at h
 | s::ss,y::ys,a,h=>by
  rw [Bh] at h;rcases Bl.1 h with rfl | h
  ·rw [Lg,Ag];omega
  ·exact TU W ss ys a h
theorem kM:∀ (d:Nat) (x:ND) (t:Ub),aC d x=true→aP d x=true→okR t→cB d (aR d x++t)=some (x,t)
 | 0,_,_,h,_,_=>by cases h
 | d+1,x,t,h,hn,ht=>by
  obtain ⟨m,u,-,-⟩:=aX h;obtain ⟨B,l⟩:=cG hn;rcases iF h with e | e | e | e | e | ⟨e,g⟩
  ·rw [e];rfl
  ·rw [e]
   cases x.bool <;> rfl
  ·rw [e]
   show cB (d+1) (itoa x.num++t)=_
   obtain ⟨c,r,o,j⟩:=vI x.num;have f:∀v:UInt8,v ≠ 45→eU v=false→c ≠ v:=by
    intro v w A e;subst e;rcases j with j | j
    ·exact w j
    ·rw [A] at j;cases j
   have n:=GZ B ht;rw [o] at n ⊢;rw [Bo] at n ⊢;rw [gE d c _ (f _ (by decide) (by decide)) (f _ (by decide) (by decide)) (f _ (by decide) (by decide)),Ae (f _ (by decide) (by decide)),Ae (f _ (by decide) (by decide)),Ae (f _ (by decide) (by decide))]
   exact n
  ·rw [e]
   show cB (d+1) (34::((x.text.data.toList.flatMap eN++[34])++t))=_
   rw [gE d 34 _ (by decide) (by decide) (by decide),Am rfl,Aj]
   show (dA (x.text.data.toList.flatMap eN++34::t)).map _=_
   rw [nJ]
   show some (ND.mk 3 false 0 ⟨x.text.data.toList.toArray⟩ [] [],t)=_
   rw [FY]
  ·rw [e,sI]
   show cB (d+1) (91::((dK (x.items.map (aR d))++[93])++t))=_
   rw [gE d 91 _ (by decide) (by decide) (by decide),Ae (by decide),Am rfl,Aj]
   show (dE (cB d) false 93 ((dK (x.items.map (aR d))++93::t).length+1) [] [] (dK (x.items.map (aR d))++93::t)).map _=_
   by_cases k:x.items=[]
   ·rw [k];rfl
   ·have b:x.items.length≤(dK (x.items.map (aR d))++93::t).length+1:=by
     have:=zM (x.items.map (aR d)) (fun a z=>by obtain ⟨y,i,rfl⟩:=Bp.1 z;exact OX (m y i))
     rw [Bk] at this;rw [Lg];omega
    rw [EZ x.items _ [] k b (by simpa using u) (fun y i=>⟨fun r q=>kM d y r (m y i) (l y i) q,by
     cases d with
     | zero=>exact absurd (m y i) (by intro h;cases h)
     | succ d=>
      obtain ⟨c,r,e,o,_⟩:=wE (m y i);exact ⟨c,r,e,o⟩⟩)]
    rfl
  ·rw [e,sH]
   show cB (d+1) (123::((dK (List.zipWith (fun s y=>bE s.data.toList++58::aR d y) x.names x.items)++[125])++t))=_
   rw [gE d 123 _ (by decide) (by decide) (by decide),Ae (by decide),Ae (by decide),Am rfl,Aj]
   show (dE (cB d) true 125 ((dK (List.zipWith (fun s y=>bE s.data.toList++58::aR d y) x.names x.items)++125::t).length+1) [] [] (dK (List.zipWith (fun s y=>bE s.data.toList++58::aR d y) x.names x.items)++125::t)).map _=_
   by_cases k:x.items=[]
   ·have p:x.names=[]:=Aw.1 (by rw [g,k];rfl)
    rw [k,p];rfl
   ·have b:x.items.length≤(dK (List.zipWith (fun s y=>bE s.data.toList++58::aR d y) x.names x.items)++125::t).length+1:=by
     have:=zM _ (TU (aR d) x.names x.items);rw [Dg,g,Nat.min_self] at this;rw [Lg];omega
    rw [MJ x.items x.names _ [] [] k g b (by simpa using u) (fun y i r q=>kM d y r (m y i) (l y i) q)]
    rfl
theorem GY:okR []:=fun c e=>by cases e
theorem OY {d:Nat} {x y:ND} (c:eS d x=true) (b:eS d y=true) (h:aR d x=aR d y):x=y:=by
 have a:=kM d x [] (eF c) (fI c) GY;have e:=kM d y [] (eF b) (fI b) GY;rw [h,e] at a;exact (Prod.mk.inj (Ab a)).1.symm
theorem aDm (c:UInt8):(eN c).length≤6:=by
 unfold eN
 repeat' split
 all_goals simp
theorem xE:∀l:Ub,(l.flatMap eN).length≤6 * l.length
 | []=>Lr _
 | c::r=>by
  have a:=aDm c;have b:=xE r;rw [Cl,Lg,Ag];omega
theorem nL (l:Ub):(bE l).length≤6 * l.length+2:=by
 unfold bE;rw [Ag,Lg,Dx];have:=xE l;omega
theorem gX {s:Bt} (h:aZ s=true):s.data.toList.length≤65536:=by
 unfold aZ at h;simp only [An,As] at h;have:s.data.toList.length=s.size:=by rw [Ah];rfl
 omega
end Go.Proofs.YtncdpanfefnjlaaGreatDoor
namespace Go.Proofs.YtncdpanfefnjlaaGreatDoor
open Go.Proofs.Tryz
open Go Go.ChangeShapes Go.WideShapes Go.ChangeAt Go.RowKit
theorem eG {p r:Ub} (h:Lib.hasPrefix r p=true):r=p++r.drop p.length:=by
 unfold Lib.hasPrefix at h;obtain ⟨t,rfl⟩:=List.isPrefixOf_iff_prefix.1 h;simp
theorem iU {p r:Ub} (h:Lib.hasPrefix r p=true):Lib.trimPrefix r p=r.drop p.length:=by unfold Lib.trimPrefix;rw [Am h]
theorem fP {p r:Ub} (h:Lib.hasPrefix r p=false):Lib.trimPrefix r p=r:=by unfold Lib.trimPrefix;rw [Ae (by rw [h];decide)]
theorem aIa {r:Ub} (h:Lib.hasPrefix r [117,48,48]=true) {x:UInt8} {t:Ub} (c:qO r=some (x,t)):RX ((r.drop 3).take 2)=some x.toNat∧(r.drop 3).drop 2=t:=by
 have d:=eG h;obtain ⟨q,f⟩:∃q,q=r.drop 3:=⟨_,rfl⟩
 change r=[117,48,48]++r.drop 3 at d
 rw [←f] at d ⊢;rw [d] at c
 match q,c with
 | [],c=>
  have:qO [117,48,48]=none:=rfl;rw [show ([117,48,48]:Ub)++[]=[117,48,48] from rfl,this] at c
  cases c
 | [a],c=>
  have:qO [117,48,48,a]=none:=rfl;rw [show ([117,48,48]:Ub)++[a]=[117,48,48,a] from rfl,this] at c
  cases c
 | a::b::t',c=>
  have e:qO ([117,48,48]++a::b::t')=match lH a,lH b with
   | some x,some y=>some (16 * x+y,t')
   | _,_=>none:=rfl
  rw [e] at c;cases hx:lH a with
  | none=>rw [hx] at c;cases c
  | some x'=>
   cases hy:lH b with
   | none=>rw [hx,hy] at c;cases c
   | some y'=>
    rw [hx,hy] at c;cases c;refine ⟨?_,rfl⟩
    show (match lH a,lH b with | some x,some y=>some (16 * x.toNat+y.toNat) | _,_=>none)=_
    rw [hx,hy];have g:=(pO hx).2.2;have i:=(pO hy).2.2
    show some (16 * x'.toNat+y'.toNat)=some (16 * x'+y').toNat
    rw [UInt8.toNat_add,UInt8.toNat_mul]
    show some (16 * x'.toNat+y'.toNat)=some ((16 * x'.toNat % 256+y'.toNat) % 256)
    congr 1
    omega
theorem NJ {r:Ub} (h:Lib.hasPrefix r [117,48,48]=false) {x:UInt8} {t:Ub} (a:qO r=some (x,t)):oE (r.take 1)=some x∧r.drop 1=t:=by
 unfold qO at a
 split at a
 ·exact absurd h (by simp [Lib.hasPrefix])
 ·rename_i c r' _
  cases hc:vR c with
  | none=>rw [hc] at a;cases a
  | some d=>
   rw [hc] at a;cases a;exact ⟨hc,rfl⟩
 ·cases a
def JS (g d f:Nat) (r:Ub) (w:World) (e:Ending) (w':World):Prop:=∃ (c:Nat) (b:Bool) (a:Ub),e=.returned (.tuple #[.int .u8 (c:Int),.bool b])∧c<256∧PrS w' g d f a∧w.grownBy w' (some g)∧a.length≤r.length∧∀x t,qO r=some (x,t)→b=true∧c=x.toNat∧a=t
theorem NI {g p f:Nat} {r:Ub} (w:World) (h:PrS w g p f r) (hr:r.length≤1000000):Calls prog 192 #[.pointer (some ⟨g,0,none⟩)] w (JS g p f r w):=by
 have S:=dO ⟨#[117,48,48]⟩ w h;rw [show (⟨#[117,48,48]⟩:Bt).data.toList=[117,48,48] from rfl] at S
 cases hp:Lib.hasPrefix r [117,48,48] with
 | true=>
  rw [hp,iU hp] at S;have G:Hid (Calls prog _ _ w (fG g p f w (.bool true) (r.drop 3))):=S;have I:=Hh (fun x t F=>aIa (x:=x) (t:=t) hp F)
  have N:(r.drop 3).length≤r.length:=by rw [Ce];omega
  clear S hp h;obtain ⟨q,hq⟩:∃q,q=r.drop 3:=⟨_,rfl⟩;rw [←hq] at G I N;clear hq
  go_enter func192,ntmps192
  go_upto_region 2 with ((with_reducible refine (G.o).mono ?_);rintro e A ⟨rfl,m,k⟩)
  have T:Hid (Calls prog 205 #[.pointer (some ⟨g,0,none⟩),Iz 2] A (fG g p f A (.string (bA (q.take 2))) (q.drop 2))):=uT 2 A m (by decide) (by omega)
  have Y:=Hh k;clear k m G
  go_wp2_with (first
   | (go_at_call 205;(with_reducible refine (T.o).mono ?_);rintro e L ⟨rfl,a,b⟩;(have Z:=Hh (aBv (bA (q.take 2)) L (by rw [jP,Bc];omega) a.2.2.2.2.1)))
   | (go_at_call 206;(with_reducible refine (Z.o).mono ?_);rintro e w3 ⟨v,ev,rfl,hv,M,X,J⟩;go_loud ((have wv:IntKind.u8.wrap (v:Int)=(v:Int):=by rw [Da];omega);(have HH:=Hh X);clear X)))
  have V:=Hh (Ai a (aJ Y.o b));clear a b Y T Z;have z:∀ (n:Nat) (D:Bool),(ev=.nilIface→D=true)→JS g p f r w (.returned (.tuple #[.int .u8 (v:Int),.bool D])) (w3.drewN n):=by
   intro n D u;have J:=xM J n;refine ⟨v,D,q.drop 2,rfl,hv,V.o.1.below J,aJ V.o.2 (aK J (Lr _) _),by rw [Ce];omega,fun x t F=>?_⟩
   obtain ⟨H,R⟩:=I.o x t F;have:=HH.o x.toNat (by rw [nY];exact H)
   exact ⟨u this.2,this.1,R⟩
  have W:=Hh z;clear z;rcases M with rfl | ⟨te,pe,rfl⟩
  ·go_wp2
   go_quiet (fail)
   go_wp2
   go_ret2
   exact W.o _ _ (fun _=>rfl)
  ·go_wp2
   go_quiet (fail)
   go_wp2
   go_ret2
   exact W.o _ _ (fun h=>by cases h)
 | false=>
  rw [hp,fP hp] at S;have G:Hid (Calls prog _ _ w (fG g p f w (.bool false) r)):=S;have I:=Hh (fun x t F=>NJ (x:=x) (t:=t) hp F)
  clear S hp h
  go_enter func192,ntmps192
  go_upto_region 4 with ((with_reducible refine (G.o).mono ?_);rintro e A ⟨rfl,m,k⟩)
  have y:PrS A.drew g p f r:=m.below ((Br _ _).drew);have C:w.grownBy A.drew (some g):=aJ k (aK (Br _ _).drew (Lr _) _);have U:A.drew.cell? ⟨g,2,none⟩=some (.map (some f)):=aL y.1 rfl;clear m k G;refine aI (fun w'=>w'.cell? ⟨g,2,none⟩=some (.map (some f))) [3] (.take 0 (.take 1 (.take 2 (.take 3 (.take 4 (.take 5 (.take 6 (.ask 7 true (.ask 8 false (.take 9 (.take 10 (.take 11 (.take 12 (.take 13 .stop))))) .stop) .stop)))))))) (by kernel_rfl) (by kernel_rfl) (fun _ d _ _ _ h=>by cases d <;> exact h) U ?_
  generalize A.drew=O at y C U ⊢
  iterate 3 (refine aF _ ?_ rfl rfl ?_ (fun K l=>?_);rotate_left;(intro P;go_simp;(try rfl));(go_simp;refine l _ ?_;clear l K))
  refine aM _ ?_ rfl rfl (by decide) ?_ (fun K l=>?_);rotate_left;(intro P xa;go_simp;(try rfl));(go_simp;refine l _ ?_;clear l K)
  iterate 3 (refine aF _ ?_ rfl rfl ?_ (fun K l=>?_);rotate_left;(intro P;go_simp;(try rfl));(go_simp;refine l _ ?_;clear l K))
  have T:Hid (Calls prog 205 #[.pointer (some ⟨g,0,none⟩),Iz 1] O (fG g p f O (.string (bA (r.take 1))) (r.drop 1))):=uT 1 O y (by decide) (by omega)
  refine aH _ rfl trivial ?_
  go_wp2_with (go_at_call 205;(with_reducible refine (T.o).mono ?_);rintro e L ⟨rfl,a,b⟩)
  refine Seg.mk ⟨aL a.1 rfl,?_⟩;obtain ⟨c,B,j,E⟩:=a.2.2.1.look (s:=bA (r.take 1)) (by rw [jP,Bc];unfold maxLen;omega)
  rw [nY] at j E;generalize u:(oE (r.take 1)).isSome=D at j;refine aB _ rfl trivial ?_
  go_wp2_with fail
  refine Seg.mk ?_
  iterate 5 (refine aF _ ?_ rfl rfl ?_ (fun K l=>?_);rotate_left;(intro P;go_simp;(try rfl));(go_simp;refine l _ ?_;clear l K))
  have i:JS g p f r w (.returned (.tuple #[.int .u8 (c:Int),.bool D])) L:=by
   refine ⟨c,D,r.drop 1,rfl,B,a,aJ C b,by rw [Ce];omega,fun x t F=>?_⟩
   obtain ⟨H,R⟩:=I.o x t F;exact ⟨by rw [←u,H];rfl,E x H,R⟩
  have Q:=Hh i;clear i a b C E u y;unfold cQ
  go_wp2_with fail
  go_ret2
  exact Q.o
def iY:Ub:=[34,92]
theorem FH (a:Ub):∀r:Ub,gC a r=[]∨∃c q,gC a r=c::q∧a.contains c=true
 | []=>.inl rfl
 | b::l=>by
  unfold gC
  rw [List.dropWhile_cons];cases hb:a.contains b with
  | true=>exact .inr ⟨b,l,by simp,hb⟩
  | false=>
   have:=FH a l;unfold gC at this
   simpa using this
theorem tA:∀ (r x t:Ub),dA r=some (x,t)→∃d,x=kN iY r++d∧dA (gC iY r)=some (d,t)
 | [],x,t,h=>by rw [iO] at h;cases h
 | c::q,x,t,h=>by
  by_cases b:iY.contains c=true
  ·have f:kN iY (c::q)=[]:=by unfold kN;rw [List.takeWhile_cons,b];rfl
   have g:gC iY (c::q)=c::q:=by unfold gC;rw [List.dropWhile_cons,b];rfl
   exact ⟨x,by rw [f];rfl,by rw [g];exact h⟩
  ·have a:iY.contains c=false:=by simpa using b
   have f:kN iY (c::q)=c::kN iY q:=by unfold kN;rw [List.takeWhile_cons,a];rfl
   have g:gC iY (c::q)=gC iY q:=by unfold gC;rw [List.dropWhile_cons,a];rfl
   have k:c ≠ 34:=fun e=>by subst e;exact b rfl
   have j:c ≠ 92:=fun e=>by subst e;exact b rfl
   rw [iO,lX,Ae k,Ae j] at h
   replace h:(dA q).map (fun x=>(c::x.1,x.2))=some (x,t):=h
   cases hq:dA q with
   | none=>rw [hq] at h;cases h
   | some y=>
    rw [hq] at h;obtain ⟨i,n⟩:=y;cases h;obtain ⟨d,l,m⟩:=tA q i _ hq;exact ⟨d,by rw [f,l];rfl,by rw [g];exact m⟩
theorem QI (q x t:Ub) (h:dA (34::q)=some (x,t)):x=[]∧t=q:=by
 rw [iO,lX,Am rfl] at h;cases h;exact ⟨rfl,rfl⟩
theorem zY (q x t:Ub) (h:dA (92::q)=some (x,t)):∃c a b,qO q=some (c,a)∧x=c::b∧dA a=some (b,t):=by
 rw [iO,lX,Ae (by decide),Am rfl] at h
 cases he:qO q with
 | none=>rw [he] at h;cases h
 | some y=>
  obtain ⟨c,a⟩:=y;rw [he] at h
  replace h:(dA a).map (fun x=>(c::x.1,x.2))=some (x,t):=h
  cases hq:dA a with
  | none=>rw [hq] at h;cases h
  | some z=>
   obtain ⟨d,e⟩:=z;rw [hq] at h;cases h;exact ⟨c,a,d,rfl,rfl,hq⟩
theorem KU (a r:Ub):(kN a r).length+(gC a r).length=r.length:=by rw [←Lg,WJ]
theorem tP (c:UInt8) (q:Ub) (p:UInt8):Lib.hasPrefix (c::q) [p]=(p == c):=by unfold Lib.hasPrefix;rw [List.isPrefixOf_cons_cons,List.isPrefixOf_nil_left,Bool.and_true]
theorem aBe (c:UInt8) (q:Ub):Lib.trimPrefix (c::q) [c]=q:=by rw [iU (by rw [tP];simp)];rfl
def yB (w:World) (g:Nat):Nat:=match w.cell? ⟨g,0,none⟩ with
 | some (.string s)=>s.size
 | _=>0
theorem PrS.rest {w:World} {g a b:Nat} {r:Ub} (h:PrS w g a b r):yB w g=r.length:=by
 unfold yB;rw [aL h.1 rfl];exact jP r
theorem PrS.row {w w':World} {g d f:Nat} {r:Ub} {row:Option Nat} (h:PrS w g d f r) (l:w.grownBy w' row) (A:∀b,row=some b→g<b):PrS w' g d f r:=by
 cases row with
 | some b=>exact h.kept l (A b rfl)
 | none=>
  obtain ⟨c,k,m,⟨q,B⟩,v,s,u⟩:=h;have a:∀i,i<w.heap.size→w'.heap[i]?=w.heap[i]?:=fun i y=>l.block i y (by intro e;cases e)
  refine ⟨(a g (Aa c)).trans c,k.same (a _ k.lt),m.same (a _ m.lt),⟨q,B⟩,?_,s,u⟩;obtain ⟨⟨t,p,j⟩,⟨o,z,n⟩⟩:=v;have C:6<w.heap.size:=cD j;have x:7<w.heap.size:=cD n;refine ⟨⟨t,p,?_⟩,⟨o,z,?_⟩⟩
  ·rw [jA (a _ C)];exact j
  ·rw [jA (a _ x)];exact n
def aIs (g c d:Nat) (r:Ub) (w:World) (e:Ending) (w':World):Prop:=∃ (s:Ub) (b:Bool) (a:Ub),e=.returned (.tuple #[.string (bA s),.bool b])∧PrS w' g c d a∧w.grownBy w' (some g)∧s.length+a.length≤r.length∧∀x t,dA r=some (x,t)→b=true∧s=x∧a=t
theorem wT {g s B:Nat} {r:Ub} (w:World) (h:PrS w g s B r) (hr:r.length≤100000):Calls prog 165 #[.pointer (some ⟨g,0,none⟩)] w (aIs g s B r w):=by
 obtain ⟨ib,xy,x5,xs,xw⟩:=Ea nA;have xx:=underlying69;have xm:=underlying9;have x9:=Hh xy;have J:=h.lt;have xr:=Hh h;clear h xy
 go_enter func165,ntmps165
 go_upto_region 2 with fail
 go_loopw [4] (fun v wr=>∃ (l n:Ub),PrS wr g s B n∧wr.ownsRow w.heap.size 5 1 v l.length (aS l)∧w.grownBy wr (some g)∧l.length+n.length≤r.length∧w.heap.size≤wr.heap.size∧∀x t,dA r=some (x,t)→∃p,x=l++p∧dA n=some (p,t)) (fun _ wr=>yB wr g)
 case atStart=>exact ⟨[],r,xr.o,Dk _ _ _ _,World.grownBy.refl _ _,by simp,Lr _,fun x t i=>⟨x,rfl,i⟩⟩
 case round=>
  clear xr;obtain ⟨l,n,xo,L,hg,xp,ym,hq⟩:=hrel;have xz:=xo.rest;obtain ⟨ao,yn,rfl,-,-⟩:=dM L;have U:Hid (Calls prog 191 #[.pointer (some ⟨g,0,none⟩),.string ⟨#[34,92]⟩] wr (fG g s B wr (.string (bA (kN iY n))) (gC iY n))):=DY ⟨#[34,92]⟩ wr xo (by decide) (by decide) (by omega) (by
   intro j b W;have W:([34,92]:Ub)[j]?=some b:=W
   match j,W with
   | 0,W=>cases W;decide
   | 1,W=>cases W;decide
   | j+2,W=>simp at W)
  have xg:=KU iY n;have S:∀x t,dA r=some (x,t)→∃p,x=(l++kN iY n)++p∧dA (gC iY n)=some (p,t):=fun x t i=>by
   obtain ⟨p,h1,h2⟩:=hq x t i;obtain ⟨Q,h3,h4⟩:=tA n p t h2;exact ⟨Q,by rw [h1,h3,Aj],h4⟩
  have xd:=FH iY n;generalize kN iY n=u at U xg S;generalize gC iY n=f at U xg S xd
  have xv:(bA u).size=u.length:=jP u;have xh:=Hh xv;have HO:=Hh L;have HG:=Hh hg;have HQ:=Hh S;have yb:=Hh xd;clear L hg hq S xd xv
  go_upto_region 3 with (first
   | (go_at_call 191;(with_reducible refine (U.o).mono ?_);rintro e w1 ⟨rfl,xq,T⟩;(have Z:=Hh (iP HO.o T J));(have yq:=T.size))
   | (at_builtin;refine Lib.wpList_append_own_string _ rfl (.tmp 7) (.tmp 11) 69 9 rfl w.heap.size 5 ib xx xm x9.o x5 xs xw _ l.length _ rfl Z.o (bA u) rfl (by unfold maxLen;rw [xh.o];omega) (by rw [xh.o];omega) (by omega) ?_;intro v' I m K xi;obtain ⟨yd,x7,rfl,-,-⟩:=dM m;clear xi))
  have C:PrS I g s B f:=xq.row K (fun b e=>by have:=(Z.o.lt b e).1;omega)
  have F:w.grownBy I (some g):=FG (aJ HG.o T) Z.o K (Lr _);have yk:w.heap.size≤I.heap.size:=F.size;obtain ⟨G,M⟩:∃G,G=l++u:=⟨_,rfl⟩;have A:G.length=l.length+(bA u).size:=by rw [M,xh.o,Lg]
  have a:I.ownsRow w.heap.size 5 1 (.slice yd (l.length+(bA u).size) x7) G.length (aS G):=by
   rw [A,M,cF];have e:aS u=Lib.strCells (bA u):=by show _=aS (bA u).data.toList;rw [nY]
   rw [e];exact m
  rw [←A] at a;rw [←A];have xk:=HQ.o;rw [←M] at xk;have k:G.length+f.length≤r.length:=by rw [M,Lg];omega
  have xt:f.length≤n.length:=by omega
  have V:=Hh xk;have yg:=Hh xz;clear m K M A xk HQ HG HO Z T xq xz xg xp;rcases yb.o with rfl | ⟨c,q,rfl,hc⟩
  ·have S1:Hid (Calls prog 163 #[.pointer (some ⟨g,0,none⟩),.string ⟨#[34]⟩] I (fG g s B I (.bool false) [])):=dO ⟨#[34]⟩ I C
   have S2:Hid (∀y:World,PrS y g s B []→Calls prog 163 #[.pointer (some ⟨g,0,none⟩),.string ⟨#[92]⟩] y (fG g s B y (.bool false) [])):=Hh fun y i=>dO ⟨#[92]⟩ y i
   clear C
   go_wp2_with (first
    | (go_at_call 163;(with_reducible refine (S1.o).mono ?_);rintro e w9 ⟨rfl,D,d⟩)
    | (go_at_call 163;(with_reducible refine (S2.o _ D).mono ?_);rintro e wa ⟨rfl,R,H⟩))
   go_ret2
   exact ⟨[],false,[],rfl,R,aJ F (aJ d H),by simp,fun x t i=>by
    obtain ⟨p,-,h⟩:=V.o x t i;rw [iO] at h;cases h⟩
  ·by_cases x8:c=34
   ·subst x8
    have S1:Hid (Calls prog 163 #[.pointer (some ⟨g,0,none⟩),.string ⟨#[34]⟩] I (fG g s B I (.bool true) q)):=by
     have:=dO ⟨#[34]⟩ I C;rw [show (⟨#[34]⟩:Bt).data.toList=[34] from rfl,tP,aBe] at this
     exact this
    have Y:=Hh a;clear C a
    go_upto_region 4 with ((with_reducible refine (S1.o).mono ?_);rintro e w9 ⟨rfl,D,d⟩)
    have yo:=eA (P:=prog) w9 69 9 5 w.heap.size G.length _ G (iP Y.o d J) underlying69 underlying5 underlying9
    go_wp2
    go_ret2
    exact ⟨G,true,q,rfl,D,aJ F d,by simp at k;omega,fun x t i=>by
     obtain ⟨p,h1,h2⟩:=V.o x t i;obtain ⟨rfl,rfl⟩:=QI q p t h2;exact ⟨rfl,by rw [h1,By],rfl⟩⟩
   ·have yc:c=92:=by
     have:c ∈ iY:=by simpa using hc
     simp only [iY,Bl,Bn,Dl] at this;exact this.resolve_left x8
    subst yc;have S1:Hid (Calls prog 163 #[.pointer (some ⟨g,0,none⟩),.string ⟨#[34]⟩] I (fG g s B I (.bool false) (92::q))):=dO ⟨#[34]⟩ I C;have S2:Hid (∀y:World,PrS y g s B (92::q)→Calls prog 163 #[.pointer (some ⟨g,0,none⟩),.string ⟨#[92]⟩] y (fG g s B y (.bool true) q)):=Hh fun y i=>by
     have:=dO ⟨#[92]⟩ y i;rw [show (⟨#[92]⟩:Bt).data.toList=[92] from rfl,tP,aBe] at this
     exact this
    have yp:q.length+1≤n.length:=by simpa using xt
    have yf:G.length+(q.length+1)≤r.length:=by simpa using k
    have E:=Hh (fun (y:World) (i:PrS y g s B q)=>NI y i (by omega))
    have Y:=Hh a;clear C a xt k
    go_upto_region 8 with (first
     | (go_at_call 163;(with_reducible refine (S1.o).mono ?_);rintro e w9 ⟨rfl,D,d⟩)
     | (go_at_call 163;(with_reducible refine (S2.o _ D).mono ?_);rintro e wa ⟨rfl,R,H⟩)
     | (go_at_call 192;(with_reducible refine (E.o _ R).mono ?_);rintro e wb ⟨cn,ok,q',rfl,yr,xl,X,yl,xb⟩))
    have HE:=Hh xb;clear xb S1 S2 E;cases ok with
    | false=>
     go_wp2
     go_ret2
     exact ⟨[],false,q',rfl,xl,aJ F (aJ d (aJ H X)),by simp;omega,fun x t i=>by
      obtain ⟨p,-,h2⟩:=V.o x t i;obtain ⟨c0,q0,Q,e1,-,-⟩:=zY q p t h2;have:=(HE.o c0 q0 e1).1;cases this⟩
    | true=>
     obtain ⟨O,rfl⟩:∃O:UInt8,O.toNat=cn:=⟨UInt8.ofNat cn,by rw [Bb];omega⟩
     have N:=iP (iP (iP Y.o d J) H J) X J;have xj:=aJ F (aJ d (aJ H X));have yj:w.heap.size≤wb.heap.size:=xj.size;have xf:=Hh (N.alloc (.cells #[.int .u8 (O.toNat:Int)] 5));have xu:=xl.below ((Br wb.heap.size wb).alloc (o:=.cells #[.int .u8 (O.toNat:Int)] 5) (Lr _));have xc:=aJ xj (dV wb (.cells #[.int .u8 (O.toNat:Int)] 5) (some g));have ye:w.heap.size≤(wb.alloc (.cells #[.int .u8 (O.toNat:Int)] 5)).heap.size:=xc.size;have CN:=Hh (cX wb #[.int .u8 (O.toNat:Int)] 5 [.int .u8 (O.toNat:Int)] rfl);have x6:=Hh (Ai xu xc);clear xu xc xj N xl F d H X D R Y
     go_wp2_with (refine Ay _ rfl (.tmp 31) (.tmp 33) 69 rfl w.heap.size 5 ib (.int .u8 0) 1 1 xx x9.o x5 xs xw rfl (by decide) _ G.length _ rfl xf.o ⟨wb.heap.size,0,none⟩ 1 1 [.int .u8 (O.toNat:Int)] rfl rfl CN.o (by intro z hz;simp only [Bl,Bn,Dl] at hz;rcases hz with rfl;rfl) (by decide) (by unfold maxLen;omega) (by omega) ye _ rfl ?_;intro gg ys wd xe xa yh yi)
     have xn:PrS wd g s B q':=x6.o.1.row xa (fun b e=>by have:=(xf.o.lt b e).1;omega)
     have ya:w.grownBy wd (some g):=FG x6.o.2 xf.o xa (Lr _)
     go_roundw
     case rel=>
      refine ⟨G++[O],q',xn,?_,ya,by rw [Lg];show G.length+1+q'.length≤r.length;omega,ya.size,fun x t i=>?_⟩
      ·rw [Lg,cF];exact xe
      ·obtain ⟨p,h1,h2⟩:=V.o x t i
       obtain ⟨c0,q0,Q,e1,e2,e3⟩:=zY q p t h2;obtain ⟨-,e4,e5⟩:=HE.o c0 q0 e1;have e6:=UInt8.toNat_inj.1 e4;subst e6 e5;exact ⟨Q,by rw [h1,e2];simp,e3⟩
     case measure=>rw [xn.rest,yg.o];omega
end Go.Proofs.YtncdpanfefnjlaaGreatDoor
namespace Go.Proofs.YtncdpanfefnjlaaGreatDoor
open Go.Proofs.Tryz
open Go.Lib
def hG:Ub:=[44,93,125]
def vO (t:Ub):Prop:=∀c,t.head?=some c→hG.contains c=true
theorem oR {l t:Ub} (b:∀c,c ∈ l→hG.contains c=false) (d:vO t):kN hG (l++t)=l∧gC hG (l++t)=t:=by
 have h:kN hG t=[]∧gC hG t=t:=by
  cases t with
  | nil=>exact ⟨rfl,rfl⟩
  | cons c r=>
   have:=d c rfl;unfold kN gC
   rw [List.takeWhile_cons,List.dropWhile_cons,this];exact ⟨rfl,rfl⟩
 unfold kN gC at h ⊢
 rw [List.takeWhile_append_of_pos (fun c a=>by rw [b c a];rfl),List.dropWhile_append_of_pos (fun c a=>by rw [b c a];rfl),h.1,h.2,By]
 exact ⟨rfl,rfl⟩
theorem AI:∀ (d:Ub) (b k:Nat),(∀c,c ∈ d→eU c=true)→b<10 ^ k→k+d.length≤19→parseUint10 b d=.ok (d.foldl (fun a c=>a * 10+(c.toNat - 48)) b)
 | [],b,k,_,_,_=>rfl
 | c::d,b,k,hd,ha,hk=>by
  have h:=pI (hd c (by simp))
  simp only [Ag] at hk;have f:b<10 ^ 18:=Ll ha (Ch (by decide) (by omega))
  have e:b * 10+(c.toNat - 48)<10 ^ (k+1):=by rw [Dz];omega
  rw [parseUint10,Am h,Ae (by omega),Ae (by omega)]
  rw [AI d _ (k+1) (fun x g=>hd x (by simp [g])) e (by omega)]
  rfl
theorem XL {a:Ub} (b:∀c,c ∈ a→eU c=true) (d:a ≠ []) (e:a.length≤19):parseMag a=.ok (kE a):=by
 unfold parseMag kE;rw [Ae d,AI a 0 0 b (by decide) (by omega)]
theorem NU {c:UInt8} (h:eU c=true):hG.contains c=false:=by
 have:=pI h;have a:c ≠ 44:=fun e=>by subst e;revert this;decide
 have d:c ≠ 93:=fun e=>by subst e;revert this;decide
 have b:c ≠ 125:=fun e=>by subst e;revert this;decide
 simp [hG,a,d,b]
theorem TV {c:UInt8} {l:Ub} (h:c=45∨eU c=true):jC (c::l)=none:=by
 have a:c ≠ 116∧c ≠ 102∧c ≠ 110:=by
  rcases h with rfl | h
  ·decide
  ·have:=pI h
   refine ⟨?_,?_,?_⟩ <;> (intro e;subst e;revert this;decide)
 unfold jC;rw [Ae (by intro e;cases e;exact a.1 rfl),Ae (by intro e;cases e;exact a.2.1 rfl),Ae (by intro e;cases e;exact a.2.2 rfl)]
def wC (r:Ub) (y:ND) (t:Ub):Prop:=gC hG r=t∧(jC (kN hG r)=some y∨(jC (kN hG r)=none∧∃u:Int,atoiAll (kN hG r)=.ok u∧y=.mk 2 false u ⟨#[]⟩ [] []))
theorem qT:∀ (l:Ub),∀c,c ∈ l.takeWhile eU→eU c=true
 | [],c,h=>by simp at h
 | b::l,c,h=>by
  rw [List.takeWhile_cons] at h;cases hb:eU b with
  | true=>
   rw [hb] at h;rcases Bl.1 h with rfl | h
   ·exact hb
   ·exact qT l c h
  | false=>rw [hb] at h;simp at h
theorem FS {neg:Bool} {q t:Ub} {y:ND} (h:BO neg q=some (y,t)) (p:vO t):wC (if neg then 45::q else q) y t:=by
 unfold BO at h
 split at h
 ·cases h
 ·rename_i h1
  split at h
  ·cases h
  ·rename_i h2
   cases h;obtain ⟨a,i⟩:∃a,a=q.takeWhile eU:=⟨_,rfl⟩;obtain ⟨j,k⟩:∃j,j=q.dropWhile eU:=⟨_,rfl⟩;have u:q=a++j:=by rw [i,k,List.takeWhile_append_dropWhile]
   rw [←i] at h1 h2 ⊢;rw [←k] at p ⊢;have b:∀c,c ∈ a→eU c=true:=by rw [i];exact qT q
   have s:a ≠ []:=fun e=>h1 (.inl (by rw [e];rfl))
   have w:a.length≤19:=by omega
   have m:=XL b s w;obtain ⟨c,d,g⟩:∃c d,a=c::d:=by
    cases a with
    | nil=>exact absurd rfl s
    | cons c d=>exact ⟨c,d,rfl⟩
   have f:=b c (by rw [g];simp)
   cases neg with
   | true=>
    have e:(if true=true then 45::q else q)=(45::a)++j:=by rw [Am rfl,u];rfl
    rw [e];obtain ⟨o,r⟩:=oR (l:=45::a) (t:=j) (fun c n=>by
     rcases Bl.1 n with rfl | n
     ·rfl
     ·exact NU (b c n)) p
    refine ⟨r,.inr ⟨by rw [o];exact TV (.inl rfl),-(kE a:Int),?_,by rw [Am rfl]⟩⟩
    rw [o,atoiAll_minus,m];unfold signed;simp only;rw [Ae (by omega)]
   | false=>
    have e:(if false=true then 45::q else q)=a++j:=by rw [Ae (by decide),u]
    rw [e];obtain ⟨o,r⟩:=oR (l:=a) (t:=j) (fun c n=>NU (b c n)) p
    have v:=pI f;refine ⟨r,.inr ⟨by rw [o,g];exact TV (.inr f),(kE a:Int),?_,by rw [Ae (by decide)]⟩⟩
    rw [o,g,atoiAll_plain c d (by omega) (by omega),←g,m]
    unfold signless;simp only;have x:¬9223372036854775807<kE a:=fun h=>h2 (.inl ⟨rfl,h⟩)
    rw [Ae (by omega)]
theorem aFe {d:Nat} {c:UInt8} {r:Ub} {y:ND} {t:Ub} (h:cB (d+1) (c::r)=some (y,t)) (i:c ≠ 34) (k:c ≠ 91) (j:c ≠ 123) (f:vO t):wC (c::r) y t:=by
 rw [wJ,Ae i,Ae k,Ae j] at h
 split at h
 ·rename_i hp
  have b:=eG (r:=c::r) (p:=wV) hp;cases h;obtain ⟨a,e⟩:=oR (l:=wV) (t:=(c::r).drop 4) (by decide) f
  rw [show (c::r).drop wV.length=(c::r).drop 4 from rfl] at b
  rw [←b] at a e;exact ⟨e,.inl (by rw [a];rfl)⟩
 ·split at h
  ·rename_i hp
   have b:=eG (r:=c::r) (p:=sS) hp;cases h;obtain ⟨a,e⟩:=oR (l:=sS) (t:=(c::r).drop 4) (by decide) f
   rw [show (c::r).drop sS.length=(c::r).drop 4 from rfl] at b
   rw [←b] at a e;exact ⟨e,.inl (by rw [a];rfl)⟩
  ·split at h
   ·rename_i hp
    have b:=eG (r:=c::r) (p:=mQ) hp;cases h;obtain ⟨a,e⟩:=oR (l:=mQ) (t:=(c::r).drop 5) (by decide) f
    rw [show (c::r).drop mQ.length=(c::r).drop 5 from rfl] at b
    rw [←b] at a e;exact ⟨e,.inl (by rw [a];rfl)⟩
   ·unfold qE at h
    split at h
    ·rename_i g
     have g:c=45:=by simpa using g
     subst g;exact FS (neg:=true) h f
    ·exact FS (neg:=false) h f
end Go.Proofs.YtncdpanfefnjlaaGreatDoor