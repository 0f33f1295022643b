import Derived.Test.YtncdpanfefnjlaaGreatDoorProg
import Derived.Test.YtncdpanfefnjlaaGreatDoorRows
import Derived.Test.YtncdpanfefnjlaaGreatDoorJwrd
set_option linter.unusedVariables false
set_option linter.unusedSimpArgs false
set_option maxHeartbeats 1600000
set_option maxRecDepth 100000
namespace Go.Proofs.YtncdpanfefnjlaaGreatDoor
open Go.Proofs.Tryz
open Go.Lib
theorem DY (s:Bt):(⟨s.data.toList.toArray⟩:Bt)=s:=by cases s;simp
theorem KR {V:Ub→Option (ND × Ub)} {W:ND→Ub} {t:Ub}:∀ (its:List ND) (ns:List Bt) (n:Nat) (dn:List Bt) (done:List ND),its ≠ []→ns.length=its.length→its.length≤n→done.length+its.length≤256 →
 (∀y,y ∈ its→∀r,okR r→V (W y++r)=some (y,r)) →
 cX V true 125 n dn done (dV (List.zipWith (fun s y=>bH s.data.toList++58::W y) ns its)++125::t)=some ((dn++ns,done++its),t)
 | [],_,_,_,_,h,_,_,_,_=>absurd rfl h
 | y::ys,[],_,_,_,_,h,_,_,_=>by simp at h
 | y::ys,s::ss,0,_,_,_,_,h,_,_=>by simp at h
 | y::ys,s::ss,n+1,dn,done,_,hl,hn,hd,hy=>by
  have hv:=hy y (by simp)
  have hq:∀r,zC true dn (bH s.data.toList++58::r)=some (dn++[s],r):=by
   intro r;have e:bH s.data.toList++58::r=34::(s.data.toList.flatMap gE++34::58::r):=by unfold bH;simp
   rw [e]
   show (match cT (s.data.toList.flatMap gE++34::58::r) with
    | some (o,58::r')=>some (dn++[(⟨o.toArray⟩:Bt)],r')
    | _=>none)=_
   rw [mU]
   show some (dn++[(⟨s.data.toList.toArray⟩:Bt)],r)=_
   rw [DY]
  have hhead:∀r,¬ (done=[]∧((bH s.data.toList++58::W y)++r).head?=some 125):=by
   rintro r ⟨-,h⟩;have:((bH s.data.toList++58::W y)++r).head?=some 34:=rfl;rw [this] at h;exact absurd (Ab h) (by decide)
  unfold cX;cases ys with
  | nil=>
   cases ss with
   | cons _ _=>simp at hl
   | nil=>
    show (if done=[]∧((bH s.data.toList++58::W y)++125::t).head?=some 125 then _ else match zC true dn ((bH s.data.toList++58::W y)++125::t) with
     | none=>none
     | some (ns',t1)=>match V t1 with
      | none=>none
      | some (x,t2)=>match t2 with
       | []=>none
       | c::t3=>if c=125 then some ((ns',done++[x]),t3) else if c ≠ 44∨256<done.length+1 then none else cX V true 125 n ns' (done++[x]) t3)=_
    rw [Af (hhead _),Aj,Bm,hq]
    show (match V (W y++125::t) with | none=>none | some (x,t2)=>_)=_
    rw [hv _ (sK (by decide))]
    rfl
  | cons z zs=>
   cases ss with
   | nil=>simp at hl
   | cons s2 ss=>
    rw [Bg,tT (by simp),Aj,Af (hhead _),Aj,Bm,hq]
    have ih:=KR (V:=V) (W:=W) (t:=t) (z::zs) (s2::ss) n (dn++[s]) (done++[y]) (by simp) (by simpa using hl) (by simpa using hn) (by simp at hd ⊢;omega) (fun w hw=>hy w (by simp at hw ⊢;exact .inr hw))
    show (match V (W y++(44::dV (List.zipWith (fun s y=>bH s.data.toList++58::W y) (s2::ss) (z::zs))++125::t)) with
     | none=>none
     | some (x,t2)=>match t2 with
      | []=>none
      | c::t3=>if c=125 then some ((dn++[s],done++[x]),t3) else if c ≠ 44∨256<done.length+1 then none else cX V true 125 n (dn++[s]) (done++[x]) t3)=_
    rw [Bm,hv _ (sK (by decide))]
    show (if (44:UInt8)=125 then _ else if (44:UInt8) ≠ 44∨256<done.length+1 then none else cX V true 125 n (dn++[s]) (done++[y]) (dV (List.zipWith (fun s y=>bH s.data.toList++58::W y) (s2::ss) (z::zs))++125::t))=_
    rw [Af (by decide),Af (by simp at hd ⊢;omega),ih]
    simp
theorem yG:∀ (l:List (Ub)),(∀a,a ∈ l→1≤a.length)→l.length≤(dV l).length
 | [],_=>Lr _
 | [a],h=>h a (by simp)
 | a::b::t,h=>by
  have:=yG (b::t) (fun c hc=>h c (by simp at hc ⊢;exact .inr hc))
  show _≤(a++44::dV (b::t)).length
  rw [Lg,Ag];simp only [Ag] at this ⊢;omega
theorem aX {d:Nat} {x:ND} (h:aB (d+1) x=true):(∀y,y ∈ x.items→aB d y=true)∧x.items.length≤256∧aV x.text=true∧∀s,s ∈ x.names→aV s=true:=by
 rw [cQ,Ak,Aw] at h;obtain ⟨hf,hi⟩:=h;unfold eQ at hf;simp only [Ak,Dw,Av,Aw] at hf;obtain ⟨⟨⟨⟨⟨-,h1⟩,h2⟩,-⟩,h3⟩,-⟩:=hf;exact ⟨hi,h2,h1,h3⟩
theorem cL {d:Nat} {x:ND} (h:aO (d+1) x=true):dD x.num=true∧∀y,y ∈ x.items→aO d y=true:=by
 rw [cJ,Ak,Aw] at h;exact h
theorem MZ {d:Nat} {x:ND} (h:aB d x=true):1≤(aT d x).length:=by
 cases d with
 | zero=>cases h
 | succ d=>
  obtain ⟨c,r,e,-⟩:=vB h;rw [e];simp
theorem xK (d:Nat) (its:List ND):aT (d+1) (.mk 4 false 0 ⟨#[]⟩ [] its)=91::(dV (its.map (aT d))++[93]):=rfl
theorem xJ (d:Nat) (ns:List Bt) (its:List ND):aT (d+1) (.mk 5 false 0 ⟨#[]⟩ ns its)=123::(dV (List.zipWith (fun s y=>bH s.data.toList++58::aT d y) ns its)++[125]):=rfl
theorem RS (W:ND→Ub):∀ (ns:List Bt) (its:List ND),∀a,a ∈ List.zipWith (fun s y=>bH s.data.toList++58::W y) ns its→1≤a.length
 | [],_,a,h=>by simp at h
 | _::_,[],a,h=>by simp at h
 | s::ss,y::ys,a,h=>by
  rw [Bg] at h;rcases Bz.1 h with rfl | h
  ·rw [Lg,Ag];omega
  ·exact RS W ss ys a h
theorem jY:∀ (d:Nat) (x:ND) (t:Ub),aB d x=true→aO d x=true→okR t→bR d (aT d x++t)=some (x,t)
 | 0,_,_,h,_,_=>by cases h
 | d+1,x,t,h,hn,ht=>by
  obtain ⟨hi,hl,-,-⟩:=aX h;obtain ⟨hw,hni⟩:=cL hn;rcases jA h with e | e | e | e | e | ⟨e,hlen⟩
  ·rw [e];rfl
  ·rw [e]
   cases x.bool <;> rfl
  ·rw [e]
   show bR (d+1) (itoa x.num++t)=_
   obtain ⟨c,r,h1,h2⟩:=uF x.num;have hne:∀v:UInt8,v ≠ 45→eI v=false→c ≠ v:=by
    intro v hv hd e;subst e;rcases h2 with h2 | h2
    ·exact hv h2
    ·rw [hd] at h2;cases h2
   have hb:=FH hw ht;rw [h1] at hb ⊢;rw [Bm] at hb ⊢;rw [fQ d c _ (hne _ (by decide) (by decide)) (hne _ (by decide) (by decide)) (hne _ (by decide) (by decide)),Af (hne _ (by decide) (by decide)),Af (hne _ (by decide) (by decide)),Af (hne _ (by decide) (by decide))]
   exact hb
  ·rw [e]
   show bR (d+1) (34::((x.text.data.toList.flatMap gE++[34])++t))=_
   rw [fQ d 34 _ (by decide) (by decide) (by decide),Am rfl,Aj]
   show (cT (x.text.data.toList.flatMap gE++34::t)).map _=_
   rw [mU]
   show some (ND.mk 3 false 0 ⟨x.text.data.toList.toArray⟩ [] [],t)=_
   rw [DY]
  ·rw [e,xK]
   show bR (d+1) (91::((dV (x.items.map (aT d))++[93])++t))=_
   rw [fQ d 91 _ (by decide) (by decide) (by decide),Af (by decide),Am rfl,Aj]
   show (cX (bR d) false 93 ((dV (x.items.map (aT d))++93::t).length+1) [] [] (dV (x.items.map (aT d))++93::t)).map _=_
   by_cases h0:x.items=[]
   ·rw [h0];rfl
   ·have hlen2:x.items.length≤(dV (x.items.map (aT d))++93::t).length+1:=by
     have:=yG (x.items.map (aT d)) (fun a ha=>by obtain ⟨y,hy,rfl⟩:=Bl.1 ha;exact MZ (hi y hy))
     rw [Bi] at this;rw [Lg];omega
    rw [DK x.items _ [] h0 hlen2 (by simpa using hl) (fun y hy=>⟨fun r hr=>jY d y r (hi y hy) (hni y hy) hr,by
     cases d with
     | zero=>exact absurd (hi y hy) (by intro h;cases h)
     | succ d=>
      obtain ⟨c,r,e,h1,_⟩:=vB (hi y hy);exact ⟨c,r,e,h1⟩⟩)]
    rfl
  ·rw [e,xJ]
   show bR (d+1) (123::((dV (List.zipWith (fun s y=>bH s.data.toList++58::aT d y) x.names x.items)++[125])++t))=_
   rw [fQ d 123 _ (by decide) (by decide) (by decide),Af (by decide),Af (by decide),Am rfl,Aj]
   show (cX (bR d) true 125 ((dV (List.zipWith (fun s y=>bH s.data.toList++58::aT d y) x.names x.items)++125::t).length+1) [] [] (dV (List.zipWith (fun s y=>bH s.data.toList++58::aT d y) x.names x.items)++125::t)).map _=_
   by_cases h0:x.items=[]
   ·have hn0:x.names=[]:=Au.1 (by rw [hlen,h0];rfl)
    rw [h0,hn0];rfl
   ·have hlen2:x.items.length≤(dV (List.zipWith (fun s y=>bH s.data.toList++58::aT d y) x.names x.items)++125::t).length+1:=by
     have:=yG _ (RS (aT d) x.names x.items);rw [List.length_zipWith,hlen,Nat.min_self] at this;rw [Lg];omega
    rw [KR x.items x.names _ [] [] h0 hlen hlen2 (by simpa using hl) (fun y hy r hr=>jY d y r (hi y hy) (hni y hy) hr)]
    rfl
theorem FF:okR []:=fun c e=>by cases e
theorem NA {d:Nat} {x y:ND} (hx:eF d x=true) (hy:eF d y=true) (h:aT d x=aT d y):x=y:=by
 have h1:=jY d x [] (dU hx) (eZ hx) FF;have h2:=jY d y [] (dU hy) (eZ hy) FF;rw [h,h2] at h1;exact (Prod.mk.inj (Ab h1)).1.symm
theorem aBu (c:UInt8):(gE c).length≤6:=by
 unfold gE
 repeat' split
 all_goals simp
theorem vY:∀l:Ub,(l.flatMap gE).length≤6 * l.length
 | []=>Lr _
 | c::r=>by
  have h1:=aBu c;have h2:=vY r;rw [Co,Lg,Ag];omega
theorem mW (l:Ub):(bH l).length≤6 * l.length+2:=by
 unfold bH;rw [Ag,Lg,List.length_singleton];have:=vY l;omega
theorem kC {s:Bt} (h:aV s=true):s.data.toList.length≤65536:=by
 unfold aV at h;simp only [Ak,Av] at h;have:s.data.toList.length=s.size:=by rw [Ah];rfl
 omega
end Go.Proofs.YtncdpanfefnjlaaGreatDoor
namespace Go.Proofs.YtncdpanfefnjlaaGreatDoor
open Go.Proofs.Tryz
open Go Go.ChangeShapes Go.WideShapes Go.ChangeAt Go.RowKit
theorem TC (m:Nat) (h:m<ByteArray.size { data:=#[48,49,50,51,52,53,54,55,56,57,97,98,99,100,101,102] }):({ data:=#[48,49,50,51,52,53,54,55,56,57,97,98,99,100,101,102] }:Bt)[m]'h=mM (UInt8.ofNat m):=by
 have all:∀m:Fin 16,({ data:=#[48,49,50,51,52,53,54,55,56,57,97,98,99,100,101,102] }:Bt)[m.val]'(m.isLt)=mM (UInt8.ofNat m.val):=by decide +kernel
 exact all ⟨m,h⟩
theorem rA:∀l:Ub,(l.flatMap gE).length≤6 * l.length
 | []=>Lr _
 | c::r=>by
  have h1:(gE c).length≤6:=by
   unfold gE
   repeat' split
   all_goals simp
  have h2:=rA r;rw [Co,Lg,Ag];omega
theorem aJe {x:Nat} {c:UInt8} (h:x=c.toNat):c=UInt8.ofNat x:=by rw [h,Dj]
theorem aJt {x:Nat} {c:UInt8} (h:x=c.toNat) (h0:x<32) (h1:x ≠ 8) (h2:x ≠ 9) (h3:x ≠ 10) (h4:x ≠ 12) (h5:x ≠ 13):gE c=[92,117,48,48,mM (UInt8.ofNat (x / 16)),mM (UInt8.ofNat (x % 16))]:=by
 have:∀n:Fin 32,n.1 ≠ 8→n.1 ≠ 9→n.1 ≠ 10→n.1 ≠ 12→n.1 ≠ 13→gE (UInt8.ofNat n.1)=[92,117,48,48,mM (UInt8.ofNat (n.1 / 16)),mM (UInt8.ofNat (n.1 % 16))]:=by decide +kernel
 rw [aJe h];exact this ⟨x,h0⟩ h1 h2 h3 h4 h5
theorem aJs {x:Nat} {c:UInt8} (h:x=c.toNat) (h0:32≤x) (h1:x ≠ 34) (h2:x ≠ 92):gE c=[c]:=by
 have hn:∀v:UInt8,v.toNat ≠ x→c ≠ v:=fun v hv e=>hv (by rw [h,e])
 unfold gE;rw [Af (by rintro (e | e);exact hn _ (by simpa using Ne.symm h1) e;exact hn _ (by simpa using Ne.symm h2) e),Af (hn _ (by simp;omega)),Af (hn _ (by simp;omega)),Af (hn _ (by simp;omega)),Af (hn _ (by simp;omega)),Af (hn _ (by simp;omega)),Af]
 rw [UInt8.lt_iff_toNat_lt,←h];simp;omega
theorem twb:168 ≠ 5:=by decide
abbrev rG:=WSt 168 5
def aDx (B g m:Nat) (l':Ub) (w:World) (e:Ending) (w':World):Prop:=e=.returned (.tuple #[])∧rG B w' g m l'∧WFr 5 g w w'
theorem eY (s:Bt) {B g m:Nat} {l:Ub} (w:World) (h:rG B w g m l) (hs:l.length+s.size≤1000000) (hB:B≤w.heap.size):Calls prog 160 #[.pointer (some ⟨g,0,none⟩),.string s] w (aDx B g m (l++s.data.toList) w):=by
 obtain ⟨ib,hib,hb0,hb1,hb2⟩:=info_parts qE;have hub:=underlying69;have hust:=underlying9;obtain ⟨v,h1,h2,h3,h4⟩:=h;have c0:w.cell? ⟨g,0,none⟩=some v:=aL h1 rfl;obtain ⟨ao,cap,rfl,-,-⟩:=dI h2;have HIB:=Hh hib;have H1:=Hh h1;have H2:=Hh h2;have hss:s.data.toList.length=s.size:=by rw [Ah];rfl
 have ST:=Hh (fun (w8:World) (v':Value) (ho:w8.ownsRow B 5 1 v' (l.length+s.size) (aS l++Lib.strCells s)) (hg:w.grownBy w8 (Value.slice ao l.length cap).ownBlock)=>xH (l':=l++s.data.toList) h1 h2 h3 h4 twb (by rw [Lg,hss,cP];exact ho) hg)
 clear h1 h2 hib hss
 go_enter func160,ntmps160
 go_wp2_with (at_builtin;refine Lib.wpList_append_own_string _ rfl (.tmp 8) (.tmp 9) 69 9 rfl B 5 ib hub hust HIB.o hb0 hb1 hb2 _ l.length _ rfl H2.o s rfl (by unfold maxLen;omega) (by omega) hB ?_;intro v' w8 hown hgr hnil;obtain ⟨ao8,cap8,rfl,-,-⟩:=dI hown;obtain ⟨k8,st8,fr8⟩:=ST.o w8 _ hown hgr;(have F:=Hh (Ai st8 fr8));(have c8:w8.cell? ⟨g,0,none⟩=some _:=aL k8 rfl);(have f8:w8.frozen? ⟨g,0,none⟩=false:=gM k8);clear st8 fr8 hown hgr hnil k8)
 go_end0
 exact ⟨rfl,F.o.1,F.o.2⟩
theorem xR {B g m:Nat} {l:Ub} (w:World) (h:rG B w g m l):Calls prog 141 #[.pointer (some ⟨g,0,none⟩)] w fun e w'=>e=.returned (.bool (decide (65536<l.length)))∧w=w':=by
 obtain ⟨v,h1,h2,-,-⟩:=h;have c0:w.cell? ⟨g,0,none⟩=some v:=aL h1 rfl;obtain ⟨ao,cap,rfl,-,-⟩:=dI h2;clear h1 h2
 by_cases hl:65536<l.length
 ·have hl':(65536:Int)<(l.length:Int):=by omega
  rw [An hl]
  go_enter func141,ntmps141
  go_wp2
  go_ret
  exact ⟨rfl,rfl⟩
 ·have hl':¬ (65536:Int)<(l.length:Int):=by omega
  rw [Ap hl]
  go_enter func141,ntmps141
  go_wp2
  go_ret
  exact ⟨by first | rfl | (refine Ad (fun q=>Ending.returned (Value.bool q)) ?_;simp;omega),rfl⟩
theorem QN {c l:UInt8} (h:kH (c.toNat:Int)=some l):gE c=[92,l]:=by
 have:∀n:Fin 256,∀l,kH ((UInt8.ofNat n.1).toNat:Int)=some l→gE (UInt8.ofNat n.1)=[92,l]:=by
  intro n l h;have:∀n:Fin 256,(kH ((UInt8.ofNat n.1).toNat:Int)).isSome=true→gE (UInt8.ofNat n.1)=[92,(kH ((UInt8.ofNat n.1).toNat:Int)).getD 0]:=by decide +kernel
  rw [this n (by rw [h];rfl),h];rfl
 have hc:=this ⟨c.toNat,c.toNat_lt⟩ l;rw [show UInt8.ofNat c.toNat=c from Dj] at hc
 exact hc h
theorem KU {x:Nat} (h:kH (x:Int)=none):x ≠ 34∧x ≠ 92∧x ≠ 8∧x ≠ 9∧x ≠ 10∧x ≠ 12∧x ≠ 13:=by
 refine ⟨?_,?_,?_,?_,?_,?_,?_⟩ <;> (intro e;subst e;revert h;decide)
theorem aDf (c:UInt8) {B g m:Nat} {l:Ub} (w:World) (h:rG B w g m l) (hL:eB w m) (hs:l.length+6≤1000000) (hB:B≤w.heap.size):Calls prog 188 #[.pointer (some ⟨g,0,none⟩),.int .u8 (c.toNat:Int)] w (aDx B g m (l++gE c) w):=by
 obtain ⟨ib,hib,hb0,hb1,hb2⟩:=info_parts qE;have hub:=underlying69;have hc256:c.toNat<256:=c.toNat_lt;have hlook:=hL.look (c:=(c.toNat:Int)) (by omega) (by omega)
 have W:=Hh h;obtain ⟨v,h1,h2,h3,h4⟩:=h;have c1:w.cell? ⟨g,1,none⟩=some (.map (some m)):=aL h1 rfl;cases hz:kH (c.toNat:Int) with
 | some q=>
  have he:=QN hz;rw [hz] at hlook;have P:=Hh (eY ((⟨#[92]⟩:Bt)++⟨#[q]⟩) w W.o (by rw [ByteArray.size_append];show l.length+(1+1)≤_;omega) hB)
  have hcat:¬9223372036854775807<1+1:=by omega
  rw [he,show [92,q]=((⟨#[92]⟩:Bt)++⟨#[q]⟩).data.toList by simp [ByteArray.data_append]]
  clear h1 h2 hib hz he hL
  go_enter func188,ntmps188
  go_wp2_with (go_at_call 160;(with_reducible refine (P.o).mono ?_);rintro e w1 ⟨rfl,hw1⟩)
  go_end0
  exact ⟨rfl,hw1⟩
 | none=>
  rw [hz] at hlook;obtain ⟨n34,n92,n8,n9,n10,n12,n13⟩:=KU hz;have c0:w.cell? ⟨g,0,none⟩=some v:=aL h1 rfl
  by_cases hx:c.toNat<32
  ·have hx':(c.toNat:Int)<32:=by omega
   have he:=aJt (c:=c) rfl hx n8 n9 n10 n12 n13;have P:=Hh (eY ⟨#[92,117,48,48]⟩ w W.o (by show l.length+4≤_;omega) hB)
   obtain ⟨x,hxx⟩:∃x,x=c.toNat:=⟨_,rfl⟩;rw [←hxx] at hx hx' he hlook hz ⊢;have hx0:(0:Int)≤(x:Int):=by omega
   have hcv:IntKind.i64.wrap (x:Int)=(x:Int):=Cd _ (by omega)
   obtain ⟨p,hp⟩:∃p,p=x / 16:=⟨_,rfl⟩;obtain ⟨q,hq⟩:∃q,q=x % 16:=⟨_,rfl⟩;have w1:IntKind.i64.wrap (p:Int)=(p:Int):=Cd _ (by omega)
   have w2:(x:Int).tmod 16=(q:Int):=by rw [Int.tmod_eq_emod_of_nonneg (by omega)];omega
   have w3:(x:Int) / 16=(p:Int):=by omega
   have hp2:(p:Int)<16:=by omega
   have hp0:(0:Int)≤(p:Int):=by omega
   have hq2:(q:Int)<16:=by omega
   have hq0:(0:Int)≤(q:Int):=by omega
   have hpn:p<16:=by omega
   have hqn:q<16:=by omega
   have g1:=TC p hpn;have g2:=TC q hqn;rw [←hp,←hq] at he;obtain ⟨u,hu⟩:∃u,u=mM (UInt8.ofNat p):=⟨_,rfl⟩;obtain ⟨y,hy⟩:∃y,y=mM (UInt8.ofNat q):=⟨_,rfl⟩;rw [←hu] at g1 he;rw [←hy] at g2 he;have HE:=Hh he;have HIB:=Hh hib;clear hu hy hp hq hz he hL hib h1 h2 hxx c0
   go_enter func188,ntmps188
   go_upto_region 5 with ((with_reducible refine (P.o).mono ?_);rintro e wp ⟨rfl,hst,hfr⟩)
   obtain ⟨v5,k1,k2,-,-⟩:=id hst;obtain ⟨ao,cap,rfl,-,-⟩:=dI k2;have hl4:(l++[92,117,48,48]).length=l.length+4:=by simp
   obtain ⟨l4,hl4e⟩:∃l4,l4=l++[92,117,48,48]:=⟨_,rfl⟩;have k2':wp.ownsRow B 5 1 (.slice ao l4.length cap) l4.length (aS l4):=by rw [hl4e];exact k2
   have k1':wp.heap[g]?=some (.cells #[.slice ao l4.length cap,.map (some m)] 168 (0,0)):=by rw [hl4e];exact k1
   have hl4n:l4.length=l.length+4:=by rw [hl4e];exact hl4
   have cc:wp.drew.cell? ⟨g,0,none⟩=some (.slice ao l4.length cap):=aL k1' rfl;have hBw:B≤wp.heap.size:=Ae hB hfr.1.size;have HE5:Hid (l4++[u,y]=l++gE c):=Hh (by rw [HE.o,hl4e];simp)
   have K1:=Hh k1';have K2:=Hh k2';have FR:=Hh hfr;have HL4N:=Hh hl4n;clear k1 k2 k1' k2' hl4 hl4e hl4n hst hfr c1 hlook;refine aJ (fun w'=>w'.cell? ⟨g,0,none⟩=some (.slice ao l4.length cap)) [4] (.take 0 (.take 1 (.take 2 (.take 3 (.take 4 (.take 5 (.take 6 (.take 7 (.take 8 (.take 9 (.take 10 (.take 11 (.take 12 (.ask 13 true (.ask 14 false (.ask 15 false (.ask 16 false (.ask 17 false .stop .stop) .stop) .stop) .stop) .stop)))))))))))))) (by kernel_rfl) (by kernel_rfl) (fun _ d _ _ _ h=>by cases d <;> exact h) cc ?_
   iterate 4 (refine aG _ ?_ rfl rfl ?_ (fun K hK=>?_);rotate_left;(intro w0;go_simp;(try rfl));(go_simp;refine hK _ ?_;clear hK K))
   refine aN _ ?_ rfl rfl (by decide) ?_ (fun K hK=>?_);rotate_left;(intro w0 hw0;go_simp;(try rfl));(go_simp;refine hK _ ?_;clear hK K)
   iterate 8 (refine aG _ ?_ rfl rfl ?_ (fun K hK=>?_);rotate_left;(intro w0;go_simp;(try rfl));(go_simp;refine hK _ ?_;clear hK K))
   have bd:Below wp.heap.size wp wp.drew:=(Br _ _).drew;have k1d:wp.drew.heap[g]?=_:=K1.o;have k2d:wp.drew.ownsRow B 5 1 _ l4.length (aS l4):=K2.o;have hzd:B≤wp.drew.heap.size:=hBw;generalize wp.drew=wd at bd k1d k2d hzd cc ⊢;have bA:=(Br wd.heap.size wd).alloc (o:=.cells #[.int .u8 (u.toNat:Int),.int .u8 (y.toNat:Int)] 5) (Lr _);have k1a:(wd.alloc (.cells #[.int .u8 (u.toNat:Int),.int .u8 (y.toNat:Int)] 5)).heap[g]?=_:=(bA.block g (Aa k1d)).trans k1d;have k2a:=k2d.alloc (.cells #[.int .u8 (u.toNat:Int),.int .u8 (y.toNat:Int)] 5);have CN:=Hh (gC wd #[.int .u8 (u.toNat:Int),.int .u8 (y.toNat:Int)] 5 [.int .u8 (u.toNat:Int),.int .u8 (y.toNat:Int)] rfl);have hza:B≤(wd.alloc (.cells #[.int .u8 (u.toNat:Int),.int .u8 (y.toNat:Int)] 5)).heap.size:=Ae hzd bA.size;have hca:(wd.alloc (.cells #[.int .u8 (u.toNat:Int),.int .u8 (y.toNat:Int)] 5)).cell? ⟨g,0,none⟩=some (.slice ao l4.length cap):=aL k1a rfl;have bAA:=bd.trans (bA.mono bd.size);clear k1d k2d bA cc bd;refine aI _ rfl trivial ?_
   go_wp2_with fail
   generalize wd.alloc (.cells #[.int .u8 (u.toNat:Int),.int .u8 (y.toNat:Int)] 5)=wa at k1a k2a CN hza hca bAA ⊢;refine Seg.mk ⟨hca,?_⟩;have ST:=Hh (fun (w8:World) (v':Value) (ho:w8.ownsRow B 5 1 v' (l4.length+2) (aS l4++[.int .u8 (u.toNat:Int),.int .u8 (y.toNat:Int)])) (hg:wa.grownBy w8 (Value.slice ao l4.length cap).ownBlock)=>xH (l':=l4++[u,y]) k1a k2a h3 h4 twb (by rw [Lg,cP];exact ho) hg)
   have K2A:=Hh k2a;have BAA:=Hh bAA;clear k1a k2a bAA;refine aF _ rfl trivial ?_
   go_wp2_with (refine Bk _ rfl (.tmp 28) (.tmp 37) 69 rfl B 5 ib (.int .u8 0) 1 1 hub HIB.o hb0 hb1 hb2 rfl (by decide) _ l4.length _ rfl K2A.o ⟨wd.heap.size,0,none⟩ 2 2 [.int .u8 (u.toNat:Int),.int .u8 (y.toNat:Int)] rfl rfl CN.o (by intro z hz;simp only [Bz,Ck,or_false] at hz;rcases hz with rfl | rfl <;> rfl) (by decide) (by have:=HL4N.o;unfold maxLen;omega) (by have:=HL4N.o;omega) hza _ rfl ?_;intro gg cc8 w8 hown hgr hat hlt2)
   obtain ⟨k8,st8,fr8⟩:=ST.o w8 _ hown hgr;have F:=Hh (Ai st8 fr8);have c8:w8.cell? ⟨g,0,none⟩=some _:=aL k8 rfl;have f8:w8.frozen? ⟨g,0,none⟩=false:=gM k8;clear st8 fr8 hown hgr hat hlt2 k8;refine Seg.mk ?_;refine aF _ rfl trivial ?_
   go_wp2_with fail
   refine Seg.mk ?_;refine aF _ rfl trivial ?_
   go_wp2_with fail
   refine Seg.mk ?_;refine cG _ rfl trivial ?_
   go_wp2
   go_end0
   refine ⟨rfl,?_,FR.o.trans ((WFr.of_below BAA.o (by omega)).trans F.o.2)⟩
   have:=F.o.1;rw [HE5.o] at this;exact this
  ·have hx':¬ (c.toNat:Int)<32:=by omega
   have he:=aJs (c:=c) rfl (by omega) n34 n92
   obtain ⟨ao,cap,rfl,-,-⟩:=dI h2;have bA:=(Br w.heap.size w).alloc (o:=.cells #[.int .u8 (c.toNat:Int)] 5) (Lr _);have k1a:(w.alloc (.cells #[.int .u8 (c.toNat:Int)] 5)).heap[g]?=_:=(bA.block g (Aa h1)).trans h1;have k2a:=h2.alloc (.cells #[.int .u8 (c.toNat:Int)] 5);have ST:=Hh (fun (w8:World) (v':Value) (ho:w8.ownsRow B 5 1 v' (l.length+1) (aS l++[.int .u8 (c.toNat:Int)])) (hg:(w.alloc (.cells #[.int .u8 (c.toNat:Int)] 5)).grownBy w8 (Value.slice ao l.length cap).ownBlock)=>xH (l':=l++[c]) k1a k2a h3 h4 twb (by rw [Lg,cP];exact ho) hg)
   have K2A:=Hh k2a;have BA:=Hh bA;have HE:=Hh he;have HIB:=Hh hib;have hza:B≤(w.alloc (.cells #[.int .u8 (c.toNat:Int)] 5)).heap.size:=Ae hB bA.size;have hgl:=W.o.lt;clear hz he hL hib h1 h2 k1a k2a bA
   go_enter func188,ntmps188
   go_wp2_with (refine Bk _ rfl (.tmp 45) (.tmp 47) 69 rfl B 5 ib (.int .u8 0) 1 1 hub HIB.o hb0 hb1 hb2 rfl (by decide) _ l.length _ rfl K2A.o ⟨w.heap.size,0,none⟩ 1 1 [.int .u8 (c.toNat:Int)] rfl rfl (gC w #[.int .u8 (c.toNat:Int)] 5 [.int .u8 (c.toNat:Int)] rfl) (by intro z hz;simp only [Bz,Ck,or_false] at hz;rcases hz with rfl;rfl) (by decide) (by unfold maxLen;omega) (by omega) hza _ rfl ?_;intro gg cc8 w8 hown hgr hat hlt2;obtain ⟨k8,st8,fr8⟩:=ST.o w8 _ hown hgr;(have F:=Hh (Ai st8 fr8));(have c8:w8.cell? ⟨g,0,none⟩=some _:=aL k8 rfl);(have f8:w8.frozen? ⟨g,0,none⟩=false:=gM k8);clear st8 fr8 hown hgr hat hlt2 k8)
   go_end0
   refine ⟨rfl,?_,(WFr.of_below BA.o (by omega)).trans F.o.2⟩
   rw [HE.o];exact F.o.1
theorem yP (s:Bt) {B g m:Nat} {l:Ub} (w:World) (h:rG B w g m l) (hL:eB w m) (hs:l.length+6 * s.size+2≤1000000) (hB:B≤w.heap.size):Calls prog 161 #[.pointer (some ⟨g,0,none⟩),.string s] w (aDx B g m (l++bH s.data.toList) w):=by
 have hsz:s.data.toList.length=s.size:=by rw [Ah];rfl
 have HSZ:=Hh hsz;have hss:s.size≤1000000:=by omega
 have P0:=Hh (eY ⟨#[34]⟩ w h (by show l.length+1≤_;omega) hB)
 have hml:=h.le;have HL:=Hh hL;have hlt0:=h.lt;clear h hsz hL
 go_enter func161,ntmps161
 go_upto_region 2 with ((with_reducible refine (P0.o).mono ?_);rintro e w1 ⟨rfl,hst,hfr⟩)
 go_loopw [9] (fun i wr=>∃j:Nat,i=Iz j∧j≤s.size∧rG B wr g m (l++34::(s.data.toList.take j).flatMap gE)∧WFr 5 g w wr) (fun i _=>s.size - (intOf i).toNat)
 case atStart=>exact ⟨0,rfl,Ax _,hst,hfr⟩
 case round=>
  clear hst hfr;obtain ⟨j,rfl,hj,hst,hfr⟩:=hrel;have hBr:B≤wr.heap.size:=Ae hB hfr.1.size;have HLr:=Hh (HL.o.same (hfr.1.block m hml))
  by_cases hlt:j<s.size
  ·have hlt':(j:Int)<(s.size:Int):=by omega
   have hj0:(0:Int)≤(j:Int):=by omega
   have hcj:s.data.toList[j]?=some s[j]:=by rw [Ac (by have:=HSZ.o;omega)];rfl
   have hlen:(l++34::(s.data.toList.take j).flatMap gE).length+6≤1000000:=by
    rw [Lg,Ag];have:=rA (s.data.toList.take j);rw [Ba] at this;omega
   have C:=Hh (fun c=>aDf c wr hst HLr.o hlen hBr)
   have HFR:=Hh hfr;clear hst hfr
   go_upto_region 4 with fail
   have HCJ:=Hh hcj;clear hcj
   go_wp2_with (go_at_call 188;(with_reducible refine (C.o _).mono ?_);rintro e w2 ⟨rfl,hst2,hfr2⟩)
   go_roundw
   case rel=>
    refine ⟨j+1,by go_num,by omega,?_,HFR.o.trans hfr2⟩
    have e:l++34::(s.data.toList.take (j+1)).flatMap gE=(l++34::(s.data.toList.take j).flatMap gE)++gE s[j]:=by
     rw [Bf,HCJ.o,List.flatMap_append];simp
    rw [e];exact hst2
   case measure=>simp [intOf];omega
  ·have hlt':¬ (j:Int)<(s.size:Int):=by omega
   rw [Ao (by have:=HSZ.o;omega)] at hst
   have P1:=Hh (eY ⟨#[34]⟩ wr hst (by
    show (l++34::s.data.toList.flatMap gE).length+1≤_
    rw [Lg,Ag];have:=rA s.data.toList;have:=HSZ.o;omega) hBr)
   have HFR:=Hh hfr;clear hst hfr
   go_wp2_with (go_at_call 160;(with_reducible refine (P1.o).mono ?_);rintro e w2 ⟨rfl,hst2,hfr2⟩)
   go_end0
   refine ⟨rfl,?_,HFR.o.trans hfr2⟩;have e:l++bH s.data.toList=(l++34::s.data.toList.flatMap gE)++[34]:=by unfold bH;simp
   rw [e];exact hst2
end Go.Proofs.YtncdpanfefnjlaaGreatDoor
namespace Go.Proofs.YtncdpanfefnjlaaGreatDoor
open Go.Proofs.Tryz
open Go.Shelf Go.RowKit Go.Lib
def aKo:Go.Shelf.Ren:=⟨fun | 129=>184 | 171=>99 | 243=>121 | 246=>137 | 283=>156 | 284=>157 | 285=>158 | 286=>159 | 317=>183 | 318=>185 | 319=>186 | 320=>187 | 337=>201 | 338=>202 | n=>n,fun | 0=>0 | 2=>2 | 3=>3 | 4=>4 | 5=>5 | 9=>9 | 20=>20 | 37=>69 | 46=>85 | 51=>106 | 53=>130 | 171=>200 | 173=>203 | 212=>236 | 213=>237 | 232=>109 | 233=>259 | n=>n,fun | 17=>8 | 18=>10 | 19=>11 | n=>n⟩
theorem aFv:Go.Proofs.LaysM.n171 prog aKo:={
 mixed:=by kernel_rfl
 f129:=Tryz.func184.trans (Ad some (by kernel_rfl))
 f171:=Tryz.func99.trans (Ad some (by kernel_rfl))
 f243:=Tryz.func121.trans (Ad some (by kernel_rfl))
 f246:=Tryz.func137.trans (Ad some (by kernel_rfl))
 f283:=Tryz.func156.trans (Ad some (by kernel_rfl))
 f284:=Tryz.func157.trans (Ad some (by kernel_rfl))
 f285:=Tryz.func158.trans (Ad some (by kernel_rfl))
 f286:=Tryz.func159.trans (Ad some (by kernel_rfl))
 f317:=Tryz.func183.trans (Ad some (by kernel_rfl))
 f318:=Tryz.func185.trans (Ad some (by kernel_rfl))
 f319:=Tryz.func186.trans (Ad some (by kernel_rfl))
 f320:=Tryz.func187.trans (Ad some (by kernel_rfl))
 f337:=Tryz.func201.trans (Ad some (by kernel_rfl))
 f338:=Tryz.func202.trans (Ad some (by kernel_rfl))
 t0:=underlying0
 a0:=isAgg0
 z0:=sizeOf0
 v0:=zeroValue0
 t2:=underlying2
 a2:=isAgg2
 z2:=sizeOf2
 v2:=zeroValue2
 t3:=underlying3
 a3:=isAgg3
 z3:=sizeOf3
 v3:=zeroValue3
 t4:=underlying4
 a4:=isAgg4
 z4:=sizeOf4
 v4:=zeroValue4
 t5:=underlying5
 a5:=isAgg5
 z5:=sizeOf5
 v5:=zeroValue5
 t9:=underlying9
 a9:=isAgg9
 z9:=sizeOf9
 v9:=zeroValue9
 t20:=underlying20
 a20:=isAgg20
 z20:=sizeOf20
 v20:=zeroValue20
 t37:=underlying69
 a37:=isAgg69
 z37:=sizeOf69
 v37:=zeroValue69
 t46:=underlying85
 a46:=isAgg85
 z46:=sizeOf85
 v46:=zeroValue85
 t51:=underlying106
 a51:=isAgg106
 z51:=sizeOf106
 v51:=zeroValue106
 t53:=underlying130
 a53:=isAgg130
 z53:=sizeOf130
 v53:=zeroValue130
 t171:=underlying200
 a171:=isAgg200
 z171:=sizeOf200
 v171:=zeroValue200
 t173:=underlying203
 a173:=isAgg203
 z173:=sizeOf203
 v173:=zeroValue203
 t212:=underlying236
 a212:=isAgg236
 z212:=sizeOf236
 v212:=zeroValue236
 t213:=underlying237
 a213:=isAgg237
 z213:=sizeOf237
 t232:=underlying109
 a232:=isAgg109
 z232:=sizeOf109
 v232:=zeroValue109
 t233:=underlying259
 a233:=isAgg259
 z233:=sizeOf259
 v233:=zeroValue259
 g17:=by kernel_rfl
 g18:=by kernel_rfl
 g19:=by kernel_rfl
 i0:=by kernel_rfl
 i2:=by kernel_rfl
 i3:=by kernel_rfl
 i4:=by kernel_rfl
 i5:=by kernel_rfl
 i9:=by kernel_rfl
 i20:=by kernel_rfl
 i37:=by kernel_rfl
 i46:=by kernel_rfl
 i51:=by kernel_rfl
 i53:=by kernel_rfl
 i171:=by kernel_rfl
 i173:=by kernel_rfl
 i212:=by kernel_rfl
 i232:=by kernel_rfl
 i233:=by kernel_rfl
 m17:=by kernel_rfl
 m18:=by kernel_rfl
 m19:=by kernel_rfl
}
def BG (w : World) : Prop := Lib.TabIs prog w "internal/strconv.uint64pow10" .u64 Lib.pow10Tab
theorem BG.below {w w':World} (h:BG w) (hb:Below w.heap.size w w'):BG w':=Lib.tabBelow_of_tabIs h w' hb
theorem aBv (n:Int) (h0:-9223372036854775808≤n) (h1:n≤9223372036854775807) (w:World) (hT:BG w):Calls prog 99 #[Iz n] w fun e w'=>e=.returned (.string ⟨(Lib.itoa n).toArray⟩)∧Below w.heap.size w w':=
 (Any.strconv_Itoa aFv n h0 h1 w hT).mono fun e w' ⟨h,k,os,hw⟩=>⟨h,by rw [hw];exact Lib.below_grow _ w (Lr _) k os⟩
end Go.Proofs.YtncdpanfefnjlaaGreatDoor
namespace Go.Proofs.YtncdpanfefnjlaaGreatDoor
open Go.Proofs.Tryz
open Go Go.ChangeShapes Go.WideShapes Go.ChangeAt Go.RowKit
theorem lJ {P:List (Ub)} {j:Nat} {p:Ub} (h:P[j]?=some p):dV (P.take (j+1))=dV (P.take j)++((if j=0 then [] else [44])++p):=by
 rw [Bf,h]
 show dV (P.take j++[p])=_
 by_cases hj:j=0
 ·subst hj;rfl
 ·have hne:P.take j ≠ []:=by
   intro e;have:=Ad List.length e;have hl:=dH h;rw [Ba] at this;simp only [Bs] at this;omega
  rw [CL _ _ hne,Af hj];rfl
theorem ER (P:List (Ub)):∀j,(dV (P.take j)).length≤(dV P).length:=by
 have key:∀k j,j+k=P.length→(dV (P.take j)).length≤(dV P).length:=by
  intro k
  induction k with
  | zero=>intro j hj;rw [Ao (by omega)];exact Lr _
  | succ k ih=>
   intro j hj;have hlt:j<P.length:=by omega
   have:=ih (j+1) (by omega)
   rw [lJ (Ac hlt),Lg] at this;omega
 intro j
 by_cases hj:j≤P.length
 ·exact key (P.length - j) j (by omega)
 ·rw [Ao (by omega)];exact Lr _
theorem TP (l:Ub):(⟨l.toArray⟩:Bt).size=l.length:=by show l.toArray.size=_;simp
theorem aHq {W:ND→Ub} {ns:List Bt} {its:List ND} {j:Nat} {s:Bt} {y:ND} (h1:ns[j]?=some s) (h2:its[j]?=some y):(List.zipWith (fun s y=>bH s.data.toList++58::W y) ns its)[j]?=some (bH s.data.toList++58::W y):=by
 rw [List.getElem?_zipWith,h1,h2]
theorem aCi (b:Bool) (w:World):Calls prog 98 #[.bool b] w fun e w'=>e=.returned (.string (if b then ⟨#[116,114,117,101]⟩ else ⟨#[102,97,108,115,101]⟩))∧w=w':=by
 cases b
 all_goals
  go_enter func98,ntmps98
  go_wp2
  go_ret
  exact ⟨rfl,rfl⟩
def bA (l:Ub):Bt:=⟨l.toArray⟩
theorem nI (l:Ub):(bA l).data.toList=l:=by simp [bA]
theorem jF (l:Ub):(bA l).size=l.length:=by simp [bA,ByteArray.size]
theorem aDs (s:Bt):bA s.data.toList=s:=by cases s;simp [bA]
theorem AN (l:Ub) (a b:Nat):(bA l).extract a b=bA ((l.drop a).take (b - a)):=by
 apply Cp
 apply Ce.1
 rw [ByteArray.data_extract,Array.toList_extract];simp [bA,List.extract]
theorem TR (l:Ub) (n:Nat):(bA l).extract 0 n=bA (l.take n):=by rw [AN];simp
theorem TQ (l:Ub) (n:Nat):(bA l).extract n (bA l).size=bA (l.drop n):=by
 rw [AN,jF,Ao (by simp)]
def jZ (ends:Ub) (r:Ub):Ub:=r.takeWhile fun b => !ends.contains b
def fO (ends:Ub) (r:Ub):Ub:=r.dropWhile fun b => !ends.contains b
theorem UP (ends r:Ub):jZ ends r++fO ends r=r:=List.takeWhile_append_dropWhile
theorem qF {ends:Ub} {p:UInt8→Bool} (hp:∀b,p b = !ends.contains b):∀ (r:Ub),(Lib.indexAny r ends=-1∧r.takeWhile p=r∧r.dropWhile p=[])∨∃k:Nat,Lib.indexAny r ends=k∧k<r.length∧r.takeWhile p=r.take k∧r.dropWhile p=r.drop k
 | []=>.inl ⟨rfl,rfl,rfl⟩
 | b::l=>by
  rw [Lib.indexAny];cases hb:ends.contains b with
  | true=>
   have h:p b=false:=by rw [hp,hb];rfl
   exact .inr ⟨0,by simp,by simp,by rw [List.takeWhile_cons,h];simp,by rw [List.dropWhile_cons,h];simp⟩
  | false=>
   have h:p b=true:=by rw [hp,hb];rfl
   rw [List.takeWhile_cons,List.dropWhile_cons,h];rcases qF hp l with ⟨h1,h2,h3⟩ | ⟨k,h1,h2,h3,h4⟩
   ·exact .inl ⟨by simp [h1],by simp [h2],by simp [h3]⟩
   ·right
    have:((k:Int) == -1)=false:=by simp
    refine ⟨k+1,?_,by simpa using h2,by simp [h3],by simp [h4]⟩
    rw [h1,this];simp
theorem FV (r ends:Ub):(Lib.indexAny r ends=-1∧jZ ends r=r∧fO ends r=[])∨∃k:Nat,Lib.indexAny r ends=k∧k<r.length∧jZ ends r=r.take k∧fO ends r=r.drop k:=qF (fun _=>rfl) r
theorem pB.keep {w w':World} {b:Nat} (h:pB w) (hg:w.grownBy w' (some b)) (h1:6 ≠ b) (h2:7 ≠ b):pB w':=by
 obtain ⟨⟨t,p,e1⟩,⟨t',p',e2⟩⟩:=h;refine ⟨⟨t,p,?_⟩,⟨t',p',?_⟩⟩
 ·have hl:6<w.heap.size:=cD e1
  rw [iR (hg.block 6 hl (by intro e;exact h1 (Ab e)))];exact e1
 ·have hl:7<w.heap.size:=cD e2
  rw [iR (hg.block 7 hl (by intro e;exact h2 (Ab e)))];exact e2
def PrS (w:World) (g mw mc:Nat) (r:Ub):Prop:=w.heap[g]?=some (.cells #[.string (bA r),.map (some mw),.map (some mc)] 177 (0,0))∧tA w mw∧tJ w mc∧(mw<g∧mc<g)∧pB w∧6<g∧7<g
theorem PrS.lt {w:World} {g mw mc:Nat} {r:Ub} (h:PrS w g mw mc r):g<w.heap.size:=Aa h.1
theorem PrS.below {w w':World} {g mw mc:Nat} {r:Ub} (h:PrS w g mw mc r) (hb:Below w.heap.size w w'):PrS w' g mw mc r:=by
 obtain ⟨h1,h2,h3,h4,h5,h6⟩:=h;exact ⟨(hb.block g (Aa h1)).trans h1,h2.same (hb.block _ h2.lt),h3.same (hb.block _ h3.lt),h4,h5.below hb,h6⟩
theorem PrS.kept {w w':World} {g mw mc b:Nat} {r:Ub} (h:PrS w g mw mc r) (hg:w.grownBy w' (some b)) (hb:g<b):PrS w' g mw mc r:=by
 obtain ⟨h1,h2,h3,⟨h4,h5⟩,h6,h7,h8⟩:=h;exact ⟨cM hg (by omega) h1,h2.same (hg.block _ h2.lt (by intro e;have:=Ab e;omega)),h3.same (hg.block _ h3.lt (by intro e;have:=Ab e;omega)),⟨h4,h5⟩,h6.keep hg (by omega) (by omega),h7,h8⟩
theorem PrS.set {w:World} {g mw mc:Nat} {r:Ub} (h:PrS w g mw mc r) (r':Ub):PrS (w.setCell ⟨g,0,none⟩ (.string (bA r'))) g mw mc r'∧w.grownBy (w.setCell ⟨g,0,none⟩ (.string (bA r'))) (some g):=by
 obtain ⟨h1,h2,h3,⟨h4,h5⟩,h6,h7,h8⟩:=h;have k:=dQ h1 (j:=0) (.string (bA r'));have hg:=aR w g 0 (.string (bA r'));refine ⟨⟨by simpa using k,h2.same (heap_setCell_other w ⟨g,0,none⟩ _ _ (by show mw ≠ g;omega)),h3.same (heap_setCell_other w ⟨g,0,none⟩ _ _ (by show mc ≠ g;omega)),⟨h4,h5⟩,h6.keep hg (by omega) (by omega),h7,h8⟩,hg⟩
def eT (g mw mc:Nat) (w:World) (v:Value) (r':Ub) (e:Ending) (w':World):Prop:=e=.returned v∧PrS w' g mw mc r'∧w.grownBy w' (some g)
theorem dK (p:Bt) {g mw mc:Nat} {r:Ub} (w:World) (h:PrS w g mw mc r):Calls prog 163 #[.pointer (some ⟨g,0,none⟩),.string p] w (eT g mw mc w (.bool (Lib.hasPrefix r p.data.toList)) (Lib.trimPrefix r p.data.toList)):=by
 have c0:w.cell? ⟨g,0,none⟩=some (.string (bA r)):=aL h.1 rfl;have f0:w.frozen? ⟨g,0,none⟩=false:=gM h.1;have hc:=aDc (bA r) p w;rw [nI] at hc;have ST:=Hh (h.set (Lib.trimPrefix r p.data.toList));have C:Hid (Calls prog 189 #[.string (bA r),.string p] w fun e w'=>e=.returned (.tuple #[.string (bA (Lib.trimPrefix r p.data.toList)),.bool (Lib.hasPrefix r p.data.toList)])∧w=w'):=hc
 clear hc h;generalize Lib.trimPrefix r p.data.toList=r' at C ST ⊢;generalize Lib.hasPrefix r p.data.toList=b at C ⊢
 go_enter func163,ntmps163
 go_wp2_with (go_at_call 189;(with_reducible refine (C.o).mono ?_);rintro e w1 ⟨rfl,rfl⟩)
 go_ret
 exact ⟨rfl,ST.o.1,ST.o.2⟩
theorem tQ (n:Nat) {g mw mc:Nat} {r:Ub} (w:World) (h:PrS w g mw mc r) (hn:n≤1000000) (hr:r.length≤1000000):Calls prog 205 #[.pointer (some ⟨g,0,none⟩),Iz (n:Int)] w (eT g mw mc w (.string (bA (r.take n))) (r.drop n)):=by
 have c0:w.cell? ⟨g,0,none⟩=some (.string (bA r)):=aL h.1 rfl;have f0:w.frozen? ⟨g,0,none⟩=false:=gM h.1;have hz:=jF r
 by_cases q:n≤r.length
 ·have q1:(n:Int)≤((bA r).size:Int):=by omega
  have q0:(0:Int)≤(n:Int):=by omega
  have qm:min (n:Int) ((bA r).size:Int)=(n:Int):=by omega
  have k1:=TR r n;have k2:=TQ r n;have ST:=Hh (h.set (r.drop n));clear hz q h
  go_enter func205,ntmps205
  go_wp2
  go_ret
  exact ⟨rfl,ST.o.1,ST.o.2⟩
 ·obtain ⟨m,hm⟩:∃m,m=(bA r).size:=⟨_,rfl⟩
  have e1:r.take n=r.take m:=by rw [hm,hz,Ao (by omega),Ao (Lr _)]
  have e2:r.drop n=r.drop m:=by rw [hm,hz,List.drop_eq_nil_of_le (by omega),List.drop_eq_nil_of_le (Lr _)]
  have k1:=TR r m;have k2:=TQ r m;rw [←hm] at k2;have ST:=Hh (h.set (r.drop m));have qm:min (n:Int) (m:Int)=(m:Int):=by omega
  have qn:(bA r).size=m:=hm.symm;have q0:(0:Int)≤(m:Int):=by omega
  have k3:bA (r.drop m)=ByteArray.empty:=by rw [hm,hz,List.drop_eq_nil_of_le (Lr _)];rfl
  rw [k3] at ST;rw [e1,e2];clear hz q h e1 e2 hm
  go_enter func205,ntmps205
  go_wp2
  go_ret
  exact ⟨rfl,ST.o.1,ST.o.2⟩
theorem BZ (ends:Bt) {g mw mc:Nat} {r:Ub} (w:World) (h:PrS w g mw mc r) (h2:2≤ends.size) (hc8:ends.size≤100) (hr:r.length≤1000000) (hA:∀ (j:Nat) b,ends.data.toList[j]?=some b→b.toNat<128):Calls prog 191 #[.pointer (some ⟨g,0,none⟩),.string ends] w (eT g mw mc w (.string (bA (jZ ends.data.toList r))) (fO ends.data.toList r)):=by
 have c0:w.cell? ⟨g,0,none⟩=some (.string (bA r)):=aL h.1 rfl;have hz:=jF r;have X:=PY (bA r) ends w h2 hc8 (by omega) hA
 rw [nI] at X;have HP:=Hh h;have T:=Hh (fun (n:Nat) (wx:World) (hx:PrS wx g mw mc r) (hn:n≤r.length)=>tQ n wx hx (by omega) hr)
 rcases FV r ends.data.toList with ⟨i1,i2,i3⟩ | ⟨k,i1,i2,i3,i4⟩
 ·rw [i1] at X
  have XX:=Hh X;rw [i2,i3];have T2:=Hh (fun wx hx=>T.o r.length wx hx (Lr _))
  rw [Ao (Lr _),List.drop_eq_nil_of_le (Lr _)] at T2;have hlt:=h.lt;clear X i1 i2 i3 h hA h2 hc8 T
  go_enter func191,ntmps191
  go_upto_region 2 with ((with_reducible refine (XX.o).mono ?_);rintro e w1 ⟨rfl,hb1⟩)
  have h1:=HP.o.below hb1;have c1:w1.cell? ⟨g,0,none⟩=some (.string (bA r)):=aL h1.1 rfl;have T3:=Hh (T2.o w1 h1);clear c0 h1 T2
  go_wp2_with (go_at_call 205;(with_reducible refine (T3.o).mono ?_);rintro e w2 ⟨rfl,hp,hg⟩)
  go_ret
  exact ⟨rfl,hp,aH (aK hb1 (Lr _) _) hg⟩
 ·rw [i1] at X
  have XX:=Hh X;rw [i3,i4];have T2:=Hh (fun wx hx=>T.o k wx hx (Bo i2))
  have k0:¬ (k:Int)<0:=by omega
  clear X i1 i2 i3 i4 h hA h2 hc8 T
  go_enter func191,ntmps191
  go_upto_region 2 with ((with_reducible refine (XX.o).mono ?_);rintro e w1 ⟨rfl,hb1⟩)
  have h1:=HP.o.below hb1;have T3:=Hh (T2.o w1 h1);clear c0 h1 T2
  go_wp2_with (go_at_call 205;(with_reducible refine (T3.o).mono ?_);rintro e w2 ⟨rfl,hp,hg⟩)
  go_ret
  exact ⟨rfl,hp,aH (aK hb1 (Lr _) _) hg⟩
end Go.Proofs.YtncdpanfefnjlaaGreatDoor