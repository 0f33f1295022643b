import Derived.Test.YtncdpanfefnjlaaGreatDoorCpn
import Derived.Test.YtncdpanfefnjlaaGreatDoorCwn
import Derived.Test.YtncdpanfefnjlaaGreatDoorJdec
import Derived.Test.YtncdpanfefnjlaaGreatDoorVtx
set_option linter.unusedVariables false
set_option linter.unusedSimpArgs false
set_option maxHeartbeats 6400000
set_option maxRecDepth 100000
namespace Go.Proofs.YtncdpanfefnjlaaGreatDoor
open Go.Proofs.Tryz
open Go Go.ChangeShapes Go.WideShapes Go.ChangeAt Go.RowKit
theorem OF {D:Nat} {S:Nat→Prop} (cs:Vl) (x:ND) (w:World) (h:aD D S w cs x) (H:∀b,S b→b<w.heap.size) (hl:iM D x) (hw:aC 8 x=true→aP 8 x=true) (hT:jR w):Calls prog 129 #[.agg cs.toArray] w (OR x w):=by
 obtain ⟨O,Z,c1,a2,N,c2,rfl⟩:=h.slices;have A:=(Br w.heap.size w).alloc (o:=.cells #[Iz x.kind,.bool x.bool,Iz x.num,.string x.text,.slice O Z c1,.slice a2 N c2] 28) (Lr _);have n:=Hn w (.cells #[Iz x.kind,.bool x.bool,Iz x.num,.string x.text,.slice O Z c1,.slice a2 N c2] 28);obtain ⟨w1,l⟩:∃W,W=w.alloc (.cells #[Iz x.kind,.bool x.bool,Iz x.num,.string x.text,.slice O Z c1,.slice a2 N c2] 28):=⟨_,rfl⟩;rw [←l] at A n;have ck:=aA n;have V:=Hh (lG _ x w1 (h.same fun b y=>A.block b (H b y)) (fun b y=>Ll (H b y) A.size) hl (hT.below A))
 have J:=Hh A;have L:=Hh n;have HN:=Hh h;have HS:=Hh H;have HW:=Hh hw;clear h H hl hw hT A n;cases hv:aC 8 x with
 | false=>
  rw [hv] at V;obtain ⟨m,t⟩:=yJ hv;have s:=Hh (Ai m t);clear hv m t
  go_enter func129,ntmps129
  go_upto_region 1 with fail
  rw [←l];clear l
  go_wp2_with (go_at_call 23;(with_reducible refine (V.o).mono ?_);rintro e r ⟨rfl,i⟩)
  go_ret2
  exact ⟨by rw [s.o.1,s.o.2];rfl,J.o.trans (i.mono J.o.size)⟩
 | true=>
  rw [hv] at V;have C:=HW.o hv;have M:=Hh hv;have X:=Hh C;clear hv C
  go_enter func129,ntmps129
  go_upto_region 1 with fail
  rw [←l];clear l
  go_upto_region 4 with ((with_reducible refine (V.o).mono ?_);rintro e r ⟨rfl,i⟩)
  have I:=(Br r.heap.size r).alloc (o:=.cells #[Sn] 180) (Lr _);have v:=WSc.fresh (TW:=180) (TB:=5) r;have p:=J.o.trans (i.mono J.o.size);have q:=p.trans (I.mono p.size);have F:(r.alloc (.cells #[Sn] 180)).heap.size=r.heap.size+1:=by simp
  have z:=(I.block _ (Ll (Aa L.o) i.size)).trans ((i.block _ (Aa L.o)).trans L.o);generalize r.alloc (.cells #[Sn] 180)=w3 at I v q F z ⊢;obtain ⟨g,G⟩:∃g,g=r.heap.size:=⟨_,rfl⟩;have E:w.heap.size≤g:=by rw [G];exact p.size
  have xc:=aA z;have WN:=Hh (DQ 8 D S _ x w3 (g+1) g [] (by rw [G];exact v) (by omega) (Av _) (HN.o.same fun b y=>q.block b (HS.o b y)) (fun b y=>Ll (HS.o b y) E) M.o X.o)
  rw [←G];have T:=Hh q;clear I v F z G p q i ck
  go_upto_region 5 with ((with_reducible refine (WN.o).mono ?_);rintro e U ⟨rfl,R,k,a,Y,j⟩)
  have K:=Hh (OE U k);have u:=T.o.trans (j.1.mono E);have B:=Hh u;have xa:=Hh a
  by_cases c:65536<R.length
  ·obtain ⟨m,t⟩:=tV M.o (by have:=a.over c;simpa using this)
   have s:=Hh (Ai m t);rw [Ap c] at K;clear k j m t u a c
   go_wp2_with (go_at_call 146;(with_reducible refine (K.o).mono ?_);rintro e w6 ⟨rfl,d⟩;(replace d:=d.symm);subst d)
   go_ret2
   exact ⟨by rw [s.o.1,s.o.2];rfl,B.o⟩
  ·have f:=a.fits c
   rw [Ds] at f;obtain ⟨m,t⟩:=pP M.o (by rw [←f];exact c)
   rw [←f] at m;have s:=Hh (Ai m t);rw [Ar c] at K;obtain ⟨v5,k1,Q,-⟩:=k;have c5:U.cell? ⟨g,0,none⟩=some v5:=aL k1 rfl;obtain ⟨ao,xd,rfl,-,-⟩:=dM Q;have xb:=eA (P:=prog) U 69 9 5 (g+1) R.length _ R Q underlying69 underlying5 underlying9;clear k1 Q j m t f u a c
   go_wp2_with (go_at_call 146;(with_reducible refine (K.o).mono ?_);rintro e w6 ⟨rfl,d⟩;(replace d:=d.symm);subst d)
   go_ret2
   exact ⟨by rw [s.o.1,s.o.2];rfl,B.o⟩
theorem nW {s:Bt} {w b:World} (c:Below w.heap.size w b) (d:sF s nd0 4) :
 OT s w (.returned (.tuple #[.agg Z6,Iz 4])) (dJ b w.heap.size (Iz 0) (.bool false) (Iz 0) (.string ⟨#[]⟩) (Sn) (Sn)):=by
 have a:=aO b w.heap.size (Iz 0) (.bool false) (Iz 0) (.string ⟨#[]⟩) (Sn) (Sn);exact ⟨Y6,nd0,4,rfl,(cJ _ _ 0 false 0 ⟨#[]⟩ (by decide)).deeper (by decide),c.grown a c.size (fun k e=>by cases e;exact Lr _),d⟩
theorem aEw (s:Bt) (w:World) (hT:jR w):Calls prog 130 #[.string s] w (OT s w):=by
 have b0:=(Br w.heap.size w).alloc (o:=.cells Z6 28) (Lr _);have i:=Hn w (.cells Z6 28);have xz:w.heap.size<(w.alloc (.cells Z6 28)).heap.size:=by simp
 by_cases hl:65536<s.size
 ·have xy:(65536:Int)<(s.size:Int):=by omega
  have L:Hid (sF s nd0 4):=Hh (.inr ⟨rfl,rfl,fun y _ _ h=>absurd h (by omega)⟩)
  have X:=Hh b0;have HR:=Hh i;have f1:=aE i;have c1:=aA i;clear hl b0 i
  go_enter func130,ntmps130
  go_upto_region 1 with fail
  generalize w.alloc (.cells Z6 28)=I at X HR f1 c1 ⊢
  go_wp2
  refine aT (v:=Iz 4) HR.o results130 rfl rfl rfl ?_;exact nW X.o L.o
 ·have xy:¬ (65536:Int)<(s.size:Int):=by omega
  have xf:s.data.toList.length=s.size:=by rw [Ah];rfl
  have HT:=Hh hT;have HL:=Hh hl;clear hT hl
  go_enter func130,ntmps130
  go_upto_region 1 with fail
  obtain ⟨I,R⟩:∃W,W=w.alloc (.cells Z6 28):=⟨_,rfl⟩;rw [←R] at b0 i xz;rw [←R];clear R;have HR:=Hh i;have X:=Hh b0;have WD:=Hh (fun wx=>PY wx)
  clear i b0
  go_upto_region 4 with ((with_reducible refine (WD.o _).mono ?_);rintro e2 r ⟨rfl,F,f⟩)
  have p:=(Br r.heap.size r).alloc (o:=.cells #[.string s,.map (some I.heap.size)] 186) (Lr _);have Y:=Hn r (.cells #[.string s,.map (some I.heap.size)] 186);obtain ⟨w3,Q⟩:∃W,W=r.alloc (.cells #[.string s,.map (some I.heap.size)] 186):=⟨_,rfl⟩;rw [←Q] at p Y;rw [←Q];clear Q;have xm:PrC w3 r.heap.size I.heap.size s.data.toList:=⟨by rw [pS];exact Y,F.same (p.block _ F.lt),F.lt⟩
  have xg:=X.o.trans ((f.trans (p.mono f.size)).mono X.o.size);have xj:w.heap.size≤r.heap.size:=Af X.o.size f.size;have x6:I.heap.size≤w3.heap.size:=Af f.size p.size;have xh:=((f.trans (p.mono f.size)).block _ (Aa HR.o)).trans HR.o;have O:Hid (Calls prog 148 #[.pointer (some ⟨r.heap.size,0,none⟩),Iz 8] w3 (JU (CIr 8 s.data.toList) 8 r.heap.size I.heap.size s.data.toList w3)):=Hh (BV 8 (by decide) r.heap.size I.heap.size s.data.toList w3 xm (by have:=HL.o;omega))
  have D:=Hh xg;have xc:=Hh xh;have xo:w.heap.size ≠ r.heap.size:=by have:=f.size;omega
  generalize xx:r.heap.size=gx at O xj xo ⊢;clear xx xm F f p Y xg xh WD X HR
  go_upto_region 5 with ((with_reducible refine (O.out).mono ?_);rintro e5 J ⟨cs,x,ok,r',rfl,j,xw,xa,xv,xq,U,xk⟩;go_loud ((obtain ⟨a1,l1,c1,a2,l2,c2,xt⟩:=j.slices);subst xt))
  have xp:s.size≤65536→∀y,aC 8 y=true→aP 8 y=true→aU 8 y=s.data.toList→ok=true∧x=y:=fun _ y h1 h2 h3=>by
   have:=xk y [] ⟨h1,h2,by rw [By,h3]⟩
   exact ⟨this.1,this.2.1⟩
  have S:Below w.heap.size w J:=D.o.grown xa D.o.size (fun k hk=>by cases hk;exact xj)
  have B:=cP xa xo xc.o;have b6:=(Br J.heap.size J).alloc (o:=.cells #[Iz x.kind,.bool x.bool,Iz x.num,.string x.text,.slice a1 l1 c1,.slice a2 l2 c2] 28) (Lr _);have E:=Hn J (.cells #[Iz x.kind,.bool x.bool,Iz x.num,.string x.text,.slice a1 l1 c1,.slice a2 l2 c2] 28);have l:=j.same fun b V=>b6.block b V.2
  have C:=S.trans (b6.mono S.size);have N:=(b6.block _ (Aa B)).trans B;have A:J.heap.size<(J.alloc (.cells #[Iz x.kind,.bool x.bool,Iz x.num,.string x.text,.slice a1 l1 c1,.slice a2 l2 c2] 28)).heap.size:=by simp
  have x7:w.heap.size ≠ J.heap.size:=by have:=Aa B;omega
  obtain ⟨w6,Z⟩:∃W,W=J.alloc (.cells #[Iz x.kind,.bool x.bool,Iz x.num,.string x.text,.slice a1 l1 c1,.slice a2 l2 c2] 28):=⟨_,rfl⟩;rw [←Z] at b6 E l C N A;rw [←Z];have xu:w.heap.size≤w3.heap.size:=D.o.size;have xl:=Hh xp;have xb:=Hh C;have x5:=Hh l;have z:=Hh N;have xe:=Hh (Ai A xu);have g:aP 8 x=true:=xH (by decide) U.2
  have t:iM 9 x:=U.1;have EN:=Hh (OF _ x w6 l (fun b V=>Cm V.2 A) t (fun _=>g) (HT.o.below C))
  have xs:=Hh g;clear Z xp xk S B b6 l C N A j xw xa U xv xq D xc O g t HT;cases ok with
  | false=>
   have L:Hid (sF s nd0 4):=Hh (.inr ⟨rfl,rfl,fun y h1 h2 h3 h4=>by have:=(xl.o h3 y h1 h2 h4).1;cases this⟩)
   have f1:=aE z.o;have P:=aA z.o
   go_wp2
   refine aT (v:=Iz 4) z.o results130 rfl rfl rfl ?_;exact nW xb.o L.o
  | true=>
   have cn:=aA E;have u:=Hh E;clear E
   go_upto_region 8 with ((with_reducible refine (EN.o).mono ?_);rintro e7 w7 ⟨rfl,n⟩)
   have xi:=xb.o.trans (n.mono xb.o.size);have xn:=(n.block _ (Aa z.o)).trans z.o;have xd:=(n.block _ (Aa u.o)).trans u.o;have M:=x5.o.same fun b V=>n.block b (Cm V.2 xe.o.1)
   have G:=Hh xi;have d:=Hh xn;have K:=Hh (Ai M n.size);clear xi xn M n EN u cn
   by_cases a:csE x ≠ 0∨csS x ≠ s
   ·have L:Hid (sF s nd0 4):=Hh (.inr ⟨rfl,rfl,fun y h1 h2 h3 h4=>by
     obtain ⟨-,rfl⟩:=xl.o h3 y h1 h2 h4;have m:¬65536<(aU 8 x).length:=by rw [h4,xf];omega
     obtain ⟨g1,g2⟩:=pP h1 m;rcases a with h | h
     ·exact h g2
     ·apply h;rw [g1,h4,pS]⟩)
    clear xd
    by_cases c:csE x=0
    ·have H:csS x ≠ s:=a.resolve_left (fun h=>h c)
     have x9:((csS x).toList == s.toList)=false:=by
      rw [Cj,Cj];exact Bm.2 fun h=>H (by rw [←pS (csS x),h,pS])
     have xr:(csE x != 0)=false:=by simpa using c
     clear a;rw [c];have f1:=aE d.o;have P:=aA d.o
     go_wp2
     refine aT (v:=Iz 4) d.o results130 rfl rfl rfl ?_;exact nW G.o L.o
    ·have xr:(csE x != 0)=true:=by simpa using c
     clear a;have f1:=aE d.o;have P:=aA d.o
     go_wp2
     refine aT (v:=Iz 4) d.o results130 rfl rfl rfl ?_;exact nW G.o L.o
   ·have c:csE x=0:=Dv fun h=>a (.inl h)
    have H:csS x=s:=Dv fun h=>a (.inr h)
    have L:Hid (sF s x 0):=Hh (by
     have hv:aC 8 x=true:=by
      cases q:aC 8 x with
      | true=>rfl
      | false=>rw [(yJ q).2] at c;cases c
     have m:¬65536<(aU 8 x).length:=fun q=>by rw [(tV hv q).2] at c;cases c
     have hw:aU 8 x=s.data.toList:=by rw [←H,(pP hv m).1,gR]
     exact .inl ⟨rfl,hv,xs.o,hw,by rw [hw,xf] at m;omega⟩)
    clear a;rw [c,H];have f1:=aE d.o;have P:=aA d.o;have cn:=aA xd
    go_wp2
    refine aT (v:=Iz 0) d.o results130 rfl rfl rfl ?_;have T:=aO w7 w.heap.size (Iz x.kind) (.bool x.bool) (Iz x.num) (.string x.text) (.slice a1 l1 c1) (.slice a2 l2 c2);refine ⟨[Iz x.kind,.bool x.bool,Iz x.num,.string x.text,.slice a1 l1 c1,.slice a2 l2 c2],x,0,rfl,?_,G.o.grown T G.o.size (fun k hk=>by cases hk;exact Lr _),L.o⟩
    have hz:=xe.o;have x8:=K.o.2;have hr:=Aa d.o;exact (K.o.1.same fun b V=>T.block b (by omega) (by intro e;have:=Ab e;omega)).mono fun b V=>⟨by omega,Ll (by omega) T.size⟩
end Go.Proofs.YtncdpanfefnjlaaGreatDoor
namespace Go.Proofs.YtncdpanfefnjlaaGreatDoor
open Go.Proofs.Tryz
open Go.Lib
theorem zL:∀l:List (Ub),(dK l).length≤(l.map fun a=>a.length+1).sum
 | []=>Av _
 | [a]=>by simp [dK]
 | a::b::t=>by
  have:=zL (b::t)
  show (a++44::dK (b::t)).length≤_
  rw [Lg,Ag,Bq,Cy];omega
theorem TT {W:ND→Ub} {c:ND→Nat}:∀ (ns:List Bt) (its:List ND),(∀y,y ∈ its→(W y).length≤c y)→((List.zipWith (fun s y=>bE s.data.toList++58::W y) ns its).map fun a=>a.length+1).sum≤(ns.map fun s=>6 * s.size+8).sum+(its.map fun y=>c y+1).sum
 | [],_,_=>by simp
 | _::_,[],_=>by simp
 | s::ss,y::ys,h=>by
  have d:=TT ss ys (fun z b=>h z (by simp [b]))
  have e:=nL s.data.toList;have g:s.data.toList.length=s.size:=by rw [Ah];rfl
  have f:=h y (by simp)
  rw [Bh,Bq,Cy,Bq,Cy,Bq,Cy,Lg,Ag];omega
theorem UQ {W:ND→Ub} {c:ND→Nat}:∀ (its:List ND),(∀y,y ∈ its→(W y).length≤c y)→((its.map W).map fun a=>a.length+1).sum≤(its.map fun y=>c y+1).sum
 | [],_=>Lr _
 | y::ys,h=>by
  have e:=UQ ys (fun z b=>h z (by simp [b]))
  have d:=h y (by simp)
  rw [Bq,Bq,Cy,Bq,Cy];omega
theorem oM:∀ (d:Nat) (x:ND),aC d x=true→aP d x=true→(aR d x).length≤bK d x
 | 0,_,h,_=>by cases h
 | d+1,x,h,hn=>by
  obtain ⟨m,p,n,l⟩:=aX h;obtain ⟨a,b⟩:=cG hn;have f:∀y,y ∈ x.items→(aR d y).length≤bK d y:=fun y i=>oM d y (m y i) (b y i)
  have o:x.text.data.toList.length=x.text.size:=by rw [Ah];rfl
  rw [fR];rcases iF h with e | e | e | e | e | ⟨e,g⟩
  ·rw [e];exact (show 4≤24 by decide)
  ·rw [e]
   cases x.bool
   ·exact (show 5≤24 by decide)
   ·exact (show 4≤24 by decide)
  ·rw [e]
   show (itoa x.num).length≤24+0+0+0
   unfold dD at a;rw [An,As,As] at a;have:=itoa_length_le x.num a.1 a.2;omega
  ·rw [e]
   show (bE x.text.data.toList).length≤24+6 * x.text.size+0+0
   have:=nL x.text.data.toList;omega
  ·rw [e,sI]
   have j:=zL (x.items.map (aR d));have k:=UQ x.items f;rw [Ag,Lg,Dx]
   show _≤24+0+0+(x.items.map fun y=>bK d y+1).sum
   omega
  ·rw [e,sH]
   have j:=zL (List.zipWith (fun s y=>bE s.data.toList++58::aR d y) x.names x.items)
   have k:=TT (W:=aR d) (c:=bK d) x.names x.items f;rw [Ag,Lg,Dx]
   show _≤24+0+(x.names.map fun s=>6 * s.size+8).sum+(x.items.map fun y=>bK d y+1).sum
   omega
theorem IF {d:Nat} {x:ND} (b:1≤d) (h:cO (d - 1) x) (a:∀y,y ∈ x.items→eS (d - 1) y=true):eS d x=true:=by
 obtain ⟨m,rfl⟩:∃m,d=m+1:=⟨d - 1,by omega⟩
 exact uR ((cK h.kind).2 h) (by rw [h.num];decide) a
end Go.Proofs.YtncdpanfefnjlaaGreatDoor
namespace Go.Proofs.YtncdpanfefnjlaaGreatDoor
open Go.Proofs.Tryz
open Go Go.RowKit Go.Shelf Go.Lib
theorem own:ownKnob Tryz.prog.godebug=none:=by kernel_rfl
theorem laidOut:laidOutB prog=true:=by kernel_rfl
theorem IG:(Rows.laid_unicode_utf8_acceptRanges:DataW Unit)=acceptData:=by kernel_rfl
theorem MT:Rows.laid_unicode_utf8_first=firstData:=by kernel_rfl
theorem YU:(Rows.laid_internal_strconv_uint64pow10:DataW Unit)=tabData .u64 Lib.pow10Tab:=by kernel_rfl
theorem aDk {w : World} {r : List (String × DataW Unit)} (h : laidMet prog (("internal/strconv.uint64pow10", Rows.laid_internal_strconv_uint64pow10) :: r) w) : xX w := by
 rw [YU] at h;exact tabIs_of_head (g:=8) (t:=236) (e:=130) (n:=20) (by kernel_rfl) (by kernel_rfl) underlying236 underlying130 (by kernel_rfl) (by kernel_rfl) h
theorem LA : "*" ++ "errors.errorString" = "*errors.errorString" := by decide
theorem UJ : ∀ u, Tryz.prog.typeName? 3 u = some "*errors.errorString" → u = 253 := fun u h =>
 typeName_ptr_named (nm := "errors.errorString") (by rw [LA]; kernel_rfl) (by kernel_rfl) (by decide) u (by rw [LA]; exact h)
end Go.Proofs.YtncdpanfefnjlaaGreatDoor
namespace Go.Proofs.YtncdpanfefnjlaaGreatDoor
open Go.Proofs.Tryz
open Go Go.ChangeShapes Go.WideShapes Go.ChangeAt Go.RowKit
def foS (k:Int) (x:ND):Bt:=if k=1 then jsS x else if k=2 then csS x else if k=3 then mpS x else ⟨#[]⟩
def foE (k:Int) (x:ND):Int:=if k=1 then jsE x else if k=2 then csE x else if k=3 then mpE x else 2
def xY (k:Int) (s:Bt) (x:ND) (a:Int):Prop:=(k=1∧CW s x a)∨(k=2∧sF s x a)∨(k=3∧sE s x a)∨((k<1∨3<k)∧x=nd0∧a=2)
structure uL (w:World):Prop where
 u:jR w
 i:xX w
 e:pY w
 s:Scl w
theorem uL.below {w w':World} (h:uL w) (a:Below w.heap.size w w'):uL w':=⟨h.u.below a,h.i.below a,h.e.below a,h.s.to a⟩
theorem uL.p {w:World} (h:uL w):aAj w:=⟨h.u,h.s⟩
theorem tS (k:Int):k=1∨k=2∨k=3∨(k<1∨3<k):=by omega
theorem tT {k:Int} (x:ND) (h:k<1∨3<k):foS k x=⟨#[]⟩∧foE k x=2:=by
 unfold foS foE;exact ⟨by rw [Ae (by omega),Ae (by omega),Ae (by omega)],by rw [Ae (by omega),Ae (by omega),Ae (by omega)]⟩
theorem vP {D:Nat} {S:Nat→Prop} (k:Int) (d:Vl) (x:ND) (w:World) (h:aD D S w d x) (n:∀b,S b→b<w.heap.size) (m:iM D x) (l:aC 8 x=true→aP 8 x=true) (f:uL w):Calls prog 45 #[Iz k,.agg d.toArray] w (xZ (foS k x) (foE k x) w):=by
 have j:∀a,Below w.heap.size w a→aD D S a d x:=fun a c=>h.same fun b q=>c.block b (n b q)
 have e:∀a,Below w.heap.size w a→∀b,S b→b<a.heap.size:=fun a c b q=>Ll (n b q) c.size
 rcases tS k with rfl | rfl | rfl | g
 ·exact BK 1 _ _ _ d x w _ _ h (.inl rfl) ⟨rfl,rfl⟩ fun a c=>MU d x a (j a c) (e a c) m l (f.below c).u (f.below c).i
 ·exact BK 2 _ _ _ d x w _ _ h (.inr (.inl rfl)) ⟨rfl,rfl⟩ fun a c=>OF d x a (j a c) (e a c) m l (f.below c).u
 ·exact BK 3 _ _ _ d x w _ _ h (.inr (.inr rfl)) ⟨rfl,rfl⟩ fun a c=>EW d x a (j a c) (e a c) m l (f.below c).p
 ·rw [(tT x g).1,(tT x g).2]
  exact aEl k d x w h g
theorem ZR (k:Int) (s:Bt) (w:World) (c:uL w):Calls prog 52 #[Iz k,.string s] w (aAk (xY k s) w):=by
 rcases tS k with rfl | rfl | rfl | m
 ·refine BS 1 _ _ _ s w _ (.inl rfl) ⟨rfl,rfl⟩ fun l a=>(aDl s l (c.below a).u (c.below a).i (c.below a).e).mono ?_
  rintro e w' ⟨j,x,d,b,f,g,h⟩;exact ⟨j,x,d,b,f,g,.inl ⟨rfl,h⟩⟩
 ·refine BS 2 _ _ _ s w _ (.inr (.inl rfl)) ⟨rfl,rfl⟩ fun l a=>(aEw s l (c.below a).u).mono ?_
  rintro e w' ⟨j,x,d,b,f,g,h⟩;exact ⟨j,x,d,b,f,g,.inr (.inl ⟨rfl,h⟩)⟩
 ·refine BS 3 _ _ _ s w _ (.inr (.inr rfl)) ⟨rfl,rfl⟩ fun l a=>(XZ s l (c.below a).p).mono ?_
  rintro e w' ⟨j,x,d,b,f,g,h⟩;exact ⟨j,x,d,b,f,g,.inr (.inr (.inl ⟨rfl,h⟩))⟩
 ·exact aEq k s w _ m (.inr (.inr (.inr ⟨m,rfl,rfl⟩)))
structure aGd (x:ND):Prop where
 nums:aP 8 x=true
 j:(aR 8 x).length≤35184372088832
 c:(aU 8 x).length≤35184372088832
 m:(aW 8 x).length≤35184372088832
theorem aGd.of {x:ND} (b:aC 8 x=true) (c:aP 8 x=true) (a:bK 8 x≤35184372088832):aGd x:=
 ⟨c,Af (oM 8 x b c) a,Af (oN 8 x b) a,Af (oJ 8 x b) a⟩
end Go.Proofs.YtncdpanfefnjlaaGreatDoor
namespace Go.Proofs.YtncdpanfefnjlaaGreatDoor
open Go.Proofs.Tryz
open Go Go.RowKit Go.Shelf Go.Lib
def scI (i:Nat):DataW Unit:=if (scR i).widths.length=0 then .nil else .slice ((scR i).widths.map fun z=>.lit (.int .i64 z)) []
def scD:List (DataW Unit):=(List.range 7).map fun i=>.agg [.lit (.int .i64 (scR i).kind),.lit (.int .i64 (scR i).least),.lit (.int .i64 (scR i).count),.lit (.int .u8 (scR i).first),.lit (.int .u8 (scR i).wide),scI i]
theorem aCz:(Rows.laid_keyevent_pack_scales:DataW Unit)=.agg scD:=by kernel_rfl
theorem AS:Tryz.prog.cellsOf 249=6:=by kernel_rfl
theorem AT:Tryz.prog.cellsOf 3=1:=by kernel_rfl
theorem YD:Tryz.prog.cellsOf 5=1:=by kernel_rfl
theorem MH:Tryz.prog.cellsOf 22=1:=by kernel_rfl
theorem EV {g:Type} {l:List g} (h:l.length=6):∃a b c d e f,l=[a,b,c,d,e,f]:=by
 match l,h with
 | [a,b,c,d,e,f],_=>exact ⟨a,b,c,d,e,f,rfl⟩
theorem AR {W:World} {g:Nat} {v:Value} {l:List Int} {p:List MemPlace} (h:DataW.trod (fun _=>()) prog W 0 (fun _=>true) false g 22 [v]=some (.slice (l.map fun z=>(.lit (.int .i64 z):DataW Unit)) [],p)) (y:0<l.length):mR W.heap.size W v l:=by
 obtain ⟨a,r,w,f,j⟩:=open_row underlying22 AT h;rw [Bk] at w f;cases w;have x:∀i,i<l.length→W.cell? (a.add i)=some (Iz (l.getD i 0)):=by
  intro i k;obtain ⟨v,n,q,d,s⟩:=j i (.lit (.int .i64 (l.getD i 0))) (by rw [Be,Ac k];simp [List.getD,Ac k])
  obtain ⟨z,A,u,_⟩:=DataW.trod_int underlying3 s;cases A;simp only [Dt,Db,Lit.int.injEq,Dj] at u;rw [d,←u.1]
 have t:=x 0 y;obtain ⟨b,o,e⟩:=a;have c:e=none:=by simpa [Addr.add] using World.cell?_spot t
 subst c;refine ⟨_,r,rfl,f,fun i k=>?_⟩
 have m:=x i k;rw [Bs] at m;exact ⟨b,o,rfl,cD m,m⟩
theorem DA {W:World} {b:Nat} {v:Value} {p:List MemPlace} (h:DataW.trod (fun _=>()) prog W 0 (fun _=>true) false b 22 [v]=some (.nil,p)):v=Sn:=by
 rcases DataW.trod_slice underlying22 h with ⟨d,-⟩ | ⟨a,e,f,c,rest,n,_,_,g,_⟩
 ·exact (List.cons.inj d).1
 ·simp at g
theorem pC {W:World} {a:Nat} {q:IntKind} {t:TypeId} {c:Value} {z:Int} {p:List MemPlace} (e:Tryz.prog.underlying t=some (.int q)) (h:DataW.trod (fun _=>()) prog W 0 (fun _=>true) false a t [c]=some ((.lit (.int q z):DataW Unit),p)):c=.int q z:=by
 obtain ⟨f,d,b,_⟩:=DataW.trod_int e h;cases d;simp only [Dt,Db,Lit.int.injEq,Dj] at b;rw [←b.1]
theorem aGv {W:World} {g:Nat} {k:Vl} {r:ScR} {d:DataW Unit} {p:List MemPlace}
 (h:DataW.trod (fun _=>()) prog W 0 (fun _=>true) false g 249 k=some (.agg [.lit (.int .i64 r.kind),.lit (.int .i64 r.least),.lit (.int .i64 r.count),.lit (.int .u8 r.first),.lit (.int .u8 r.wide),d],p)) :
 ∃v n q,k=[.int .i64 r.kind,.int .i64 r.least,.int .i64 r.count,.int .u8 r.first,.int .u8 r.wide,v]∧DataW.trod (fun _=>()) prog W 0 (fun _=>true) false n 22 [v]=some (d,q):=by
 obtain ⟨J,n,O,G,b,i,a⟩:=DataW.trod_struct underlying249 h;rw [AS] at b;obtain ⟨e,c1,c2,c3,f,c,rfl⟩:=EV b;obtain ⟨l,F,o,u,z,y,rfl⟩:=EV (show J.length=6 from i)
 simp only [Bq,List.map_nil,Dt,DataW.agg.injEq,Bu,Dd] at G;obtain ⟨⟨D,j,H,m,w,C⟩,-⟩:=G;have t:DataW.trod (fun _=>()) prog W 0 (fun _=>true) false n 3 (([e,c1,c2,c3,f,c].drop 0).take (Tryz.prog.cellsOf 3))=some l:=a 0 _ rfl
 have x:DataW.trod (fun _=>()) prog W 0 (fun _=>true) false n 3 (([e,c1,c2,c3,f,c].drop 1).take (Tryz.prog.cellsOf 3))=some F:=a 1 _ rfl
 have B:DataW.trod (fun _=>()) prog W 0 (fun _=>true) false n 3 (([e,c1,c2,c3,f,c].drop 2).take (Tryz.prog.cellsOf 3))=some o:=a 2 _ rfl
 have E:DataW.trod (fun _=>()) prog W 0 (fun _=>true) false n 5 (([e,c1,c2,c3,f,c].drop 3).take (Tryz.prog.cellsOf 5))=some u:=a 3 _ rfl
 have s:DataW.trod (fun _=>()) prog W 0 (fun _=>true) false n 5 (([e,c1,c2,c3,f,c].drop 4).take (Tryz.prog.cellsOf 5))=some z:=a 4 _ rfl
 have A:DataW.trod (fun _=>()) prog W 0 (fun _=>true) false n 22 (([e,c1,c2,c3,f,c].drop 5).take (Tryz.prog.cellsOf 22))=some y:=a 5 _ rfl
 rw [AT] at t x B;rw [YD] at E s;rw [MH] at A;obtain ⟨Z,R⟩:=l;obtain ⟨Q,X⟩:=F;obtain ⟨U,p2⟩:=o;obtain ⟨V,T⟩:=u;obtain ⟨S,Y⟩:=z;obtain ⟨d5,M⟩:=y;dsimp only at D j H m w C;subst D j H m w C;have K:=pC underlying3 (show DataW.trod (fun _=>()) prog W 0 (fun _=>true) false n 3 [e]=_ from t)
 have N:=pC underlying3 (show DataW.trod (fun _=>()) prog W 0 (fun _=>true) false n 3 [c1]=_ from x)
 have I:=pC underlying3 (show DataW.trod (fun _=>()) prog W 0 (fun _=>true) false n 3 [c2]=_ from B)
 have L:=pC underlying5 (show DataW.trod (fun _=>()) prog W 0 (fun _=>true) false n 5 [c3]=_ from E)
 have P:=pC underlying5 (show DataW.trod (fun _=>()) prog W 0 (fun _=>true) false n 5 [f]=_ from s)
 exact ⟨c,n,M,by rw [K,N,I,L,P],A⟩
theorem aBm (v:Nat→Value) (i q:Nat) (a:i<7) (b:q<6):(qV v)[i * 6+q]?=(scC i (v i))[q]?:=by
 obtain rfl | rfl | rfl | rfl | rfl | rfl | rfl:i=0∨i=1∨i=2∨i=3∨i=4∨i=5∨i=6:=by omega
 all_goals
  obtain rfl | rfl | rfl | rfl | rfl | rfl:q=0∨q=1∨q=2∨q=3∨q=4∨q=5:=by omega
  all_goals rfl
theorem GO {W : World} {a : Array Value} {w : Nat} {p : List MemPlace} (G : W.var? prog "keyevent/pack.scales" = some a) (h : DataW.trod (fun _ => ()) prog W 0 (fun _ => true) false w 250 a.toList = some (Rows.laid_keyevent_pack_scales, p)) : Scl W := by
 rw [aCz] at h;obtain ⟨y,m,rfl,J,K,H,s⟩:=DataW.trod_array underlying250 h;have t:∀j,W.cell? ⟨9,j,none⟩=a[j]?:=fun j=>World.var?_cell (g:=9) (by kernel_rfl) G j
 have B:∀i,i<7→∃v n q,(a.toList.drop (i * 6)).take 6=[.int .i64 (scR i).kind,.int .i64 (scR i).least,.int .i64 (scR i).count,.int .u8 (scR i).first,.int .u8 (scR i).wide,v]∧DataW.trod (fun _=>()) prog W 0 (fun _=>true) false n 22 [v]=some (scI i,q):=by
  intro i k;have l:=s i k;rw [AS] at l;have z:y.map (·.1)=scD:=by
   have:=Ad Prod.fst J
   simpa using this.symm
  obtain ⟨b,F⟩:∃b,y[i]?=some b:=⟨y[i]'(by omega),Ac (by omega)⟩
  rw [F] at l;have r:b.1=.agg [.lit (.int .i64 (scR i).kind),.lit (.int .i64 (scR i).least),.lit (.int .i64 (scR i).count),.lit (.int .u8 (scR i).first),.lit (.int .u8 (scR i).wide),scI i]:=by
   have:=Ad (·[i]?) z;simp only [Be,F,Option.map_some] at this;simp only [scD,Be,List.getElem?_range k,Option.map_some,Option.some.injEq] at this;exact this
  obtain ⟨d,q⟩:=b;simp only at r;subst r;exact aGv l
 have c:∀i,i<7→∀q,q<6→a[i * 6+q]?=((a.toList.drop (i * 6)).take 6)[q]?:=fun i k q C=>by
  rw [Dn,Am C,List.getElem?_drop];simp
 have e:∀i,i<7→∃n q,DataW.trod (fun _=>()) prog W 0 (fun _=>true) false n 22 [a[i * 6+5]?.getD (Sn)]=some (scI i,q)∧∀q,q<6→a[i * 6+q]?=(scC i (a[i * 6+5]?.getD (Sn)))[q]?:=by
  intro i k;obtain ⟨v,n,I,f,o⟩:=B i k;have x:=c i k 5 (by omega)
  rw [f] at x;have x:a[i * 6+5]?=some v:=x;rw [x];refine ⟨n,I,o,fun q C=>?_⟩
  rw [c i k q C,f]
  rfl
 refine ⟨fun i=>a[i * 6+5]?.getD (Sn),?_,Lr _,fun j u D=>?_,fun i k=>?_⟩
 ·obtain ⟨n,q,f,o⟩:=e 0 (by omega)
  have:=o 0 (by omega)
  rw [←t] at this;exact cD this
 ·have E:j<42:=dT D
  rw [t,←D];obtain ⟨n,q,f,o⟩:=e (j / 6) (by omega)
  have:=o (j % 6) (by omega)
  rw [←aBm (fun i=>a[i * 6+5]?.getD (Sn)) (j / 6) (j % 6) (by omega) (by omega)] at this
  rw [show j / 6 * 6+j % 6=j by omega] at this
  exact this
 ·obtain ⟨n,q,f,-⟩:=e i k
  show mR W.heap.size W (a[i * 6+5]?.getD _) _
  unfold scI at f
  by_cases A:(scR i).widths.length=0
  ·rw [Am A] at f
   rw [DA f,Aw.1 A];exact ⟨none,0,rfl,Lr _,fun j E=>absurd E (Nat.not_lt_zero _)⟩
  ·rw [Ae A] at f
   exact AR f (by omega)
theorem WC:(Rows.laid_math_bits_deBruijn64tab:DataW Unit)=tabData .u8 (Lib.deBruijn64tab.map Int.ofNat):=by kernel_rfl
end Go.Proofs.YtncdpanfefnjlaaGreatDoor
namespace Go.Proofs.YtncdpanfefnjlaaGreatDoor
open Go.Proofs.Tryz
open Go Go.ChangeShapes Go.WideShapes Go.ChangeAt Go.RowKit
theorem RA {k z:Int} (h:k ≠ z):(k == z)=false:=by simpa using h
theorem uY {D:Nat} {l:Nat→Prop} (k:Int) (F:Nat) (d:Vl) (x:ND) (w:World) (S:Bt) (E:Int) (h:aD D l w d x) (j:k=1∧F=35∨k=2∧F=36∨k=3∧F=37)
 (a:∀f,Below w.heap.size w f→Calls prog F #[.agg d.toArray] f (xZ S E f)):Calls prog 17 #[Iz k,.agg d.toArray] w (xZ S E w):=by
 obtain ⟨s,t,c1,q,r,c2,rfl⟩:=h.slices;clear h
 go_enter func17,ntmps17
 go_upto_region 1 with fail
 generalize i:w.alloc _=m;obtain ⟨c,g⟩:=Al i;clear i;have n:=aA g;have a:=Hh (a m c);unfold xZ at a;clear g;rcases j with ⟨rfl,rfl⟩ | ⟨rfl,rfl⟩ | ⟨rfl,rfl⟩ <;> (
  go_wp2_with ((with_reducible refine (a.o).mono ?_);rintro e p ⟨rfl,b⟩)
  refine Au (v:=.tuple #[.string S,Iz E]) ?_ rfl ?_
  ·simp [results,results17,go_sem]
  ·exact ⟨rfl,c.trans (b.mono c.size)⟩)
theorem XE {D:Nat} {c:Nat→Prop} (k:Int) (b:Vl) (x:ND) (w:World) (h:aD D c w b x) (f:k<1∨3<k):Calls prog 17 #[Iz k,.agg b.toArray] w (xZ ⟨#[]⟩ 2 w):=by
 obtain ⟨e,g,c1,i,d,c2,rfl⟩:=h.slices;have a:=(Br w.heap.size w).alloc (o:=.cells #[Iz x.kind,.bool x.bool,Iz x.num,.string x.text,.slice e g c1,.slice i d c2] 28) (Lr _);have m:=RA (show k ≠ 1 by omega)
 have l:=RA (show k ≠ 2 by omega)
 have j:=RA (show k ≠ 3 by omega)
 clear h f
 go_enter func17,ntmps17
 go_upto_region 1 with fail
 generalize w.alloc _=n at a ⊢
 go_wp2
 refine Au (v:=.tuple #[.string ⟨#[]⟩,Iz 2]) ?_ rfl ?_
 ·simp [results,results17,go_sem]
 ·exact ⟨rfl,a⟩
theorem QG {D:Nat} {S:Nat→Prop} (k:Int) (e:Vl) (x:ND) (w:World) (h:aD D S w e x) (p:∀b,S b→b<w.heap.size) (K:aC 8 x=true→aGd x) (o:iM D x) (g:uL w):Calls prog 17 #[Iz k,.agg e.toArray] w (xZ (foS k x) (foE k x) w):=by
 have n:∀a,Below w.heap.size w a→aD D S a e x:=fun a d=>h.same fun b q=>d.block b (p b q)
 have f:∀a,Below w.heap.size w a→∀b,S b→b<a.heap.size:=fun a d b q=>Ll (p b q) d.size
 rcases tS k with rfl | rfl | rfl | l
 ·exact uY 1 _ e x w _ _ h (.inl ⟨rfl,rfl⟩) fun a d=>YS e x a (n a d) (f a d) o (fun v=>⟨(K v).nums,(K v).j⟩) (g.below d).u (g.below d).i
 ·exact uY 2 _ e x w _ _ h (.inr (.inl ⟨rfl,rfl⟩)) fun a d=>ZT e x a (n a d) (f a d) o (fun v=>⟨(K v).nums,(K v).c⟩) (g.below d).u
 ·exact uY 3 _ e x w _ _ h (.inr (.inr ⟨rfl,rfl⟩)) fun a d=>XW e x a (n a d) (f a d) o (fun v=>⟨(K v).nums,(K v).m⟩) (g.below d).u
 ·rw [(tT x l).1,(tT x l).2]
  exact XE k e x w h l
end Go.Proofs.YtncdpanfefnjlaaGreatDoor