import Derived.Test.YtncdpanfefnjlaaGreatDoorNget
set_option linter.unusedVariables false
set_option linter.unusedSimpArgs false
set_option maxHeartbeats 3200000
set_option maxRecDepth 100000
namespace Go.Proofs.YtncdpanfefnjlaaGreatDoor
open Go.Proofs.Tryz
open Go Go.ChangeShapes Go.WideShapes Go.ChangeAt Go.RowKit
def tW (V:Ub→Option (ND × Ub)) (b:Bool) (e:UInt8) (n:Nat) (ns:List Bt) (its:List ND) (a:Ub):Option ((List Bt × List ND) × Ub):=match a with
 | []=>none
 | c::t3=>if c=e then some ((ns,its),t3) else if c ≠ 44∨256<its.length then none else dE V b e n ns its t3
def CY (V:Ub→Option (ND × Ub)) (a:Bool) (e:UInt8) (n:Nat) (ns:List Bt) (its:List ND) (t:Ub):Option ((List Bt × List ND) × Ub):=match V t with
 | none=>none
 | some (x,t2)=>tW V a e n ns (its++[x]) t2
def DC (V:Ub→Option (ND × Ub)) (a:Bool) (e:UInt8) (n:Nat) (ns:List Bt) (its:List ND) (t:Ub):Option ((List Bt × List ND) × Ub):=match AN a ns t with
 | none=>none
 | some (ns',t1)=>CY V a e n ns' its t1
theorem xC {V:Ub→Option (ND × Ub)} {d:Bool} {e:UInt8} {n:Nat} {ns:List Bt} {its:List ND} {t:Ub} {R:(List Bt × List ND) × Ub} (h:dE V d e n ns its t=some R) (g:¬ (its=[]∧t.head?=some e)):∃m,DC V d e m ns its t=some R:=by
 cases n with
 | zero=>cases h
 | succ n=>
  rw [dE,Ae g] at h;refine ⟨n,?_⟩;unfold DC CY tW;rw [←h];cases AN d ns t with
  | none=>rfl
  | some y=>
   obtain ⟨a,b⟩:=y;dsimp only;cases V b with
   | none=>rfl
   | some z=>
    obtain ⟨x,f⟩:=z;dsimp only;cases f with
    | nil=>rfl
    | cons c t3=>dsimp only;rw [Lg,Dx]
theorem MX {V:Ub→Option (ND × Ub)} {a:Bool} {e:UInt8} {n:Nat} {t:Ub} {R:(List Bt × List ND) × Ub} (h:dE V a e n [] [] (e::t)=some R):R=(([],[]),t):=by
 cases n with
 | zero=>cases h
 | succ n=>
  rw [dE,Am ⟨rfl,rfl⟩] at h;cases h;rfl
theorem SY {V:Ub→Option (ND × Ub)} {a:Bool} {e:UInt8} {n:Nat} {ns:List Bt} {its:List ND} {t:Ub} {R:(List Bt × List ND) × Ub} (h:tW V a e n ns its (e::t)=some R):R=((ns,its),t):=by
 have b:tW V a e n ns its (e::t)=some ((ns,its),t):=Am rfl;rw [b] at h;cases h;rfl
theorem xG {V:Ub→Option (ND × Ub)} {f:Bool} {e:UInt8} {n:Nat} {ns:List Bt} {its:List ND} {a:Ub} {R:(List Bt × List ND) × Ub} (h:tW V f e n ns its a=some R) (i:Lib.hasPrefix a [e]=false):∃b,a=44::b∧dE V f e n ns its b=some R:=by
 unfold tW at h;cases a with
 | nil=>cases h
 | cons c b=>
  simp only at h;rw [tP] at i;have d:c ≠ e:=fun x=>by subst x;simp at i
  rw [Ae d] at h
  split at h
  ·cases h
  ·rename_i hc
   have:c=44:=by
    by_cases g:c=44
    ·exact g
    ·exact absurd (.inl g) hc
   subst this;exact ⟨b,rfl,h⟩
theorem qH {V:Ub→Option (ND × Ub)} {d:Bool} {e:UInt8} {n:Nat} {ns:List Bt} {its:List ND} {a:Ub} {R:(List Bt × List ND) × Ub} (h:tW V d e n ns its a=some R) (g:hG.contains e=true):vO a:=by
 intro c f;unfold tW at h;cases a with
 | nil=>cases h
 | cons c' t3=>
  cases f;simp only at h
  split at h
  ·rename_i q;rw [q];exact g
  ·split at h
   ·cases h
   ·rename_i q
    have:c=44:=by
     by_cases b:c=44
     ·exact b
     ·exact absurd (.inl b) q
    rw [this];rfl
theorem EU {V:Ub→Option (ND × Ub)} {e:UInt8} {n:Nat} {ns:List Bt} {its:List ND} {t:Ub} {R:(List Bt × List ND) × Ub} (h:DC V true e n ns its t=some R):∃s a,TQ t s a∧CY V true e n (ns++[bA s]) its a=some R:=by
 unfold DC AN at h;rw [Am rfl] at h
 split at h
 ·cases h
 ·rename_i ns' a hn
  split at hn
  ·rename_i r
   split at hn
   ·rename_i o r' hq
    cases hn;exact ⟨o,a,⟨r,rfl,hq⟩,h⟩
   ·cases hn
  ·cases hn
theorem YG {V:Ub→Option (ND × Ub)} {e:UInt8} {n:Nat} {ns:List Bt} {its:List ND} {t:Ub} {R:(List Bt × List ND) × Ub} (h:DC V false e n ns its t=some R):CY V false e n ns its t=some R:=by
 unfold DC AN at h;rw [Ae (by decide)] at h
 exact h
def uG (d:Nat):Prop:=∀ (g a b:Nat) (r:Ub) (w:World),PrS w g a b r→r.length≤100000→Calls prog 144 #[.pointer (some ⟨g,0,none⟩),Iz (d:Int)] w (xP (fun y t=>cB d r=some (y,t)∧vO t) d g a b r w)
def mI (d:Nat) (k:Int) (e:UInt8) (r:Ub) (y:ND) (t:Ub):Prop:=∃a ns its,dE (cB d) (decide (k=5)) e a [] [] r=some ((ns,its),t)∧y=.mk k false 0 ⟨#[]⟩ ns its
structure ISt (d:Nat) (k:Int) (e:UInt8) (g nb C mw mc:Nat) (r:Ub) (w wx:World) (vn vi:Value) (ns:List Bt) (A:List NC) (rr:Ub):Prop where
 par:PrS wx g mw mc rr
 st:NSt 28 9 (d+1) w wx g nb C k vn vi ns A
 fine:∀y,y ∈ A→iM (d+1) y.2∧aP (d+1) y.2=true
 len:A.length+rr.length≤r.length+min A.length 1
 nam:ns.length≤A.length+1
theorem AG (d:Nat) (hd:d≤20) (PN:uG d) (k:Int) (e:UInt8) (hk:(k=4∧e=93)∨(k=5∧e=125)) {g mw mc:Nat} {r:Ub} (w:World) (h:PrS w g mw mc r) (hr:r.length≤100000):Calls prog 164 #[.pointer (some ⟨g,0,none⟩),Iz k,.string ⟨#[e]⟩,Iz ((d:Int)+1)] w (xP (mI d k e r) (d+1) g mw mc r w):=by
 have xo:=h.lt;obtain ⟨V,xh⟩:∃o,o=Obj.cells Z6 28 (0,0):=⟨_,rfl⟩;obtain ⟨z2,xs⟩:∃o,o=Obj.cells #[Iz k,.bool false,Iz 0,.string ⟨#[]⟩,Sn,Sn] 28 (0,0):=⟨_,rfl⟩;have za:=Hn w V;have hz:(w.alloc V).heap.size=w.heap.size+1:=by simp
 have ub:=(Bj (w.alloc V) z2 _ (Aa za)).trans za;have ze:=Hn (w.alloc V) z2;have bb:=((Br w.heap.size w).alloc (o:=V) (Lr _)).alloc (o:=z2) (by rw [hz];omega)
 have zb:=h.below bb;have uc:=aJ (dV w V (some g)) (dV (w.alloc V) z2 (some g));obtain ⟨nb,xr⟩:∃nb,nb=(w.alloc V).heap.size:=⟨_,rfl⟩;rw [←xr] at ze;obtain ⟨W2,ym⟩:∃W,W=(w.alloc V).alloc z2:=⟨_,rfl⟩;have yg:NSt 28 9 (d+1) w W2 g nb W2.heap.size k (Sn) (Sn) [] []:=by
  rw [ym];exact NSt.begin (by rw [ub,xh]) (by rw [ze,xs]) xo (by omega) uc
 rw [←ym] at zb;obtain ⟨C,hC⟩:∃C,C=W2.heap.size:=⟨_,rfl⟩;rw [←hC] at yg;have x6:=Hh yg;have zq:=Hh zb;have z8:=Hh PN;rw [xh,xs] at ym;rw [xh] at xr;have z5:(w.alloc (.cells Z6 28)).heap.size=w.heap.size+1:=by simp
 rw [z5] at xr;clear yg zb za ub ze bb uc hC PN h hz xh xs z5
 go_enter func164,ntmps164
 go_upto_region 2 with fail
 rw [←ym];rw [←xr];have u0:=Hh xr;clear ym xr V z2;obtain ⟨ip,zr,ud,xh,xs⟩:=rE;obtain ⟨iq,zj,ui,ux,ul⟩:=rD;have z9:=Hh zr;have uu:=Hh zj;clear zr zj;have z6:=underlying26;have un:=underlying25
 go_loopw [] (fun wr=>∃ (vn vi:Value) (ns:List Bt) (A:List NC) (G:Ub),ISt d k e g nb C mw mc r w wr vn vi ns A G ∧
  (∀p R,dE (cB d) (decide (k=5)) e p [] [] r=some R→(A=[]∧ns=[]∧G=r)∨(A ≠ []∧∃n,tW (cB d) (decide (k=5)) e n ns (aG A) G=some R))∧(ns.length≤A.length)) (fun wr=>yB wr g+(1 - UR wr nb 5))
 case atStart=>exact ⟨_,_,[],[],r,⟨zq.o,x6.o,(fun y hy=>by simp at hy),by simp,by simp⟩,fun p R h=>.inl ⟨rfl,rfl,rfl⟩,Lr _⟩
 case round=>
  clear x6 zq;obtain ⟨vn,vi,ns,A,G,hI,xl,yw⟩:=hrel;have hm:=Hh (Ai hI.par.rest hI.st.len);have S:=dO ⟨#[e]⟩ wr hI.par;rw [show (⟨#[e]⟩:Bt).data.toList=[e] from rfl] at S
  cases hp:Lib.hasPrefix G [e] with
  | true=>
   rw [hp,iU hp] at S;have SS:Hid (Calls prog 163 #[.pointer (some ⟨g,0,none⟩),.string ⟨#[e]⟩] wr (fG g mw mc wr (.bool true) (G.drop 1))):=S;have yv:=eG hp;obtain ⟨q,hq⟩:∃q,q=G.drop 1:=⟨_,rfl⟩;have xa:G=e::q:=by rw [hq];exact yv
   rw [←hq] at SS;have y6:=Hh xa;have HI:=Hh hI;have HS:=Hh xl;clear yv xa hq hp S hI xl
   go_upto_region 14 with ((with_reducible refine (SS.o).mono ?_);rintro e1 w1 ⟨rfl,xy,yc⟩)
   have L:=HI.o.st.grown yc;have uy:A.length+q.length≤r.length:=by
    have:=HI.o.len;rw [y6.o,Ag] at this;omega
   obtain ⟨ai,ci,rfl⟩:=L.viForm;obtain ⟨an,yr,rfl⟩:=L.vnForm;have f0:=aE L.nod;have c0:=aA L.nod;have f1:=aE L.res;have c1:=aA L.res;have uq:¬w.heap.size=nb:=by have:=L.lo;omega
   have uz:¬nb=w.heap.size:=fun e=>uq e.symm
   have x6:=Hh L;have xq:=Hh xy;clear L xy yc SS;generalize zp:ns.length=NL at c0 yw;have us:=Hh zp;generalize zv:A.length=AL at c0 yw uy;have ua:=Hh zv;clear zp zv
   go_wp2
   have y7:=x6.o.done;have yx:=dG x6.o.res (Iz k) (.bool false) (Iz 0) (.string ⟨#[]⟩) (.slice an ns.length yr) (.slice ai A.length ci);rw [us.o,ua.o] at y7 yx;refine Au (v:=.tuple #[.agg #[Iz k,.bool false,Iz 0,.string ⟨#[]⟩,.slice an NL yr,.slice ai AL ci],.bool true]) ?_ ?_ ?_;rotate_left
   ·rfl
   ·have um:=aO w1 w.heap.size (Iz k) (.bool false) (Iz 0) (.string ⟨#[]⟩) (.slice an NL yr) (.slice ai AL ci)
    have u4:(aG A).length=AL:=by rw [←ua.o];simp [aG]
    refine ⟨[Iz k,.bool false,Iz 0,.string ⟨#[]⟩,.slice an NL yr,.slice ai AL ci],.mk k false 0 ⟨#[]⟩ ns (aG A),true,q,rfl,y7.1,xq.o.kept um xo,y7.2.1,by omega,⟨⟨?_,?_⟩,?_⟩,?_⟩
    ·show (aG A).length≤1000000;omega
    ·intro y hy
     obtain ⟨z,hz,rfl⟩:=Bp.1 (show y ∈ aG A from hy)
     exact (HI.o.fine z hz).1
    ·rw [cS,An,Ax]
     refine ⟨show dD 0=true by decide,fun y hy=>?_⟩
     obtain ⟨z,hz,rfl⟩:=Bp.1 (show y ∈ aG A from hy)
     exact (HI.o.fine z hz).2
    ·rintro y t ⟨p,ys,xn,D,rfl⟩
     rcases HS.o p _ D with ⟨rfl,rfl,uh⟩ | ⟨hA,n,hc⟩
     ·rw [←uh,y6.o] at D
      have:=MX D;cases this;exact ⟨rfl,rfl,rfl⟩
     ·rw [y6.o] at hc
      have:=SY hc;cases this;exact ⟨rfl,rfl,rfl⟩
   ·obtain ⟨q0,q1,q2,q3,q4,q5⟩:=aA yx
    simp only [dJ] at q0 q1 q2 q3 q4 q5;simp [results,results164,go_sem,q0,q1,q2,q3,q4,q5]
  | false=>
   rw [hp,fP hp] at S;have SS:Hid (Calls prog 163 #[.pointer (some ⟨g,0,none⟩),.string ⟨#[e]⟩] wr (fG g mw mc wr (.bool false) G)):=S;have yo:=Hh hp;have HI:=Hh hI;have HS:=Hh xl;have yu:Hid (hG.contains e=true):=Hh (by rcases hk with ⟨-,rfl⟩ | ⟨-,rfl⟩ <;> decide)
   obtain ⟨ai,ci,uf⟩:=hI.st.viForm;subst uf;have y2:=hI.len;have u3:(0:Int)≤(d:Int):=by omega
   have u1:(d:Int)≤20:=by omega
   clear hp S hI xl
   go_upto_region 3 with ((with_reducible refine (SS.o).mono ?_);rintro e1 w1 ⟨rfl,xy,yc⟩)
   have yi:=HI.o.st.grown yc;have xi:=Hh yi;have xq:=Hh xy;have cc:=(aA yi.nod).2.2.2.2.2;clear xy yc SS yi
   by_cases I:A.length ≠ 0∧Lib.hasPrefix G [44]=false
   ·have zc:(0:Int)<(A.length:Int):=by omega
    have S2:Hid (Calls prog 163 #[.pointer (some ⟨g,0,none⟩),.string ⟨#[44]⟩] w1 (fG g mw mc w1 (.bool false) G)):=by
     have:=dO ⟨#[44]⟩ w1 xq.o;rw [show (⟨#[44]⟩:Bt).data.toList=[44] from rfl,I.2,fP I.2] at this
     exact this
    have xg:Hid (∀y t,¬mI d k e r y t):=Hh fun y t ⟨p,ys,xn,D,_⟩=>by
     rcases HS.o p _ D with ⟨rfl,-,-⟩ | ⟨-,n,hc⟩
     ·exact I.1 rfl
     ·obtain ⟨t3,rfl,-⟩:=xG hc yo.o
      have:=I.2;rw [tP] at this;cases this
    clear I
    go_upto_region 4 with ((with_reducible refine (S2.o).mono ?_);rintro e2 w2 ⟨rfl,yh,x5⟩)
    have xk:=Hh (xi.o.grown x5);have ur:=Hh yh;clear yh x5 S2 cc;have f1:=aE xk.o.res;have c1:=aA xk.o.res
    go_wp2
    refine aT (v:=.bool false) xk.o.res results164 rfl rfl rfl ?_;exact jJ (T:=0) 0 false 0 ⟨#[]⟩ false ur.o xk.o.gro xo (by omega) (by decide) (by decide) (fun y t J=>absurd J (xg.o y t))
   ·have xw:Hid (∀p R,dE (cB d) (decide (k=5)) e p [] [] r=some R→(A.length=0→∃n,DC (cB d) (decide (k=5)) e n ns (aG A) G=some R)∧(A.length ≠ 0→∃t3 n,G=44::t3∧DC (cB d) (decide (k=5)) e n ns (aG A) t3=some R)):=Hh fun p R D=>by
     rcases HS.o p _ D with ⟨rfl,rfl,rfl⟩ | ⟨hA,n,hc⟩
     ·refine ⟨fun _=>xC D ?_,fun h=>absurd rfl h⟩
      rintro ⟨-,hh⟩;have:=yo.o;cases xa:G with
      | nil=>rw [xa] at hh;cases hh
      | cons c q=>
       rw [xa] at hh this;cases hh;rw [tP] at this;simp at this
     ·refine ⟨fun h=>absurd (Aw.1 h) hA,fun _=>?_⟩
      obtain ⟨t3,e1,h2⟩:=xG hc yo.o;obtain ⟨m,h3⟩:=xC h2 (by rintro ⟨h,-⟩;exact hA (List.map_eq_nil_iff.1 h))
      exact ⟨t3,m,e1,h3⟩
    have x8:A.length=0∨Lib.hasPrefix G [44]=true:=by
     by_cases hA:A.length=0
     ·exact .inl hA
     ·right
      cases hq:Lib.hasPrefix G [44] with
      | true=>rfl
      | false=>exact absurd ⟨hA,hq⟩ I
    clear I
    by_cases hA:A.length=0
    case' pos=>
     have zc:¬ (0:Int)<(A.length:Int):=by omega
     have HZ:Hid (∃rz,PrS w1 g mw mc rz∧NSt 28 9 (d+1) w w1 g nb C k vn (.slice ai A.length ci) ns A∧A.length+rz.length≤r.length∧rz.length+1≤G.length+(1 - A.length)∧∀p R,dE (cB d) (decide (k=5)) e p [] [] r=some R→∃n,DC (cB d) (decide (k=5)) e n ns (aG A) rz=some R):=Hh ⟨G,xq.o,xi.o,by omega,by omega,fun p R D=>(xw.o p R D).1 hA⟩
     clear hA
     go_upto_region 5 with fail
     obtain ⟨wz,zg⟩:∃wz,wz=w1:=⟨_,rfl⟩;rw [←zg] at HZ;rw [←zg];clear zg
    case' neg=>
     have yp:Lib.hasPrefix G [44]=true:=x8.resolve_left hA;have zc:(0:Int)<(A.length:Int):=by omega
     have S2:Hid (Calls prog 163 #[.pointer (some ⟨g,0,none⟩),.string ⟨#[44]⟩] w1 (fG g mw mc w1 (.bool true) (G.drop 1))):=by
      have:=dO ⟨#[44]⟩ w1 xq.o;rw [show (⟨#[44]⟩:Bt).data.toList=[44] from rfl,yp,iU yp] at this
      exact this
     have xa:=eG yp;have ut:G.length=(G.drop 1).length+1:=by (conv=>lhs;rw [xa]);simp
     have HA:=Hh hA;clear yp xa hA
     go_upto_region 5 with ((with_reducible refine (S2.o).mono ?_);rintro e2 wz ⟨rfl,yh,x5⟩)
     have HZ:Hid (∃rz,PrS wz g mw mc rz∧NSt 28 9 (d+1) w wz g nb C k vn (.slice ai A.length ci) ns A∧A.length+rz.length≤r.length∧rz.length+1≤G.length+(1 - A.length)∧∀p R,dE (cB d) (decide (k=5)) e p [] [] r=some R→∃n,DC (cB d) (decide (k=5)) e n ns (aG A) rz=some R):=Hh ⟨G.drop 1,yh,xi.o.grown x5,by omega,by omega,fun p R D=>by
      obtain ⟨t3,n,e1,h2⟩:=(xw.o p R D).2 HA.o;rw [e1];exact ⟨n,h2⟩⟩
     clear yh x5 S2 ut HA
    all_goals
     clear x8 zc xw xi xq cc yo HS y2;obtain ⟨rz,yt,xj,zu,zw,xt⟩:=HZ.o;clear HZ
     by_cases xf:k=5
     ·have yy:(k == 5)=true:=by simpa using xf
      rw [Ap xf] at xt;have NM:=Hh (aCk wz yt (by omega))
      have zh:=Hh xt;have zi:=Hh xj;have z4:=Hh xf;clear yt xj xt xf
      go_upto_region 7 with ((with_reducible refine (NM.o).mono ?_);rintro e2 w3 ⟨sl,ok,ry,rfl,zy,z0,uj,uk,zn⟩)
      have y8:=Hh zn;have xe:=Hh (zi.o.grown z0);have y9:=Hh zy;clear zn zy z0 NM zi;cases ok with
      | false=>
       have xg:Hid (∀y t,¬mI d k e r y t):=Hh fun y t ⟨p,ys,xn,D,_⟩=>by
        rw [Ap z4.o] at D;obtain ⟨n,i⟩:=zh.o p _ D;obtain ⟨s',t1,h1,-⟩:=EU i;have:=(y8.o s' t1 h1).1;cases this
       have f1:=aE xe.o.res;have c1:=aA xe.o.res
       go_wp2
       refine aT (v:=.bool false) xe.o.res results164 rfl rfl rfl ?_;exact jJ (T:=0) 0 false 0 ⟨#[]⟩ false y9.o xe.o.gro xo (by omega) (by decide) (by decide) (fun y t J=>absurd J (xg.o y t))
      | true=>
       have c4:=(aA xe.o.nod).2.2.2.2.1;have b4:=(Br w3.heap.size w3).alloc (o:=.cells #[.string (bA sl)] 9) (Lr _);have xm:=xe.o.below b4;have zl:=y9.o.below b4;have z3:=Hn w3 (.cells #[.string (bA sl)] 9);have zm:Hid (∀q u,([.string (bA sl)]:Vl)[q]?=some u→(w3.alloc (.cells #[.string (bA sl)] 9)).cell? ((⟨w3.heap.size,0,none⟩:Addr).add q)=some u):=Hh fun q u hq=>by
        have:=cT _ z3 rfl q u hq;rw [Bs,Ca];exact this
       have z7:=Hh xm.names.1;have zk:=xm.lo.2.2.2;have F:=Hh xm;have zx:=Hh zl;have zt:(bA sl).size≤maxLen - 2:=by rw [jP];unfold maxLen;omega
       clear xm zl z3 b4
       go_upto_region 10 with ((refine Ay _ rfl (.tmp 46) (.tmp 48) 25 rfl C 9 iq (.string ⟨#[]⟩) 1 16 un uu.o ui ux ul rfl (by decide) vn ns.length _ rfl z7.o ⟨w3.heap.size,0,none⟩ 1 1 [.string (bA sl)] rfl rfl zm.o (by intro u hu;simp at hu;subst hu;rfl) (by decide) (by unfold maxLen;omega) (by omega) zk _ rfl ?_);intro gn cn Wn E a Y zo;(have H:=(F.o.apart (.inl rfl) a nb F.o.lo.2.2.1).trans F.o.nod);(have zd:=aE H);(have y1:=aA H);(have s:=Hh (Ai E (Ai a Y)));clear E a Y H)
       have ya:=F.o.name s.o.1 s.o.2.1 (fV s.o.2.2) zt;have zf:=(zx.o.row s.o.2.1 (fun b i=>by have:=(F.o.names.1.lt b i).1;have:=F.o.lo;omega)).kept (aV Wn nb 4 (.slice (some ⟨gn,0,none⟩) (ns.length+1) cn)) (by have:=F.o.lo;omega)
       generalize Wn.setCell ⟨nb,4,none⟩ (.slice (some ⟨gn,0,none⟩) (ns.length+1) cn)=wy at ya zf ⊢;have M:=Hh ya;have yq:=Hh zf;have xp:Hid (∀p R,dE (cB d) (decide (k=5)) e p [] [] r=some R→∃n,CY (cB d) (decide (k=5)) e n (ns++[bA sl]) (aG A) ry=some R):=Hh fun p R D=>by
        rw [Ap z4.o] at D ⊢;obtain ⟨n,i⟩:=zh.o p _ D;obtain ⟨s',t1,h1,h2⟩:=EU i;obtain ⟨-,rfl,rfl⟩:=y8.o s' t1 h1;exact ⟨n,h2⟩
       have uo:(ns++[bA sl]).length≤A.length+1:=by rw [Lg];show ns.length+1≤_;omega
       have zz:A.length+ry.length≤r.length:=by omega
       have uw:ry.length+1≤G.length+(1 - A.length):=by omega
       clear ya zf zh y8 F zx s z7 zm xe y9 c4 zd y1 uk uj zw zu yy;generalize ns++[bA sl]=u2 at M xp uo;have NC:=Hh (z8.o g mw mc ry wy yq.o (by omega))
       have ue:=M.o.viForm
       go_upto_region 11 with ((with_reducible refine (NC.o).mono ?_);rintro e3 w5 ⟨cs,x,ok,r',rfl,l,yl,yk,up,ye,yd⟩;go_loud ((obtain ⟨P,Q,c1,O,U,c2,y5⟩:=l.slices);subst y5))
       have bS:=(Br w5.heap.size w5).alloc (o:=.cells (Na x P Q c1 O U c2) 28) (Lr _);have K:=(M.o.grown yk).below bS;have xd:=yl.below bS;have xz:=Hn w5 (.cells (Na x P Q c1 O U c2) 28);have yj:=fun (w7:World) (i:Below w5.heap.size w5 w7)=>M.o.fresh l i
       have xb:=l.one;obtain ⟨W6,N⟩:∃W,W=w5.alloc (.cells (Na x P Q c1 O U c2) 28):=⟨_,rfl⟩;rw [←N] at bS K xd xz;have j:=Hh K;have yn:=Hh xd;have yz:=Hh yj;have yb:=Hh bS;have xx:=Hh xb;have xc:=Hh (Ai ye yd);have ug:=Hh N;clear K xd yj bS xb ye yd l yl yk NC
       try rw [←N]
       clear N;cases ok with
       | false=>
        have xg:Hid (∀y t,¬mI d k e r y t):=Hh fun y t ⟨p,ys,xn,D,_⟩=>by
         obtain ⟨n,i⟩:=xp.o p _ D;unfold CY at i;cases J:cB d ry with
         | none=>rw [J] at i;cases i
         | some z=>
          obtain ⟨V,z2⟩:=z;rw [J] at i;have:=(xc.o.2 V z2 ⟨J,qH i yu.o⟩).1;cases this
        have f1:=aE j.o.res;have c1:=aA j.o.res
        go_wp2
        refine aT (v:=.bool false) j.o.res results164 rfl rfl rfl ?_;exact jJ (T:=0) 0 false 0 ⟨#[]⟩ false yn.o j.o.gro xo (by omega) (by decide) (by decide) (fun y t J=>absurd J (xg.o y t))
       | true=>
        have c5:=aA j.o.nod;have cx:=aA xz;have b7:=(Br W6.heap.size W6).alloc (o:=.cells (Na x P Q c1 O U c2) 28) (Lr _);have B:=j.o.below b7;have x7:=yn.o.below b7;have Z:=yz.o _ (yb.o.trans (b7.mono yb.o.size));have xu:=Hn W6 (.cells (Na x P Q c1 O U c2) 28);have y3:Hid (∀q u,((Nc x P Q c1 O U c2):Vl)[q]?=some u→(W6.alloc (.cells (Na x P Q c1 O U c2) 28)).cell? ((⟨W6.heap.size,0,none⟩:Addr).add q)=some u):=Hh fun q u hq=>by
         have:=cT _ xu rfl q u hq;rw [Bs,Ca];exact this
        have y4:=Hh B.items.1;have xv:=B.lo.2.2.2;have f:=Hh B;have y0:=Hh x7;have yf:=Hh Z;clear B x7 Z xu b7
        go_wp2_with ((refine Ay _ rfl (.tmp 62) (.tmp 64) 26 rfl C 28 ip (.agg Z6) 6 88 z6 z9.o ud xh xs rfl (by decide) (.slice ai A.length ci) A.length _ rfl y4.o ⟨W6.heap.size,0,none⟩ 1 1 (Nc x P Q c1 O U c2) rfl rfl y3.o xx.o (by decide) (by unfold maxLen;omega) (by omega) xv _ rfl ?_);intro g8 c8 W8 E a Y zo;(have H:=(f.o.apart (.inr rfl) a nb f.o.lo.2.2.1).trans f.o.nod);(have zd:=aE H);(have y1:=aA H);(have s:=Hh (Ai E (Ai a Y)));clear E a Y H)
        have X:=f.o.item s.o.1 s.o.2.1 (fV s.o.2.2) yf.o;have x9:=(y0.o.row s.o.2.1 (fun b i=>by have:=(f.o.items.1.lt b i).1;have:=f.o.lo;omega)).kept (aV W8 nb 5 (.slice (some ⟨g8,0,none⟩) (A.length+1) c8)) (by have:=f.o.lo;omega)
        go_roundw
        case rel=>
         refine ⟨_,_,_,_,r',⟨x9,X,?_,?_,?_⟩,?_,?_⟩
         ·intro y hy
          rcases Bg.1 hy with hy | hy
          ·exact HI.o.fine y hy
          ·cases At.1 hy;exact xc.o.1
         ·rw [Lg];show A.length+1+r'.length≤r.length+min (A.length+1) 1;omega
         ·rw [Lg];show _≤A.length+1+1;omega
         ·intro p R D
          right
          refine ⟨by simp,?_⟩
          obtain ⟨n,i⟩:=xp.o p _ D;unfold CY at i;cases J:cB d ry with
          | none=>rw [J] at i;cases i
          | some z=>
           obtain ⟨V,z2⟩:=z;rw [J] at i;obtain ⟨-,e4,e5⟩:=xc.o.2 V z2 ⟨J,qH i yu.o⟩;subst e4 e5;exact ⟨n,by rw [show aG (A++[((Nc x P Q c1 O U c2),x)])=aG A++[x] by simp [aG]];exact i⟩
         ·rw [Lg];show _≤A.length+1;omega
        case measure=>
         rw [x9.rest,X.len,hm.o.1,hm.o.2,Lg]
         show r'.length+(1 - (A.length+1))<_
         omega
     ·have yy:(k == 5)=false:=by simpa using xf
      have M:=Hh xj;have yq:=Hh yt;have xp:Hid (∀p R,dE (cB d) (decide (k=5)) e p [] [] r=some R→∃n,CY (cB d) (decide (k=5)) e n ns (aG A) rz=some R):=Hh fun p R D=>by
       obtain ⟨n,i⟩:=xt p _ D;rw [Ar xf] at i ⊢;exact ⟨n,YG i⟩
      clear xt xj yt xf
      go_upto_region 10 with fail
      have zz:=zu;have uw:=zw;generalize uv:wz=wy at M yq ⊢;generalize rz=ry at *;clear uv;have NC:=Hh (z8.o g mw mc ry wy yq.o (by omega))
      have ue:=M.o.viForm
      go_upto_region 11 with ((with_reducible refine (NC.o).mono ?_);rintro e3 w5 ⟨cs,x,ok,r',rfl,l,yl,yk,up,ye,yd⟩;go_loud ((obtain ⟨P,Q,c1,O,U,c2,y5⟩:=l.slices);subst y5))
      have bS:=(Br w5.heap.size w5).alloc (o:=.cells (Na x P Q c1 O U c2) 28) (Lr _);have K:=(M.o.grown yk).below bS;have xd:=yl.below bS;have xz:=Hn w5 (.cells (Na x P Q c1 O U c2) 28);have yj:=fun (w7:World) (i:Below w5.heap.size w5 w7)=>M.o.fresh l i
      have xb:=l.one;obtain ⟨W6,N⟩:∃W,W=w5.alloc (.cells (Na x P Q c1 O U c2) 28):=⟨_,rfl⟩;rw [←N] at bS K xd xz;have j:=Hh K;have yn:=Hh xd;have yz:=Hh yj;have yb:=Hh bS;have xx:=Hh xb;have xc:=Hh (Ai ye yd);have ug:=Hh N;clear K xd yj bS xb ye yd l yl yk NC
      try rw [←N]
      clear N;cases ok with
      | false=>
       have xg:Hid (∀y t,¬mI d k e r y t):=Hh fun y t ⟨p,ys,xn,D,_⟩=>by
        obtain ⟨n,i⟩:=xp.o p _ D;unfold CY at i;cases J:cB d ry with
        | none=>rw [J] at i;cases i
        | some z=>
         obtain ⟨V,z2⟩:=z;rw [J] at i;have:=(xc.o.2 V z2 ⟨J,qH i yu.o⟩).1;cases this
       have f1:=aE j.o.res;have c1:=aA j.o.res
       go_wp2
       refine aT (v:=.bool false) j.o.res results164 rfl rfl rfl ?_;exact jJ (T:=0) 0 false 0 ⟨#[]⟩ false yn.o j.o.gro xo (by omega) (by decide) (by decide) (fun y t J=>absurd J (xg.o y t))
      | true=>
       have c5:=aA j.o.nod;have cx:=aA xz;have b7:=(Br W6.heap.size W6).alloc (o:=.cells (Na x P Q c1 O U c2) 28) (Lr _);have B:=j.o.below b7;have x7:=yn.o.below b7;have Z:=yz.o _ (yb.o.trans (b7.mono yb.o.size));have xu:=Hn W6 (.cells (Na x P Q c1 O U c2) 28);have y3:Hid (∀q u,((Nc x P Q c1 O U c2):Vl)[q]?=some u→(W6.alloc (.cells (Na x P Q c1 O U c2) 28)).cell? ((⟨W6.heap.size,0,none⟩:Addr).add q)=some u):=Hh fun q u hq=>by
        have:=cT _ xu rfl q u hq;rw [Bs,Ca];exact this
       have y4:=Hh B.items.1;have xv:=B.lo.2.2.2;have f:=Hh B;have y0:=Hh x7;have yf:=Hh Z;clear B x7 Z xu b7
       go_wp2_with ((refine Ay _ rfl (.tmp 62) (.tmp 64) 26 rfl C 28 ip (.agg Z6) 6 88 z6 z9.o ud xh xs rfl (by decide) (.slice ai A.length ci) A.length _ rfl y4.o ⟨W6.heap.size,0,none⟩ 1 1 (Nc x P Q c1 O U c2) rfl rfl y3.o xx.o (by decide) (by unfold maxLen;omega) (by omega) xv _ rfl ?_);intro g8 c8 W8 E a Y zo;(have H:=(f.o.apart (.inr rfl) a nb f.o.lo.2.2.1).trans f.o.nod);(have zd:=aE H);(have y1:=aA H);(have s:=Hh (Ai E (Ai a Y)));clear E a Y H)
       have X:=f.o.item s.o.1 s.o.2.1 (fV s.o.2.2) yf.o;have x9:=(y0.o.row s.o.2.1 (fun b i=>by have:=(f.o.items.1.lt b i).1;have:=f.o.lo;omega)).kept (aV W8 nb 5 (.slice (some ⟨g8,0,none⟩) (A.length+1) c8)) (by have:=f.o.lo;omega)
       go_roundw
       case rel=>
        refine ⟨_,_,_,_,r',⟨x9,X,?_,?_,?_⟩,?_,?_⟩
        ·intro y hy
         rcases Bg.1 hy with hy | hy
         ·exact HI.o.fine y hy
         ·cases At.1 hy;exact xc.o.1
        ·rw [Lg];show A.length+1+r'.length≤r.length+min (A.length+1) 1;omega
        ·rw [Lg];show _≤A.length+1+1;omega
        ·intro p R D
         right
         refine ⟨by simp,?_⟩
         obtain ⟨n,i⟩:=xp.o p _ D;unfold CY at i;cases J:cB d ry with
         | none=>rw [J] at i;cases i
         | some z=>
          obtain ⟨V,z2⟩:=z;rw [J] at i;obtain ⟨-,e4,e5⟩:=xc.o.2 V z2 ⟨J,qH i yu.o⟩;subst e4 e5;exact ⟨n,by rw [show aG (A++[((Nc x P Q c1 O U c2),x)])=aG A++[x] by simp [aG]];exact i⟩
        ·rw [Lg];show _≤A.length+1;omega
       case measure=>
        rw [x9.rest,X.len,hm.o.1,hm.o.2,Lg]
        show r'.length+(1 - (A.length+1))<_
        omega
end Go.Proofs.YtncdpanfefnjlaaGreatDoor