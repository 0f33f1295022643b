import Derived.Test.YtncdpanfefnjlaaGreatDoorJwrd
set_option linter.unusedVariables false
set_option linter.unusedSimpArgs false
set_option maxHeartbeats 1600000
set_option maxRecDepth 100000
namespace Go.Proofs.YtncdpanfefnjlaaGreatDoor
open Go.Proofs.Tryz
open Go Go.ChangeShapes Go.WideShapes Go.ChangeAt Go.RowKit
theorem twb:168 ≠ 5:=by decide
abbrev sC:=WSt 168 5
def aFm (B g m:Nat) (l':Ub) (w:World) (e:Ending) (w':World):Prop:=e=.returned (.tuple #[])∧sC B w' g m l'∧WFr 5 g w w'
theorem fH (s:Bt) {B g m:Nat} {l:Ub} (w:World) (h:sC B w g m l) (Q:l.length+s.size≤1000000) (H:B≤w.heap.size):Calls prog 160 #[.pointer (some ⟨g,0,none⟩),.string s] w (aFm B g m (l++s.data.toList) w):=by
 obtain ⟨G,f,y,t,u⟩:=Ea nA;have r:=underlying69;have e:=underlying9;obtain ⟨v,n,p,L,E⟩:=h;have R:w.cell? ⟨g,0,none⟩=some v:=aL n rfl;obtain ⟨D,z,rfl,-,-⟩:=dM p;have x:=Hh f;have S:=Hh n;have M:=Hh p;have i:s.data.toList.length=s.size:=by rw [Ah];rfl
 have I:=Hh (fun (b:World) (A:Value) (K:b.ownsRow B 5 1 A (l.length+s.size) (aS l++Lib.strCells s)) (J:w.grownBy b (Value.slice D l.length z).ownBlock)=>yP (l':=l++s.data.toList) n p L E twb (by rw [Lg,i,cF];exact K) J)
 clear n p f i
 go_enter func160,ntmps160
 go_wp2_with (at_builtin;refine Lib.wpList_append_own_string _ rfl (.tmp 8) (.tmp 9) 69 9 rfl B 5 G r e x.o y t u _ l.length _ rfl M.o s rfl (by unfold maxLen;omega) (by omega) H ?_;intro A b a d c;obtain ⟨N,C,rfl,-,-⟩:=dM a;obtain ⟨q,j,k⟩:=I.o b _ a d;(have F:=Hh (Ai j k));(have O:b.cell? ⟨g,0,none⟩=some _:=aL q rfl);(have P:b.frozen? ⟨g,0,none⟩=false:=gZ q);clear j k a d c q)
 go_end0
 exact ⟨rfl,F.o.1,F.o.2⟩
theorem yX {B g m:Nat} {l:Ub} (w:World) (h:sC B w g m l):Calls prog 141 #[.pointer (some ⟨g,0,none⟩)] w fun e w'=>e=.returned (.bool (decide (65536<l.length)))∧w=w':=by
 obtain ⟨v,b,c,-,-⟩:=h;have j:w.cell? ⟨g,0,none⟩=some v:=aL b rfl;obtain ⟨i,f,rfl,-,-⟩:=dM c;clear b c
 by_cases d:65536<l.length
 ·have a:(65536:Int)<(l.length:Int):=by omega
  rw [Ap d]
  go_enter func141,ntmps141
  go_wp2
  go_ret
  exact ⟨rfl,rfl⟩
 ·have a:¬ (65536:Int)<(l.length:Int):=by omega
  rw [Ar d]
  go_enter func141,ntmps141
  go_wp2
  go_ret
  exact ⟨by first | rfl | (refine Ad (fun q=>Ending.returned (Value.bool q)) ?_;simp;omega),rfl⟩
theorem SK {c l:UInt8} (h:kV (c.toNat:Int)=some l):eN c=[92,l]:=by
 have:∀n:Fin 256,∀l,kV ((UInt8.ofNat n.1).toNat:Int)=some l→eN (UInt8.ofNat n.1)=[92,l]:=by
  intro n l h;have:∀n:Fin 256,(kV ((UInt8.ofNat n.1).toNat:Int)).isSome=true→eN (UInt8.ofNat n.1)=[92,(kV ((UInt8.ofNat n.1).toNat:Int)).getD 0]:=by decide +kernel
  rw [this n (by rw [h];rfl),h];rfl
 have a:=this ⟨c.toNat,c.toNat_lt⟩ l;rw [show UInt8.ofNat c.toNat=c from Dp] at a
 exact a h
theorem MM {x:Nat} (h:kV (x:Int)=none):x ≠ 34∧x ≠ 92∧x ≠ 8∧x ≠ 9∧x ≠ 10∧x ≠ 12∧x ≠ 13:=by
 refine ⟨?_,?_,?_,?_,?_,?_,?_⟩ <;> (intro e;subst e;revert h;decide)
theorem aEv (c:UInt8) {B g m:Nat} {l:Ub} (w:World) (h:sC B w g m l) (hL:eQ w m) (hs:l.length+6≤1000000) (hB:B≤w.heap.size):Calls prog 188 #[.pointer (some ⟨g,0,none⟩),.int .u8 (c.toNat:Int)] w (aFm B g m (l++eN c) w):=by
 obtain ⟨ib,C,xk,xc,xf⟩:=Ea nA;have xg:=underlying69;have xt:c.toNat<256:=c.toNat_lt;have a:=hL.look (c:=(c.toNat:Int)) (by omega) (by omega)
 have W:=Hh h;obtain ⟨v,Z,h2,h3,h4⟩:=h;have c1:w.cell? ⟨g,1,none⟩=some (.map (some m)):=aL Z rfl;cases r:kV (c.toNat:Int) with
 | some q=>
  have t:=SK r;rw [r] at a;have P:=Hh (fH ((⟨#[92]⟩:Bt)++⟨#[q]⟩) w W.o (by rw [Cq];show l.length+(1+1)≤_;omega) hB)
  have xz:¬9223372036854775807<1+1:=by omega
  rw [t,show [92,q]=((⟨#[92]⟩:Bt)++⟨#[q]⟩).data.toList by simp [Cp]]
  clear Z h2 C r t hL
  go_enter func188,ntmps188
  go_wp2_with (go_at_call 160;(with_reducible refine (P.o).mono ?_);rintro e w1 ⟨rfl,xv⟩)
  go_end0
  exact ⟨rfl,xv⟩
 | none=>
  rw [r] at a;obtain ⟨xn,xr,n8,n9,xo,xq,xw⟩:=MM r;have c0:w.cell? ⟨g,0,none⟩=some v:=aL Z rfl
  by_cases hx:c.toNat<32
  ·have xh:(c.toNat:Int)<32:=by omega
   have t:=aJd (c:=c) rfl hx n8 n9 xo xq xw;have P:=Hh (fH ⟨#[92,117,48,48]⟩ w W.o (by show l.length+4≤_;omega) hB)
   obtain ⟨x,xe⟩:∃x,x=c.toNat:=⟨_,rfl⟩;rw [←xe] at hx xh t a r ⊢;have yb:(0:Int)≤(x:Int):=by omega
   have ya:IntKind.i64.wrap (x:Int)=(x:Int):=Cc _ (by omega)
   obtain ⟨p,hp⟩:∃p,p=x / 16:=⟨_,rfl⟩;obtain ⟨q,hq⟩:∃q,q=x % 16:=⟨_,rfl⟩;have w1:IntKind.i64.wrap (p:Int)=(p:Int):=Cc _ (by omega)
   have w2:(x:Int).tmod 16=(q:Int):=by rw [Int.tmod_eq_emod_of_nonneg (by omega)];omega
   have w3:(x:Int) / 16=(p:Int):=by omega
   have x9:(p:Int)<16:=by omega
   have yc:(0:Int)≤(p:Int):=by omega
   have x5:(q:Int)<16:=by omega
   have x6:(0:Int)≤(q:Int):=by omega
   have xs:p<16:=by omega
   have xp:q<16:=by omega
   have g1:=IL p xs;have g2:=IL q xp;rw [←hp,←hq] at t;obtain ⟨u,hu⟩:∃u,u=lI (UInt8.ofNat p):=⟨_,rfl⟩;obtain ⟨y,hy⟩:∃y,y=lI (UInt8.ofNat q):=⟨_,rfl⟩;rw [←hu] at g1 t;rw [←hy] at g2 t;have HE:=Hh t;have xa:=Hh C;clear hu hy hp hq r t hL C Z h2 xe c0
   go_enter func188,ntmps188
   go_upto_region 5 with ((with_reducible refine (P.o).mono ?_);rintro e H ⟨rfl,xb,X⟩)
   obtain ⟨v5,k1,k2,-,-⟩:=id xb;obtain ⟨L,f,rfl,-,-⟩:=dM k2;have xi:(l++[92,117,48,48]).length=l.length+4:=by simp
   obtain ⟨b,k⟩:∃b,b=l++[92,117,48,48]:=⟨_,rfl⟩;have xl:H.ownsRow B 5 1 (.slice L b.length f) b.length (aS b):=by rw [k];exact k2
   have S:H.heap[g]?=some (.cells #[.slice L b.length f,.map (some m)] 168 (0,0)):=by rw [k];exact k1
   have N:b.length=l.length+4:=by rw [k];exact xi
   have cc:H.drew.cell? ⟨g,0,none⟩=some (.slice L b.length f):=aL S rfl;have xy:B≤H.heap.size:=Af hB X.1.size;have xu:Hid (b++[u,y]=l++eN c):=Hh (by rw [HE.o,k];simp)
   have K1:=Hh S;have K2:=Hh xl;have FR:=Hh X;have Q:=Hh N;clear k1 k2 S xl xi k N xb X c1 a;refine aI (fun w'=>w'.cell? ⟨g,0,none⟩=some (.slice L b.length f)) [4] (.take 0 (.take 1 (.take 2 (.take 3 (.take 4 (.take 5 (.take 6 (.take 7 (.take 8 (.take 9 (.take 10 (.take 11 (.take 12 (.ask 13 true (.ask 14 false (.ask 15 false (.ask 16 false (.ask 17 false .stop .stop) .stop) .stop) .stop) .stop)))))))))))))) (by kernel_rfl) (by kernel_rfl) (fun _ d _ _ _ h=>by cases d <;> exact h) cc ?_
   iterate 4 (refine aF _ ?_ rfl rfl ?_ (fun K M=>?_);rotate_left;(intro w0;go_simp;(try rfl));(go_simp;refine M _ ?_;clear M K))
   refine aM _ ?_ rfl rfl (by decide) ?_ (fun K M=>?_);rotate_left;(intro w0 x8;go_simp;(try rfl));(go_simp;refine M _ ?_;clear M K)
   iterate 8 (refine aF _ ?_ rfl rfl ?_ (fun K M=>?_);rotate_left;(intro w0;go_simp;(try rfl));(go_simp;refine M _ ?_;clear M K))
   have bd:Below H.heap.size H H.drew:=(Br _ _).drew;have I:H.drew.heap[g]?=_:=K1.o;have U:H.drew.ownsRow B 5 1 _ b.length (aS b):=K2.o;have xd:B≤H.drew.heap.size:=xy;generalize H.drew=O at bd I U xd cc ⊢;have bA:=(Br O.heap.size O).alloc (o:=.cells #[.int .u8 (u.toNat:Int),.int .u8 (y.toNat:Int)] 5) (Lr _);have n:(O.alloc (.cells #[.int .u8 (u.toNat:Int),.int .u8 (y.toNat:Int)] 5)).heap[g]?=_:=(bA.block g (Aa I)).trans I;have j:=U.alloc (.cells #[.int .u8 (u.toNat:Int),.int .u8 (y.toNat:Int)] 5);have CN:=Hh (cX O #[.int .u8 (u.toNat:Int),.int .u8 (y.toNat:Int)] 5 [.int .u8 (u.toNat:Int),.int .u8 (y.toNat:Int)] rfl);have J:B≤(O.alloc (.cells #[.int .u8 (u.toNat:Int),.int .u8 (y.toNat:Int)] 5)).heap.size:=Af xd bA.size;have xj:(O.alloc (.cells #[.int .u8 (u.toNat:Int),.int .u8 (y.toNat:Int)] 5)).cell? ⟨g,0,none⟩=some (.slice L b.length f):=aL n rfl;have Y:=bd.trans (bA.mono bd.size);clear I U bA cc bd;refine aH _ rfl trivial ?_
   go_wp2_with fail
   generalize O.alloc (.cells #[.int .u8 (u.toNat:Int),.int .u8 (y.toNat:Int)] 5)=wa at n j CN J xj Y ⊢;refine Seg.mk ⟨xj,?_⟩;have ST:=Hh (fun (s:World) (v':Value) (ho:s.ownsRow B 5 1 v' (b.length+2) (aS b++[.int .u8 (u.toNat:Int),.int .u8 (y.toNat:Int)])) (hg:wa.grownBy s (Value.slice L b.length f).ownBlock)=>yP (l':=b++[u,y]) n j h3 h4 twb (by rw [Lg,cF];exact ho) hg)
   have V:=Hh j;have xm:=Hh Y;clear n j Y;refine aB _ rfl trivial ?_
   go_wp2_with (refine Ay _ rfl (.tmp 28) (.tmp 37) 69 rfl B 5 ib (.int .u8 0) 1 1 xg xa.o xk xc xf rfl (by decide) _ b.length _ rfl V.o ⟨O.heap.size,0,none⟩ 2 2 [.int .u8 (u.toNat:Int),.int .u8 (y.toNat:Int)] rfl rfl CN.o (by intro z r;simp only [Bl,Bn,Dl] at r;rcases r with rfl | rfl <;> rfl) (by decide) (by have:=Q.o;unfold maxLen;omega) (by have:=Q.o;omega) J _ rfl ?_;intro gg xx s i G T D)
   obtain ⟨R,E,A⟩:=ST.o s _ i G;have F:=Hh (Ai E A);have c8:s.cell? ⟨g,0,none⟩=some _:=aL R rfl;have f8:s.frozen? ⟨g,0,none⟩=false:=gZ R;clear E A i G T D R;refine Seg.mk ?_;refine aB _ rfl trivial ?_
   go_wp2_with fail
   refine Seg.mk ?_;refine aB _ rfl trivial ?_
   go_wp2_with fail
   refine Seg.mk ?_;refine bQ _ rfl trivial ?_
   go_wp2
   go_end0
   refine ⟨rfl,?_,FR.o.trans ((WFr.of_below xm.o (by omega)).trans F.o.2)⟩
   have:=F.o.1;rw [xu.o] at this;exact this
  ·have xh:¬ (c.toNat:Int)<32:=by omega
   have t:=aJc (c:=c) rfl (by omega) xn xr
   obtain ⟨L,f,rfl,-,-⟩:=dM h2;have bA:=(Br w.heap.size w).alloc (o:=.cells #[.int .u8 (c.toNat:Int)] 5) (Lr _);have n:(w.alloc (.cells #[.int .u8 (c.toNat:Int)] 5)).heap[g]?=_:=(bA.block g (Aa Z)).trans Z;have j:=h2.alloc (.cells #[.int .u8 (c.toNat:Int)] 5);have ST:=Hh (fun (s:World) (v':Value) (ho:s.ownsRow B 5 1 v' (l.length+1) (aS l++[.int .u8 (c.toNat:Int)])) (hg:(w.alloc (.cells #[.int .u8 (c.toNat:Int)] 5)).grownBy s (Value.slice L l.length f).ownBlock)=>yP (l':=l++[c]) n j h3 h4 twb (by rw [Lg,cF];exact ho) hg)
   have V:=Hh j;have BA:=Hh bA;have HE:=Hh t;have xa:=Hh C;have J:B≤(w.alloc (.cells #[.int .u8 (c.toNat:Int)] 5)).heap.size:=Af hB bA.size;have x7:=W.o.lt;clear r t hL C Z h2 n j bA
   go_enter func188,ntmps188
   go_wp2_with (refine Ay _ rfl (.tmp 45) (.tmp 47) 69 rfl B 5 ib (.int .u8 0) 1 1 xg xa.o xk xc xf rfl (by decide) _ l.length _ rfl V.o ⟨w.heap.size,0,none⟩ 1 1 [.int .u8 (c.toNat:Int)] rfl rfl (cX w #[.int .u8 (c.toNat:Int)] 5 [.int .u8 (c.toNat:Int)] rfl) (by intro z r;simp only [Bl,Bn,Dl] at r;rcases r with rfl;rfl) (by decide) (by unfold maxLen;omega) (by omega) J _ rfl ?_;intro gg xx s i G T D;obtain ⟨R,E,A⟩:=ST.o s _ i G;(have F:=Hh (Ai E A));(have c8:s.cell? ⟨g,0,none⟩=some _:=aL R rfl);(have f8:s.frozen? ⟨g,0,none⟩=false:=gZ R);clear E A i G T D R)
   go_end0
   refine ⟨rfl,?_,(WFr.of_below BA.o (by omega)).trans F.o.2⟩
   rw [HE.o];exact F.o.1
theorem zZ (s:Bt) {B g m:Nat} {l:Ub} (w:World) (h:sC B w g m l) (A:eQ w m) (L:l.length+6 * s.size+2≤1000000) (D:B≤w.heap.size):Calls prog 161 #[.pointer (some ⟨g,0,none⟩),.string s] w (aFm B g m (l++bE s.data.toList) w):=by
 have q:s.data.toList.length=s.size:=by rw [Ah];rfl
 have n:=Hh q;have F:s.size≤1000000:=by omega
 have J:=Hh (fH ⟨#[34]⟩ w h (by show l.length+1≤_;omega) D)
 have v:=h.le;have HL:=Hh A;have z:=h.lt;clear h q A
 go_enter func161,ntmps161
 go_upto_region 2 with ((with_reducible refine (J.o).mono ?_);rintro e K ⟨rfl,b,a⟩)
 go_loopw [9] (fun i wr=>∃j:Nat,i=Iz j∧j≤s.size∧sC B wr g m (l++34::(s.data.toList.take j).flatMap eN)∧WFr 5 g w wr) (fun i _=>s.size - (intOf i).toNat)
 case atStart=>exact ⟨0,rfl,Av _,b,a⟩
 case round=>
  clear b a;obtain ⟨j,rfl,M,b,a⟩:=hrel;have p:B≤wr.heap.size:=Af D a.1.size;have x:=Hh (HL.o.same (a.1.block m v))
  by_cases G:j<s.size
  ·have t:(j:Int)<(s.size:Int):=by omega
   have H:(0:Int)≤(j:Int):=by omega
   have r:s.data.toList[j]?=some s[j]:=by rw [Ac (by have:=n.o;omega)];rfl
   have u:(l++34::(s.data.toList.take j).flatMap eN).length+6≤1000000:=by
    rw [Lg,Ag];have:=mC (s.data.toList.take j);rw [Bc] at this;omega
   have C:=Hh (fun c=>aEv c wr b x.o u p)
   have k:=Hh a;clear b a
   go_upto_region 4 with fail
   have y:=Hh r;clear r
   go_wp2_with (go_at_call 188;(with_reducible refine (C.o _).mono ?_);rintro e E ⟨rfl,f,d⟩)
   go_roundw
   case rel=>
    refine ⟨j+1,by go_num,by omega,?_,k.o.trans d⟩
    have e:l++34::(s.data.toList.take (j+1)).flatMap eN=(l++34::(s.data.toList.take j).flatMap eN)++eN s[j]:=by
     rw [Bf,y.o,List.flatMap_append];simp
    rw [e];exact f
   case measure=>simp [intOf];omega
  ·have t:¬ (j:Int)<(s.size:Int):=by omega
   rw [Ak (by have:=n.o;omega)] at b
   have I:=Hh (fH ⟨#[34]⟩ wr b (by
    show (l++34::s.data.toList.flatMap eN).length+1≤_
    rw [Lg,Ag];have:=mC s.data.toList;have:=n.o;omega) p)
   have k:=Hh a;clear b a
   go_wp2_with (go_at_call 160;(with_reducible refine (I.o).mono ?_);rintro e E ⟨rfl,f,d⟩)
   go_end0
   refine ⟨rfl,?_,k.o.trans d⟩;have e:l++bE s.data.toList=(l++34::s.data.toList.flatMap eN)++[34]:=by unfold bE;simp
   rw [e];exact f
def bA (l:Ub):Bt:=⟨l.toArray⟩
theorem nY (l:Ub):(bA l).data.toList=l:=by simp [bA]
theorem jP (l:Ub):(bA l).size=l.length:=by simp [bA,ByteArray.size]
theorem aFh (s:Bt):bA s.data.toList=s:=by cases s;simp [bA]
theorem CM (l:Ub) (a b:Nat):(bA l).extract a b=bA ((l.drop a).take (b - a)):=by
 apply Cr
 apply Cg.1
 rw [ByteArray.data_extract,Array.toList_extract];simp [bA,List.extract]
theorem VG (l:Ub) (n:Nat):(bA l).extract 0 n=bA (l.take n):=by rw [CM];simp
theorem VF (l:Ub) (n:Nat):(bA l).extract n (bA l).size=bA (l.drop n):=by
 rw [CM,jP,Ak (by simp)]
def kN (a:Ub) (r:Ub):Ub:=r.takeWhile fun b => !a.contains b
def gC (a:Ub) (r:Ub):Ub:=r.dropWhile fun b => !a.contains b
theorem WJ (a r:Ub):kN a r++gC a r=r:=List.takeWhile_append_dropWhile
theorem rG {a:Ub} {p:UInt8→Bool} (f:∀b,p b = !a.contains b):∀ (r:Ub),(Lib.indexAny r a=-1∧r.takeWhile p=r∧r.dropWhile p=[])∨∃k:Nat,Lib.indexAny r a=k∧k<r.length∧r.takeWhile p=r.take k∧r.dropWhile p=r.drop k
 | []=>.inl ⟨rfl,rfl,rfl⟩
 | b::l=>by
  rw [Lib.indexAny];cases hb:a.contains b with
  | true=>
   have h:p b=false:=by rw [f,hb];rfl
   exact .inr ⟨0,by simp,by simp,by rw [List.takeWhile_cons,h];simp,by rw [List.dropWhile_cons,h];simp⟩
  | false=>
   have h:p b=true:=by rw [f,hb];rfl
   rw [List.takeWhile_cons,List.dropWhile_cons,h];rcases rG f l with ⟨c,e,d⟩ | ⟨k,c,e,d,g⟩
   ·exact .inl ⟨by simp [c],by simp [e],by simp [d]⟩
   ·right
    have:((k:Int) == -1)=false:=by simp
    refine ⟨k+1,?_,by simpa using e,by simp [d],by simp [g]⟩
    rw [c,this];simp
theorem II (r a:Ub):(Lib.indexAny r a=-1∧kN a r=r∧gC a r=[])∨∃k:Nat,Lib.indexAny r a=k∧k<r.length∧kN a r=r.take k∧gC a r=r.drop k:=rG (fun _=>rfl) r
theorem pY.keep {w w':World} {b:Nat} (h:pY w) (c:w.grownBy w' (some b)) (g:6 ≠ b) (j:7 ≠ b):pY w':=by
 obtain ⟨⟨t,p,d⟩,⟨i,k,f⟩⟩:=h;refine ⟨⟨t,p,?_⟩,⟨i,k,?_⟩⟩
 ·have a:6<w.heap.size:=cD d
  rw [jA (c.block 6 a (by intro e;exact g (Ab e)))];exact d
 ·have a:7<w.heap.size:=cD f
  rw [jA (c.block 7 a (by intro e;exact j (Ab e)))];exact f
def PrS (w:World) (g a b:Nat) (r:Ub):Prop:=w.heap[g]?=some (.cells #[.string (bA r),.map (some a),.map (some b)] 177 (0,0))∧uC w a∧uN w b∧(a<g∧b<g)∧pY w∧6<g∧7<g
theorem PrS.lt {w:World} {g a b:Nat} {r:Ub} (h:PrS w g a b r):g<w.heap.size:=Aa h.1
theorem PrS.below {w w':World} {g c d:Nat} {r:Ub} (h:PrS w g c d r) (a:Below w.heap.size w w'):PrS w' g c d r:=by
 obtain ⟨b,f,e,k,i,j⟩:=h;exact ⟨(a.block g (Aa b)).trans b,f.same (a.block _ f.lt),e.same (a.block _ e.lt),k,i.below a,j⟩
theorem PrS.kept {w w':World} {g c d b:Nat} {r:Ub} (h:PrS w g c d r) (a:w.grownBy w' (some b)) (p:g<b):PrS w' g c d r:=by
 obtain ⟨l,i,f,⟨n,j⟩,m,o,k⟩:=h;exact ⟨cP a (by omega) l,i.same (a.block _ i.lt (by intro e;have:=Ab e;omega)),f.same (a.block _ f.lt (by intro e;have:=Ab e;omega)),⟨n,j⟩,m.keep a (by omega) (by omega),o,k⟩
theorem PrS.set {w:World} {g b c:Nat} {r:Ub} (h:PrS w g b c r) (a:Ub):PrS (w.setCell ⟨g,0,none⟩ (.string (bA a))) g b c a∧w.grownBy (w.setCell ⟨g,0,none⟩ (.string (bA a))) (some g):=by
 obtain ⟨i,n,m,⟨o,e⟩,l,p,f⟩:=h;have k:=dX i (j:=0) (.string (bA a));have d:=aV w g 0 (.string (bA a));refine ⟨⟨by simpa using k,n.same (heap_setCell_other w ⟨g,0,none⟩ _ _ (by show b ≠ g;omega)),m.same (heap_setCell_other w ⟨g,0,none⟩ _ _ (by show c ≠ g;omega)),⟨o,e⟩,l.keep d (by omega) (by omega),p,f⟩,d⟩
def fG (g a b:Nat) (w:World) (v:Value) (c:Ub) (e:Ending) (w':World):Prop:=e=.returned v∧PrS w' g a b c∧w.grownBy w' (some g)
theorem dO (p:Bt) {g d f:Nat} {r:Ub} (w:World) (h:PrS w g d f r):Calls prog 163 #[.pointer (some ⟨g,0,none⟩),.string p] w (fG g d f w (.bool (Lib.hasPrefix r p.data.toList)) (Lib.trimPrefix r p.data.toList)):=by
 have k:w.cell? ⟨g,0,none⟩=some (.string (bA r)):=aL h.1 rfl;have i:w.frozen? ⟨g,0,none⟩=false:=gZ h.1;have c:=aEs (bA r) p w;rw [nY] at c;have a:=Hh (h.set (Lib.trimPrefix r p.data.toList));have C:Hid (Calls prog 189 #[.string (bA r),.string p] w fun e w'=>e=.returned (.tuple #[.string (bA (Lib.trimPrefix r p.data.toList)),.bool (Lib.hasPrefix r p.data.toList)])∧w=w'):=c
 clear c h;generalize Lib.trimPrefix r p.data.toList=l at C a ⊢;generalize Lib.hasPrefix r p.data.toList=b at C ⊢
 go_enter func163,ntmps163
 go_wp2_with (go_at_call 189;(with_reducible refine (C.o).mono ?_);rintro e j ⟨rfl,rfl⟩)
 go_ret
 exact ⟨rfl,a.o.1,a.o.2⟩
theorem uT (n:Nat) {g e f:Nat} {r:Ub} (w:World) (h:PrS w g e f r) (t:n≤1000000) (y:r.length≤1000000):Calls prog 205 #[.pointer (some ⟨g,0,none⟩),Iz (n:Int)] w (fG g e f w (.string (bA (r.take n))) (r.drop n)):=by
 have z:w.cell? ⟨g,0,none⟩=some (.string (bA r)):=aL h.1 rfl;have u:w.frozen? ⟨g,0,none⟩=false:=gZ h.1;have c:=jP r
 by_cases q:n≤r.length
 ·have v:(n:Int)≤((bA r).size:Int):=by omega
  have s:(0:Int)≤(n:Int):=by omega
  have k:min (n:Int) ((bA r).size:Int)=(n:Int):=by omega
  have p:=VG r n;have d:=VF r n;have a:=Hh (h.set (r.drop n));clear c q h
  go_enter func205,ntmps205
  go_wp2
  go_ret
  exact ⟨rfl,a.o.1,a.o.2⟩
 ·obtain ⟨m,b⟩:∃m,m=(bA r).size:=⟨_,rfl⟩
  have i:r.take n=r.take m:=by rw [b,c,Ak (by omega),Ak (Lr _)]
  have j:r.drop n=r.drop m:=by rw [b,c,List.drop_eq_nil_of_le (by omega),List.drop_eq_nil_of_le (Lr _)]
  have p:=VG r m;have d:=VF r m;rw [←b] at d;have a:=Hh (h.set (r.drop m));have k:min (n:Int) (m:Int)=(m:Int):=by omega
  have x:(bA r).size=m:=b.symm;have s:(0:Int)≤(m:Int):=by omega
  have l:bA (r.drop m)=ByteArray.empty:=by rw [b,c,List.drop_eq_nil_of_le (Lr _)];rfl
  rw [l] at a;rw [i,j];clear c q h i j b
  go_enter func205,ntmps205
  go_wp2
  go_ret
  exact ⟨rfl,a.o.1,a.o.2⟩
theorem DY (a:Bt) {g v x:Nat} {r:Ub} (w:World) (h:PrS w g v x r) (y:2≤a.size) (d:a.size≤100) (H:r.length≤1000000) (C:∀ (j:Nat) b,a.data.toList[j]?=some b→b.toNat<128):Calls prog 191 #[.pointer (some ⟨g,0,none⟩),.string a] w (fG g v x w (.string (bA (kN a.data.toList r))) (gC a.data.toList r)):=by
 have E:w.cell? ⟨g,0,none⟩=some (.string (bA r)):=aL h.1 rfl;have L:=jP r;have X:=RU (bA r) a w y d (by omega) C
 rw [nY] at X;have D:=Hh h;have T:=Hh (fun (n:Nat) (i:World) (s:PrS i g v x r) (K:n≤r.length)=>uT n i s (by omega) H)
 rcases II r a.data.toList with ⟨q,p,m⟩ | ⟨k,q,p,m,F⟩
 ·rw [q] at X
  have B:=Hh X;rw [p,m];have l:=Hh (fun i s=>T.o r.length i s (Lr _))
  rw [Ak (Lr _),List.drop_eq_nil_of_le (Lr _)] at l;have I:=h.lt;clear X q p m h C y d T
  go_enter func191,ntmps191
  go_upto_region 2 with ((with_reducible refine (B.o).mono ?_);rintro e t ⟨rfl,c⟩)
  have f:=D.o.below c;have c1:t.cell? ⟨g,0,none⟩=some (.string (bA r)):=aL f.1 rfl;have u:=Hh (l.o t f);clear E f l
  go_wp2_with (go_at_call 205;(with_reducible refine (u.o).mono ?_);rintro e G ⟨rfl,A,z⟩)
  go_ret
  exact ⟨rfl,A,aJ (aK c (Lr _) _) z⟩
 ·rw [q] at X
  have B:=Hh X;rw [m,F];have l:=Hh (fun i s=>T.o k i s (Bw p))
  have J:¬ (k:Int)<0:=by omega
  clear X q p m F h C y d T
  go_enter func191,ntmps191
  go_upto_region 2 with ((with_reducible refine (B.o).mono ?_);rintro e t ⟨rfl,c⟩)
  have f:=D.o.below c;have u:=Hh (l.o t f);clear E f l
  go_wp2_with (go_at_call 205;(with_reducible refine (u.o).mono ?_);rintro e G ⟨rfl,A,z⟩)
  go_ret
  exact ⟨rfl,A,aJ (aK c (Lr _) _) z⟩
end Go.Proofs.YtncdpanfefnjlaaGreatDoor