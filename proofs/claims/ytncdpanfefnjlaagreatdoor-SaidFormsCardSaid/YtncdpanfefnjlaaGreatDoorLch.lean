import Derived.Test.YtncdpanfefnjlaaGreatDoorLcp
import Derived.Test.YtncdpanfefnjlaaGreatDoorLwt
import Derived.Test.YtncdpanfefnjlaaGreatDoorVpu
set_option linter.unusedVariables false
set_option linter.unusedSimpArgs false
set_option maxHeartbeats 6400000
set_option maxRecDepth 100000
namespace Go.Proofs.YtncdpanfefnjlaaGreatDoor
open Go.Proofs.Tryz
open Go Go.ChangeShapes Go.WideShapes Go.ChangeAt Go.RowKit
theorem aCq {d e:Nat} {n:ND} {ls:List Bt} {t:Bt} (h:cO 7 n) (l:ls.length≤900000):jZ (d+1) (bL n ls t):=by
 rw [fJ h];obtain ⟨r,e,k,c⟩:=kT ls (dR n);have g:(dR n).length≤256:=by unfold dR;rw [List.length_zip,h.len,Nat.min_self];exact h.most
 have i:(mN (dR n) ls (tN t)).length≤1000000:=by
  unfold mN;rw [Bk,e,Lg];omega
 refine ⟨by show (bU _).length≤_;unfold bU;rwa [Bk],by show (List.map _ _).length≤_;rwa [Bk],fun y f=>?_⟩
 obtain ⟨q,j,rfl⟩:=Bp.1 f;obtain ⟨b,a,rfl⟩:=Bp.1 j;unfold eL
 split
 ·exact tK t
 ·rename_i hn
  rw [e] at a;rcases Bg.1 a with a | a
  ·exact dS 7 d _ (h.items _ (List.of_mem_zip a).2)
  ·exact absurd (c b a).1 hn
theorem QJ {d:Nat} {S:Nat→Prop} (cs:Vl) (x:ND) (U:Value) (ls:List Bt) (t p:Bt) (k:Int) (l H I M:Nat) (w:World)
 (c4:w.heap[l]?=some (.cells cs.toArray 28 (0,0))) (X:w.cell? ⟨H,0,none⟩=some U) (N:w.cell? ⟨I,0,none⟩=some (.string p)) (R:w.cell? ⟨M,0,none⟩=some (Iz k))
 (h:aD (d+1) S w cs x) (J:∀b,S b→b<w.heap.size) (hx:cO 7 x) (Z:bH S w U ls) (D:ls.length≤900000) (T:1≤d) (ht:t.size≤100) (hk:wI k) (hF:aC 8 (bL x ls t)=true→(bL x ls t).kind=5→CU (bL x ls t)) (hT:uL w) (hD:DB w) :
 Calls prog 24 #[.string t,.pointer (some ⟨l,0,none⟩),.pointer (some ⟨H,0,none⟩),.pointer (some ⟨I,0,none⟩),.pointer (some ⟨M,0,none⟩)] w (JR (d+1) (bL x ls t) p k w):=by
 obtain ⟨a1,l1,c1,a2,l2,c2,rfl⟩:=h.slices;have b0:=(Br w.heap.size w).alloc (o:=.cells Z6 28) (Lr _);have k0:=Hn w (.cells Z6 28);have C:Hid (jZ (d+1) (bL x ls t)):=Hh (aCq (e:=0) hx D);have Y:=Hh (fun (i:World) (f:Below w.heap.size w i)=>GH _ x U ls t i (h.same fun b q=>f.block b (J b q)) (fun b q=>Ll (J b q) f.size) hx (Z.same fun b q=>f.block b (J b q)) (by omega) T ht)
 have FT:=Hh (fun (i:World) (W Q:Value) (f:Below w.heap.size w i) (hn:aD (d+1) (fun b=>b<i.heap.size) i [Iz 5,.bool false,Iz 0,.string ⟨#[]⟩,W,Q] (bL x ls t))=>aAw _ (bL x ls t) p k hk i hn (fun b q=>q) C.o T hF (hT.below f) (hD.below f))
 have CK:=Hh (fun (i:World) (f:Below w.heap.size w i)=>Ai (aA ((f.block _ (Aa c4)).trans c4)) (Ai ((f.cell (p:=⟨H,0,none⟩) (cD X)).trans X) (Ai ((f.cell (p:=⟨I,0,none⟩) (cD N)).trans N) ((f.cell (p:=⟨M,0,none⟩) (cD R)).trans R))))
 obtain ⟨al,cl,rfl,-⟩:=id Z;clear h J hx Z D T ht hF hT hD c4 X N R hk;generalize bL x ls t=y at C Y FT ⊢
 go_enter func24,ntmps24
 go_upto_region 1 with fail
 have c:=Hh b0;have A:=Hh k0;clear b0 k0;generalize w.alloc _=G at c A ⊢;have F:Below G.heap.size G G.drew:=(Br _ _).drew;refine aI (fun w'=>(w'.cell? ⟨l,0,none⟩=some (Iz x.kind)∧w'.cell? ⟨l,1,none⟩=some (.bool x.bool)∧w'.cell? ⟨l,2,none⟩=some (Iz x.num)∧w'.cell? ⟨l,3,none⟩=some (.string x.text)∧w'.cell? ⟨l,4,none⟩=some (.slice a1 l1 c1)∧w'.cell? ⟨l,5,none⟩=some (.slice a2 l2 c2))∧w'.cell? ⟨H,0,none⟩=some (.slice al ls.length cl)∧w'.cell? ⟨I,0,none⟩=some (.string p)∧w'.cell? ⟨M,0,none⟩=some (Iz k)) [0,1,4,5] (.take 0 (.take 1 (.take 2 (.take 4 (.take 5 (.ask 3 true (.ask 6 false (.take 7 (.take 8 (.take 9 (.ask 10 false (.take 11 (.take 12 .stop)) .stop)))) .stop) .stop)))))) (by kernel_rfl) (by kernel_rfl) (fun _ d _ _ _ h=>by cases d <;> exact h) (CK.o _ (c.o.trans (F.mono c.o.size))) ?_
 have g:=Hh (c.o.trans (F.mono c.o.size));have n:=Hh ((F.block _ (Aa A.o)).trans A.o);clear F;generalize G.drew=wd at g n ⊢
 iterate 2 (refine aM _ ?_ rfl rfl (by decide) ?_ (fun K a=>?_);rotate_left;(intro L O;go_simp;(try rfl));(go_simp;refine a _ ?_;clear a K))
 refine aF _ ?_ rfl rfl ?_ (fun K a=>?_);rotate_left;(intro L;go_simp;(try rfl));(go_simp;refine a _ ?_;clear a K)
 iterate 2 (refine aM _ ?_ rfl rfl (by decide) ?_ (fun K a=>?_);rotate_left;(intro L O;go_simp;(try rfl));(go_simp;refine a _ ?_;clear a K))
 refine aH _ rfl trivial ?_
 go_wp2_with (go_at_call 26;(with_reducible refine (Y.o _ g.o).mono ?_);rintro e w3 ⟨W,Q,rfl,B,s⟩)
 have j:=Hh (g.o.trans (s.mono g.o.size));have z:=Hh ((s.block _ (Aa n.o)).trans n.o);refine Seg.mk ⟨CK.o _ j.o,?_⟩;have F3:=Hh (FT.o w3 W Q j.o B);clear B s Y FT;refine aB _ rfl trivial ?_
 go_wp2_with (go_at_call 25;(with_reducible refine (F3.o).mono ?_);rintro e w4 ⟨cf,rfl,r,u⟩;obtain ⟨b1,m1,n1,b2,m2,n2,rfl⟩:=r.slices)
 have E:=Hh (j.o.trans (u.mono j.o.size));have m:=Hh ((u.block _ (Aa z.o)).trans z.o);have V:=Hh r;have hz:w.heap.size<w3.heap.size:=Aa z.o;have f6:=aE m.o;have N:=aA m.o;clear r u F3;refine Seg.mk ?_
 iterate 3 (refine aF _ ?_ rfl rfl ?_ (fun K a=>?_);rotate_left;(intro L;go_simp;(try rfl));(go_simp;refine a _ ?_;clear a K))
 refine aB _ rfl trivial ?_
 go_wp2
 refine Seg.mk ?_
 iterate 2 (refine aF _ ?_ rfl rfl ?_ (fun K a=>?_);rotate_left;(intro L;go_simp;(try rfl));(go_simp;refine a _ ?_;clear a K))
 unfold cQ
 go_wp2
 refine dB (v:=.string (mK y p k)) (v2:=Iz (gA y p k)) m.o results24 rfl rfl rfl rfl ?_;have P:=aO w4 w.heap.size (Iz (kD y p k).kind) (.bool (kD y p k).bool) (Iz (kD y p k).num) (.string (kD y p k).text) (.slice b1 m1 n1) (.slice b2 m2 n2);refine ⟨[Iz (kD y p k).kind,.bool (kD y p k).bool,Iz (kD y p k).num,.string (kD y p k).text,.slice b1 m1 n1,.slice b2 m2 n2],rfl,?_,E.o.grown P E.o.size fun b e=>by have:=Ab (show some w.heap.size=some b from e);omega⟩
 exact (V.o.same fun b q=>P.block b q.2 (by intro e;have:=Ab e;have:=q.1;omega)).mono fun b q=>⟨by have:=q.1;omega,Ll q.2 P.size⟩
def TP (d:Nat) (n:ND) (ls:List Bt) (p:Bt) (k:Int) (w:World) (e:Ending) (w':World):Prop:=∃a:Vl,e=.returned (.tuple #[.agg a.toArray,.string (spS n ls p k),Iz (spE n ls p k)])∧aD d (fun b=>w.heap.size≤b∧b<w'.heap.size) w' a (spX n ls p k)∧Below w.heap.size w w'
theorem qA {d:Nat} {n:ND} {ls:List Bt} {p:Bt} {k a:Int} {w w':World} {e:Ending} (b:spE n ls p k=a) (c:a ≠ 0) (h:e=.returned (.tuple #[.agg Z6,.string ⟨#[]⟩,Iz a])) (f:Below w.heap.size w w'):TP (d+1) n ls p k w e w':=by
 have g:spX n ls p k=nd0:=by unfold spX;rw [b,Ae c]
 have i:spS n ls p k=⟨#[]⟩:=by unfold spS;rw [b,Ae c]
 rw [TP,g,i,b];exact ⟨Y6,h,(cJ _ w' 0 false 0 ⟨#[]⟩ (by decide)).deeper (show 1≤d+1 by omega),f⟩
structure SpW (w:World) (cx:Array Value) (vl:Value) (p:Bt) (k:Int) (wr:World):Prop where
 box:wr.heap[w.heap.size]?=some (.cells cx 28 (0,0))
 lab:wr.cell? ⟨w.heap.size+1,0,none⟩=some vl
 pro:wr.cell? ⟨w.heap.size+1+1,0,none⟩=some (.string p)
 frm:wr.cell? ⟨w.heap.size+1+1+1,0,none⟩=some (Iz k)
 res:wr.heap[w.heap.size+1+1+1+1]?=some (.cells Z6 28 (0,0))
 bel:Below w.heap.size w wr
theorem SpW.step {w wr b:World} {d:Array Value} {c:Value} {p:Bt} {k:Int} (h:SpW w d c p k wr) (a:Below wr.heap.size wr b):SpW w d c p k b:=
 ⟨(a.block _ (Aa h.box)).trans h.box,(a.cell (p:=⟨_,0,none⟩) (cD h.lab)).trans h.lab,(a.cell (p:=⟨_,0,none⟩) (cD h.pro)).trans h.pro,(a.cell (p:=⟨_,0,none⟩) (cD h.frm)).trans h.frm,(a.block _ (Aa h.res)).trans h.res,h.bel.trans (a.mono h.bel.size)⟩
theorem SpW.end_ {w wr:World} {j:Array Value} {i:Value} {p:Bt} {k:Int} (h:SpW w j i p k wr) (a b c d e f:Value):Below w.heap.size w (dJ wr (w.heap.size+1+1+1+1) a b c d e f):=
 h.bel.grown (aO wr _ a b c d e f) h.bel.size (fun g e=>by have:=Ab (show some (w.heap.size+1+1+1+1)=some g from e);omega)
theorem LT {d:Nat} {S:Nat→Prop} (cs:Vl) (x:ND) (vl:Value) (ls:List Bt) (p:Bt) (k:Int) (w:World) (h:aD (d+1) S w cs x) (hS:∀b,S b→b<w.heap.size) (V:jZ (d+1) x) (hl:bH S w vl ls) (xe:ls.length≤900000) (hd:1≤d) (hk:wI k) (hN:aC 8 x=true→aP 8 x=true) (hF:cO 7 x→∀c:Bt,c.size=44→aC 8 (bL x ls c)=true→CU (bL x ls c)) (hT:uL w) (hD:DB w) (hH:JI w) (hL:Lay w) :
 Calls prog 10 #[.agg cs.toArray,vl,.string p,Iz k] w (TP (d+1) x ls p k w):=by
 obtain ⟨a1,l1,c1,a2,l2,c2,rfl⟩:=h.slices;obtain ⟨H,J,rfl,xu,xv,-⟩:=id hl;obtain ⟨w1,i⟩:∃W,W=((((w.alloc (.cells #[Iz x.kind,.bool x.bool,Iz x.num,.string x.text,.slice a1 l1 c1,.slice a2 l2 c2] 28)).alloc (.cells #[.slice H ls.length J] 25)).alloc (.cells #[.string p] 9)).alloc (.cells #[Iz k] 3)).alloc (.cells Z6 28):=⟨_,rfl⟩;have j:SpW w #[Iz x.kind,.bool x.bool,Iz x.num,.string x.text,.slice a1 l1 c1,.slice a2 l2 c2] (.slice H ls.length J) p k w1:=by
  have n0:=Hn w (.cells #[Iz x.kind,.bool x.bool,Iz x.num,.string x.text,.slice a1 l1 c1,.slice a2 l2 c2] 28);have z0:(w.alloc (.cells #[Iz x.kind,.bool x.bool,Iz x.num,.string x.text,.slice a1 l1 c1,.slice a2 l2 c2] 28)).heap.size=w.heap.size+1:=by simp
  have b0:=(Br w.heap.size w).alloc (o:=.cells #[Iz x.kind,.bool x.bool,Iz x.num,.string x.text,.slice a1 l1 c1,.slice a2 l2 c2] 28) (Lr _);generalize w.alloc _=u0 at *;have n1:=Hn u0 (.cells #[.slice H ls.length J] 25);have z1:(u0.alloc (.cells #[.slice H ls.length J] 25)).heap.size=u0.heap.size+1:=by simp
  have b1:=(Br u0.heap.size u0).alloc (o:=.cells #[.slice H ls.length J] 25) (Lr _);generalize u0.alloc _=u1 at *;have n2:=Hn u1 (.cells #[.string p] 9);have z2:(u1.alloc (.cells #[.string p] 9)).heap.size=u1.heap.size+1:=by simp
  have b2:=(Br u1.heap.size u1).alloc (o:=.cells #[.string p] 9) (Lr _);generalize u1.alloc _=u2 at *;have n3:=Hn u2 (.cells #[Iz k] 3);have z3:(u2.alloc (.cells #[Iz k] 3)).heap.size=u2.heap.size+1:=by simp
  have b3:=(Br u2.heap.size u2).alloc (o:=.cells #[Iz k] 3) (Lr _);generalize u2.alloc _=u3 at *;have n4:=Hn u3 (.cells Z6 28);have b4:=(Br u3.heap.size u3).alloc (o:=.cells Z6 28) (Lr _);rw [←i] at n4 b4;have e1:u0.heap.size=w.heap.size+1:=z0;have e2:u1.heap.size=w.heap.size+1+1:=by omega
  have e3:u2.heap.size=w.heap.size+1+1+1:=by omega
  have e4:u3.heap.size=w.heap.size+1+1+1+1:=by omega
  have xc:=b3.trans (b4.mono b3.size);have R:=b2.trans (xc.mono b2.size);have E:=b1.trans (R.mono b1.size);refine ⟨(E.block _ (Aa n0)).trans n0,aL (by rw [←e1];exact (R.block _ (Aa n1)).trans n1) rfl,aL (by rw [←e2];exact (xc.block _ (Aa n2)).trans n2) rfl,aL (by rw [←e3];exact (b4.block _ (Aa n3)).trans n3) rfl,by rw [←e4];exact n4,b0.trans (E.mono b0.size)⟩
 have z:=Hh j;have HL:=Hh hl;have HN:=Hh h;have HS:=Hh hS;have O:Hid (∀m,Below w.heap.size w m→Calls prog 21 #[.slice H ls.length J,.string ⟨#[118]⟩] m fun e w'=>e=.returned (.bool (decide (sV ∈ ls)))∧m=w'):=Hh (fun (m:World) (I:Below w.heap.size w m)=>WX (.slice H ls.length J) ls sV m (hl.same fun b q=>I.block b (hS b q)))
 have Y:=Hh (fun m:World=>SB p k hk m)
 have HI:=Hh (fun (m:World) (I:Below w.heap.size w m)=>pH _ x m (h.same fun b q=>I.block b (hS b q)) (fun b q=>Ll (hS b q) I.size) V (hT.below I).u)
 have SP:=Hh (sU x ls p k hN);have xp:=Hh xe;have xo:=Hh hd;have HK:=Hh hk;have xw:=Hh hN;have HF:=Hh hF;have HT:=Hh hT;have HD:=Hh hD;have HH:=Hh hH;have xl:=Hh hL;clear h hS V hl xe hd hk hN hF hT hD hH hL;rcases SP.o with ⟨l,P⟩ | ⟨M,F,hval,l,P⟩ | ⟨M,F,hval,hm,xd,P,xj⟩
 ·have G:=Hh P
  clear P SP
  by_cases A:ls=[]
  ·have xs:Hid ((ls.length:Int)=0):=Hh (by rw [A];rfl)
   clear l A
   go_enter func10,ntmps10
   go_upto_region 1 with fail
   rw [←i];clear i;have Z:=xs.o;have N:=j.lab;have f6:=aE j.res;have c6:=aA j.res;clear j
   go_wp2
   refine dB (v:=.string ⟨#[]⟩) (v2:=Iz 2) z.o.res results10 rfl rfl rfl rfl ?_;exact qA G.o (by decide) rfl (z.o.end_ _ _ _ _ _ _)
  ·have Z:¬ (ls.length:Int)=0:=fun e=>A (Aw.1 (by omega))
   by_cases F:sV ∈ ls
   ·simp only [Ap F] at O
    clear l F
    go_enter func10,ntmps10
    go_upto_region 1 with fail
    rw [←i];clear i;have N:=j.lab;have f6:=aE j.res;have c6:=aA j.res;clear j
    go_wp2_with (go_at_call 21;(with_reducible refine (O.o _ z.o.bel).mono ?_);rintro e w2 ⟨rfl,rfl⟩)
    refine dB (v:=.string ⟨#[]⟩) (v2:=Iz 2) z.o.res results10 rfl rfl rfl rfl ?_;exact qA G.o (by decide) rfl (z.o.end_ _ _ _ _ _ _)
   ·simp only [Ar F] at O
    have xi:aY ⟨p,1,0,k,0⟩=false:=l.elim (fun g=>absurd g A) fun g=>g.elim (fun g=>absurd g F) id
    rw [xi] at Y;clear l F xi
    go_enter func10,ntmps10
    go_upto_region 1 with fail
    rw [←i];clear i;have N:=j.lab;have X:=j.pro;have q3:=j.frm;clear j
    go_upto_region 2 with (first
     | (go_at_call 21;(with_reducible refine (O.o _ z.o.bel).mono ?_);rintro e w2 ⟨rfl,rfl⟩)
     | (go_at_call 22;(with_reducible refine (Y.o _).mono ?_);rintro e w3 ⟨rfl,n⟩))
    have f:=Hh (z.o.step n);have f6:=aE f.o.res;have c6:=aA f.o.res;clear N X q3 n
    go_wp2
    refine dB (v:=.string ⟨#[]⟩) (v2:=Iz 2) f.o.res results10 rfl rfl rfl rfl ?_;exact qA G.o (by decide) rfl (f.o.end_ _ _ _ _ _ _)
 all_goals
  have Z:¬ (ls.length:Int)=0:=fun e=>M (Aw.1 (by omega))
  have xy:((ls.length:Int) == 0)=false:=by rw [Bm];exact Z
  simp only [Ar F] at O;rw [hval] at Y
 ·have G:=Hh P
  clear P SP M F hval
  by_cases U:x.kind=5
  ·have B:aC 8 x=false:=by
    cases e:aC 8 x with
    | false=>rfl
    | true=>exact absurd ⟨U,e⟩ l
   simp only [B] at HI;clear l B;rw [U] at i j z HI;rw [U]
   go_enter func10,ntmps10
   go_upto_region 1 with fail
   rw [←i];clear i;have N:=j.lab;have X:=j.pro;have q3:=j.frm;clear j
   go_upto_region 3 with (first
    | (go_at_call 21;(with_reducible refine (O.o _ z.o.bel).mono ?_);rintro e w2 ⟨rfl,rfl⟩)
    | (go_at_call 22;(with_reducible refine (Y.o _).mono ?_);rintro e w3 ⟨rfl,n⟩))
   have f:=Hh (z.o.step n);have cb:=aA f.o.box;clear N X q3 n
   go_upto_region 4 with ((with_reducible refine (HI.o _ f.o.bel).mono ?_);rintro e w4 ⟨rfl,C⟩)
   have s:=Hh (f.o.step C);have f6:=aE s.o.res;have c6:=aA s.o.res;clear cb C
   go_wp2
   refine dB (v:=.string ⟨#[]⟩) (v2:=Iz 1) s.o.res results10 rfl rfl rfl rfl ?_;exact qA G.o (by decide) rfl (s.o.end_ _ _ _ _ _ _)
  ·clear l
   go_enter func10,ntmps10
   go_upto_region 1 with fail
   rw [←i];clear i;have N:=j.lab;have X:=j.pro;have q3:=j.frm;clear j
   go_upto_region 3 with (first
    | (go_at_call 21;(with_reducible refine (O.o _ z.o.bel).mono ?_);rintro e w2 ⟨rfl,rfl⟩)
    | (go_at_call 22;(with_reducible refine (Y.o _).mono ?_);rintro e w3 ⟨rfl,n⟩))
   have f:=Hh (z.o.step n);have cb:=aA f.o.box;have f6:=aE f.o.res;have c6:=aA f.o.res;clear N X q3 n
   go_wp2
   refine dB (v:=.string ⟨#[]⟩) (v2:=Iz 1) f.o.res results10 rfl rfl rfl rfl ?_;exact qA G.o (by decide) rfl (f.o.end_ _ _ _ _ _ _)
 ·have U:x.kind=5:=hm.kind
  have B:aC 8 x=true:=(cK U).2 hm;simp only [B] at HI;rw [U] at i j z HI HN;have PF:=Hh (fun (t:Bt) (ht:t.size=44) (m:World) (D:SpW w #[Iz 5,.bool x.bool,Iz x.num,.string x.text,.slice a1 l1 c1,.slice a2 l2 c2] (.slice H ls.length J) p k m)=>QJ (d:=d) _ x (.slice H ls.length J) ls t p k w.heap.size (w.heap.size+1) (w.heap.size+1+1) (w.heap.size+1+1+1) m D.box D.lab D.pro D.frm (HN.o.same fun b q=>D.bel.block b (HS.o b q)) (fun b q=>Ll (HS.o b q) D.bel.size) hm (HL.o.same fun b q=>D.bel.block b (HS.o b q)) xp.o xo.o (by omega) HK.o (fun a _=>HF.o hm t ht a) (HT.o.below D.bel) (HD.o.below D.bel))
  have G:=Hh P;have xn:=Hh xj;have DU:=Hh (fun (m:World) (I:Below w.heap.size w m)=>vQ m (xl.o.go I))
  have DG:=Hh (fun (m:World) (I:Below w.heap.size w m)=>BP (mK (bL x ls fD) p k) m (by unfold mK;split <;> first | exact Af (yF k _) (by decide) | exact Av _) (HH.o.below I) (xl.o.go I))
  have xx:∀ (fn:Fn) (first xg:Array Value) (w:World),(Instr.makeFunc fn first xg).run prog w=.ok (.func fn first xg) w:=fun _ _ _ _=>rfl
  rw [U];clear xd P xj SP M F hval hm B U
  go_enter func10,ntmps10
  go_upto_region 1 with fail
  rw [←i];clear i;have N:=j.lab;have X:=j.pro;have q3:=j.frm;clear j
  go_upto_region 3 with (first
   | (go_at_call 21;(with_reducible refine (O.o _ z.o.bel).mono ?_);rintro e w2 ⟨rfl,rfl⟩)
   | (go_at_call 22;(with_reducible refine (Y.o _).mono ?_);rintro e w3 ⟨rfl,n⟩))
  have f:=Hh (z.o.step n);have cb:=aA f.o.box;clear N X q3 n
  go_upto_region 5 with ((with_reducible refine (HI.o _ f.o.bel).mono ?_);rintro e w4 ⟨rfl,C⟩)
  have s:=Hh (f.o.step C);clear cb C O Y HI;have D4:=Hh (DU.o _ s.o.bel)
  go_upto_region 6 with fail
  go_upto_region 7 with (first
   | (go_at_call 16;(with_reducible refine (D4.o).mono ?_);rintro e w5 ⟨rfl,xa⟩)
   | (go_at_call 24;(with_reducible refine (PF.o fD rfl w5 (s.o.step xa)).mono ?_);rintro e w6 ⟨cf,rfl,xm,xh⟩;obtain ⟨b1,m1,n1,b2,m2,n2,rfl⟩:=xm.slices))
  have b7:=(Br w6.heap.size w6).alloc (o:=.cells #[Iz (kD (bL x ls fD) p k).kind,.bool (kD (bL x ls fD) p k).bool,Iz (kD (bL x ls fD) p k).num,.string (kD (bL x ls fD) p k).text,.slice b1 m1 n1,.slice b2 m2 n2] 28) (Lr _);have r:=Hh (((s.o.step xa).step xh).step b7);clear xm xa xh b7 D4;generalize w6.alloc _=w7 at r ⊢
  by_cases A:gA (bL x ls fD) p k=0
  ·have xq:=Hh (G.o.trans A)
   have T:=Hh (xn.o.trans A);rw [A];clear A;have D7:=Hh (DG.o _ r.o.bel);have Q:(pN (mK (bL x ls fD) p k)).size=44:=(lQ _).1;have L:=Hh (fun (m:World) (D:SpW w #[Iz 5,.bool x.bool,Iz x.num,.string x.text,.slice a1 l1 c1,.slice a2 l2 c2] (.slice H ls.length J) p k m)=>PF.o (pN (mK (bL x ls fD) p k)) Q m D)
   have xk:bL x ls (pN (mK (bL x ls fD) p k))=spM x ls p k:=rfl;rw [xk] at L;have HR:Hid (spX x ls p k=kD (spM x ls p k) p k∧spS x ls p k=mK (spM x ls p k) p k∧spE x ls p k=gA (spM x ls p k) p k):=Hh (by
    unfold spX spS kD mK;rw [xq.o,T.o];exact ⟨rfl,rfl,rfl⟩)
   generalize pN (mK (bL x ls fD) p k)=dg at D7 L;generalize mK (bL x ls fD) p k=ds at D7 ⊢;generalize spM x ls p k=y at L HR;clear PF DG DU Q xk T
   go_upto_region 9 with fail
   go_wp2_with (first
    | (go_at_call 18;(with_reducible refine (D7.o).mono ?_);rintro e w8 ⟨rfl,xb⟩)
    | (go_at_call 24;(with_reducible refine (L.o w8 (r.o.step xb)).mono ?_);rintro e w9 ⟨cf,rfl,xf,xt⟩;obtain ⟨b3,m3,n3,b4,m4,n4,rfl⟩:=xf.slices;(have K:=Hh ((r.o.step xb).step xt));(have f6:=aE K.o.res);(have c6:=aA K.o.res)))
   refine dB (v:=.string (mK y p k)) (v2:=Iz (gA y p k)) K.o.res results10 rfl rfl rfl rfl ?_;have hg:=aO w9 (w.heap.size+1+1+1+1) (Iz (kD y p k).kind) (.bool (kD y p k).bool) (Iz (kD y p k).num) (.string (kD y p k).text) (.slice b3 m3 n3) (.slice b4 m4 n4);have hz:w.heap.size+1+1+1+1<w8.heap.size:=Aa (r.o.step xb).res;refine ⟨[Iz (kD y p k).kind,.bool (kD y p k).bool,Iz (kD y p k).num,.string (kD y p k).text,.slice b3 m3 n3,.slice b4 m4 n4],by rw [HR.o.2.1,HR.o.2.2],?_,K.o.end_ _ _ _ _ _ _⟩
   rw [HR.o.1];exact (xf.same fun b q=>hg.block b q.2 (by intro e;have:=Ab e;have:=q.1;omega)).mono fun b q=>⟨by have:=q.1;omega,Ll q.2 hg.size⟩
  ·have xr:(gA (bL x ls fD) p k != 0)=true:=by simp [A]
   have H0:=Hh A;have f6:=aE r.o.res;have c6:=aA r.o.res;generalize gA (bL x ls fD) p k=er at G H0 xr ⊢;generalize mK (bL x ls fD) p k=ds;clear A PF DG DU xn
   go_wp2
   refine dB (v:=.string ⟨#[]⟩) (v2:=Iz er) r.o.res results10 rfl rfl rfl rfl ?_;exact qA G.o H0.o rfl (r.o.end_ _ _ _ _ _ _)
theorem xF {l:Ub} {v:VD} {j:Nat}:∀ {n i:Nat},eO l n i=some (v,j)→aY v=true
 | 0,_,h=>by cases h
 | n+1,i,h=>by
  unfold eO at h
  split at h
  ·split at h
   ·rename_i v' hv
    have e:=Ab h;have:=(ER.1 hv).1;rw [show v'=v from Ad Prod.fst e] at this
    exact this
   ·exact xF h
  ·cases h
theorem aDy (k:Int) (s:Bt):∃n g,xY k s n g:=by
 have d:∀W:ND→Ub,(∃y,aC 8 y=true∧aP 8 y=true∧s.size≤65536∧W y=s.data.toList)∨∀y,aC 8 y=true→aP 8 y=true→s.size≤65536→W y ≠ s.data.toList:=fun W=>by
  by_cases h:∃y,aC 8 y=true∧aP 8 y=true∧s.size≤65536∧W y=s.data.toList
  ·exact .inl h
  ·exact .inr fun y a b c e=>h ⟨y,a,b,c,e⟩
 rcases tS k with rfl | rfl | rfl | f
 ·rcases d (aR 8) with ⟨y,a,b,c,e⟩ | h
  ·exact ⟨y,0,.inl ⟨rfl,.inl ⟨rfl,a,b,e,c⟩⟩⟩
  ·exact ⟨nd0,4,.inl ⟨rfl,.inr ⟨rfl,rfl,h⟩⟩⟩
 ·rcases d (aU 8) with ⟨y,a,b,c,e⟩ | h
  ·exact ⟨y,0,.inr (.inl ⟨rfl,.inl ⟨rfl,a,b,e,c⟩⟩)⟩
  ·exact ⟨nd0,4,.inr (.inl ⟨rfl,.inr ⟨rfl,rfl,h⟩⟩)⟩
 ·rcases d (aW 8) with ⟨y,a,b,c,e⟩ | h
  ·exact ⟨y,0,.inr (.inr (.inl ⟨rfl,.inl ⟨rfl,a,b,e,c⟩⟩))⟩
  ·exact ⟨nd0,4,.inr (.inr (.inl ⟨rfl,.inr ⟨rfl,rfl,h⟩⟩))⟩
 ·exact ⟨nd0,2,.inr (.inr (.inr ⟨f,rfl,rfl⟩))⟩
def aGc (s:Bt) (ls:List Bt) (w:World) (e:Ending) (w':World):Prop:=(eO s.data.toList 25 0=none∧e=.returned (.tuple #[.agg Z6,.string ⟨#[]⟩,Iz 10])∧Below w.heap.size w w')
 ∨ ∃ (v:VD) (j:Nat) (n:ND) (a:Int) (c:Vl),eO s.data.toList 25 0=some (v,j)∧xY v.f s n a∧e=.returned (.tuple #[.agg c.toArray,.string (ckS s ls v n a),Iz (ckE s ls v n a)])∧aD 9 (fun b=>w.heap.size≤b∧b<w'.heap.size) w' c (ckX s ls v n a)∧Below w.heap.size w w'
theorem tY {s:Bt} {ls:List Bt} {v:VD} {n:ND} {j:Nat} {a b:Int} {w w':World} {e:Ending} (i:eO s.data.toList 25 0=some (v,j)) (k:xY v.f s n a) (d:ckE s ls v n a=b) (c:b ≠ 0) (h:e=.returned (.tuple #[.agg Z6,.string ⟨#[]⟩,Iz b])) (g:Below w.heap.size w w'):aGc s ls w e w':=by
 refine .inr ⟨v,j,n,a,Y6,i,k,?_,?_,g⟩
 ·unfold ckS;rw [d,Ae c];exact h
 ·unfold ckX;rw [d,Ae c];exact (cJ _ w' 0 false 0 ⟨#[]⟩ (by decide)).deeper (show 1≤9 by omega)
structure CkW (w:World) (gv:Nat) (v:VD) (wr:World):Prop where
 res:wr.heap[w.heap.size]?=some (.cells Z6 28 (0,0))
 ver:wr.heap[gv]?=some (.cells #[.string v.p,Iz v.a,Iz v.b,Iz v.f,Iz v.z] 58 (0,0))
 bel:Below w.heap.size w wr
theorem CkW.step {w wr b:World} {c:Nat} {v:VD} (h:CkW w c v wr) (a:Below wr.heap.size wr b):CkW w c v b:=
 ⟨(a.block _ (Aa h.res)).trans h.res,(a.block _ (Aa h.ver)).trans h.ver,h.bel.trans (a.mono h.bel.size)⟩
theorem CkW.end_ {w wr:World} {i:Nat} {v:VD} (h:CkW w i v wr) (a b c d e f:Value):Below w.heap.size w (dJ wr w.heap.size a b c d e f):=
 h.bel.grown (aO wr _ a b c d e f) h.bel.size (fun g e=>by have:=Ab (show some w.heap.size=some g from e);omega)
theorem TD {S:Nat→Prop} (s:Bt) (vl:Value) (ls:List Bt) (w:World) (hl:bH S w vl ls) (hS:∀b,S b→b<w.heap.size) (xu:ls.length≤900000) (hs:s.size≤1000000) (hF:∀v j n,eO s.data.toList 25 0=some (v,j)→xY v.f s n 0→cO 7 n→(∀l,l ∈ ls→l ∈ n.names)→∀c:Bt,c.size=44→aC 8 (bL n ls c)=true→CU (bL n ls c)) (hT:uL w) (hD:DB w) (hH:JI w) (hL:Lay w) :
 Calls prog 11 #[.string s,vl] w (aGc s ls w):=by
 obtain ⟨al,cl,rfl,yp,yq,-⟩:=id hl;have b0:=(Br w.heap.size w).alloc (o:=.cells Z6 28) (Lr _);have k0:=Hn w (.cells Z6 28);have FI:=Hh (fun (k:World) (r:Below w.heap.size w k)=>WF s k hs (hD.below r) (show CP k from (hT.below r).e.1))
 unfold aFz vcs at FI;have xl:=Hh hl;have HS:=Hh hS;have yi:=Hh xu;have HF:=Hh hF;have HT:=Hh hT;have xt:=Hh hD;have HH:=Hh hH;have yk:=Hh hL;clear hl hS xu hF hT hD hH hL hs
 go_enter func11,ntmps11
 go_upto_region 1 with fail
 have N:=Hh b0;have R:=Hh k0;clear b0 k0;generalize w.alloc _=w1 at N R ⊢;have F1:=Hh (FI.o w1 N.o);clear FI;cases hfd:eO s.data.toList 25 0 with
 | none=>
  obtain ⟨e1,e2,e3⟩:=UX hfd;rw [e1,e2,e3] at F1;have x:=Hh hfd;clear e1 e2 e3 hfd
  go_upto_region 2 with ((with_reducible refine (F1.o).mono ?_);rintro e w2 ⟨rfl,J⟩)
  have b3:=(Br w2.heap.size w2).alloc (o:=.cells #[.string v0.p,Iz v0.a,Iz v0.b,Iz v0.f,Iz v0.z] 58) (Lr _);have A:=J.trans (b3.mono J.size);generalize w2.alloc _=w3 at A ⊢;have x8:=Hh (N.o.trans (A.mono N.o.size));have xr:=Hh ((A.block _ (Aa R.o)).trans R.o);have f6:=aE xr.o;have c6:=aA xr.o;clear J b3 A F1
  go_wp2
  refine dB (v:=.string ⟨#[]⟩) (v2:=Iz 10) xr.o results11 rfl rfl rfl rfl ?_;exact .inl ⟨x.o,rfl,x8.o.grown (aO w3 _ _ _ _ _ _ _) x8.o.size (fun g e=>by have:=Ab (show some w.heap.size=some g from e);omega)⟩
 | some vj=>
  obtain ⟨v,j⟩:=vj;obtain ⟨e1,e2,e3⟩:=UW hfd;rw [e1,e2,e3] at F1;have x:=Hh hfd;have yd:=Hh (xF hfd);clear e1 e2 e3 hfd
  go_upto_region 2 with ((with_reducible refine (F1.o).mono ?_);rintro e w2 ⟨rfl,J⟩)
  have b3:=(Br w2.heap.size w2).alloc (o:=.cells #[.string v.p,Iz v.a,Iz v.b,Iz v.f,Iz v.z] 58) (Lr _);have k3:=Hn w2 (.cells #[.string v.p,Iz v.a,Iz v.b,Iz v.f,Iz v.z] 58);have A:=J.trans (b3.mono J.size);generalize w2.alloc _=w3 at A k3 ⊢;generalize w2.heap.size=gv at k3 ⊢;have y:Hid (CkW w gv v w3):=Hh ⟨(A.block _ (Aa R.o)).trans R.o,k3,N.o.trans (A.mono N.o.size)⟩;have c5:=dQ k3;clear J b3 A F1 N R k3
  by_cases hz:v.z=(s.size:Int)
  ·have MW:=Hh (MI v yd.o s w3 (HT.o.below y.o.bel) (xt.o.below y.o.bel))
   unfold aFt vcs at MW;have HZ:=Hh hz
   go_upto_region 6 with fail
   clear hz
   go_upto_region 7 with ((with_reducible refine (MW.o).mono ?_);rintro e w4 ⟨cn,n,e0,rfl,hn,xd,hd⟩;obtain ⟨a1,l1,c1,a2,l2,c2,rfl⟩:=hn.slices)
   have b5:=(Br w4.heap.size w4).alloc (o:=.cells #[Iz n.kind,.bool n.bool,Iz n.num,.string n.text,.slice a1 l1 c1,.slice a2 l2 c2] 28) (Lr _);have k5:=Hn w4 (.cells #[Iz n.kind,.bool n.bool,Iz n.num,.string n.text,.slice a1 l1 c1,.slice a2 l2 c2] 28);have xp:=xd.trans (b5.mono xd.size);have xn:=(hn.same fun b q=>b5.block b q.2).mono fun b q=>(⟨q.1,Ll q.2 b5.size⟩:w3.heap.size≤b∧b<(w4.alloc (.cells #[Iz n.kind,.bool n.bool,Iz n.num,.string n.text,.slice a1 l1 c1,.slice a2 l2 c2] 28)).heap.size)
   generalize w4.alloc _=w5 at xp xn k5 ⊢;have xw:Hid (w.heap.size<w4.heap.size):=Hh (by have h1:=Aa y.o.res;have h2:=xd.size;omega)
   generalize w4.heap.size=Q at k5 xw ⊢;have i:=Hh (y.o.step xp);have xf:=Hh k5;have ym:w.heap.size<w3.heap.size:=Aa y.o.res;have xh:=Hh (xn.mono fun b q=>(⟨by have:=q.1;omega,q.2⟩:w.heap.size<b∧b<w5.heap.size))
   have HD:=Hh hd;clear hn xd b5 xp xn hd c5 MW k5 ym;rcases OC s ls v n e0 with ⟨g,-⟩ | ⟨-,g,V⟩ | ⟨-,g1,g2,g3,V⟩ | ⟨-,g1,g2,g3,g4,g5,V⟩ | ⟨-,g1,g2,g3,g4,g5,g6,V⟩
   ·exact absurd HZ.o g
   ·rw [g]
    have W:=Hh V;have f6:=aE i.o.res;have c6:=aA i.o.res;clear g V
    go_wp2
    refine dB (v:=.string ⟨#[]⟩) (v2:=Iz 4) i.o.res results11 rfl rfl rfl rfl ?_;exact tY x.o HD.o W.o (by decide) rfl (i.o.end_ _ _ _ _ _ _)
   all_goals
    subst g1;have xj:(decide ((0:Int)=0) && mZ n (vtS v))=true:=by rw [vJ.2 g2];rfl
    rw [xj];have h5:n.kind=5:=by
     unfold eY at g2
     split at g2
     ·assumption
     ·cases g2
    have FK:=HD.o.good.1;have hm:cO 7 n:=(cK h5).1 FK.valid;have U:=Hh (fun (k:World) (r:Below w5.heap.size w5 k)=>IM (d:=8) _ n (.slice al ls.length cl) ls k ((xh.o.same fun b q=>r.block b q.2).mono fun b q=>(.inl (Ll q.2 r.size):b<k.heap.size∨S b)) ((xl.o.same fun b q=>(i.o.bel.trans (r.mono i.o.bel.size)).block b (HS.o b q)).mono fun b q=>.inr q) (fun b q=>q.elim id fun q=>Ll (HS.o b q) (i.o.bel.trans (r.mono i.o.bel.size)).size) hm)
    clear xj
   ·have xx:(decide (ls ≠ []) && ls.all (gK n))=false:=by
     rcases g3 with g | g
     ·rw [g];rfl
     ·rw [g,Bool.and_false]
    rw [xx] at U;have W:=Hh V;have xe:=Hh (U.o _ (Br _ _));have c6:=aA xf.o;clear xx g3 V hm FK h5 U g2
    go_upto_region 10 with ((with_reducible refine (xe.o).mono ?_);rintro e w6 ⟨rfl,G⟩)
    have I:=Hh (i.o.step G);clear G c6;have f6:=aE I.o.res;have c6:=aA I.o.res
    go_wp2
    refine dB (v:=.string ⟨#[]⟩) (v2:=Iz 5) I.o.res results11 rfl rfl rfl rfl ?_;exact tY x.o HD.o W.o (by decide) rfl (I.o.end_ _ _ _ _ _ _)
   all_goals
    rw [show (decide (ls ≠ []) && ls.all (gK n))=true by rw [g4,Ap g3];rfl] at U
    have xe:=Hh (U.o _ (Br _ _));have x5:∀l,l ∈ ls→l ∈ n.names:=fun l hl=>by
     have:=Ax.1 g4 l hl;unfold gK at this;cases hg:eY n l with
     | none=>rw [hg] at this;cases this
     | some z=>exact (IN hm).1 (by rw [hg];rfl)
    have PU:=Hh (fun (k:World) (r:Below w5.heap.size w5 k)=>LT (d:=8) _ n (.slice al ls.length cl) ls v.p v.f k ((xh.o.same fun b q=>r.block b q.2).mono fun b q=>(.inl (Ll q.2 r.size):b<k.heap.size∨S b)) (fun b q=>q.elim id fun q=>Ll (HS.o b q) (i.o.bel.trans (r.mono i.o.bel.size)).size) (dS 8 9 n FK.valid) ((xl.o.same fun b q=>(i.o.bel.trans (r.mono i.o.bel.size)).block b (HS.o b q)).mono fun b q=>.inr q) yi.o (by decide) (wK yd.o).f (fun _=>FK.nums) (fun a c hc hv=>HF.o v j n x.o HD.o a x5 c hc hv) (HT.o.below (i.o.bel.trans (r.mono i.o.bel.size))) (xt.o.below (i.o.bel.trans (r.mono i.o.bel.size))) (HH.o.below (i.o.bel.trans (r.mono i.o.bel.size))) (yk.o.go (i.o.bel.trans (r.mono i.o.bel.size))))
    have c6:=aA xf.o;have H5:=Hh h5;clear U x5 h5
    go_upto_region 11 with ((with_reducible refine (xe.o).mono ?_);rintro e w6 ⟨rfl,G⟩)
    have I:=Hh (i.o.step G);have xs:=Hh ((G.block _ (Aa xf.o)).trans xf.o);have P6:=Hh (PU.o _ G);have B:=Hh G;clear G c6 PU xe;have c6:=aA xs.o;have c5:=dQ I.o.ver
    go_upto_region 12 with ((with_reducible refine (P6.o).mono ?_);rintro e w7 ⟨cx,rfl,hx,xk⟩;obtain ⟨b1,m1,n1,b2,m2,n2,rfl⟩:=hx.slices)
    have b8:=(Br w7.heap.size w7).alloc (o:=.cells #[Iz (spX n ls v.p v.f).kind,.bool (spX n ls v.p v.f).bool,Iz (spX n ls v.p v.f).num,.string (spX n ls v.p v.f).text,.slice b1 m1 n1,.slice b2 m2 n2] 28) (Lr _);have Y:=xk.trans (b8.mono xk.size);generalize w7.alloc _=P at Y ⊢;have u:=Hh (I.o.step Y);have T:=Hh (B.o.trans (Y.mono B.o.size));have xa:=Hh ((Y.block _ (Aa xs.o)).trans xs.o);clear hx xk b8 Y c6 c5 P6 B
   ·have W:=Hh V
    have f6:=aE u.o.res;have c6:=aA u.o.res
    by_cases h0:spE n ls v.p v.f=0
    ·have x9:spS n ls v.p v.f ≠ s:=g5.elim (fun g=>absurd h0 g) id
     rw [h0];have e1:((spS n ls v.p v.f).toList == s.toList)=false:=jE x9;have e2:((spS n ls v.p v.f).toList != s.toList)=true:=by rw [bne,e1];rfl
     clear g5 g2 g3 g4 V h0 x9 hm FK;generalize spS n ls v.p v.f=q at *
     go_wp2
     refine dB (v:=.string ⟨#[]⟩) (v2:=Iz 9) u.o.res results11 rfl rfl rfl rfl ?_;exact tY x.o HD.o W.o (by decide) rfl (u.o.end_ _ _ _ _ _ _)
    ·have e0:(spE n ls v.p v.f != 0)=true:=by simp [h0]
     clear g5 g2 g3 g4 V h0 hm FK;generalize spE n ls v.p v.f=q at *
     go_wp2
     refine dB (v:=.string ⟨#[]⟩) (v2:=Iz 9) u.o.res results11 rfl rfl rfl rfl ?_;exact tY x.o HD.o W.o (by decide) rfl (u.o.end_ _ _ _ _ _ _)
   ·have W:=Hh V
    obtain ⟨yn,ya⟩:=aId HD.o g5 g6;obtain ⟨l0,lt,xc⟩:∃l t,ls=l::t:=by cases ls with | nil=>exact absurd rfl g3 | cons a t=>exact ⟨a,t,rfl⟩
    have ye:eY n l0=some (tN (spD n ls v.p v.f)):=ya l0 (by rw [xc];simp)
    have x7:ls[0]?=some l0:=by rw [xc];rfl
    have yo:(0:Int)<(ls.length:Int):=by rw [xc,Ag];omega
    have yf:0<ls.length:=by omega
    have e1:(s.toList == s.toList)=true:=beq_self_eq_true _;have e2:(s.toList != s.toList)=false:=by rw [bne,e1];rfl
    obtain ⟨bq,oq,yg,xz,xm⟩:=xl.o.get x7;subst yg;rw [Nat.add_zero] at xm;have GE:=Hh (fun (k:World) (r:Below P.heap.size P k)=>AM (d:=8) _ n l0 k (((xh.o.same fun b q=>(T.o.trans (r.mono T.o.size)).block b q.2).mono fun b q=>Ll q.2 (T.o.trans (r.mono T.o.size)).size)) (fun b q=>q) H5.o hm.len (dS 8 9 n FK.valid))
    rw [ye] at GE;have RQ:=Hh (fun (k:World) (r:Below P.heap.size P k)=>((u.o.bel.trans (r.mono u.o.bel.size)).cell (p:=⟨bq,oq,none⟩) (HS.o _ xz)).trans xm)
    have xy:=Hh (show ckS s ls v n 0=spD n ls v.p v.f by unfold ckS;rw [W.o,Am rfl])
    have yj:=Hh (show ckX s ls v n 0=n by unfold ckX;rw [W.o,Am rfl])
    generalize yh:spD n ls v.p v.f=L at xy GE;have GE:Hid (∀k,Below P.heap.size P k→Calls prog 30 #[.agg #[Iz n.kind,.bool n.bool,Iz n.num,.string n.text,.slice a1 l1 c1,.slice a2 l2 c2],.string l0] k fun e w'=>∃cs:Vl,e=.returned (.tuple #[.agg cs.toArray,.bool true])∧aD 9 (Fr k.heap.size w') w' cs (tN L)∧Below k.heap.size k w'):=GE
    clear g2 g3 g4 g5 g6 yn ya xc ye x7 V hm FK xm xz yh
    go_upto_region 14 with fail
    have M:Below P.heap.size P P.drew:=(Br _ _).drew;have CK:=Hh (fun (k:World) (r:Below P.heap.size P k)=>Ai (aA ((r.block _ (Aa xa.o)).trans xa.o)) (RQ.o k r))
    refine aI (fun w'=>(w'.cell? ⟨Q,0,none⟩=some (Iz n.kind)∧w'.cell? ⟨Q,1,none⟩=some (.bool n.bool)∧w'.cell? ⟨Q,2,none⟩=some (Iz n.num)∧w'.cell? ⟨Q,3,none⟩=some (.string n.text)∧w'.cell? ⟨Q,4,none⟩=some (.slice a1 l1 c1)∧w'.cell? ⟨Q,5,none⟩=some (.slice a2 l2 c2))∧w'.cell? ⟨bq,oq,none⟩=some (.string l0)) [0,3] (.take 0 (.take 1 (.take 2 (.take 3 (eP.join true (.ask 4 false (.take 5 (.take 6 (.take 7 (.ask 8 false .stop .stop)))) (.ask 8 true (.ask 4 false (.take 5 (.take 6 (.take 7 .stop))) .stop) .stop)) (.ask 9 false (.take 10 .stop) .stop)))))) (by kernel_rfl) (by kernel_rfl) (fun _ d _ _ _ h=>by cases d <;> exact h) (CK.o _ M) ?_
    generalize P.drew=wd at M ⊢;refine aM _ ?_ rfl rfl (by decide) ?_ (fun K m=>?_);rotate_left;(intro w0 xo;go_simp;(try rfl));(go_simp;refine m _ ?_;clear m K)
    iterate 2 (refine aF _ ?_ rfl rfl ?_ (fun K m=>?_);rotate_left;(intro w0;go_simp;(try rfl));(go_simp;refine m _ ?_;clear m K))
    refine aM _ ?_ rfl rfl (by decide) ?_ (fun K m=>?_);rotate_left;(intro w0 xo;go_simp;(try rfl));(go_simp;refine m _ ?_;clear m K)
    refine dW [14,65,70,71,72] (fun vs k=>∃ (O:Nat) (H:Option Addr) (E c3:Nat) (C:Option Addr) (D F:Nat),vs=[.pointer (some ⟨O,0,none⟩),.tuple #[.agg #[Iz 3,.bool false,Iz 0,.string L,.slice H E c3,.slice C D F],.bool true],.tuple #[.agg #[Iz 3,.bool false,Iz 0,.string L,.slice H E c3,.slice C D F],.bool true],.agg #[Iz 3,.bool false,Iz 0,.string L,.slice H E c3,.slice C D F],.bool true]∧k.heap[O]?=some (.cells Z6 28 (0,0))∧P.heap.size≤O∧Below P.heap.size P k) ?_ ?_
    ·refine aB _ rfl ?_ ?_
     rotate_left
     ·go_wp2_with (go_at_call 30;(with_reducible refine (GE.o _ M).mono ?_);rintro e w9 ⟨cy,rfl,hy,xi⟩;obtain ⟨H,E,c3,C,D,F,rfl⟩:=oS hy)
      have B9:=M.trans (xi.mono M.size);refine Seg.mk ?_
      iterate 3 (refine aF _ ?_ rfl rfl ?_ (fun K m=>?_);rotate_left;(intro w0;go_simp;(try rfl));(go_simp;refine m _ ?_;clear m K))
      have bz:=(Br w9.heap.size w9).alloc (o:=.cells Z6 28) (Lr _);have gz:=Hn w9 (.cells Z6 28);refine aB _ rfl trivial ?_
      go_wp2_with fail
      refine Seg.mk ?_;exact aN [.pointer (some ⟨w9.heap.size,0,none⟩),.tuple #[.agg #[Iz 3,.bool false,Iz 0,.string L,.slice H E c3,.slice C D F],.bool true],.tuple #[.agg #[Iz 3,.bool false,Iz 0,.string L,.slice H E c3,.slice C D F],.bool true],.agg #[Iz 3,.bool false,Iz 0,.string L,.slice H E c3,.slice C D F],.bool true] ⟨_,H,E,c3,C,D,F,rfl,gz,B9.size,B9.trans (bz.mono B9.size)⟩ (by simp only [gJ,Act.put,Aq,Az,Ba])
     ·have bz:=(Br wd.heap.size wd).alloc (o:=.cells Z6 28) (Lr _)
      have gz:=Hn wd (.cells Z6 28);refine aH _ rfl trivial ?_
      go_wp2_with fail
      generalize hW:wd.alloc (.cells Z6 28)=W7 at bz gz ⊢;clear hW;have B7:=M.trans (bz.mono M.size);refine Seg.mk ⟨CK.o _ B7,?_⟩;refine aB _ rfl trivial ?_
      go_wp2_with (go_at_call 30;(with_reducible refine (GE.o _ B7).mono ?_);rintro e w9 ⟨cy,rfl,hy,xi⟩;obtain ⟨H,E,c3,C,D,F,rfl⟩:=oS hy)
      refine Seg.mk ?_
      iterate 3 (refine aF _ ?_ rfl rfl ?_ (fun K m=>?_);rotate_left;(intro w0;go_simp;(try rfl));(go_simp;refine m _ ?_;clear m K))
      exact aN [.pointer (some ⟨wd.heap.size,0,none⟩),.tuple #[.agg #[Iz 3,.bool false,Iz 0,.string L,.slice H E c3,.slice C D F],.bool true],.tuple #[.agg #[Iz 3,.bool false,Iz 0,.string L,.slice H E c3,.slice C D F],.bool true],.agg #[Iz 3,.bool false,Iz 0,.string L,.slice H E c3,.slice C D F],.bool true] ⟨_,H,E,c3,C,D,F,rfl,(xi.block _ (Aa gz)).trans gz,M.size,B7.trans (xi.mono B7.size)⟩ (by simp only [gJ,Act.put,Aq,Az,Ba])
    ·rintro vs k ⟨O,H,E,c3,C,D,F,rfl,gz,x6,yb⟩
     simp only [gJ,Act.put,Aq,Az,Ba];have q6:=aA gz;have p6:=aE gz;have yr:=Aa xa.o;have ys:=Aa u.o.res;have xv:=aO k O (Iz 3) (.bool false) (Iz 0) (.string L) (.slice H E c3) (.slice C D F);have HP:=Hh (dG gz (Iz 3) (.bool false) (Iz 0) (.string L) (.slice H E c3) (.slice C D F));have B:=Hh (fO yb (Lr _) xv fun b e=>by have:=Ab (show some O=some b from e);omega)
     have yl:=Hh x6;clear M gz x6 yb xv GE CK RQ;refine aB _ rfl trivial ?_
     go_wp2_with fail
     refine Seg.mk ?_;refine aF _ ?_ rfl rfl ?_ (fun K m=>?_);rotate_left;(intro w0;go_simp;(try rfl));(go_simp;refine m _ ?_;clear m K)
     unfold cQ;simp only [dJ] at HP B;clear q6 p6;generalize (((((k.setCell ⟨O,0,none⟩ (Iz 3)).setCell ⟨O,1,none⟩ (.bool false)).setCell ⟨O,2,none⟩ (Iz 0)).setCell ⟨O,3,none⟩ (.string L)).setCell ⟨O,4,none⟩ (.slice H E c3)).setCell ⟨O,5,none⟩ (.slice C D F)=wy at HP B ⊢
     go_upto_region 15 with fail
     have M:Below wy.heap.size wy wy.drew:=(Br _ _).drew;have X:=Hh ((u.o.step B.o).step M);have xq:=Hh (B.o.trans (M.mono B.o.size));have xg:=Hh ((M.block _ (Aa HP.o)).trans HP.o);have xb:=Hh ((xq.o.block _ (Aa xa.o)).trans xa.o);refine aI (fun w'=>(w'.cell? ⟨Q,0,none⟩=some (Iz n.kind)∧w'.cell? ⟨Q,1,none⟩=some (.bool n.bool)∧w'.cell? ⟨Q,2,none⟩=some (Iz n.num)∧w'.cell? ⟨Q,3,none⟩=some (.string n.text)∧w'.cell? ⟨Q,4,none⟩=some (.slice a1 l1 c1)∧w'.cell? ⟨Q,5,none⟩=some (.slice a2 l2 c2))∧w'.cell? ⟨O,3,none⟩=some (.string L)) [0,2] (.take 0 (.take 1 (.take 2 (.ask 3 true (.ask 4 false (.take 5 .stop) .stop) .stop)))) (by kernel_rfl) (by kernel_rfl) (fun _ d _ _ _ h=>by cases d <;> exact h) ⟨aA xb.o,(aA xg.o).2.2.2.1⟩ ?_
     have HG:Hid (w.heap.size ≠ O∧w.heap.size<Q):=Hh ⟨by have:=yl.o;omega,xw.o⟩
     generalize wy.drew=yc at M X xq xg xb ⊢;clear M;refine aM _ ?_ rfl rfl (by decide) ?_ (fun K m=>?_);rotate_left;(intro w0 xo;go_simp;(try rfl));(go_simp;refine m _ ?_;clear m K)
     refine aF _ ?_ rfl rfl ?_ (fun K m=>?_);rotate_left;(intro w0;go_simp;(try rfl));(go_simp;refine m _ ?_;clear m K)
     refine aM _ ?_ rfl rfl (by decide) ?_ (fun K m=>?_);rotate_left;(intro w0 xo;go_simp;(try rfl));(go_simp;refine m _ ?_;clear m K)
     have f6:=aE X.o.res;have c6:=aA X.o.res;have hg:=aO yc w.heap.size (Iz n.kind) (.bool n.bool) (Iz n.num) (.string n.text) (.slice a1 l1 c1) (.slice a2 l2 c2);have HQ:=Hh (show _∧_ from ⟨aA ((hg.block Q (Aa xb.o) (by intro e;have:=Ab e;have:=HG.o.2;omega)).trans xb.o),(aA ((hg.block O (Aa xg.o) (by intro e;exact HG.o.1 (Ab e).symm)).trans xg.o)).2.2.2.1⟩)
     clear hg;refine aH _ rfl trivial ?_
     go_wp2
     refine Seg.mk ⟨HQ.o,?_⟩;refine aB _ rfl trivial ?_
     go_wp2_with fail
     refine Seg.mk ?_;refine aF _ ?_ rfl rfl ?_ (fun K m=>?_);rotate_left;(intro w0;go_simp;(try rfl));(go_simp;refine m _ ?_;clear m K)
     unfold cQ
     go_wp2
     refine dB (v:=.string L) (v2:=Iz 0) X.o.res results11 rfl rfl rfl rfl ?_;have hg:=aO yc w.heap.size (Iz n.kind) (.bool n.bool) (Iz n.num) (.string n.text) (.slice a1 l1 c1) (.slice a2 l2 c2);have Z:=T.o.trans (xq.o.mono T.o.size);refine .inr ⟨v,j,n,0,[Iz n.kind,.bool n.bool,Iz n.num,.string n.text,.slice a1 l1 c1,.slice a2 l2 c2],x.o,HD.o,by rw [xy.o,W.o],?_,X.o.end_ _ _ _ _ _ _⟩
     rw [yj.o];exact ((xh.o.same fun b q=>Z.block b q.2).same fun b q=>hg.block b (Ll q.2 Z.size) (by intro e;have:=Ab e;have:=q.1;omega)).mono fun b q=>⟨by have:=q.1;omega,Ll (Ll q.2 Z.size) hg.size⟩
  ·have W:Hid (∀n e0,ckE s ls v n e0=8):=Hh fun n e0=>by unfold ckE;rw [Am hz]
   have n1:(v.z != (s.size:Int))=true:=by simp [hz]
   obtain ⟨n,e0,hd⟩:=aDy v.f s;have HD:=Hh hd;have f6:=aE y.o.res;have c6:=aA y.o.res;clear hz hd
   go_wp2
   refine dB (v:=.string ⟨#[]⟩) (v2:=Iz 8) y.o.res results11 rfl rfl rfl rfl ?_;exact tY x.o HD.o (W.o n e0) (by decide) rfl (y.o.end_ _ _ _ _ _ _)
end Go.Proofs.YtncdpanfefnjlaaGreatDoor