import Derived.Test.YtncdpanfefnjlaaGreatDoorMpd
set_option linter.unusedVariables false
set_option linter.unusedSimpArgs false
set_option maxHeartbeats 3200000
set_option maxRecDepth 100000
namespace Go.Proofs.YtncdpanfefnjlaaGreatDoor
open Go.Proofs.Tryz
open Go Go.ChangeShapes Go.WideShapes Go.ChangeAt Go.RowKit
theorem aBw (n:Nat) (k:Nat) (w:World) (hk:k≤8) (E:n<18446744073709551616):Calls prog 194 #[.int .u64 (n:Int),Iz (k:Int)] w fun e w'=>e=.returned (.string (bC (bR n k)))∧Below w.heap.size w w':=by
 obtain ⟨O,m,C,s,D⟩:=Ea nA;have l:=underlying69;have t:=underlying5;have h:=underlying9;have A:=Hh m;have Q:(k:Int)≤8:=by omega
 have U:IntKind.i64.wrap ((k:Int) - 1)=(k:Int) - 1:=Cc _ (by omega)
 obtain ⟨N,B⟩:∃N:Int,N=(n:Int):=⟨_,rfl⟩;rw [←B];have M:=Hh (Ai B E);clear B E m
 go_enter func194,ntmps194
 go_upto_region 3 with fail
 go_loopw [5,8] (fun v i wr=>∃ (j:Nat),i=Iz (j:Int)∧j≤k∧wr.ownsRow w.heap.size 5 1 v j (aS ((bR n k).take j))∧Below w.heap.size w wr) (fun _ i _=>k - (intOf i).toNat)
 case atStart=>exact ⟨0,by simp,Av _,Dk w _ _ _,Br _ _⟩
 case round=>
  obtain ⟨j,rfl,hj,b,G⟩:=hrel;have a:=Hh (Ai b G);clear b G
  by_cases z:j<k
  ·have K:(j:Int)<(k:Int):=by omega
   obtain ⟨i,r⟩:∃i:Nat,(i:Int)=(k:Int) - 1 - (j:Int):=⟨k - 1 - j,by omega⟩
   have xa:IntKind.i64.wrap ((k:Int) - 1 - (j:Int))=(i:Int):=by rw [r];exact Cc _ (by omega)
   have V:(k:Int) - 1 - (j:Int)=(i:Int):=r.symm;have T:(i:Int)≤7:=by omega
   have R:(0:Int)≤(i:Int):=by omega
   have Z:=Hh r;clear r;obtain ⟨c,f⟩:∃c,c=UInt8.ofNat (n / 256 ^ i):=⟨_,rfl⟩;have hc:N / 2 ^ (8 * i) % 256=(c.toNat:Int):=by rw [M.o.1,f];exact JA n i
   have X:=Hh f;have p:((bR n k).take j).length=j:=by rw [Bc,aQ];omega
   have S:=Hh p;clear f p
   go_wp2_with (refine Ay _ rfl (.tmp 11) (.tmp 20) 69 rfl w.heap.size 5 O (.int .u8 0) 1 1 l A.o C s D rfl (by decide) _ j _ rfl (a.o.1.alloc (.cells #[.int .u8 (c.toNat:Int)] 5)) ⟨wr.heap.size,0,none⟩ 1 1 [.int .u8 (c.toNat:Int)] rfl rfl (cX wr #[.int .u8 (c.toNat:Int)] 5 [.int .u8 (c.toNat:Int)] rfl) (by intro u J;simp only [Bl,Bn,Dl] at J;rcases J with rfl;rfl) (by decide) (by unfold maxLen;omega) (by omega) (by have:=a.o.2.size;simp;omega) _ rfl ?_;intro W L I b d x H)
   have q:=iG (a.o.2.alloc a.o.2.size (.cells #[.int .u8 (c.toNat:Int)] 5)) (a.o.1.alloc (.cells #[.int .u8 (c.toNat:Int)] 5)) d (by have:=a.o.2.size;simp;omega)
   have F:Hid (I.ownsRow w.heap.size 5 1 (.slice (some ⟨W,0,none⟩) (j+1) L) (j+1) (aS ((bR n k).take (j+1)))∧Below w.heap.size w I):=Hh ⟨by
    rw [qK n k j z,cF,show k - 1 - j=i by have:=Z.o;omega,←X.o]
    exact b,q⟩
   clear b d x q
   go_wp2
   go_roundw
   case rel=>exact ⟨j+1,by go_num,by omega,F.o.1,F.o.2⟩
   case measure=>simp [intOf] <;> omega
  ·have g:j=k:=by omega
   have Y:¬ (j:Int)<(k:Int):=by omega
   have y:=eA (P:=prog) wr 69 9 5 w.heap.size j _ ((bR n k).take j) a.o.1 l t h;rw [g,Ak (by rw [aQ];exact Lr _)] at y
   have HJ:=Hh g;clear g
   go_wp2
   go_ret
   exact ⟨rfl,a.o.2⟩
theorem ZF {n q:Nat} (a:¬n<24) (d:q≤3) (b:q=0∨2 ^ (8 * 2 ^ (q - 1))≤n) (c:q=3∨n<2 ^ (8 * 2 ^ q)):eC n=2 ^ q∧eW n=24+q:=by
 obtain rfl | rfl | rfl | rfl:q=0∨q=1∨q=2∨q=3:=by omega
 all_goals
  simp at b c;unfold eC eW;rw [Ae a,Ae a]
  constructor <;> (repeat' split) <;> first | rfl | (exfalso;omega)
theorem XK (m n:Nat) (w:World) (hm:m<8) (hn:n<18446744073709551616):Calls prog 168 #[.agg #[Iz (m:Int),.int .u64 (n:Int)]] w fun e w'=>e=.returned (.string (bC (cR m n)))∧Below w.heap.size w w':=by
 have xv:(0:Int)≤(m:Int):=by omega
 have xu:(m:Int)<8:=by omega
 obtain ⟨N,Q⟩:∃N:Int,N=(n:Int):=⟨_,rfl⟩;rw [←Q];have HN:=Hh (Ai Q hn);have RB:=Hh (fun k (hk:k≤8) D=>aBw n k D hk hn)
 rw [←Q] at RB;have P:Hid (∀ (W:World) (b:Nat) {c:UInt8},W.heap[b]?=some (.cells #[.int .u8 (c.toNat:Int)] 5 (0,0))→(convert 69 9 (.slice (some ⟨b,0,none⟩) 1 1)).run prog W=.ok (.string (bC [c])) W):=Hh fun W b c h=>
  run_convert_bytes_back W _ _ 5 ⟨b,0,none⟩ 1 [c] underlying69 underlying5 underlying9 fun j hj=>(by
   obtain rfl:j=0:=by simpa using hj
   exact cT [Value.int .u8 (c.toNat:Int)] h rfl 0 _ rfl)
 have xd:Hid (∀ (c:UInt8) k,k≤8→¬9223372036854775807<(bC [c]).size+(bC (bR n k)).size):=Hh fun c k hk=>by rw [bY,bY,aQ];simp;omega
 have xs:(0:Int)≤N:=by omega
 have xw:N<18446744073709551616:=by omega
 have b1:=(Br w.heap.size w).alloc (o:=.cells #[Iz (m:Int),.int .u64 N] 214) (Lr _);have k1:=Hn w (.cells #[Iz (m:Int),.int .u64 N] 214);obtain ⟨r,Y⟩:∃W,W=w.alloc (.cells #[Iz (m:Int),.int .u64 N] 214):=⟨_,rfl⟩;rw [←Y] at b1 k1;have c0:r.cell? ⟨w.heap.size,0,none⟩=some (Iz (m:Int)):=aL k1 rfl;have c1:r.cell? ⟨w.heap.size,1,none⟩=some (.int .u64 N):=aL k1 rfl;have B1:=Hh b1;clear hn b1
 by_cases Z:n<24
 ·have xm:N<24:=by omega
  obtain ⟨c,H⟩:∃c,c=UInt8.ofNat (32 * m+n):=⟨_,rfl⟩;have xl:bits BinOp.or IntKind.u8 ((m:Int) * 32) (N % 256)=(c.toNat:Int):=by rw [H,show N % 256=(n:Int) by omega];exact iX m n hm (by omega)
  have xt:bits BinOp.or IntKind.u8 ((m:Int) * 32) N=(c.toNat:Int):=by rw [H,Q];exact iX m n hm (by omega)
  have B:Hid (bC (cR m n)=bC [c]):=Hh (by rw [cR,H,show eW n=n by unfold eW;exact Am Z,show eC n=0 by unfold eC;exact Am Z];rfl)
  have u:=Hn r (.cells #[.int .u8 (c.toNat:Int)] 5);have E:=P.o _ _ u;clear Z H Q u k1
  go_enter func168,ntmps168
  go_upto_region 1 with fail
  rw [←Y];clear Y
  go_wp2
  go_ret
  exact ⟨by rw [B.o];rfl,B1.o.trans ((Br _ _).alloc B1.o.size _)⟩
 ·have xm:¬N<24:=by omega
  obtain ⟨F0,xh⟩:∃F:Int,F=32 * (m:Int)+24:=⟨_,rfl⟩;have xl:bits BinOp.or IntKind.u8 ((m:Int) * 32) 24=F0:=by
   have:=iX m 24 hm (by decide)
   rw [Bb] at this;rw [show ((24:Nat):Int)=24 from rfl] at this
   omega
  have HF:=Hh xh;have xn:=Hh (fun q=>ZF (q:=q) Z)
  clear Z xh Q
  go_enter func168,ntmps168
  go_upto_region 1 with fail
  rw [←Y];clear Y
  go_upto_region 6 with fail
  clear xl
  go_loopw [3,4] (fun f k wr=>∃ (q:Nat) (F:Int),q≤3∧f=.int .u8 F∧F=32 * (m:Int)+24+(q:Int)∧k=Iz ((2 ^ q:Nat):Int)∧(q=0∨2 ^ (8 * 2 ^ (q - 1))≤n)∧wr=r) (fun _ k _=>8 - (intOf k).toNat)
  case atStart=>exact ⟨0,F0,by decide,rfl,by rw [HF.o];simp,rfl,.inl rfl,rfl⟩
  case round=>
   obtain ⟨q,F,hq,rfl,hF,rfl,I,xf⟩:=hrel
   replace xf:=xf.symm
   subst xf;have xc:=Hh hF;have xp:(0:Int)≤F:=by omega
   have xq:F≤251:=by omega
   clear hF;have Q:=HN.o.1
   by_cases xo:q<3∧2 ^ (8 * 2 ^ q)≤n
   ·obtain ⟨xx,G⟩:=xo
    have xa:=Hh G;obtain rfl | rfl | rfl:q=0∨q=1∨q=2:=by omega
    all_goals simp only [Nat.reducePow,Nat.reduceMul] at G ⊢
    ·have xi:(0:Int)<N / 256:=by omega
     have xe:(0:Int)<N / 2 ^ 8:=by omega
     clear G I Q
     go_wp2
     go_roundw
     case rel=>exact ⟨1,_,by decide,rfl,by rw [xc.o];first | omega | (simp;omega),by first | rfl | trivial,.inr xa.o,by first | rfl | trivial⟩
     case measure=>simp [intOf]
    ·have xi:(0:Int)<N / 65536:=by omega
     have xe:(0:Int)<N / 2 ^ 16:=by omega
     clear G I Q
     go_wp2
     go_roundw
     case rel=>exact ⟨2,_,by decide,rfl,by rw [xc.o];first | omega | (simp;omega),by first | rfl | trivial,.inr xa.o,by first | rfl | trivial⟩
     case measure=>simp [intOf]
    ·have xi:(0:Int)<N / 4294967296:=by omega
     have xe:(0:Int)<N / 2 ^ 32:=by omega
     clear G I Q
     go_wp2
     go_roundw
     case rel=>exact ⟨3,_,by decide,rfl,by rw [xc.o];first | omega | (simp;omega),by first | rfl | trivial,.inr xa.o,by first | rfl | trivial⟩
     case measure=>simp [intOf]
   ·have X:q=3∨n<2 ^ (8 * 2 ^ q):=by
     by_cases h3:q=3
     ·exact .inl h3
     ·exact .inr (by omega)
    obtain ⟨xj,xk⟩:=xn.o q hq I X;have C:¬ (0:Int)<N / 2 ^ (8 * 2 ^ q):=by
     rcases X with rfl | h
     ·rw [show (8:Nat) * 2 ^ 3=64 from rfl];omega
     ·have h':N<2 ^ (8 * 2 ^ q):=by rw [Q];exact_mod_cast h
      rw [Int.ediv_eq_zero_of_lt xs h'];decide
    obtain ⟨c,H⟩:∃c,c=UInt8.ofNat (32 * m+(24+q)):=⟨_,rfl⟩;have xr:F=(c.toNat:Int):=by rw [xc.o,H,Bb];omega
    have B:Hid (bC [c]++bC (bR n (2 ^ q))=bC (cR m n)):=Hh (by rw [kW,H,cR,xj,xk];rfl)
    subst xr;clear H X I xj xk xp xq Q;obtain rfl | rfl | rfl | rfl:q=0∨q=1∨q=2∨q=3:=by omega
    ·simp only [Nat.reducePow,Nat.reduceMul] at C B ⊢
     have xb:¬ (0:Int)<N / 256:=C;have l:=Hh (fun D=>RB.o 1 (by decide) D)
     rw [show ((1:Nat):Int)=1 from rfl] at l
     go_upto_region 9 with fail
     have i:Below r.heap.size r r.drew:=(Br _ _).drew;have O:r.drew.cell? ⟨w.heap.size,1,none⟩=some (.int .u64 N):=c1;have y:w.heap.size<r.drew.heap.size:=cD O;refine aI (fun w'=>w'.cell? ⟨w.heap.size,1,none⟩=some (.int .u64 N)) [4] (.take 0 (.take 3 (.take 4 (.take 5 (eP.join true (.ask 1 true (.ask 2 true (.ask 6 false .stop .stop) (.ask 6 false (.ask 2 false .stop .stop) .stop)) (.ask 6 false (.ask 1 false (.ask 2 false .stop .stop) .stop) .stop)) (.ask 7 false (.ask 8 false .stop .stop) .stop)))))) (by kernel_rfl) (by kernel_rfl) (fun _ d _ _ _ h=>by cases d <;> exact h) c1 ?_
     clear c0 c1;generalize r.drew=t at i O y ⊢
     iterate 2 (refine aF _ ?_ rfl rfl ?_ (fun K s=>?_);rotate_left;(intro T;go_simp;(try rfl));(go_simp;refine s _ ?_;clear s K))
     refine aM _ ?_ rfl rfl (by decide) ?_ (fun K s=>?_);rotate_left;(intro T xg;go_simp;(try rfl));(go_simp;refine s _ ?_;clear s K)
     refine aF _ ?_ rfl rfl ?_ (fun K s=>?_);rotate_left;(intro T;go_simp;(try rfl));(go_simp;refine s _ ?_;clear s K)
     refine dW [32,33,37] (fun V D=>∃z,V=[z,.string (bC [c]),.string (bC (bR n 1))]∧Below r.heap.size r D) ?_ ?_
     ·refine aH _ rfl ?_ ?_
      rotate_left
      ·go_wp2_with fail
       have u:=Hn t (.cells #[.int .u8 (c.toNat:Int)] 5);have g:=i.alloc (o:=.cells #[.int .u8 (c.toNat:Int)] 5) i.size;have L:=((Br t.heap.size t).alloc (o:=.cells #[.int .u8 (c.toNat:Int)] 5) (Lr _)).cell (p:=⟨w.heap.size,1,none⟩) y |>.trans O;have x:t.heap.size<(t.alloc (.cells #[.int .u8 (c.toNat:Int)] 5)).heap.size:=by simp
       generalize t.alloc (.cells #[.int .u8 (c.toNat:Int)] 5)=J at u g L x ⊢;refine Seg.mk ⟨L,?_⟩;have E:=P.o J _ u;refine aH _ rfl ?_ ?_;rotate_left
       ·go_wp2_with fail;refine Seg.mk ⟨L,?_⟩
        refine aB _ rfl trivial ?_;go_wp2_with (go_at_call 194;(with_reducible refine (l.o _).mono ?_);rintro e v ⟨rfl,a⟩);refine Seg.mk ?_;exact aN [.slice (some ⟨t.heap.size,0,none⟩) 1 1,.string (bC [c]),.string (bC (bR n 1))] (by first | exact ⟨_,rfl,g.trans (a.mono g.size)⟩ | exact ⟨⟨_,rfl⟩,g.trans (a.mono g.size)⟩) rfl
       ·refine aB _ rfl trivial ?_;go_wp2_with (go_at_call 194;(with_reducible refine (l.o _).mono ?_);rintro e v ⟨rfl,a⟩);refine Seg.mk ?_
        have U:=P.o v _ ((a.block _ x).trans u);refine aB _ rfl trivial ?_;go_wp2_with fail;refine Seg.mk ?_;exact aN [.slice (some ⟨t.heap.size,0,none⟩) 1 1,.string (bC [c]),.string (bC (bR n 1))] (by first | exact ⟨_,rfl,g.trans (a.mono g.size)⟩ | exact ⟨⟨_,rfl⟩,g.trans (a.mono g.size)⟩) rfl
      ·refine aB _ rfl trivial ?_;go_wp2_with (go_at_call 194;(with_reducible refine (l.o _).mono ?_);rintro e v ⟨rfl,a⟩);refine Seg.mk ?_
       have R:=i.trans (a.mono i.size);refine aB _ rfl trivial ?_;go_wp2_with fail;refine Seg.mk ?_;have u:=Hn v (.cells #[.int .u8 (c.toNat:Int)] 5);have g:=R.alloc (o:=.cells #[.int .u8 (c.toNat:Int)] 5) R.size;generalize v.alloc (.cells #[.int .u8 (c.toNat:Int)] 5)=J at u g ⊢;have E:=P.o J _ u;refine aB _ rfl trivial ?_;go_wp2_with fail;refine Seg.mk ?_;exact aN [.slice (some ⟨v.heap.size,0,none⟩) 1 1,.string (bC [c]),.string (bC (bR n 1))] (by first | exact ⟨_,rfl,g⟩ | exact ⟨⟨_,rfl⟩,g⟩) rfl
     ·rintro V w' ⟨z,rfl,A⟩
      simp only [gJ,Act.put,Aq,Az,Ba];have S:=xd.o c 1 (by decide)
      have M:=Hh A;clear A;refine aB _ rfl trivial ?_;go_wp2_with fail;refine Seg.mk ?_;refine bQ _ rfl trivial ?_
      go_wp2
      go_ret
      exact ⟨by rw [B.o];rfl,B1.o.trans (M.o.mono B1.o.size)⟩
    ·simp only [Nat.reducePow,Nat.reduceMul] at C B ⊢
     have xb:¬ (0:Int)<N / 65536:=C;have l:=Hh (fun D=>RB.o 2 (by decide) D)
     rw [show ((2:Nat):Int)=2 from rfl] at l
     go_upto_region 9 with fail
     have i:Below r.heap.size r r.drew:=(Br _ _).drew;have O:r.drew.cell? ⟨w.heap.size,1,none⟩=some (.int .u64 N):=c1;have y:w.heap.size<r.drew.heap.size:=cD O;refine aI (fun w'=>w'.cell? ⟨w.heap.size,1,none⟩=some (.int .u64 N)) [4] (.take 0 (.take 3 (.take 4 (.take 5 (eP.join true (.ask 1 true (.ask 2 true (.ask 6 false .stop .stop) (.ask 6 false (.ask 2 false .stop .stop) .stop)) (.ask 6 false (.ask 1 false (.ask 2 false .stop .stop) .stop) .stop)) (.ask 7 false (.ask 8 false .stop .stop) .stop)))))) (by kernel_rfl) (by kernel_rfl) (fun _ d _ _ _ h=>by cases d <;> exact h) c1 ?_
     clear c0 c1;generalize r.drew=t at i O y ⊢
     iterate 2 (refine aF _ ?_ rfl rfl ?_ (fun K s=>?_);rotate_left;(intro T;go_simp;(try rfl));(go_simp;refine s _ ?_;clear s K))
     refine aM _ ?_ rfl rfl (by decide) ?_ (fun K s=>?_);rotate_left;(intro T xg;go_simp;(try rfl));(go_simp;refine s _ ?_;clear s K)
     refine aF _ ?_ rfl rfl ?_ (fun K s=>?_);rotate_left;(intro T;go_simp;(try rfl));(go_simp;refine s _ ?_;clear s K)
     refine dW [32,33,37] (fun V D=>∃z,V=[z,.string (bC [c]),.string (bC (bR n 2))]∧Below r.heap.size r D) ?_ ?_
     ·refine aH _ rfl ?_ ?_
      rotate_left
      ·go_wp2_with fail
       have u:=Hn t (.cells #[.int .u8 (c.toNat:Int)] 5);have g:=i.alloc (o:=.cells #[.int .u8 (c.toNat:Int)] 5) i.size;have L:=((Br t.heap.size t).alloc (o:=.cells #[.int .u8 (c.toNat:Int)] 5) (Lr _)).cell (p:=⟨w.heap.size,1,none⟩) y |>.trans O;have x:t.heap.size<(t.alloc (.cells #[.int .u8 (c.toNat:Int)] 5)).heap.size:=by simp
       generalize t.alloc (.cells #[.int .u8 (c.toNat:Int)] 5)=J at u g L x ⊢;refine Seg.mk ⟨L,?_⟩;have E:=P.o J _ u;refine aH _ rfl ?_ ?_;rotate_left
       ·go_wp2_with fail;refine Seg.mk ⟨L,?_⟩
        refine aB _ rfl trivial ?_;go_wp2_with (go_at_call 194;(with_reducible refine (l.o _).mono ?_);rintro e v ⟨rfl,a⟩);refine Seg.mk ?_;exact aN [.slice (some ⟨t.heap.size,0,none⟩) 1 1,.string (bC [c]),.string (bC (bR n 2))] (by first | exact ⟨_,rfl,g.trans (a.mono g.size)⟩ | exact ⟨⟨_,rfl⟩,g.trans (a.mono g.size)⟩) rfl
       ·refine aB _ rfl trivial ?_;go_wp2_with (go_at_call 194;(with_reducible refine (l.o _).mono ?_);rintro e v ⟨rfl,a⟩);refine Seg.mk ?_
        have U:=P.o v _ ((a.block _ x).trans u);refine aB _ rfl trivial ?_;go_wp2_with fail;refine Seg.mk ?_;exact aN [.slice (some ⟨t.heap.size,0,none⟩) 1 1,.string (bC [c]),.string (bC (bR n 2))] (by first | exact ⟨_,rfl,g.trans (a.mono g.size)⟩ | exact ⟨⟨_,rfl⟩,g.trans (a.mono g.size)⟩) rfl
      ·refine aB _ rfl trivial ?_;go_wp2_with (go_at_call 194;(with_reducible refine (l.o _).mono ?_);rintro e v ⟨rfl,a⟩);refine Seg.mk ?_
       have R:=i.trans (a.mono i.size);refine aB _ rfl trivial ?_;go_wp2_with fail;refine Seg.mk ?_;have u:=Hn v (.cells #[.int .u8 (c.toNat:Int)] 5);have g:=R.alloc (o:=.cells #[.int .u8 (c.toNat:Int)] 5) R.size;generalize v.alloc (.cells #[.int .u8 (c.toNat:Int)] 5)=J at u g ⊢;have E:=P.o J _ u;refine aB _ rfl trivial ?_;go_wp2_with fail;refine Seg.mk ?_;exact aN [.slice (some ⟨v.heap.size,0,none⟩) 1 1,.string (bC [c]),.string (bC (bR n 2))] (by first | exact ⟨_,rfl,g⟩ | exact ⟨⟨_,rfl⟩,g⟩) rfl
     ·rintro V w' ⟨z,rfl,A⟩
      simp only [gJ,Act.put,Aq,Az,Ba];have S:=xd.o c 2 (by decide)
      have M:=Hh A;clear A;refine aB _ rfl trivial ?_;go_wp2_with fail;refine Seg.mk ?_;refine bQ _ rfl trivial ?_
      go_wp2
      go_ret
      exact ⟨by rw [B.o];rfl,B1.o.trans (M.o.mono B1.o.size)⟩
    ·simp only [Nat.reducePow,Nat.reduceMul] at C B ⊢
     have xb:¬ (0:Int)<N / 4294967296:=C;have l:=Hh (fun D=>RB.o 4 (by decide) D)
     rw [show ((4:Nat):Int)=4 from rfl] at l
     go_upto_region 9 with fail
     have i:Below r.heap.size r r.drew:=(Br _ _).drew;have O:r.drew.cell? ⟨w.heap.size,1,none⟩=some (.int .u64 N):=c1;have y:w.heap.size<r.drew.heap.size:=cD O;refine aI (fun w'=>w'.cell? ⟨w.heap.size,1,none⟩=some (.int .u64 N)) [4] (.take 0 (.take 3 (.take 4 (.take 5 (eP.join true (.ask 1 true (.ask 2 true (.ask 6 false .stop .stop) (.ask 6 false (.ask 2 false .stop .stop) .stop)) (.ask 6 false (.ask 1 false (.ask 2 false .stop .stop) .stop) .stop)) (.ask 7 false (.ask 8 false .stop .stop) .stop)))))) (by kernel_rfl) (by kernel_rfl) (fun _ d _ _ _ h=>by cases d <;> exact h) c1 ?_
     clear c0 c1;generalize r.drew=t at i O y ⊢
     iterate 2 (refine aF _ ?_ rfl rfl ?_ (fun K s=>?_);rotate_left;(intro T;go_simp;(try rfl));(go_simp;refine s _ ?_;clear s K))
     refine aM _ ?_ rfl rfl (by decide) ?_ (fun K s=>?_);rotate_left;(intro T xg;go_simp;(try rfl));(go_simp;refine s _ ?_;clear s K)
     refine aF _ ?_ rfl rfl ?_ (fun K s=>?_);rotate_left;(intro T;go_simp;(try rfl));(go_simp;refine s _ ?_;clear s K)
     refine dW [32,33,37] (fun V D=>∃z,V=[z,.string (bC [c]),.string (bC (bR n 4))]∧Below r.heap.size r D) ?_ ?_
     ·refine aH _ rfl ?_ ?_
      rotate_left
      ·go_wp2_with fail
       have u:=Hn t (.cells #[.int .u8 (c.toNat:Int)] 5);have g:=i.alloc (o:=.cells #[.int .u8 (c.toNat:Int)] 5) i.size;have L:=((Br t.heap.size t).alloc (o:=.cells #[.int .u8 (c.toNat:Int)] 5) (Lr _)).cell (p:=⟨w.heap.size,1,none⟩) y |>.trans O;have x:t.heap.size<(t.alloc (.cells #[.int .u8 (c.toNat:Int)] 5)).heap.size:=by simp
       generalize t.alloc (.cells #[.int .u8 (c.toNat:Int)] 5)=J at u g L x ⊢;refine Seg.mk ⟨L,?_⟩;have E:=P.o J _ u;refine aH _ rfl ?_ ?_;rotate_left
       ·go_wp2_with fail;refine Seg.mk ⟨L,?_⟩
        refine aB _ rfl trivial ?_;go_wp2_with (go_at_call 194;(with_reducible refine (l.o _).mono ?_);rintro e v ⟨rfl,a⟩);refine Seg.mk ?_;exact aN [.slice (some ⟨t.heap.size,0,none⟩) 1 1,.string (bC [c]),.string (bC (bR n 4))] (by first | exact ⟨_,rfl,g.trans (a.mono g.size)⟩ | exact ⟨⟨_,rfl⟩,g.trans (a.mono g.size)⟩) rfl
       ·refine aB _ rfl trivial ?_;go_wp2_with (go_at_call 194;(with_reducible refine (l.o _).mono ?_);rintro e v ⟨rfl,a⟩);refine Seg.mk ?_
        have U:=P.o v _ ((a.block _ x).trans u);refine aB _ rfl trivial ?_;go_wp2_with fail;refine Seg.mk ?_;exact aN [.slice (some ⟨t.heap.size,0,none⟩) 1 1,.string (bC [c]),.string (bC (bR n 4))] (by first | exact ⟨_,rfl,g.trans (a.mono g.size)⟩ | exact ⟨⟨_,rfl⟩,g.trans (a.mono g.size)⟩) rfl
      ·refine aB _ rfl trivial ?_;go_wp2_with (go_at_call 194;(with_reducible refine (l.o _).mono ?_);rintro e v ⟨rfl,a⟩);refine Seg.mk ?_
       have R:=i.trans (a.mono i.size);refine aB _ rfl trivial ?_;go_wp2_with fail;refine Seg.mk ?_;have u:=Hn v (.cells #[.int .u8 (c.toNat:Int)] 5);have g:=R.alloc (o:=.cells #[.int .u8 (c.toNat:Int)] 5) R.size;generalize v.alloc (.cells #[.int .u8 (c.toNat:Int)] 5)=J at u g ⊢;have E:=P.o J _ u;refine aB _ rfl trivial ?_;go_wp2_with fail;refine Seg.mk ?_;exact aN [.slice (some ⟨v.heap.size,0,none⟩) 1 1,.string (bC [c]),.string (bC (bR n 4))] (by first | exact ⟨_,rfl,g⟩ | exact ⟨⟨_,rfl⟩,g⟩) rfl
     ·rintro V w' ⟨z,rfl,A⟩
      simp only [gJ,Act.put,Aq,Az,Ba];have S:=xd.o c 4 (by decide)
      have M:=Hh A;clear A;refine aB _ rfl trivial ?_;go_wp2_with fail;refine Seg.mk ?_;refine bQ _ rfl trivial ?_
      go_wp2
      go_ret
      exact ⟨by rw [B.o];rfl,B1.o.trans (M.o.mono B1.o.size)⟩
    ·simp only [Nat.reducePow,Nat.reduceMul] at C B ⊢
     have xb:¬ (0:Int)<N / 18446744073709551616:=C;have l:=Hh (fun D=>RB.o 8 (by decide) D)
     rw [show ((8:Nat):Int)=8 from rfl] at l
     go_upto_region 9 with fail
     have i:Below r.heap.size r r.drew:=(Br _ _).drew;have O:r.drew.cell? ⟨w.heap.size,1,none⟩=some (.int .u64 N):=c1;have y:w.heap.size<r.drew.heap.size:=cD O;refine aI (fun w'=>w'.cell? ⟨w.heap.size,1,none⟩=some (.int .u64 N)) [4] (.take 0 (.take 3 (.take 4 (.take 5 (eP.join true (.ask 1 true (.ask 2 true (.ask 6 false .stop .stop) (.ask 6 false (.ask 2 false .stop .stop) .stop)) (.ask 6 false (.ask 1 false (.ask 2 false .stop .stop) .stop) .stop)) (.ask 7 false (.ask 8 false .stop .stop) .stop)))))) (by kernel_rfl) (by kernel_rfl) (fun _ d _ _ _ h=>by cases d <;> exact h) c1 ?_
     clear c0 c1;generalize r.drew=t at i O y ⊢
     iterate 2 (refine aF _ ?_ rfl rfl ?_ (fun K s=>?_);rotate_left;(intro T;go_simp;(try rfl));(go_simp;refine s _ ?_;clear s K))
     refine aM _ ?_ rfl rfl (by decide) ?_ (fun K s=>?_);rotate_left;(intro T xg;go_simp;(try rfl));(go_simp;refine s _ ?_;clear s K)
     refine aF _ ?_ rfl rfl ?_ (fun K s=>?_);rotate_left;(intro T;go_simp;(try rfl));(go_simp;refine s _ ?_;clear s K)
     refine dW [32,33,37] (fun V D=>∃z,V=[z,.string (bC [c]),.string (bC (bR n 8))]∧Below r.heap.size r D) ?_ ?_
     ·refine aH _ rfl ?_ ?_
      rotate_left
      ·go_wp2_with fail
       have u:=Hn t (.cells #[.int .u8 (c.toNat:Int)] 5);have g:=i.alloc (o:=.cells #[.int .u8 (c.toNat:Int)] 5) i.size;have L:=((Br t.heap.size t).alloc (o:=.cells #[.int .u8 (c.toNat:Int)] 5) (Lr _)).cell (p:=⟨w.heap.size,1,none⟩) y |>.trans O;have x:t.heap.size<(t.alloc (.cells #[.int .u8 (c.toNat:Int)] 5)).heap.size:=by simp
       generalize t.alloc (.cells #[.int .u8 (c.toNat:Int)] 5)=J at u g L x ⊢;refine Seg.mk ⟨L,?_⟩;have E:=P.o J _ u;refine aH _ rfl ?_ ?_;rotate_left
       ·go_wp2_with fail;refine Seg.mk ⟨L,?_⟩
        refine aB _ rfl trivial ?_;go_wp2_with (go_at_call 194;(with_reducible refine (l.o _).mono ?_);rintro e v ⟨rfl,a⟩);refine Seg.mk ?_;exact aN [.slice (some ⟨t.heap.size,0,none⟩) 1 1,.string (bC [c]),.string (bC (bR n 8))] (by first | exact ⟨_,rfl,g.trans (a.mono g.size)⟩ | exact ⟨⟨_,rfl⟩,g.trans (a.mono g.size)⟩) rfl
       ·refine aB _ rfl trivial ?_;go_wp2_with (go_at_call 194;(with_reducible refine (l.o _).mono ?_);rintro e v ⟨rfl,a⟩);refine Seg.mk ?_
        have U:=P.o v _ ((a.block _ x).trans u);refine aB _ rfl trivial ?_;go_wp2_with fail;refine Seg.mk ?_;exact aN [.slice (some ⟨t.heap.size,0,none⟩) 1 1,.string (bC [c]),.string (bC (bR n 8))] (by first | exact ⟨_,rfl,g.trans (a.mono g.size)⟩ | exact ⟨⟨_,rfl⟩,g.trans (a.mono g.size)⟩) rfl
      ·refine aB _ rfl trivial ?_;go_wp2_with (go_at_call 194;(with_reducible refine (l.o _).mono ?_);rintro e v ⟨rfl,a⟩);refine Seg.mk ?_
       have R:=i.trans (a.mono i.size);refine aB _ rfl trivial ?_;go_wp2_with fail;refine Seg.mk ?_;have u:=Hn v (.cells #[.int .u8 (c.toNat:Int)] 5);have g:=R.alloc (o:=.cells #[.int .u8 (c.toNat:Int)] 5) R.size;generalize v.alloc (.cells #[.int .u8 (c.toNat:Int)] 5)=J at u g ⊢;have E:=P.o J _ u;refine aB _ rfl trivial ?_;go_wp2_with fail;refine Seg.mk ?_;exact aN [.slice (some ⟨v.heap.size,0,none⟩) 1 1,.string (bC [c]),.string (bC (bR n 8))] (by first | exact ⟨_,rfl,g⟩ | exact ⟨⟨_,rfl⟩,g⟩) rfl
     ·rintro V w' ⟨z,rfl,A⟩
      simp only [gJ,Act.put,Aq,Az,Ba];have S:=xd.o c 8 (by decide)
      have M:=Hh A;clear A;refine aB _ rfl trivial ?_;go_wp2_with fail;refine Seg.mk ?_;refine bQ _ rfl trivial ?_
      go_wp2
      go_ret
      exact ⟨by rw [B.o];rfl,B1.o.trans (M.o.mono B1.o.size)⟩
end Go.Proofs.YtncdpanfefnjlaaGreatDoor