import Derived.Test.YtncdpanfefnjlaaGreatDoorCen
set_option linter.unusedVariables false
set_option linter.unusedSimpArgs false
set_option maxHeartbeats 6400000
set_option maxRecDepth 100000
namespace Go.Proofs.YtncdpanfefnjlaaGreatDoor
open Go.Proofs.Tryz
open Go Go.ChangeShapes Go.WideShapes Go.ChangeAt Go.RowKit
theorem qC (n:Nat) (k:Nat) (w:World) (hk:k≤8) (G:n<18446744073709551616):Calls prog 104 #[.int .u64 (n:Int),Iz (k:Int)] w fun e w'=>e=.returned (.string (bC (bR n k)))∧Below w.heap.size w w':=by
 obtain ⟨Q,p,D,s,E⟩:=Ea nA;have m:=underlying69;have t:=underlying5;have l:=underlying9;have B:=Hh p;have R:(k:Int)≤8:=by omega
 have V:IntKind.i64.wrap ((k:Int) - 1)=(k:Int) - 1:=Cc _ (by omega)
 obtain ⟨N,C⟩:∃N:Int,N=(n:Int):=⟨_,rfl⟩;rw [←C];have O:=Hh (Ai C G);clear C G p
 go_enter func104,ntmps104
 go_upto_region 3 with fail
 go_loopw [5,6] (fun v i wr=>∃ (j:Nat),i=Iz ((k:Int) - 1 - (j:Int))∧j≤k∧wr.ownsRow w.heap.size 5 1 v j (aS ((bR n k).take j))∧Below w.heap.size w wr) (fun _ i _=>(intOf i+1).toNat)
 case atStart=>exact ⟨0,by simp,Av _,Dk w _ _ _,Br _ _⟩
 case round=>
  obtain ⟨j,rfl,Z,b,H⟩:=hrel;have a:=Hh (Ai b H);clear b H
  by_cases z:j<k
  ·have g:(0:Int)≤(k:Int) - 1 - (j:Int):=by omega
   obtain ⟨i,A⟩:∃i:Nat,(i:Int)=(k:Int) - 1 - (j:Int):=⟨k - 1 - j,by omega⟩
   have U:(i:Int)≤7:=by omega
   have S:(0:Int)≤(i:Int):=by omega
   rw [←A] at g ⊢;have L:=Hh A;clear A g;obtain ⟨c,f⟩:∃c,c=UInt8.ofNat (n / 256 ^ i):=⟨_,rfl⟩;have Y:N / 2 ^ (8 * i) % 256=(c.toNat:Int):=by rw [O.o.1,f];exact JA n i
   have X:=Hh f;have q:((bR n k).take j).length=j:=by rw [Bc,aQ];omega
   have T:=Hh q;clear f q
   go_wp2_with (refine Ay _ rfl (.tmp 13) (.tmp 20) 69 rfl w.heap.size 5 Q (.int .u8 0) 1 1 m B.o D s E rfl (by decide) _ j _ rfl (a.o.1.alloc (.cells #[.int .u8 (c.toNat:Int)] 5)) ⟨wr.heap.size,0,none⟩ 1 1 [.int .u8 (c.toNat:Int)] rfl rfl (cX wr #[.int .u8 (c.toNat:Int)] 5 [.int .u8 (c.toNat:Int)] rfl) (by intro u K;simp only [Bl,Bn,Dl] at K;rcases K with rfl;rfl) (by decide) (by unfold maxLen;omega) (by omega) (by have:=a.o.2.size;simp;omega) _ rfl ?_;intro W M J b d x I)
   have r:=iG (a.o.2.alloc a.o.2.size (.cells #[.int .u8 (c.toNat:Int)] 5)) (a.o.1.alloc (.cells #[.int .u8 (c.toNat:Int)] 5)) d (by have:=a.o.2.size;simp;omega)
   have F:Hid (J.ownsRow w.heap.size 5 1 (.slice (some ⟨W,0,none⟩) (j+1) M) (j+1) (aS ((bR n k).take (j+1)))∧Below w.heap.size w J):=Hh ⟨by
    rw [qK n k j z,cF,show k - 1 - j=i by have:=L.o;omega,←X.o]
    exact b,r⟩
   clear b d x r
   go_wp2
   go_roundw
   case rel=>exact ⟨j+1,by have:=L.o;exact Ad _ (by omega),by omega,F.o.1,F.o.2⟩
   case measure=>simp [intOf] <;> omega
  ·have h:j=k:=by omega
   have g:¬ (0:Int)≤(k:Int) - 1 - (j:Int):=by omega
   have y:=eA (P:=prog) wr 69 9 5 w.heap.size j _ ((bR n k).take j) a.o.1 m t l;rw [h,Ak (by rw [aQ];exact Lr _)] at y
   have HJ:=Hh h;clear h
   go_wp2
   go_ret
   exact ⟨rfl,a.o.2⟩
theorem qB (z:Int) (c:Nat) (w:World) (g:z % 256=((UInt8.ofNat c).toNat:Int)):Calls prog 105 #[Iz z] w fun e w'=>e=.returned (.string (bC [UInt8.ofNat c]))∧Below w.heap.size w w':=by
 generalize UInt8.ofNat c=b at g ⊢;have a:=Hn w (.cells #[.int .u8 (b.toNat:Int)] 5);have d:(convert 69 9 (.slice (some ⟨w.heap.size,0,none⟩) 1 1)).run prog (w.alloc (.cells #[.int .u8 (b.toNat:Int)] 5))=.ok (.string (bC [b])) (w.alloc (.cells #[.int .u8 (b.toNat:Int)] 5)):=
  run_convert_bytes_back _ _ _ 5 ⟨w.heap.size,0,none⟩ 1 [b] underlying69 underlying5 underlying9 fun j f=>(by
   obtain rfl:j=0:=by simpa using f
   exact cT [Value.int .u8 (b.toNat:Int)] a rfl 0 _ rfl)
 clear a
 go_enter func105,ntmps105
 go_wp2
 go_ret
 exact ⟨rfl,(Br _ _).alloc (Lr _) _⟩
theorem kG (c:UInt8) (l:Ub):(⟨#[c]⟩:Bt)++bC l=bC (c::l):=by
 rw [show (⟨#[c]⟩:Bt)=bC [c] from rfl,kW];rfl
theorem WK (z:Int):IntKind.u64.wrap z=(cU z:Int):=by rw [Bi];unfold cU;omega
theorem aGl (z:Int):cU z<18446744073709551616:=by unfold cU;omega
theorem XD (z:Int) (w:World) (y:-9223372036854775808≤z) (A:z≤9223372036854775807):Calls prog 102 #[Iz z] w fun e w'=>e=.returned (.string (bC (cH (gS z) (cU z))))∧Below w.heap.size w w':=by
 have m:=WK z;have j:=Hh (fun k (v:k≤8) i=>qC (cU z) k i v (aGl z))
 have f:Hid (∀k,k≤8→¬9223372036854775807<1+(bC (bR (cU z) k)).size):=Hh fun k v=>by rw [bY,aQ];omega
 by_cases a:-32≤z∧z<128
 ·have h:gS z=(cU z % 256,0):=by unfold gS;rw [Am a]
  have t:=Hh (fun i=>qB z (cU z % 256) i (by rw [Bb];unfold cU;omega))
  obtain ⟨u,x⟩:=a;rw [h];clear h m j f;generalize cU z % 256=c at t ⊢
  go_enter func102,ntmps102
  go_wp2_with (go_at_call 105;(with_reducible refine (t.o _).mono ?_);rintro e q ⟨rfl,g⟩)
  go_ret
  exact ⟨rfl,g⟩
 have l:¬ (-32≤z∧z<128):=a
 by_cases p:0<z
 ·have u:-32≤z:=by omega
  have x:¬z<128:=by omega
  by_cases n:z<256
  ·skip
   have h:bC (cH (gS z) (cU z))=⟨#[204]⟩++bC (bR (cU z) 1):=by
    rw [kG];unfold gS;rw [Ae l,Am p,Am n];rfl
   rw [h];have b:=Hh (fun i=>j.o 1 (by decide) i)
   rw [show ((1:Nat):Int)=1 from rfl] at b
   have d:=f.o 1 (by decide)
   clear h j f l a;generalize cU z=N at m b d ⊢
   go_enter func102,ntmps102
   go_wp2_with (go_at_call 104;(with_reducible refine (b.o _).mono ?_);rintro e q ⟨rfl,g⟩)
   go_ret
   exact ⟨rfl,g⟩
  by_cases r:z<65536
  ·skip
   have h:bC (cH (gS z) (cU z))=⟨#[205]⟩++bC (bR (cU z) 2):=by
    rw [kG];unfold gS;rw [Ae l,Am p,Ae n,Am r];rfl
   rw [h];have b:=Hh (fun i=>j.o 2 (by decide) i)
   rw [show ((2:Nat):Int)=2 from rfl] at b
   have d:=f.o 2 (by decide)
   clear h j f l a;generalize cU z=N at m b d ⊢
   go_enter func102,ntmps102
   go_wp2_with (go_at_call 104;(with_reducible refine (b.o _).mono ?_);rintro e q ⟨rfl,g⟩)
   go_ret
   exact ⟨rfl,g⟩
  by_cases s:z<4294967296
  ·skip
   have h:bC (cH (gS z) (cU z))=⟨#[206]⟩++bC (bR (cU z) 4):=by
    rw [kG];unfold gS;rw [Ae l,Am p,Ae n,Ae r,Am s];rfl
   rw [h];have b:=Hh (fun i=>j.o 4 (by decide) i)
   rw [show ((4:Nat):Int)=4 from rfl] at b
   have d:=f.o 4 (by decide)
   clear h j f l a;generalize cU z=N at m b d ⊢
   go_enter func102,ntmps102
   go_wp2_with (go_at_call 104;(with_reducible refine (b.o _).mono ?_);rintro e q ⟨rfl,g⟩)
   go_ret
   exact ⟨rfl,g⟩
  have h:bC (cH (gS z) (cU z))=⟨#[207]⟩++bC (bR (cU z) 8):=by
   rw [kG];unfold gS;rw [Ae l,Am p,Ae n,Ae r,Ae s];rfl
  rw [h];have b:=Hh (fun i=>j.o 8 (by decide) i)
  rw [show ((8:Nat):Int)=8 from rfl] at b
  have d:=f.o 8 (by decide)
  clear h j f l a;generalize cU z=N at m b d ⊢
  go_enter func102,ntmps102
  go_wp2_with (go_at_call 104;(with_reducible refine (b.o _).mono ?_);rintro e q ⟨rfl,g⟩)
  go_ret
  exact ⟨rfl,g⟩
 ·have u:¬ -32≤z:=by omega
  by_cases n:-128≤z
  ·skip
   have h:bC (cH (gS z) (cU z))=⟨#[208]⟩++bC (bR (cU z) 1):=by
    rw [kG];unfold gS;rw [Ae l,Ae p,Am n];rfl
   rw [h];have b:=Hh (fun i=>j.o 1 (by decide) i)
   rw [show ((1:Nat):Int)=1 from rfl] at b
   have d:=f.o 1 (by decide)
   clear h j f l a;generalize cU z=N at m b d ⊢
   go_enter func102,ntmps102
   go_wp2_with (go_at_call 104;(with_reducible refine (b.o _).mono ?_);rintro e q ⟨rfl,g⟩)
   go_ret
   exact ⟨rfl,g⟩
  by_cases r:-32768≤z
  ·skip
   have h:bC (cH (gS z) (cU z))=⟨#[209]⟩++bC (bR (cU z) 2):=by
    rw [kG];unfold gS;rw [Ae l,Ae p,Ae n,Am r];rfl
   rw [h];have b:=Hh (fun i=>j.o 2 (by decide) i)
   rw [show ((2:Nat):Int)=2 from rfl] at b
   have d:=f.o 2 (by decide)
   clear h j f l a;generalize cU z=N at m b d ⊢
   go_enter func102,ntmps102
   go_wp2_with (go_at_call 104;(with_reducible refine (b.o _).mono ?_);rintro e q ⟨rfl,g⟩)
   go_ret
   exact ⟨rfl,g⟩
  by_cases s:-2147483648≤z
  ·skip
   have h:bC (cH (gS z) (cU z))=⟨#[210]⟩++bC (bR (cU z) 4):=by
    rw [kG];unfold gS;rw [Ae l,Ae p,Ae n,Ae r,Am s];rfl
   rw [h];have b:=Hh (fun i=>j.o 4 (by decide) i)
   rw [show ((4:Nat):Int)=4 from rfl] at b
   have d:=f.o 4 (by decide)
   clear h j f l a;generalize cU z=N at m b d ⊢
   go_enter func102,ntmps102
   go_wp2_with (go_at_call 104;(with_reducible refine (b.o _).mono ?_);rintro e q ⟨rfl,g⟩)
   go_ret
   exact ⟨rfl,g⟩
  have h:bC (cH (gS z) (cU z))=⟨#[211]⟩++bC (bR (cU z) 8):=by
   rw [kG];unfold gS;rw [Ae l,Ae p,Ae n,Ae r,Ae s];rfl
  rw [h];have b:=Hh (fun i=>j.o 8 (by decide) i)
  rw [show ((8:Nat):Int)=8 from rfl] at b
  have d:=f.o 8 (by decide)
  clear h j f l a;generalize cU z=N at m b d ⊢
  go_enter func102,ntmps102
  go_wp2_with (go_at_call 104;(with_reducible refine (b.o _).mono ?_);rintro e q ⟨rfl,g⟩)
  go_ret
  exact ⟨rfl,g⟩
theorem aBx (s:Bt):bC (eR s)=bC (cH (gU s.size) s.size)++s:=by
 unfold eR;rw [←kW,pS]
theorem zT (s:Bt) (w:World) (y:s.size≤65536):Calls prog 103 #[.string s] w fun e w'=>e=.returned (.string (bC (eR s)))∧Below w.heap.size w w':=by
 rw [aBx];have x:IntKind.u64.wrap (s.size:Int)=(s.size:Int):=by rw [Bi];omega
 have j:=Hh (fun k (v:k≤8) i=>qC s.size k i v (by omega))
 have a:Hid (∀k,k≤8→¬9223372036854775807<1+(bC (bR s.size k)).size∧∀c:UInt8,¬9223372036854775807<((⟨#[c]⟩:Bt)++bC (bR s.size k)).size+s.size):=Hh fun k v=>by
  refine ⟨by rw [bY,aQ];omega,fun c=>?_⟩
  rw [Cq,bY,aQ];show ¬9223372036854775807<1+k+s.size;omega
 by_cases l:s.size<32
 ·have r:(s.size:Int)<32:=by omega
  have h:bC (cH (gU s.size) s.size)=bC [UInt8.ofNat (160+s.size)]:=by unfold gU;rw [Am l];rfl
  rw [h];have t:=Hh (fun i=>qB (160+(s.size:Int)) (160+s.size) i (by rw [Bb];omega))
  have d:∀c:UInt8,¬9223372036854775807<(bC [c]).size+s.size:=fun c=>by rw [bY];simp;omega
  have b:=d (UInt8.ofNat (160+s.size));clear h j a x d;generalize UInt8.ofNat (160+s.size)=c at t b ⊢
  go_enter func103,ntmps103
  go_wp2_with (go_at_call 105;(with_reducible refine (t.o _).mono ?_);rintro e n ⟨rfl,g⟩)
  go_ret
  exact ⟨rfl,g⟩
 have r:¬ (s.size:Int)<32:=by omega
 by_cases q:s.size<256
 ·have p:(s.size:Int)<256:=by omega
  have h:bC (cH (gU s.size) s.size)=⟨#[217]⟩++bC (bR s.size 1):=by
   rw [kG];unfold gU;rw [Ae l,Am q];rfl
  rw [h];have f:=Hh (fun i=>j.o 1 (by decide) i)
  rw [show ((1:Nat):Int)=1 from rfl] at f
  have d:=(a.o 1 (by decide)).1
  have b:=(a.o 1 (by decide)).2 217
  clear h j a
  go_enter func103,ntmps103
  go_wp2_with (go_at_call 104;(with_reducible refine (f.o _).mono ?_);rintro e n ⟨rfl,g⟩)
  go_ret
  exact ⟨rfl,g⟩
 have p:¬ (s.size:Int)<256:=by omega
 by_cases u:s.size<65536
 ·have m:(s.size:Int)<65536:=by omega
  have h:bC (cH (gU s.size) s.size)=⟨#[218]⟩++bC (bR s.size 2):=by
   rw [kG];unfold gU;rw [Ae l,Ae q,Am u];rfl
  rw [h];have f:=Hh (fun i=>j.o 2 (by decide) i)
  rw [show ((2:Nat):Int)=2 from rfl] at f
  have d:=(a.o 2 (by decide)).1
  have b:=(a.o 2 (by decide)).2 218
  clear h j a
  go_enter func103,ntmps103
  go_wp2_with (go_at_call 104;(with_reducible refine (f.o _).mono ?_);rintro e n ⟨rfl,g⟩)
  go_ret
  exact ⟨rfl,g⟩
 have m:¬ (s.size:Int)<65536:=by omega
 have h:bC (cH (gU s.size) s.size)=⟨#[219]⟩++bC (bR s.size 4):=by
  rw [kG];unfold gU;rw [Ae l,Ae q,Ae u];rfl
 rw [h];have f:=Hh (fun i=>j.o 4 (by decide) i)
 rw [show ((4:Nat):Int)=4 from rfl] at f
 have d:=(a.o 4 (by decide)).1
 have b:=(a.o 4 (by decide)).2 219
 clear h j a
 go_enter func103,ntmps103
 go_wp2_with (go_at_call 104;(with_reducible refine (f.o _).mono ?_);rintro e n ⟨rfl,g⟩)
 go_ret
 exact ⟨rfl,g⟩
theorem nS {h:Nat × Nat} {v:Nat} (a:h.2≤8):(cH h v).length≤9:=by unfold cH;rw [Ag,aQ];omega
def vY (d:Nat):Prop:=∀ (D:Nat) (S:Nat→Prop) (a:Vl) (x:ND) (w:World),aD D S w a x→(∀b,S b→b<w.heap.size)→aC d x=true→aP d x=true→(aW d x).length≤35184372088832 →
 Calls prog 69 #[.agg a.toArray] w fun e w'=>e=.returned (.string (bC (aW d x)))∧Below w.heap.size w w'
theorem GP {d:Nat} (IH:vY d):vY (d+1):=by
 intro D S cs x w h hS hv hn c;obtain ⟨a1,l1,c1,a2,l2,c2,rfl⟩:=h.slices;have b1:=(Br w.heap.size w).alloc (o:=.cells #[Iz x.kind,.bool x.bool,Iz x.num,.string x.text,.slice a1 l1 c1,.slice a2 l2 c2] 28) (Lr _);have J:=cG hn;have r:=aX hv;cases D with
 | zero=>exact h.elim
 | succ D=>
 obtain ⟨vn,vi,e,ht,xa,C⟩:=h;simp only [Bu,Dd,Dj] at e;obtain ⟨rfl,rfl⟩:=e;have hk:=iF hv;obtain ⟨k,b,n,t,ns,its⟩:=x;simp only [ND.kind,ND.bool,ND.num,ND.text,ND.names,ND.items,nd0,ND.mk.injEq,Dj,Dd] at hk ht xa C b1 J r ⊢;rcases hk with ⟨rfl,rfl,rfl,rfl,rfl,rfl⟩ | ⟨rfl,rfl,rfl,rfl,rfl⟩ | ⟨rfl,rfl,rfl,rfl,rfl⟩ | ⟨rfl,rfl,rfl,rfl,rfl⟩ | ⟨rfl,rfl,rfl,rfl,rfl⟩ | ⟨⟨rfl,rfl,rfl,rfl⟩,xe⟩
 ·rw [show bC (aW (d+1) (.mk 0 false 0 ⟨#[]⟩ [] []))=⟨#[192]⟩ from rfl]
  clear xa C J r hv hn c IH ht
  go_enter func69,ntmps69
  go_wp2
  go_ret
  exact ⟨rfl,b1⟩
 ·rw [show bC (aW (d+1) (.mk 1 b 0 ⟨#[]⟩ [] []))=if b then ⟨#[195]⟩ else ⟨#[194]⟩ by cases b <;> rfl]
  clear xa C J r hv hn c IH ht;cases b
  all_goals
   go_enter func69,ntmps69
   go_wp2
   go_ret
   exact ⟨rfl,b1⟩
 ·obtain ⟨hw,-⟩:=J
  unfold dD at hw;rw [An,As,As] at hw;have B1:=Hh b1;rw [show aW (d+1) (.mk 2 false n ⟨#[]⟩ [] [])=cH (gS n) (cU n) by rw [gB];exact By _]
  have RN:=Hh (fun l=>XD n l hw.1 hw.2)
  clear xa C r hv hn c IH ht b1 hw;generalize bC (cH (gS n) (cU n))=X at RN ⊢
  go_enter func69,ntmps69
  go_wp2_with (go_at_call 102;(with_reducible refine (RN.o _).mono ?_);rintro e R ⟨rfl,f⟩)
  go_ret
  exact ⟨rfl,B1.o.trans (f.mono B1.o.size)⟩
 ·have hs:=dY r.2.2.1
  have B1:=Hh b1;rw [show aW (d+1) (.mk 3 false 0 t [] [])=eR t from rfl]
  have RT:=Hh (fun l=>zT t l hs)
  clear xa C J r hv hn c IH ht b1 hs;generalize bC (eR t)=X at RT ⊢
  go_enter func69,ntmps69
  go_wp2_with (go_at_call 103;(with_reducible refine (RT.o _).mono ?_);rintro e R ⟨rfl,f⟩)
  go_ret
  exact ⟨rfl,B1.o.trans (f.mono B1.o.size)⟩
 ·obtain ⟨P0,T⟩:∃P,P=its.map (aW d):=⟨_,rfl⟩
  have xl:aW (d+1) (.mk 4 false 0 ⟨#[]⟩ [] its)=cH (oG its.length) its.length++P0.flatten:=by rw [T];rfl
  rw [xl] at c ⊢;have E:P0.flatten.length≤35184372088832:=by rw [Lg] at c;omega
  obtain ⟨ai,ci,ei,ym,yj,-⟩:=id C;have xy:l2=its.length:=by cases ei;rfl
  subst xy;clear ei;have xv:=r.2.1;have ck:=aA (Hn w (.cells #[Iz 4,.bool false,Iz 0,.string ⟨#[]⟩,.slice a1 l1 c1,.slice a2 its.length c2] 28));have z:w.heap.size<(w.alloc (.cells #[Iz 4,.bool false,Iz 0,.string ⟨#[]⟩,.slice a1 l1 c1,.slice a2 its.length c2] 28)).heap.size:=by simp
  obtain ⟨w1,A⟩:∃W,W=w.alloc (.cells #[Iz 4,.bool false,Iz 0,.string ⟨#[]⟩,.slice a1 l1 c1,.slice a2 its.length c2] 28):=⟨_,rfl⟩;rw [←A] at b1 ck z;have H:=Hh C;have HS:=Hh hS;have HV:=Hh r;have x6:=Hh J;have HP:=Hh T;have xh:=Hh E;have HI:=Hh IH;have B1:=Hh b1;have CK:=Hh ck;have WL:=Hh z;have RB:=Hh (fun l=>qC its.length 2 l (by decide) (by omega))
  rw [show ((2:Nat):Int)=2 from rfl] at RB
  have xg:IntKind.u64.wrap (its.length:Int)=(its.length:Int):=by rw [Bi];omega
  have xb:¬9223372036854775807<1+(bC (bR its.length 2)).size:=by rw [bY,aQ];omega
  obtain ⟨O,N⟩:∃O,O=cH (oG its.length) its.length:=⟨_,rfl⟩;have yh:O.length≤9:=by rw [N];exact nS (by unfold oG;split <;> simp)
  have xd:=Hh N;rw [←N];clear C hS r J T E IH b1 z c xl hn hv ht N xa;have Z:∀ (K:World→Prop),(∀R,Below w1.heap.size w1 R→K R)→True:=fun _ _=>trivial
  clear Z
  by_cases I:its.length<16
  case' pos=>
   go_enter func69,ntmps69
   go_upto_region 1 with fail
   rw [←A];clear A;have xj:(its.length:Int)<16:=by omega
   have G:O=[UInt8.ofNat (144+its.length)]:=by rw [xd.o];unfold oG;rw [Am I];rfl
   have RO:=Hh (fun l=>qB (144+(its.length:Int)) (144+its.length) l (by rw [Bb];omega))
   rw [←G] at RO;clear G I
   go_upto_region 21 with (first
    | (go_at_call 105;(with_reducible refine (RO.o _).mono ?_);rintro e w3 ⟨rfl,x5⟩)
    | (go_at_call 104;(with_reducible refine (RB.o _).mono ?_);rintro e R ⟨rfl,f⟩))
   have g:Below w1.heap.size w1 w3:=f.trans (x5.mono f.size);generalize xc:w3=wl at g ⊢
  case' neg=>
   go_enter func69,ntmps69
   go_upto_region 1 with fail
   rw [←A];clear A;have xj:¬ (its.length:Int)<16:=by omega
   have G:(⟨#[220]⟩:Bt)++bC (bR its.length 2)=bC O:=by rw [kG,xd.o];unfold oG;rw [Ae I];rfl
   clear I
   go_upto_region 21 with ((with_reducible refine (RB.o _).mono ?_);rintro e R ⟨rfl,f⟩)
   try rw [G]
   clear G;have g:Below w1.heap.size w1 R:=f;generalize xc:R=wl at g ⊢
  all_goals
   clear xc xg xb RB;have xi:=Ll WL.o g.size;have x7:wl.cell? ⟨w.heap.size,5,none⟩=_:=(g.cell (p:=⟨w.heap.size,5,none⟩) WL.o).trans CK.o.2.2.2.2.2;have M:=Hh g;clear ck g f
   go_upto_region 22 with fail
   clear x7
   go_loopw [4,51] (fun v i wr=>∃ (j:Nat),i=Iz j∧j≤its.length∧v=.string (bC (O++(P0.take j).flatten))∧Below wl.heap.size wl wr) (fun _ i _=>its.length - (intOf i).toNat)
   case atStart=>exact ⟨0,rfl,Av _,by simp,Br _ _⟩
   case round=>
    obtain ⟨j,rfl,hj,rfl,hB⟩:=hrel;have B:=M.o.trans (hB.mono M.o.size)
    by_cases xu:j<its.length
    ·have xo:(j:Int)<(its.length:Int):=by omega
     have yq:(0:Int)≤(j:Int):=by omega
     obtain ⟨-,-,-,b,q,y,a3,l3,c3,a4,l4,c4,rfl,x8,G,xf,k0,k1,k2,k3,k4,k5⟩:=H.o.at xu;have a:=B1.o.trans (B.mono B1.o.size);have m:=HS.o b x8;have q0:=(a.cell (p:=⟨b,q+j * 6,none⟩) m).trans k0;have q1:=(a.cell (p:=⟨b,q+j * 6+1,none⟩) m).trans k1;have q2:=(a.cell (p:=⟨b,q+j * 6+2,none⟩) m).trans k2;have q3:=(a.cell (p:=⟨b,q+j * 6+3,none⟩) m).trans k3;have q4:=(a.cell (p:=⟨b,q+j * 6+4,none⟩) m).trans k4;have q5:=(a.cell (p:=⟨b,q+j * 6+5,none⟩) m).trans k5;clear k0 k1 k2 k3 k4 k5;have xk:=HV.o.1 y (Ao G);have xm:=x6.o.2 y (Ao G);have xn:P0[j]?=some (aW d y):=by rw [HP.o,Be,G];rfl
     obtain ⟨Q,hQ⟩:∃Q,Q=(P0.take j).flatten:=⟨_,rfl⟩;have u:=jN xn;have V:=lJ P0 (j+1);rw [u,Lg] at V;rw [←hQ] at u V ⊢;have yf:Q.length≤35184372088832:=by have:=xh.o;omega
     have xp:(aW d y).length≤35184372088832:=by have:=xh.o;omega
     have WR:=Hh (fun (l:World) (hb:Below w.heap.size w l)=>HI.o D S _ y l (xf.same fun b U=>hb.block b (HS.o b U)) (fun b U=>Ll (HS.o b U) hb.size) xk xm xp)
     have bA:=a.alloc (o:=.cells #[Iz y.kind,.bool y.bool,Iz y.num,.string y.text,.slice a3 l3 c3,.slice a4 l4 c4] 28) a.size;have cA:=aA (Hn wr (.cells #[Iz y.kind,.bool y.bool,Iz y.num,.string y.text,.slice a3 l3 c3,.slice a4 l4 c4] 28));have L:wr.heap.size<(wr.alloc (.cells #[Iz y.kind,.bool y.bool,Iz y.num,.string y.text,.slice a3 l3 c3,.slice a4 l4 c4] 28)).heap.size:=by simp
     have F:=hB.alloc (o:=.cells #[Iz y.kind,.bool y.bool,Iz y.num,.string y.text,.slice a3 l3 c3,.slice a4 l4 c4] 28) hB.size;obtain ⟨Y,hY⟩:∃Y,Y=aW d y:=⟨_,rfl⟩;rw [←hY] at xp u WR;have xt:=Hh u;clear xn V u G xf xk xm hY a hQ
     go_upto_region 24 with fail
     generalize wr.alloc (.cells #[Iz y.kind,.bool y.bool,Iz y.num,.string y.text,.slice a3 l3 c3,.slice a4 l4 c4] 28)=wa at bA F cA L ⊢;have BA:=Hh (Ai bA F);have cx:wa.cell? ⟨w.heap.size,0,none⟩=some (Iz 4)∧wa.cell? ⟨w.heap.size,4,none⟩=some (.slice a1 l1 c1):=⟨(F.cell (p:=⟨w.heap.size,0,none⟩) xi).trans ((M.o.cell (p:=⟨w.heap.size,0,none⟩) WL.o).trans CK.o.1),(F.cell (p:=⟨w.heap.size,4,none⟩) xi).trans ((M.o.cell (p:=⟨w.heap.size,4,none⟩) WL.o).trans CK.o.2.2.2.2.1)⟩;clear bA F hB B;have xw:¬9223372036854775807<(bC (O++Q)).size+(bC Y).size:=by rw [bY,bY,Lg];omega
     go_wp2_with (go_at_call 69;(with_reducible refine (WR.o _ BA.o.1).mono ?_);rintro e wn ⟨rfl,xs⟩)
     go_roundw
     case rel=>
      refine ⟨j+1,by go_num,by omega,?_,BA.o.2.trans (xs.mono BA.o.2.size)⟩
      rw [xt.o];simp only [kW,Aj]
     case measure=>simp [intOf];omega
    ·have xo:¬ (j:Int)<(its.length:Int):=by omega
     have xz:P0.length≤its.length:=by rw [HP.o];simp [Dg];try omega
     rw [Ak (by omega)]
     clear xz
     go_wp2
     go_ret
     exact ⟨rfl,B1.o.trans (B.mono B1.o.size)⟩
 ·obtain ⟨P0,T⟩:∃P,P=List.zipWith (fun s y=>eR s++aW d y) ns its:=⟨_,rfl⟩
  have xl:aW (d+1) (.mk 5 false 0 ⟨#[]⟩ ns its)=cH (kR its.length) its.length++P0.flatten:=by rw [T];rfl
  rw [xl] at c ⊢;have E:P0.flatten.length≤35184372088832:=by rw [Lg] at c;omega
  obtain ⟨ai,ci,ei,ym,yj,-⟩:=id C;have xy:l2=its.length:=by cases ei;rfl
  subst xy;clear ei;obtain ⟨an,cn,en,yl,yn,x9⟩:=xa;have yo:l1=ns.length∧a1=an:=by cases en;exact ⟨rfl,rfl⟩
  obtain ⟨rfl,rfl⟩:=yo;clear en;have yp:=Hh x9;have ya:=Hh xe;clear x9;have xv:=r.2.1;have ck:=aA (Hn w (.cells #[Iz 5,.bool false,Iz 0,.string ⟨#[]⟩,.slice a1 ns.length c1,.slice a2 its.length c2] 28));have z:w.heap.size<(w.alloc (.cells #[Iz 5,.bool false,Iz 0,.string ⟨#[]⟩,.slice a1 ns.length c1,.slice a2 its.length c2] 28)).heap.size:=by simp
  obtain ⟨w1,A⟩:∃W,W=w.alloc (.cells #[Iz 5,.bool false,Iz 0,.string ⟨#[]⟩,.slice a1 ns.length c1,.slice a2 its.length c2] 28):=⟨_,rfl⟩;rw [←A] at b1 ck z;have H:=Hh C;have HS:=Hh hS;have HV:=Hh r;have x6:=Hh J;have HP:=Hh T;have xh:=Hh E;have HI:=Hh IH;have B1:=Hh b1;have CK:=Hh ck;have WL:=Hh z;have RB:=Hh (fun l=>qC its.length 2 l (by decide) (by omega))
  rw [show ((2:Nat):Int)=2 from rfl] at RB
  have xg:IntKind.u64.wrap (its.length:Int)=(its.length:Int):=by rw [Bi];omega
  have xb:¬9223372036854775807<1+(bC (bR its.length 2)).size:=by rw [bY,aQ];omega
  obtain ⟨O,N⟩:∃O,O=cH (kR its.length) its.length:=⟨_,rfl⟩;have yh:O.length≤9:=by rw [N];exact nS (by unfold kR;split <;> simp)
  have xd:=Hh N;rw [←N];clear C hS r J T E IH b1 z c xl hn hv ht N xe yl yn;have Z:∀ (K:World→Prop),(∀R,Below w1.heap.size w1 R→K R)→True:=fun _ _=>trivial
  clear Z
  by_cases I:its.length<16
  case' pos=>
   go_enter func69,ntmps69
   go_upto_region 1 with fail
   rw [←A];clear A;have xj:(its.length:Int)<16:=by omega
   have G:O=[UInt8.ofNat (128+its.length)]:=by rw [xd.o];unfold kR;rw [Am I];rfl
   have RO:=Hh (fun l=>qB (128+(its.length:Int)) (128+its.length) l (by rw [Bb];omega))
   rw [←G] at RO;clear G I
   go_upto_region 21 with (first
    | (go_at_call 105;(with_reducible refine (RO.o _).mono ?_);rintro e w3 ⟨rfl,x5⟩)
    | (go_at_call 104;(with_reducible refine (RB.o _).mono ?_);rintro e R ⟨rfl,f⟩))
   have g:Below w1.heap.size w1 w3:=f.trans (x5.mono f.size);generalize xc:w3=wl at g ⊢
  case' neg=>
   go_enter func69,ntmps69
   go_upto_region 1 with fail
   rw [←A];clear A;have xj:¬ (its.length:Int)<16:=by omega
   have G:(⟨#[222]⟩:Bt)++bC (bR its.length 2)=bC O:=by rw [kG,xd.o];unfold kR;rw [Ae I];rfl
   clear I
   go_upto_region 21 with ((with_reducible refine (RB.o _).mono ?_);rintro e R ⟨rfl,f⟩)
   try rw [G]
   clear G;have g:Below w1.heap.size w1 R:=f;generalize xc:R=wl at g ⊢
  all_goals
   clear xc xg xb RB;have xi:=Ll WL.o g.size;have x7:wl.cell? ⟨w.heap.size,5,none⟩=_:=(g.cell (p:=⟨w.heap.size,5,none⟩) WL.o).trans CK.o.2.2.2.2.2;have M:=Hh g;clear ck g f
   go_upto_region 22 with fail
   clear x7
   go_loopw [4,51] (fun v i wr=>∃ (j:Nat),i=Iz j∧j≤its.length∧v=.string (bC (O++(P0.take j).flatten))∧Below wl.heap.size wl wr) (fun _ i _=>its.length - (intOf i).toNat)
   case atStart=>exact ⟨0,rfl,Av _,by simp,Br _ _⟩
   case round=>
    obtain ⟨j,rfl,hj,rfl,hB⟩:=hrel;have B:=M.o.trans (hB.mono M.o.size)
    by_cases xu:j<its.length
    ·have xo:(j:Int)<(its.length:Int):=by omega
     have yq:(0:Int)≤(j:Int):=by omega
     obtain ⟨-,-,-,b,q,y,a3,l3,c3,a4,l4,c4,rfl,x8,G,xf,k0,k1,k2,k3,k4,k5⟩:=H.o.at xu;have a:=B1.o.trans (B.mono B1.o.size);have m:=HS.o b x8;have q0:=(a.cell (p:=⟨b,q+j * 6,none⟩) m).trans k0;have q1:=(a.cell (p:=⟨b,q+j * 6+1,none⟩) m).trans k1;have q2:=(a.cell (p:=⟨b,q+j * 6+2,none⟩) m).trans k2;have q3:=(a.cell (p:=⟨b,q+j * 6+3,none⟩) m).trans k3;have q4:=(a.cell (p:=⟨b,q+j * 6+4,none⟩) m).trans k4;have q5:=(a.cell (p:=⟨b,q+j * 6+5,none⟩) m).trans k5;obtain ⟨sn,xx⟩:∃s,ns[j]?=some s:=⟨_,Ac (by have:=ya.o;omega)⟩
     obtain ⟨bn,on,yg,xr,ye,yv⟩:=yp.o j sn xx;subst yg;have yr:(j:Int)<(ns.length:Int):=by have:=ya.o;omega
     have yt:=(a.cell (p:=⟨bn,on+j,none⟩) (HS.o bn xr)).trans ye;have yk:=dY (HV.o.2.2.2 sn (Ao xx));have RT:=Hh (fun l=>zT sn l yk)
     have yu:(eR sn).length≤65545:=by
      unfold eR;rw [Lg,show sn.data.toList.length=sn.size by rw [Ah];rfl]
      have:=nS (h:=gU sn.size) (v:=sn.size) (by unfold gU;(repeat' split) <;> simp)
      omega
     clear k0 k1 k2 k3 k4 k5;have xk:=HV.o.1 y (Ao G);have xm:=x6.o.2 y (Ao G);have xn:P0[j]?=some (eR sn++aW d y):=by rw [HP.o,List.getElem?_zipWith,xx,G]
     obtain ⟨Q,hQ⟩:∃Q,Q=(P0.take j).flatten:=⟨_,rfl⟩;have u:=jN xn;have V:=lJ P0 (j+1);rw [u,Lg,Lg] at V;rw [←hQ] at u V ⊢;have yf:Q.length≤35184372088832:=by have:=xh.o;omega
     have xp:(aW d y).length≤35184372088832:=by have:=xh.o;omega
     have WR:=Hh (fun (l:World) (hb:Below w.heap.size w l)=>HI.o D S _ y l (xf.same fun b U=>hb.block b (HS.o b U)) (fun b U=>Ll (HS.o b U) hb.size) xk xm xp)
     have bA:=a.alloc (o:=.cells #[Iz y.kind,.bool y.bool,Iz y.num,.string y.text,.slice a3 l3 c3,.slice a4 l4 c4] 28) a.size;have cA:=aA (Hn wr (.cells #[Iz y.kind,.bool y.bool,Iz y.num,.string y.text,.slice a3 l3 c3,.slice a4 l4 c4] 28));have L:wr.heap.size<(wr.alloc (.cells #[Iz y.kind,.bool y.bool,Iz y.num,.string y.text,.slice a3 l3 c3,.slice a4 l4 c4] 28)).heap.size:=by simp
     have F:=hB.alloc (o:=.cells #[Iz y.kind,.bool y.bool,Iz y.num,.string y.text,.slice a3 l3 c3,.slice a4 l4 c4] 28) hB.size;obtain ⟨Y,hY⟩:∃Y,Y=aW d y:=⟨_,rfl⟩;rw [←hY] at xp u WR;have xt:=Hh u;clear xn V u G xf xk xm hY a hQ
     go_upto_region 24 with fail
     generalize wr.alloc (.cells #[Iz y.kind,.bool y.bool,Iz y.num,.string y.text,.slice a3 l3 c3,.slice a4 l4 c4] 28)=wa at bA F cA L ⊢;have BA:=Hh (Ai bA F);have cx:wa.cell? ⟨w.heap.size,0,none⟩=some (Iz 5)∧wa.cell? ⟨w.heap.size,4,none⟩=some (.slice (some ⟨bn,on,none⟩) ns.length c1):=⟨(F.cell (p:=⟨w.heap.size,0,none⟩) xi).trans ((M.o.cell (p:=⟨w.heap.size,0,none⟩) WL.o).trans CK.o.1),(F.cell (p:=⟨w.heap.size,4,none⟩) xi).trans ((M.o.cell (p:=⟨w.heap.size,4,none⟩) WL.o).trans CK.o.2.2.2.2.1)⟩;have ys:wa.cell? ⟨bn,on+j,none⟩=some (.string sn):=(bA.cell (p:=⟨bn,on+j,none⟩) (HS.o bn xr)).trans ye;have KA:=Hh (fun l (hb:Below wa.heap.size wa l)=>(show l.cell? ⟨wr.heap.size,0,none⟩=some (Iz y.kind)∧l.cell? ⟨wr.heap.size,1,none⟩=some (.bool y.bool)∧l.cell? ⟨wr.heap.size,2,none⟩=some (Iz y.num)∧l.cell? ⟨wr.heap.size,3,none⟩=some (.string y.text)∧l.cell? ⟨wr.heap.size,4,none⟩=some (.slice a3 l3 c3)∧l.cell? ⟨wr.heap.size,5,none⟩=some (.slice a4 l4 c4) from ⟨(hb.cell (p:=⟨wr.heap.size,0,none⟩) L).trans cA.1,(hb.cell (p:=⟨wr.heap.size,1,none⟩) L).trans cA.2.1,(hb.cell (p:=⟨wr.heap.size,2,none⟩) L).trans cA.2.2.1,(hb.cell (p:=⟨wr.heap.size,3,none⟩) L).trans cA.2.2.2.1,(hb.cell (p:=⟨wr.heap.size,4,none⟩) L).trans cA.2.2.2.2.1,(hb.cell (p:=⟨wr.heap.size,5,none⟩) L).trans cA.2.2.2.2.2⟩))
     clear bA F hB B cA;have xw:¬9223372036854775807<(bC (O++Q)).size+(bC (eR sn)).size:=by rw [bY,bY,Lg];omega
     have yi:¬9223372036854775807<(bC (O++Q)++bC (eR sn)).size+(bC Y).size:=by rw [Cq,bY,bY,bY,Lg];omega
     go_upto_region 26 with ((with_reducible refine (RT.o _).mono ?_);rintro e w5 ⟨rfl,xq⟩)
     have ca:=KA.o _ xq;have yc:=BA.o.1.trans (xq.mono BA.o.1.size);have yb:=Hh xq;clear xq
     go_wp2_with (go_at_call 69;(with_reducible refine (WR.o _ yc).mono ?_);rintro e wn ⟨rfl,yd⟩;(have xs:=yb.o.trans (yd.mono yb.o.size)))
     go_roundw
     case rel=>
      refine ⟨j+1,by go_num,by omega,?_,BA.o.2.trans (xs.mono BA.o.2.size)⟩
      rw [xt.o];simp only [kW,Aj]
     case measure=>simp [intOf];omega
    ·have xo:¬ (j:Int)<(its.length:Int):=by omega
     have xz:P0.length≤its.length:=by rw [HP.o];simp [Dg];try omega
     rw [Ak (by omega)]
     clear xz
     go_wp2
     go_ret
     exact ⟨rfl,B1.o.trans (B.mono B1.o.size)⟩
theorem wP:∀d,vY d
 | 0=>fun D S c x w h b a=>by cases a
 | d+1=>GP (wP d)
end Go.Proofs.YtncdpanfefnjlaaGreatDoor