import Derived.Test.YtncdpanfefnjlaaGreatDoorMyd
set_option linter.unusedVariables false
set_option linter.unusedSimpArgs false
set_option maxHeartbeats 3200000
set_option maxRecDepth 100000
namespace Go.Proofs.YtncdpanfefnjlaaGreatDoor
open Go.Proofs.Tryz
open Go Go.ChangeShapes Go.WideShapes Go.ChangeAt Go.RowKit
theorem aAf (n:Nat) (k:Nat) (w:World) (hk:k≤8) (hn:n<18446744073709551616):Calls prog 194 #[.int .u64 (n:Int),Iz (k:Int)] w fun e w'=>e=.returned (.string (bC (dF n k)))∧Below w.heap.size w w':=by
 obtain ⟨ib,hib,hb0,hb1,hb2⟩:=info_parts qE;have hub:=underlying69;have hu8:=underlying5;have hust:=underlying9;have HIB:=Hh hib;have hk8:(k:Int)≤8:=by omega
 have hk1:IntKind.i64.wrap ((k:Int) - 1)=(k:Int) - 1:=Cd _ (by omega)
 obtain ⟨N,hN⟩:∃N:Int,N=(n:Int):=⟨_,rfl⟩;rw [←hN];have HN:=Hh (Ai hN hn);clear hN hn hib
 go_enter func194,ntmps194
 go_upto_region 3 with fail
 go_loopw [5,8] (fun v i wr=>∃ (j:Nat),i=Iz (j:Int)∧j≤k∧wr.ownsRow w.heap.size 5 1 v j (aS ((dF n k).take j))∧Below w.heap.size w wr) (fun _ i _=>k - (intOf i).toNat)
 case atStart=>exact ⟨0,by simp,Ax _,Dr w _ _ _,Br _ _⟩
 case round=>
  obtain ⟨j,rfl,hj,hown,hB⟩:=hrel;have HROW:=Hh (Ai hown hB);clear hown hB
  by_cases hlt:j<k
  ·have hlt':(j:Int)<(k:Int):=by omega
   obtain ⟨i,hi⟩:∃i:Nat,(i:Int)=(k:Int) - 1 - (j:Int):=⟨k - 1 - j,by omega⟩
   have hk2:IntKind.i64.wrap ((k:Int) - 1 - (j:Int))=(i:Int):=by rw [hi];exact Cd _ (by omega)
   have hk3:(k:Int) - 1 - (j:Int)=(i:Int):=hi.symm;have hi7:(i:Int)≤7:=by omega
   have hi0:(0:Int)≤(i:Int):=by omega
   have HI:=Hh hi;clear hi;obtain ⟨c,hcc⟩:∃c,c=UInt8.ofNat (n / 256 ^ i):=⟨_,rfl⟩;have hc:N / 2 ^ (8 * i) % 256=(c.toNat:Int):=by rw [HN.o.1,hcc];exact aGs n i
   have HC:=Hh hcc;have hbl:((dF n k).take j).length=j:=by rw [Ba,aY];omega
   have HBL:=Hh hbl;clear hcc hbl
   go_wp2_with (refine Bk _ rfl (.tmp 11) (.tmp 20) 69 rfl w.heap.size 5 ib (.int .u8 0) 1 1 hub HIB.o hb0 hb1 hb2 rfl (by decide) _ j _ rfl (HROW.o.1.alloc (.cells #[.int .u8 (c.toNat:Int)] 5)) ⟨wr.heap.size,0,none⟩ 1 1 [.int .u8 (c.toNat:Int)] rfl rfl (gC wr #[.int .u8 (c.toNat:Int)] 5 [.int .u8 (c.toNat:Int)] rfl) (by intro u hu;simp only [Bz,Ck,or_false] at hu;rcases hu with rfl;rfl) (by decide) (by unfold maxLen;omega) (by omega) (by have:=HROW.o.2.size;simp;omega) _ rfl ?_;intro gg cc W8 hown hgrow hat hlt2)
   have hB8:=FG (HROW.o.2.alloc HROW.o.2.size (.cells #[.int .u8 (c.toNat:Int)] 5)) (HROW.o.1.alloc (.cells #[.int .u8 (c.toNat:Int)] 5)) hgrow (by have:=HROW.o.2.size;simp;omega)
   have F:Hid (W8.ownsRow w.heap.size 5 1 (.slice (some ⟨gg,0,none⟩) (j+1) cc) (j+1) (aS ((dF n k).take (j+1)))∧Below w.heap.size w W8):=Hh ⟨by
    rw [EB n k j hlt,cP,show k - 1 - j=i by have:=HI.o;omega,←HC.o]
    exact hown,hB8⟩
   clear hown hgrow hat hB8
   go_wp2
   go_roundw
   case rel=>exact ⟨j+1,by go_num,by omega,F.o.1,F.o.2⟩
   case measure=>simp [intOf] <;> omega
  ·have hj2:j=k:=by omega
   have hge:¬ (j:Int)<(k:Int):=by omega
   have hcv:=eX (P:=prog) wr 69 9 5 w.heap.size j _ ((dF n k).take j) HROW.o.1 hub hu8 hust;rw [hj2,Ao (by rw [aY];exact Lr _)] at hcv
   have HJ:=Hh hj2;clear hj2
   go_wp2
   go_ret
   exact ⟨rfl,HROW.o.2⟩
theorem XN {n q:Nat} (h24:¬n<24) (hq:q≤3) (h1:q=0∨2 ^ (8 * 2 ^ (q - 1))≤n) (h2:q=3∨n<2 ^ (8 * 2 ^ q)):fN n=2 ^ q∧gU n=24+q:=by
 obtain rfl | rfl | rfl | rfl:q=0∨q=1∨q=2∨q=3:=by omega
 all_goals
  simp at h1 h2;unfold fN gU;rw [Af h24,Af h24]
  constructor <;> (repeat' split) <;> first | rfl | (exfalso;omega)
theorem VJ (m n:Nat) (w:World) (hm:m<8) (hn:n<18446744073709551616):Calls prog 168 #[.agg #[Iz (m:Int),.int .u64 (n:Int)]] w fun e w'=>e=.returned (.string (bC (eA m n)))∧Below w.heap.size w w':=by
 have hmz:(0:Int)≤(m:Int):=by omega
 have hm8:(m:Int)<8:=by omega
 obtain ⟨N,hN⟩:∃N:Int,N=(n:Int):=⟨_,rfl⟩;rw [←hN];have HN:=Hh (Ai hN hn);have RB:=Hh (fun k (hk:k≤8) wx=>aAf n k wx hk hn)
 rw [←hN] at RB;have CV:Hid (∀ (W:World) (b:Nat) {c:UInt8},W.heap[b]?=some (.cells #[.int .u8 (c.toNat:Int)] 5 (0,0))→(convert 69 9 (.slice (some ⟨b,0,none⟩) 1 1)).run prog W=.ok (.string (bC [c])) W):=Hh fun W b c h=>
  run_convert_bytes_back W _ _ 5 ⟨b,0,none⟩ 1 [c] underlying69 underlying5 underlying9 fun j hj=>(by
   obtain rfl:j=0:=by simpa using hj
   exact cR [Value.int .u8 (c.toNat:Int)] h rfl 0 _ rfl)
 have CAT:Hid (∀ (c:UInt8) k,k≤8→¬9223372036854775807<(bC [c]).size+(bC (dF n k)).size):=Hh fun c k hk=>by rw [eH,eH,aY];simp;omega
 have hn0:(0:Int)≤N:=by omega
 have hn1:N<18446744073709551616:=by omega
 have b1:=(Br w.heap.size w).alloc (o:=.cells #[Iz (m:Int),.int .u64 N] 214) (Lr _);have k1:=Hn w (.cells #[Iz (m:Int),.int .u64 N] 214);obtain ⟨w1,hw1⟩:∃W,W=w.alloc (.cells #[Iz (m:Int),.int .u64 N] 214):=⟨_,rfl⟩;rw [←hw1] at b1 k1;have c0:w1.cell? ⟨w.heap.size,0,none⟩=some (Iz (m:Int)):=aL k1 rfl;have c1:w1.cell? ⟨w.heap.size,1,none⟩=some (.int .u64 N):=aL k1 rfl;have B1:=Hh b1;clear hn b1
 by_cases h24:n<24
 ·have h24':N<24:=by omega
  obtain ⟨c,hcc⟩:∃c,c=UInt8.ofNat (32 * m+n):=⟨_,rfl⟩;have hor:bits BinOp.or IntKind.u8 ((m:Int) * 32) (N % 256)=(c.toNat:Int):=by rw [hcc,show N % 256=(n:Int) by omega];exact uI m n hm (by omega)
  have hor2:bits BinOp.or IntKind.u8 ((m:Int) * 32) N=(c.toNat:Int):=by rw [hcc,hN];exact uI m n hm (by omega)
  have HDR:Hid (bC (eA m n)=bC [c]):=Hh (by rw [eA,hcc,show gU n=n by unfold gU;exact Am h24,show fN n=0 by unfold fN;exact Am h24];rfl)
  have ka:=Hn w1 (.cells #[.int .u8 (c.toNat:Int)] 5);have hcv:=CV.o _ _ ka;clear h24 hcc hN ka k1
  go_enter func168,ntmps168
  go_upto_region 1 with fail
  rw [←hw1];clear hw1
  go_wp2
  go_ret
  exact ⟨by rw [HDR.o];rfl,B1.o.trans ((Br _ _).alloc B1.o.size _)⟩
 ·have h24':¬N<24:=by omega
  obtain ⟨F0,hF0⟩:∃F:Int,F=32 * (m:Int)+24:=⟨_,rfl⟩;have hor:bits BinOp.or IntKind.u8 ((m:Int) * 32) 24=F0:=by
   have:=uI m 24 hm (by decide)
   rw [Be] at this;rw [show ((24:Nat):Int)=24 from rfl] at this
   omega
  have HF:=Hh hF0;have HKP:=Hh (fun q=>XN (q:=q) h24)
  clear h24 hF0 hN
  go_enter func168,ntmps168
  go_upto_region 1 with fail
  rw [←hw1];clear hw1
  go_upto_region 6 with fail
  clear hor
  go_loopw [3,4] (fun f k wr=>∃ (q:Nat) (F:Int),q≤3∧f=.int .u8 F∧F=32 * (m:Int)+24+(q:Int)∧k=Iz ((2 ^ q:Nat):Int)∧(q=0∨2 ^ (8 * 2 ^ (q - 1))≤n)∧wr=w1) (fun _ k _=>8 - (intOf k).toNat)
  case atStart=>exact ⟨0,F0,by decide,rfl,by rw [HF.o];simp,rfl,.inl rfl,rfl⟩
  case round=>
   obtain ⟨q,F,hq,rfl,hF,rfl,hlow,hww⟩:=hrel
   replace hww:=hww.symm
   subst hww;have HFF:=Hh hF;have hf0:(0:Int)≤F:=by omega
   have hf1:F≤251:=by omega
   clear hF;have hN:=HN.o.1
   by_cases hgo:q<3∧2 ^ (8 * 2 ^ q)≤n
   ·obtain ⟨hq3,hbig⟩:=hgo
    have HLOW:=Hh hbig;obtain rfl | rfl | rfl:q=0∨q=1∨q=2:=by omega
    all_goals simp only [Nat.reducePow,Nat.reduceMul] at hbig ⊢
    ·have hgt:(0:Int)<N / 256:=by omega
     have hgt':(0:Int)<N / 2 ^ 8:=by omega
     clear hbig hlow hN
     go_wp2
     go_roundw
     case rel=>exact ⟨1,_,by decide,rfl,by rw [HFF.o];first | omega | (simp;omega),by first | rfl | trivial,.inr HLOW.o,by first | rfl | trivial⟩
     case measure=>simp [intOf]
    ·have hgt:(0:Int)<N / 65536:=by omega
     have hgt':(0:Int)<N / 2 ^ 16:=by omega
     clear hbig hlow hN
     go_wp2
     go_roundw
     case rel=>exact ⟨2,_,by decide,rfl,by rw [HFF.o];first | omega | (simp;omega),by first | rfl | trivial,.inr HLOW.o,by first | rfl | trivial⟩
     case measure=>simp [intOf]
    ·have hgt:(0:Int)<N / 4294967296:=by omega
     have hgt':(0:Int)<N / 2 ^ 32:=by omega
     clear hbig hlow hN
     go_wp2
     go_roundw
     case rel=>exact ⟨3,_,by decide,rfl,by rw [HFF.o];first | omega | (simp;omega),by first | rfl | trivial,.inr HLOW.o,by first | rfl | trivial⟩
     case measure=>simp [intOf]
   ·have hend:q=3∨n<2 ^ (8 * 2 ^ q):=by
     by_cases h3:q=3
     ·exact .inl h3
     ·exact .inr (by omega)
    obtain ⟨hk1,hk2⟩:=HKP.o q hq hlow hend;have hlt:¬ (0:Int)<N / 2 ^ (8 * 2 ^ q):=by
     rcases hend with rfl | h
     ·rw [show (8:Nat) * 2 ^ 3=64 from rfl];omega
     ·have h':N<2 ^ (8 * 2 ^ q):=by rw [hN];exact_mod_cast h
      rw [Int.ediv_eq_zero_of_lt hn0 h'];decide
    obtain ⟨c,hcc⟩:∃c,c=UInt8.ofNat (32 * m+(24+q)):=⟨_,rfl⟩;have hFc:F=(c.toNat:Int):=by rw [HFF.o,hcc,Be];omega
    have HDR:Hid (bC [c]++bC (dF n (2 ^ q))=bC (eA m n)):=Hh (by rw [aDr,hcc,eA,hk1,hk2];rfl)
    subst hFc;clear hcc hend hlow hk1 hk2 hf0 hf1 hN;obtain rfl | rfl | rfl | rfl:q=0∨q=1∨q=2∨q=3:=by omega
    ·simp only [Nat.reducePow,Nat.reduceMul] at hlt HDR ⊢
     have hlt':¬ (0:Int)<N / 256:=hlt;have RBk:=Hh (fun wx=>RB.o 1 (by decide) wx)
     rw [show ((1:Nat):Int)=1 from rfl] at RBk
     go_upto_region 9 with fail
     have hbw:Below w1.heap.size w1 w1.drew:=(Br _ _).drew;have cd:w1.drew.cell? ⟨w.heap.size,1,none⟩=some (.int .u64 N):=c1;have hzw:w.heap.size<w1.drew.heap.size:=cD cd;refine aJ (fun w'=>w'.cell? ⟨w.heap.size,1,none⟩=some (.int .u64 N)) [4] (.take 0 (.take 3 (.take 4 (.take 5 (eN.join true (.ask 1 true (.ask 2 true (.ask 6 false .stop .stop) (.ask 6 false (.ask 2 false .stop .stop) .stop)) (.ask 6 false (.ask 1 false (.ask 2 false .stop .stop) .stop) .stop)) (.ask 7 false (.ask 8 false .stop .stop) .stop)))))) (by kernel_rfl) (by kernel_rfl) (fun _ d _ _ _ h=>by cases d <;> exact h) c1 ?_
     clear c0 c1;generalize w1.drew=wd at hbw cd hzw ⊢
     iterate 2 (refine aG _ ?_ rfl rfl ?_ (fun K hK=>?_);rotate_left;(intro w0;go_simp;(try rfl));(go_simp;refine hK _ ?_;clear hK K))
     refine aN _ ?_ rfl rfl (by decide) ?_ (fun K hK=>?_);rotate_left;(intro w0 hw0;go_simp;(try rfl));(go_simp;refine hK _ ?_;clear hK K)
     refine aG _ ?_ rfl rfl ?_ (fun K hK=>?_);rotate_left;(intro w0;go_simp;(try rfl));(go_simp;refine hK _ ?_;clear hK K)
     refine fC [32,33,37] (fun vs wx=>∃v32,vs=[v32,.string (bC [c]),.string (bC (dF n 1))]∧Below w1.heap.size w1 wx) ?_ ?_
     ·refine aI _ rfl ?_ ?_
      rotate_left
      ·go_wp2_with fail
       have ka:=Hn wd (.cells #[.int .u8 (c.toNat:Int)] 5);have ba:=hbw.alloc (o:=.cells #[.int .u8 (c.toNat:Int)] 5) hbw.size;have ca:=((Br wd.heap.size wd).alloc (o:=.cells #[.int .u8 (c.toNat:Int)] 5) (Lr _)).cell (p:=⟨w.heap.size,1,none⟩) hzw |>.trans cd;have hla:wd.heap.size<(wd.alloc (.cells #[.int .u8 (c.toNat:Int)] 5)).heap.size:=by simp
       generalize wd.alloc (.cells #[.int .u8 (c.toNat:Int)] 5)=wa at ka ba ca hla ⊢;refine Seg.mk ⟨ca,?_⟩;have hcv:=CV.o wa _ ka;refine aI _ rfl ?_ ?_;rotate_left
       ·go_wp2_with fail;refine Seg.mk ⟨ca,?_⟩
        refine aF _ rfl trivial ?_;go_wp2_with (go_at_call 194;(with_reducible refine (RBk.o _).mono ?_);rintro e w2 ⟨rfl,hb2⟩);refine Seg.mk ?_;exact aQ [.slice (some ⟨wd.heap.size,0,none⟩) 1 1,.string (bC [c]),.string (bC (dF n 1))] (by first | exact ⟨_,rfl,ba.trans (hb2.mono ba.size)⟩ | exact ⟨⟨_,rfl⟩,ba.trans (hb2.mono ba.size)⟩) rfl
       ·refine aF _ rfl trivial ?_;go_wp2_with (go_at_call 194;(with_reducible refine (RBk.o _).mono ?_);rintro e w2 ⟨rfl,hb2⟩);refine Seg.mk ?_
        have hcv2:=CV.o w2 _ ((hb2.block _ hla).trans ka);refine aF _ rfl trivial ?_;go_wp2_with fail;refine Seg.mk ?_;exact aQ [.slice (some ⟨wd.heap.size,0,none⟩) 1 1,.string (bC [c]),.string (bC (dF n 1))] (by first | exact ⟨_,rfl,ba.trans (hb2.mono ba.size)⟩ | exact ⟨⟨_,rfl⟩,ba.trans (hb2.mono ba.size)⟩) rfl
      ·refine aF _ rfl trivial ?_;go_wp2_with (go_at_call 194;(with_reducible refine (RBk.o _).mono ?_);rintro e w2 ⟨rfl,hb2⟩);refine Seg.mk ?_
       have b2:=hbw.trans (hb2.mono hbw.size);refine aF _ rfl trivial ?_;go_wp2_with fail;refine Seg.mk ?_;have ka:=Hn w2 (.cells #[.int .u8 (c.toNat:Int)] 5);have ba:=b2.alloc (o:=.cells #[.int .u8 (c.toNat:Int)] 5) b2.size;generalize w2.alloc (.cells #[.int .u8 (c.toNat:Int)] 5)=wa at ka ba ⊢;have hcv:=CV.o wa _ ka;refine aF _ rfl trivial ?_;go_wp2_with fail;refine Seg.mk ?_;exact aQ [.slice (some ⟨w2.heap.size,0,none⟩) 1 1,.string (bC [c]),.string (bC (dF n 1))] (by first | exact ⟨_,rfl,ba⟩ | exact ⟨⟨_,rfl⟩,ba⟩) rfl
     ·rintro vs w' ⟨v32,rfl,hbl⟩
      simp only [gX,Act.put,As,Ay,Az];have hcat:=CAT.o c 1 (by decide)
      have HBL:=Hh hbl;clear hbl;refine aF _ rfl trivial ?_;go_wp2_with fail;refine Seg.mk ?_;refine cG _ rfl trivial ?_
      go_wp2
      go_ret
      exact ⟨by rw [HDR.o];rfl,B1.o.trans (HBL.o.mono B1.o.size)⟩
    ·simp only [Nat.reducePow,Nat.reduceMul] at hlt HDR ⊢
     have hlt':¬ (0:Int)<N / 65536:=hlt;have RBk:=Hh (fun wx=>RB.o 2 (by decide) wx)
     rw [show ((2:Nat):Int)=2 from rfl] at RBk
     go_upto_region 9 with fail
     have hbw:Below w1.heap.size w1 w1.drew:=(Br _ _).drew;have cd:w1.drew.cell? ⟨w.heap.size,1,none⟩=some (.int .u64 N):=c1;have hzw:w.heap.size<w1.drew.heap.size:=cD cd;refine aJ (fun w'=>w'.cell? ⟨w.heap.size,1,none⟩=some (.int .u64 N)) [4] (.take 0 (.take 3 (.take 4 (.take 5 (eN.join true (.ask 1 true (.ask 2 true (.ask 6 false .stop .stop) (.ask 6 false (.ask 2 false .stop .stop) .stop)) (.ask 6 false (.ask 1 false (.ask 2 false .stop .stop) .stop) .stop)) (.ask 7 false (.ask 8 false .stop .stop) .stop)))))) (by kernel_rfl) (by kernel_rfl) (fun _ d _ _ _ h=>by cases d <;> exact h) c1 ?_
     clear c0 c1;generalize w1.drew=wd at hbw cd hzw ⊢
     iterate 2 (refine aG _ ?_ rfl rfl ?_ (fun K hK=>?_);rotate_left;(intro w0;go_simp;(try rfl));(go_simp;refine hK _ ?_;clear hK K))
     refine aN _ ?_ rfl rfl (by decide) ?_ (fun K hK=>?_);rotate_left;(intro w0 hw0;go_simp;(try rfl));(go_simp;refine hK _ ?_;clear hK K)
     refine aG _ ?_ rfl rfl ?_ (fun K hK=>?_);rotate_left;(intro w0;go_simp;(try rfl));(go_simp;refine hK _ ?_;clear hK K)
     refine fC [32,33,37] (fun vs wx=>∃v32,vs=[v32,.string (bC [c]),.string (bC (dF n 2))]∧Below w1.heap.size w1 wx) ?_ ?_
     ·refine aI _ rfl ?_ ?_
      rotate_left
      ·go_wp2_with fail
       have ka:=Hn wd (.cells #[.int .u8 (c.toNat:Int)] 5);have ba:=hbw.alloc (o:=.cells #[.int .u8 (c.toNat:Int)] 5) hbw.size;have ca:=((Br wd.heap.size wd).alloc (o:=.cells #[.int .u8 (c.toNat:Int)] 5) (Lr _)).cell (p:=⟨w.heap.size,1,none⟩) hzw |>.trans cd;have hla:wd.heap.size<(wd.alloc (.cells #[.int .u8 (c.toNat:Int)] 5)).heap.size:=by simp
       generalize wd.alloc (.cells #[.int .u8 (c.toNat:Int)] 5)=wa at ka ba ca hla ⊢;refine Seg.mk ⟨ca,?_⟩;have hcv:=CV.o wa _ ka;refine aI _ rfl ?_ ?_;rotate_left
       ·go_wp2_with fail;refine Seg.mk ⟨ca,?_⟩
        refine aF _ rfl trivial ?_;go_wp2_with (go_at_call 194;(with_reducible refine (RBk.o _).mono ?_);rintro e w2 ⟨rfl,hb2⟩);refine Seg.mk ?_;exact aQ [.slice (some ⟨wd.heap.size,0,none⟩) 1 1,.string (bC [c]),.string (bC (dF n 2))] (by first | exact ⟨_,rfl,ba.trans (hb2.mono ba.size)⟩ | exact ⟨⟨_,rfl⟩,ba.trans (hb2.mono ba.size)⟩) rfl
       ·refine aF _ rfl trivial ?_;go_wp2_with (go_at_call 194;(with_reducible refine (RBk.o _).mono ?_);rintro e w2 ⟨rfl,hb2⟩);refine Seg.mk ?_
        have hcv2:=CV.o w2 _ ((hb2.block _ hla).trans ka);refine aF _ rfl trivial ?_;go_wp2_with fail;refine Seg.mk ?_;exact aQ [.slice (some ⟨wd.heap.size,0,none⟩) 1 1,.string (bC [c]),.string (bC (dF n 2))] (by first | exact ⟨_,rfl,ba.trans (hb2.mono ba.size)⟩ | exact ⟨⟨_,rfl⟩,ba.trans (hb2.mono ba.size)⟩) rfl
      ·refine aF _ rfl trivial ?_;go_wp2_with (go_at_call 194;(with_reducible refine (RBk.o _).mono ?_);rintro e w2 ⟨rfl,hb2⟩);refine Seg.mk ?_
       have b2:=hbw.trans (hb2.mono hbw.size);refine aF _ rfl trivial ?_;go_wp2_with fail;refine Seg.mk ?_;have ka:=Hn w2 (.cells #[.int .u8 (c.toNat:Int)] 5);have ba:=b2.alloc (o:=.cells #[.int .u8 (c.toNat:Int)] 5) b2.size;generalize w2.alloc (.cells #[.int .u8 (c.toNat:Int)] 5)=wa at ka ba ⊢;have hcv:=CV.o wa _ ka;refine aF _ rfl trivial ?_;go_wp2_with fail;refine Seg.mk ?_;exact aQ [.slice (some ⟨w2.heap.size,0,none⟩) 1 1,.string (bC [c]),.string (bC (dF n 2))] (by first | exact ⟨_,rfl,ba⟩ | exact ⟨⟨_,rfl⟩,ba⟩) rfl
     ·rintro vs w' ⟨v32,rfl,hbl⟩
      simp only [gX,Act.put,As,Ay,Az];have hcat:=CAT.o c 2 (by decide)
      have HBL:=Hh hbl;clear hbl;refine aF _ rfl trivial ?_;go_wp2_with fail;refine Seg.mk ?_;refine cG _ rfl trivial ?_
      go_wp2
      go_ret
      exact ⟨by rw [HDR.o];rfl,B1.o.trans (HBL.o.mono B1.o.size)⟩
    ·simp only [Nat.reducePow,Nat.reduceMul] at hlt HDR ⊢
     have hlt':¬ (0:Int)<N / 4294967296:=hlt;have RBk:=Hh (fun wx=>RB.o 4 (by decide) wx)
     rw [show ((4:Nat):Int)=4 from rfl] at RBk
     go_upto_region 9 with fail
     have hbw:Below w1.heap.size w1 w1.drew:=(Br _ _).drew;have cd:w1.drew.cell? ⟨w.heap.size,1,none⟩=some (.int .u64 N):=c1;have hzw:w.heap.size<w1.drew.heap.size:=cD cd;refine aJ (fun w'=>w'.cell? ⟨w.heap.size,1,none⟩=some (.int .u64 N)) [4] (.take 0 (.take 3 (.take 4 (.take 5 (eN.join true (.ask 1 true (.ask 2 true (.ask 6 false .stop .stop) (.ask 6 false (.ask 2 false .stop .stop) .stop)) (.ask 6 false (.ask 1 false (.ask 2 false .stop .stop) .stop) .stop)) (.ask 7 false (.ask 8 false .stop .stop) .stop)))))) (by kernel_rfl) (by kernel_rfl) (fun _ d _ _ _ h=>by cases d <;> exact h) c1 ?_
     clear c0 c1;generalize w1.drew=wd at hbw cd hzw ⊢
     iterate 2 (refine aG _ ?_ rfl rfl ?_ (fun K hK=>?_);rotate_left;(intro w0;go_simp;(try rfl));(go_simp;refine hK _ ?_;clear hK K))
     refine aN _ ?_ rfl rfl (by decide) ?_ (fun K hK=>?_);rotate_left;(intro w0 hw0;go_simp;(try rfl));(go_simp;refine hK _ ?_;clear hK K)
     refine aG _ ?_ rfl rfl ?_ (fun K hK=>?_);rotate_left;(intro w0;go_simp;(try rfl));(go_simp;refine hK _ ?_;clear hK K)
     refine fC [32,33,37] (fun vs wx=>∃v32,vs=[v32,.string (bC [c]),.string (bC (dF n 4))]∧Below w1.heap.size w1 wx) ?_ ?_
     ·refine aI _ rfl ?_ ?_
      rotate_left
      ·go_wp2_with fail
       have ka:=Hn wd (.cells #[.int .u8 (c.toNat:Int)] 5);have ba:=hbw.alloc (o:=.cells #[.int .u8 (c.toNat:Int)] 5) hbw.size;have ca:=((Br wd.heap.size wd).alloc (o:=.cells #[.int .u8 (c.toNat:Int)] 5) (Lr _)).cell (p:=⟨w.heap.size,1,none⟩) hzw |>.trans cd;have hla:wd.heap.size<(wd.alloc (.cells #[.int .u8 (c.toNat:Int)] 5)).heap.size:=by simp
       generalize wd.alloc (.cells #[.int .u8 (c.toNat:Int)] 5)=wa at ka ba ca hla ⊢;refine Seg.mk ⟨ca,?_⟩;have hcv:=CV.o wa _ ka;refine aI _ rfl ?_ ?_;rotate_left
       ·go_wp2_with fail;refine Seg.mk ⟨ca,?_⟩
        refine aF _ rfl trivial ?_;go_wp2_with (go_at_call 194;(with_reducible refine (RBk.o _).mono ?_);rintro e w2 ⟨rfl,hb2⟩);refine Seg.mk ?_;exact aQ [.slice (some ⟨wd.heap.size,0,none⟩) 1 1,.string (bC [c]),.string (bC (dF n 4))] (by first | exact ⟨_,rfl,ba.trans (hb2.mono ba.size)⟩ | exact ⟨⟨_,rfl⟩,ba.trans (hb2.mono ba.size)⟩) rfl
       ·refine aF _ rfl trivial ?_;go_wp2_with (go_at_call 194;(with_reducible refine (RBk.o _).mono ?_);rintro e w2 ⟨rfl,hb2⟩);refine Seg.mk ?_
        have hcv2:=CV.o w2 _ ((hb2.block _ hla).trans ka);refine aF _ rfl trivial ?_;go_wp2_with fail;refine Seg.mk ?_;exact aQ [.slice (some ⟨wd.heap.size,0,none⟩) 1 1,.string (bC [c]),.string (bC (dF n 4))] (by first | exact ⟨_,rfl,ba.trans (hb2.mono ba.size)⟩ | exact ⟨⟨_,rfl⟩,ba.trans (hb2.mono ba.size)⟩) rfl
      ·refine aF _ rfl trivial ?_;go_wp2_with (go_at_call 194;(with_reducible refine (RBk.o _).mono ?_);rintro e w2 ⟨rfl,hb2⟩);refine Seg.mk ?_
       have b2:=hbw.trans (hb2.mono hbw.size);refine aF _ rfl trivial ?_;go_wp2_with fail;refine Seg.mk ?_;have ka:=Hn w2 (.cells #[.int .u8 (c.toNat:Int)] 5);have ba:=b2.alloc (o:=.cells #[.int .u8 (c.toNat:Int)] 5) b2.size;generalize w2.alloc (.cells #[.int .u8 (c.toNat:Int)] 5)=wa at ka ba ⊢;have hcv:=CV.o wa _ ka;refine aF _ rfl trivial ?_;go_wp2_with fail;refine Seg.mk ?_;exact aQ [.slice (some ⟨w2.heap.size,0,none⟩) 1 1,.string (bC [c]),.string (bC (dF n 4))] (by first | exact ⟨_,rfl,ba⟩ | exact ⟨⟨_,rfl⟩,ba⟩) rfl
     ·rintro vs w' ⟨v32,rfl,hbl⟩
      simp only [gX,Act.put,As,Ay,Az];have hcat:=CAT.o c 4 (by decide)
      have HBL:=Hh hbl;clear hbl;refine aF _ rfl trivial ?_;go_wp2_with fail;refine Seg.mk ?_;refine cG _ rfl trivial ?_
      go_wp2
      go_ret
      exact ⟨by rw [HDR.o];rfl,B1.o.trans (HBL.o.mono B1.o.size)⟩
    ·simp only [Nat.reducePow,Nat.reduceMul] at hlt HDR ⊢
     have hlt':¬ (0:Int)<N / 18446744073709551616:=hlt;have RBk:=Hh (fun wx=>RB.o 8 (by decide) wx)
     rw [show ((8:Nat):Int)=8 from rfl] at RBk
     go_upto_region 9 with fail
     have hbw:Below w1.heap.size w1 w1.drew:=(Br _ _).drew;have cd:w1.drew.cell? ⟨w.heap.size,1,none⟩=some (.int .u64 N):=c1;have hzw:w.heap.size<w1.drew.heap.size:=cD cd;refine aJ (fun w'=>w'.cell? ⟨w.heap.size,1,none⟩=some (.int .u64 N)) [4] (.take 0 (.take 3 (.take 4 (.take 5 (eN.join true (.ask 1 true (.ask 2 true (.ask 6 false .stop .stop) (.ask 6 false (.ask 2 false .stop .stop) .stop)) (.ask 6 false (.ask 1 false (.ask 2 false .stop .stop) .stop) .stop)) (.ask 7 false (.ask 8 false .stop .stop) .stop)))))) (by kernel_rfl) (by kernel_rfl) (fun _ d _ _ _ h=>by cases d <;> exact h) c1 ?_
     clear c0 c1;generalize w1.drew=wd at hbw cd hzw ⊢
     iterate 2 (refine aG _ ?_ rfl rfl ?_ (fun K hK=>?_);rotate_left;(intro w0;go_simp;(try rfl));(go_simp;refine hK _ ?_;clear hK K))
     refine aN _ ?_ rfl rfl (by decide) ?_ (fun K hK=>?_);rotate_left;(intro w0 hw0;go_simp;(try rfl));(go_simp;refine hK _ ?_;clear hK K)
     refine aG _ ?_ rfl rfl ?_ (fun K hK=>?_);rotate_left;(intro w0;go_simp;(try rfl));(go_simp;refine hK _ ?_;clear hK K)
     refine fC [32,33,37] (fun vs wx=>∃v32,vs=[v32,.string (bC [c]),.string (bC (dF n 8))]∧Below w1.heap.size w1 wx) ?_ ?_
     ·refine aI _ rfl ?_ ?_
      rotate_left
      ·go_wp2_with fail
       have ka:=Hn wd (.cells #[.int .u8 (c.toNat:Int)] 5);have ba:=hbw.alloc (o:=.cells #[.int .u8 (c.toNat:Int)] 5) hbw.size;have ca:=((Br wd.heap.size wd).alloc (o:=.cells #[.int .u8 (c.toNat:Int)] 5) (Lr _)).cell (p:=⟨w.heap.size,1,none⟩) hzw |>.trans cd;have hla:wd.heap.size<(wd.alloc (.cells #[.int .u8 (c.toNat:Int)] 5)).heap.size:=by simp
       generalize wd.alloc (.cells #[.int .u8 (c.toNat:Int)] 5)=wa at ka ba ca hla ⊢;refine Seg.mk ⟨ca,?_⟩;have hcv:=CV.o wa _ ka;refine aI _ rfl ?_ ?_;rotate_left
       ·go_wp2_with fail;refine Seg.mk ⟨ca,?_⟩
        refine aF _ rfl trivial ?_;go_wp2_with (go_at_call 194;(with_reducible refine (RBk.o _).mono ?_);rintro e w2 ⟨rfl,hb2⟩);refine Seg.mk ?_;exact aQ [.slice (some ⟨wd.heap.size,0,none⟩) 1 1,.string (bC [c]),.string (bC (dF n 8))] (by first | exact ⟨_,rfl,ba.trans (hb2.mono ba.size)⟩ | exact ⟨⟨_,rfl⟩,ba.trans (hb2.mono ba.size)⟩) rfl
       ·refine aF _ rfl trivial ?_;go_wp2_with (go_at_call 194;(with_reducible refine (RBk.o _).mono ?_);rintro e w2 ⟨rfl,hb2⟩);refine Seg.mk ?_
        have hcv2:=CV.o w2 _ ((hb2.block _ hla).trans ka);refine aF _ rfl trivial ?_;go_wp2_with fail;refine Seg.mk ?_;exact aQ [.slice (some ⟨wd.heap.size,0,none⟩) 1 1,.string (bC [c]),.string (bC (dF n 8))] (by first | exact ⟨_,rfl,ba.trans (hb2.mono ba.size)⟩ | exact ⟨⟨_,rfl⟩,ba.trans (hb2.mono ba.size)⟩) rfl
      ·refine aF _ rfl trivial ?_;go_wp2_with (go_at_call 194;(with_reducible refine (RBk.o _).mono ?_);rintro e w2 ⟨rfl,hb2⟩);refine Seg.mk ?_
       have b2:=hbw.trans (hb2.mono hbw.size);refine aF _ rfl trivial ?_;go_wp2_with fail;refine Seg.mk ?_;have ka:=Hn w2 (.cells #[.int .u8 (c.toNat:Int)] 5);have ba:=b2.alloc (o:=.cells #[.int .u8 (c.toNat:Int)] 5) b2.size;generalize w2.alloc (.cells #[.int .u8 (c.toNat:Int)] 5)=wa at ka ba ⊢;have hcv:=CV.o wa _ ka;refine aF _ rfl trivial ?_;go_wp2_with fail;refine Seg.mk ?_;exact aQ [.slice (some ⟨w2.heap.size,0,none⟩) 1 1,.string (bC [c]),.string (bC (dF n 8))] (by first | exact ⟨_,rfl,ba⟩ | exact ⟨⟨_,rfl⟩,ba⟩) rfl
     ·rintro vs w' ⟨v32,rfl,hbl⟩
      simp only [gX,Act.put,As,Ay,Az];have hcat:=CAT.o c 8 (by decide)
      have HBL:=Hh hbl;clear hbl;refine aF _ rfl trivial ?_;go_wp2_with fail;refine Seg.mk ?_;refine cG _ rfl trivial ?_
      go_wp2
      go_ret
      exact ⟨by rw [HDR.o];rfl,B1.o.trans (HBL.o.mono B1.o.size)⟩
end Go.Proofs.YtncdpanfefnjlaaGreatDoor