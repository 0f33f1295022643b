/- The program's heads: bigEndian, text, Head, headOf. -/
import Derived.Test.YtcklddldejejcaaGreatDoorCw
import Derived.Test.YtcklddldejejcaaGreatDoorMrf
set_option linter.unusedVariables false
set_option linter.unusedSimpArgs false
set_option maxHeartbeats 3200000
set_option maxRecDepth 100000
namespace Go.Proofs.YtcklddldejejcaaGreatDoor
open Go Go.ChangeShapes Go.WideShapes Go.ChangeAt Go.RowKit
theorem pbig_any (n:Nat) (k:Nat) (w:World) (hk:k≤8) (hn:n<18446744073709551616):Calls Tryz.prog 246 #[.int .u64 (n:Int),.int .i64 (k:Int)] w fun e w'=>e=.returned (.string (bC (bigL n k)))∧Below w.heap.size w w':=by
 obtain ⟨ib,hib,hb0,hb1,hb2⟩:=info_parts Tryz.info5
 have hub:=Tryz.underlying73
 have hu8:=Tryz.underlying5
 have hust:=Tryz.underlying9
 have HIB:=Hh hib
 have hk8:(k:Int)≤8:=by omega
 have hk1:IntKind.i64.wrap ((k:Int) - 1)=(k:Int) - 1:=IntWalk.i64_in _ (by omega)
 obtain ⟨N,hN⟩:∃N:Int,N=(n:Int):=⟨_,rfl⟩
 rw [←hN]
 have HN:=Hh (Ai hN hn)
 clear hN hn hib
 go_enter Tryz.func246,Tryz.ntmps246
 go_upto_region 3 with fail
 go_loopw [5,8] (fun v i wr=>∃ (j:Nat),i=.int .i64 (j:Int)∧j≤k∧wr.ownsRow w.heap.size 5 1 v j (bytesV ((bigL n k).take j))∧Below w.heap.size w wr) (fun _ i _=>k - (intOf i).toNat)
 case atStart=>exact ⟨0,by simp,Nat.zero_le _,World.ownsRow_nil w _ _ _,Br _ _⟩
 case round=>
  obtain ⟨j,rfl,hj,hown,hB⟩:=hrel
  have HROW:=Hh (Ai hown hB)
  clear hown hB
  by_cases hlt:j<k
  ·have hlt':(j:Int)<(k:Int):=by omega
   obtain ⟨i,hi⟩:∃i:Nat,(i:Int)=(k:Int) - 1 - (j:Int):=⟨k - 1 - j,by omega⟩
   have hk2:IntKind.i64.wrap ((k:Int) - 1 - (j:Int))=(i:Int):=by rw [hi];exact IntWalk.i64_in _ (by omega)
   have hk3:(k:Int) - 1 - (j:Int)=(i:Int):=hi.symm
   have hi7:(i:Int)≤7:=by omega
   have hi0:(0:Int)≤(i:Int):=by omega
   have HI:=Hh hi
   clear hi
   obtain ⟨c,hcc⟩:∃c,c=UInt8.ofNat (n / 256 ^ i):=⟨_,rfl⟩
   have hc:N / 2 ^ (8 * i) % 256=(c.toNat:Int):=by rw [HN.out.1,hcc];exact byte_at n i
   have HC:=Hh hcc
   have hbl:((bigL n k).take j).length=j:=by rw [List.length_take,bigL_length];omega
   have HBL:=Hh hbl
   clear hcc hbl
   go_wp2_with (refine wpList_append_lies _ rfl (.tmp 11) (.tmp 20) 73 rfl w.heap.size 5 ib (.int .u8 0) 1 1 hub HIB.out hb0 hb1 hb2 rfl (by decide) _ j _ rfl (HROW.out.1.alloc (.cells #[.int .u8 (c.toNat:Int)] 5)) ⟨wr.heap.size,0,none⟩ 1 1 [.int .u8 (c.toNat:Int)] rfl rfl (cells_new wr #[.int .u8 (c.toNat:Int)] 5 [.int .u8 (c.toNat:Int)] rfl) (by intro u hu;simp only [List.mem_cons,List.not_mem_nil,or_false] at hu;rcases hu with rfl;rfl) (by decide) (by unfold maxLen;omega) (by omega) (by have:=HROW.out.2.size;simp;omega) _ rfl ?_;intro gg cc W8 hown hgrow hat hlt2)
   have hB8:=obelow (HROW.out.2.alloc HROW.out.2.size (.cells #[.int .u8 (c.toNat:Int)] 5)) (HROW.out.1.alloc (.cells #[.int .u8 (c.toNat:Int)] 5)) hgrow (by have:=HROW.out.2.size;simp;omega)
   have F:Hid (W8.ownsRow w.heap.size 5 1 (.slice (some ⟨gg,0,none⟩) (j+1) cc) (j+1) (bytesV ((bigL n k).take (j+1)))∧Below w.heap.size w W8):=Hh ⟨by
    rw [bigL_take n k j hlt,bytesV_append,show k - 1 - j=i by have:=HI.out;omega,←HC.out]
    exact hown,hB8⟩
   clear hown hgrow hat hB8
   go_wp2
   go_roundw
   case rel=>exact ⟨j+1,by go_num,by omega,F.out.1,F.out.2⟩
   case measure=>simp [intOf] <;> omega
  ·have hj2:j=k:=by omega
   have hge:¬ (j:Int)<(k:Int):=by omega
   have hcv:=conv_owns (P:=Tryz.prog) wr 73 9 5 w.heap.size j _ ((bigL n k).take j) HROW.out.1 hub hu8 hust
   rw [hj2,List.take_of_length_le (by rw [bigL_length];exact Lr _)] at hcv
   have HJ:=Hh hj2
   clear hj2
   go_wp2
   go_ret
   exact ⟨rfl,HROW.out.2⟩
theorem headK_pow {n q:Nat} (h24:¬n<24) (hq:q≤3) (h1:q=0∨2 ^ (8 * 2 ^ (q - 1))≤n) (h2:q=3∨n<2 ^ (8 * 2 ^ q)):headK n=2 ^ q∧headV n=24+q:=by
 obtain rfl | rfl | rfl | rfl:q=0∨q=1∨q=2∨q=3:=by omega
 all_goals
  simp at h1 h2
  unfold headK headV
  rw [if_neg h24,if_neg h24]
  constructor <;> (repeat' split) <;> first | rfl | (exfalso;omega)
theorem phead_any (m n:Nat) (w:World) (hm:m<8) (hn:n<18446744073709551616):Calls Tryz.prog 223 #[.agg #[.int .i64 (m:Int),.int .u64 (n:Int)]] w fun e w'=>e=.returned (.string (bC (headL m n)))∧Below w.heap.size w w':=by
 have hmz:(0:Int)≤(m:Int):=by omega
 have hm8:(m:Int)<8:=by omega
 obtain ⟨N,hN⟩:∃N:Int,N=(n:Int):=⟨_,rfl⟩
 rw [←hN]
 have HN:=Hh (Ai hN hn)
 have RB:=Hh (fun k (hk:k≤8) wx=>pbig_any n k wx hk hn)
 rw [←hN] at RB
 have CV:Hid (∀ (W:World) (b:Nat) {c:UInt8},W.heap[b]?=some (.cells #[.int .u8 (c.toNat:Int)] 5 (0,0))→(convert 73 9 (.slice (some ⟨b,0,none⟩) 1 1)).run Tryz.prog W=.ok (.string (bC [c])) W):=Hh fun W b c h=>
  run_convert_bytes_back W _ _ 5 ⟨b,0,none⟩ 1 [c] Tryz.underlying73 Tryz.underlying5 Tryz.underlying9 fun j hj=>(by
   obtain rfl:j=0:=by simpa using hj
   exact cells_lit [Value.int .u8 (c.toNat:Int)] h rfl 0 _ rfl)
 have CAT:Hid (∀ (c:UInt8) k,k≤8→¬9223372036854775807<(bC [c]).size+(bC (bigL n k)).size):=Hh fun c k hk=>by rw [bC_size,bC_size,bigL_length];simp;omega
 have hn0:(0:Int)≤N:=by omega
 have hn1:N<18446744073709551616:=by omega
 have b1:=(Br w.heap.size w).alloc (o:=.cells #[.int .i64 (m:Int),.int .u64 N] 247) (Lr _)
 have k1:=Hn w (.cells #[.int .i64 (m:Int),.int .u64 N] 247)
 obtain ⟨w1,hw1⟩:∃W,W=w.alloc (.cells #[.int .i64 (m:Int),.int .u64 N] 247):=⟨_,rfl⟩
 rw [←hw1] at b1 k1
 have c0:w1.cell? ⟨w.heap.size,0,none⟩=some (.int .i64 (m:Int)):=cell_blk k1 rfl
 have c1:w1.cell? ⟨w.heap.size,1,none⟩=some (.int .u64 N):=cell_blk k1 rfl
 have B1:=Hh b1
 clear hn b1
 by_cases h24:n<24
 ·have h24':N<24:=by omega
  obtain ⟨c,hcc⟩:∃c,c=UInt8.ofNat (32 * m+n):=⟨_,rfl⟩
  have hor:bits BinOp.or IntKind.u8 ((m:Int) * 32) (N % 256)=(c.toNat:Int):=by rw [hcc,show N % 256=(n:Int) by omega];exact head_bits m n hm (by omega)
  have hor2:bits BinOp.or IntKind.u8 ((m:Int) * 32) N=(c.toNat:Int):=by rw [hcc,hN];exact head_bits m n hm (by omega)
  have HDR:Hid (bC (headL m n)=bC [c]):=Hh (by rw [headL,hcc,show headV n=n by unfold headV;exact if_pos h24,show headK n=0 by unfold headK;exact if_pos h24];rfl)
  have ka:=Hn w1 (.cells #[.int .u8 (c.toNat:Int)] 5)
  have hcv:=CV.out _ _ ka
  clear h24 hcc hN ka k1
  go_enter Tryz.func223,Tryz.ntmps223
  go_upto_region 1 with fail
  rw [←hw1]
  clear hw1
  go_wp2
  go_ret
  exact ⟨by rw [HDR.out];rfl,B1.out.trans ((Br _ _).alloc B1.out.size _)⟩
 ·have h24':¬N<24:=by omega
  obtain ⟨F0,hF0⟩:∃F:Int,F=32 * (m:Int)+24:=⟨_,rfl⟩
  have hor:bits BinOp.or IntKind.u8 ((m:Int) * 32) 24=F0:=by
   have:=head_bits m 24 hm (by decide)
   rw [UInt8.toNat_ofNat'] at this
   rw [show ((24:Nat):Int)=24 from rfl] at this
   omega
  have HF:=Hh hF0
  have HKP:=Hh (fun q=>headK_pow (q:=q) h24)
  clear h24 hF0 hN
  go_enter Tryz.func223,Tryz.ntmps223
  go_upto_region 1 with fail
  rw [←hw1]
  clear hw1
  go_upto_region 6 with fail
  clear hor
  go_loopw [3,4] (fun f k wr=>∃ (q:Nat) (F:Int),q≤3∧f=.int .u8 F∧F=32 * (m:Int)+24+(q:Int)∧k=.int .i64 ((2 ^ q:Nat):Int)∧(q=0∨2 ^ (8 * 2 ^ (q - 1))≤n)∧wr=w1) (fun _ k _=>8 - (intOf k).toNat)
  case atStart=>exact ⟨0,F0,by decide,rfl,by rw [HF.out];simp,rfl,.inl rfl,rfl⟩
  case round=>
   obtain ⟨q,F,hq,rfl,hF,rfl,hlow,hww⟩:=hrel
   replace hww:=hww.symm
   subst hww
   have HFF:=Hh hF
   have hf0:(0:Int)≤F:=by omega
   have hf1:F≤251:=by omega
   clear hF
   have hN:=HN.out.1
   by_cases hgo:q<3∧2 ^ (8 * 2 ^ q)≤n
   ·obtain ⟨hq3,hbig⟩:=hgo
    have HLOW:=Hh hbig
    obtain rfl | rfl | rfl:q=0∨q=1∨q=2:=by omega
    all_goals simp only [Nat.reducePow,Nat.reduceMul] at hbig ⊢
    ·have hgt:(0:Int)<N / 256:=by omega
     have hgt':(0:Int)<N / 2 ^ 8:=by omega
     clear hbig hlow hN
     go_wp2
     go_roundw
     case rel=>exact ⟨1,_,by decide,rfl,by rw [HFF.out];first | omega | (simp;omega),by first | rfl | trivial,.inr HLOW.out,by first | rfl | trivial⟩
     case measure=>simp [intOf]
    ·have hgt:(0:Int)<N / 65536:=by omega
     have hgt':(0:Int)<N / 2 ^ 16:=by omega
     clear hbig hlow hN
     go_wp2
     go_roundw
     case rel=>exact ⟨2,_,by decide,rfl,by rw [HFF.out];first | omega | (simp;omega),by first | rfl | trivial,.inr HLOW.out,by first | rfl | trivial⟩
     case measure=>simp [intOf]
    ·have hgt:(0:Int)<N / 4294967296:=by omega
     have hgt':(0:Int)<N / 2 ^ 32:=by omega
     clear hbig hlow hN
     go_wp2
     go_roundw
     case rel=>exact ⟨3,_,by decide,rfl,by rw [HFF.out];first | omega | (simp;omega),by first | rfl | trivial,.inr HLOW.out,by first | rfl | trivial⟩
     case measure=>simp [intOf]
   ·have hend:q=3∨n<2 ^ (8 * 2 ^ q):=by
     by_cases h3:q=3
     ·exact .inl h3
     ·exact .inr (by omega)
    obtain ⟨hk1,hk2⟩:=HKP.out q hq hlow hend
    have hlt:¬ (0:Int)<N / 2 ^ (8 * 2 ^ q):=by
     rcases hend with rfl | h
     ·rw [show (8:Nat) * 2 ^ 3=64 from rfl];omega
     ·have h':N<2 ^ (8 * 2 ^ q):=by rw [hN];exact_mod_cast h
      rw [Int.ediv_eq_zero_of_lt hn0 h'];decide
    obtain ⟨c,hcc⟩:∃c,c=UInt8.ofNat (32 * m+(24+q)):=⟨_,rfl⟩
    have hFc:F=(c.toNat:Int):=by rw [HFF.out,hcc,UInt8.toNat_ofNat'];omega
    have HDR:Hid (bC [c]++bC (bigL n (2 ^ q))=bC (headL m n)):=Hh (by rw [bC_app,hcc,headL,hk1,hk2];rfl)
    subst hFc
    clear hcc hend hlow hk1 hk2 hf0 hf1 hN
    obtain rfl | rfl | rfl | rfl:q=0∨q=1∨q=2∨q=3:=by omega
    ·simp only [Nat.reducePow,Nat.reduceMul] at hlt HDR ⊢
     have hlt':¬ (0:Int)<N / 256:=hlt
     have RBk:=Hh (fun wx=>RB.out 1 (by decide) wx)
     rw [show ((1:Nat):Int)=1 from rfl] at RBk
     go_upto_region 9 with fail
     have hbw:Below w1.heap.size w1 w1.drew:=(Br _ _).drew
     have cd:w1.drew.cell? ⟨w.heap.size,1,none⟩=some (.int .u64 N):=c1
     have hzw:w.heap.size<w1.drew.heap.size:=cell_lt cd
     refine wp_region_plan (fun w'=>w'.cell? ⟨w.heap.size,1,none⟩=some (.int .u64 N)) [4] (.take 0 (.take 3 (.take 4 (.take 5 (Plan.join true (.ask 1 true (.ask 2 true (.ask 6 false .stop .stop) (.ask 6 false (.ask 2 false .stop .stop) .stop)) (.ask 6 false (.ask 1 false (.ask 2 false .stop .stop) .stop) .stop)) (.ask 7 false (.ask 8 false .stop .stop) .stop)))))) (by kernel_rfl) (by kernel_rfl) (fun _ d _ _ _ h=>by cases d <;> exact h) c1 ?_
     clear c0 c1
     generalize w1.drew=wd at hbw cd hzw ⊢
     refine take_any _ ?_ rfl rfl ?_ (fun K hK=>?_);rotate_left;(intro w0;go_simp;(try rfl));(go_simp;refine hK _ ?_;clear hK K)
     refine take_any _ ?_ rfl rfl ?_ (fun K hK=>?_);rotate_left;(intro w0;go_simp;(try rfl));(go_simp;refine hK _ ?_;clear hK K)
     refine take_held _ ?_ rfl rfl (by decide) ?_ (fun K hK=>?_);rotate_left;(intro w0 hw0;go_simp;(try rfl));(go_simp;refine hK _ ?_;clear hK K)
     refine take_any _ ?_ rfl rfl ?_ (fun K hK=>?_);rotate_left;(intro w0;go_simp;(try rfl));(go_simp;refine hK _ ?_;clear hK K)
     refine plan_cut [32,33,37] (fun vs wx=>∃v32,vs=[v32,.string (bC [c]),.string (bC (bigL n 1))]∧Below w1.heap.size w1 wx) ?_ ?_
     ·refine ask_step _ rfl ?_ ?_
      rotate_left
      ·go_wp2_with fail
       have ka:=Hn wd (.cells #[.int .u8 (c.toNat:Int)] 5)
       have ba:=hbw.alloc (o:=.cells #[.int .u8 (c.toNat:Int)] 5) hbw.size
       have ca:=((Br wd.heap.size wd).alloc (o:=.cells #[.int .u8 (c.toNat:Int)] 5) (Lr _)).cell (p:=⟨w.heap.size,1,none⟩) hzw |>.trans cd
       have hla:wd.heap.size<(wd.alloc (.cells #[.int .u8 (c.toNat:Int)] 5)).heap.size:=by simp
       generalize wd.alloc (.cells #[.int .u8 (c.toNat:Int)] 5)=wa at ka ba ca hla ⊢
       refine Seg.mk ⟨ca,?_⟩
       have hcv:=CV.out wa _ ka
       refine ask_step _ rfl ?_ ?_
       rotate_left
       ·go_wp2_with fail;refine Seg.mk ⟨ca,?_⟩
        refine ask_late _ rfl trivial ?_;go_wp2_with (go_at_call 246;(with_reducible refine (RBk.out _).mono ?_);rintro e w2 ⟨rfl,hb2⟩);refine Seg.mk ?_
        exact plan_meet [.slice (some ⟨wd.heap.size,0,none⟩) 1 1,.string (bC [c]),.string (bC (bigL n 1))] (by first | exact ⟨_,rfl,ba.trans (hb2.mono ba.size)⟩ | exact ⟨⟨_,rfl⟩,ba.trans (hb2.mono ba.size)⟩) rfl
       ·refine ask_late _ rfl trivial ?_;go_wp2_with (go_at_call 246;(with_reducible refine (RBk.out _).mono ?_);rintro e w2 ⟨rfl,hb2⟩);refine Seg.mk ?_
        have hcv2:=CV.out w2 _ ((hb2.block _ hla).trans ka)
        refine ask_late _ rfl trivial ?_;go_wp2_with fail;refine Seg.mk ?_
        exact plan_meet [.slice (some ⟨wd.heap.size,0,none⟩) 1 1,.string (bC [c]),.string (bC (bigL n 1))] (by first | exact ⟨_,rfl,ba.trans (hb2.mono ba.size)⟩ | exact ⟨⟨_,rfl⟩,ba.trans (hb2.mono ba.size)⟩) rfl
      ·refine ask_late _ rfl trivial ?_;go_wp2_with (go_at_call 246;(with_reducible refine (RBk.out _).mono ?_);rintro e w2 ⟨rfl,hb2⟩);refine Seg.mk ?_
       have b2:=hbw.trans (hb2.mono hbw.size)
       refine ask_late _ rfl trivial ?_;go_wp2_with fail;refine Seg.mk ?_
       have ka:=Hn w2 (.cells #[.int .u8 (c.toNat:Int)] 5)
       have ba:=b2.alloc (o:=.cells #[.int .u8 (c.toNat:Int)] 5) b2.size
       generalize w2.alloc (.cells #[.int .u8 (c.toNat:Int)] 5)=wa at ka ba ⊢
       have hcv:=CV.out wa _ ka
       refine ask_late _ rfl trivial ?_;go_wp2_with fail;refine Seg.mk ?_
       exact plan_meet [.slice (some ⟨w2.heap.size,0,none⟩) 1 1,.string (bC [c]),.string (bC (bigL n 1))] (by first | exact ⟨_,rfl,ba⟩ | exact ⟨⟨_,rfl⟩,ba⟩) rfl
     ·rintro vs w' ⟨v32,rfl,hbl⟩
      simp only [puts,Act.put,List.setIfInBounds_toArray,List.set_cons_zero,List.set_cons_succ]
      have hcat:=CAT.out c 1 (by decide)
      have HBL:=Hh hbl
      clear hbl
      refine ask_late _ rfl trivial ?_;go_wp2_with fail;refine Seg.mk ?_
      refine ask_last _ rfl trivial ?_
      go_wp2
      go_ret
      exact ⟨by rw [HDR.out];rfl,B1.out.trans (HBL.out.mono B1.out.size)⟩
    ·simp only [Nat.reducePow,Nat.reduceMul] at hlt HDR ⊢
     have hlt':¬ (0:Int)<N / 65536:=hlt
     have RBk:=Hh (fun wx=>RB.out 2 (by decide) wx)
     rw [show ((2:Nat):Int)=2 from rfl] at RBk
     go_upto_region 9 with fail
     have hbw:Below w1.heap.size w1 w1.drew:=(Br _ _).drew
     have cd:w1.drew.cell? ⟨w.heap.size,1,none⟩=some (.int .u64 N):=c1
     have hzw:w.heap.size<w1.drew.heap.size:=cell_lt cd
     refine wp_region_plan (fun w'=>w'.cell? ⟨w.heap.size,1,none⟩=some (.int .u64 N)) [4] (.take 0 (.take 3 (.take 4 (.take 5 (Plan.join true (.ask 1 true (.ask 2 true (.ask 6 false .stop .stop) (.ask 6 false (.ask 2 false .stop .stop) .stop)) (.ask 6 false (.ask 1 false (.ask 2 false .stop .stop) .stop) .stop)) (.ask 7 false (.ask 8 false .stop .stop) .stop)))))) (by kernel_rfl) (by kernel_rfl) (fun _ d _ _ _ h=>by cases d <;> exact h) c1 ?_
     clear c0 c1
     generalize w1.drew=wd at hbw cd hzw ⊢
     refine take_any _ ?_ rfl rfl ?_ (fun K hK=>?_);rotate_left;(intro w0;go_simp;(try rfl));(go_simp;refine hK _ ?_;clear hK K)
     refine take_any _ ?_ rfl rfl ?_ (fun K hK=>?_);rotate_left;(intro w0;go_simp;(try rfl));(go_simp;refine hK _ ?_;clear hK K)
     refine take_held _ ?_ rfl rfl (by decide) ?_ (fun K hK=>?_);rotate_left;(intro w0 hw0;go_simp;(try rfl));(go_simp;refine hK _ ?_;clear hK K)
     refine take_any _ ?_ rfl rfl ?_ (fun K hK=>?_);rotate_left;(intro w0;go_simp;(try rfl));(go_simp;refine hK _ ?_;clear hK K)
     refine plan_cut [32,33,37] (fun vs wx=>∃v32,vs=[v32,.string (bC [c]),.string (bC (bigL n 2))]∧Below w1.heap.size w1 wx) ?_ ?_
     ·refine ask_step _ rfl ?_ ?_
      rotate_left
      ·go_wp2_with fail
       have ka:=Hn wd (.cells #[.int .u8 (c.toNat:Int)] 5)
       have ba:=hbw.alloc (o:=.cells #[.int .u8 (c.toNat:Int)] 5) hbw.size
       have ca:=((Br wd.heap.size wd).alloc (o:=.cells #[.int .u8 (c.toNat:Int)] 5) (Lr _)).cell (p:=⟨w.heap.size,1,none⟩) hzw |>.trans cd
       have hla:wd.heap.size<(wd.alloc (.cells #[.int .u8 (c.toNat:Int)] 5)).heap.size:=by simp
       generalize wd.alloc (.cells #[.int .u8 (c.toNat:Int)] 5)=wa at ka ba ca hla ⊢
       refine Seg.mk ⟨ca,?_⟩
       have hcv:=CV.out wa _ ka
       refine ask_step _ rfl ?_ ?_
       rotate_left
       ·go_wp2_with fail;refine Seg.mk ⟨ca,?_⟩
        refine ask_late _ rfl trivial ?_;go_wp2_with (go_at_call 246;(with_reducible refine (RBk.out _).mono ?_);rintro e w2 ⟨rfl,hb2⟩);refine Seg.mk ?_
        exact plan_meet [.slice (some ⟨wd.heap.size,0,none⟩) 1 1,.string (bC [c]),.string (bC (bigL n 2))] (by first | exact ⟨_,rfl,ba.trans (hb2.mono ba.size)⟩ | exact ⟨⟨_,rfl⟩,ba.trans (hb2.mono ba.size)⟩) rfl
       ·refine ask_late _ rfl trivial ?_;go_wp2_with (go_at_call 246;(with_reducible refine (RBk.out _).mono ?_);rintro e w2 ⟨rfl,hb2⟩);refine Seg.mk ?_
        have hcv2:=CV.out w2 _ ((hb2.block _ hla).trans ka)
        refine ask_late _ rfl trivial ?_;go_wp2_with fail;refine Seg.mk ?_
        exact plan_meet [.slice (some ⟨wd.heap.size,0,none⟩) 1 1,.string (bC [c]),.string (bC (bigL n 2))] (by first | exact ⟨_,rfl,ba.trans (hb2.mono ba.size)⟩ | exact ⟨⟨_,rfl⟩,ba.trans (hb2.mono ba.size)⟩) rfl
      ·refine ask_late _ rfl trivial ?_;go_wp2_with (go_at_call 246;(with_reducible refine (RBk.out _).mono ?_);rintro e w2 ⟨rfl,hb2⟩);refine Seg.mk ?_
       have b2:=hbw.trans (hb2.mono hbw.size)
       refine ask_late _ rfl trivial ?_;go_wp2_with fail;refine Seg.mk ?_
       have ka:=Hn w2 (.cells #[.int .u8 (c.toNat:Int)] 5)
       have ba:=b2.alloc (o:=.cells #[.int .u8 (c.toNat:Int)] 5) b2.size
       generalize w2.alloc (.cells #[.int .u8 (c.toNat:Int)] 5)=wa at ka ba ⊢
       have hcv:=CV.out wa _ ka
       refine ask_late _ rfl trivial ?_;go_wp2_with fail;refine Seg.mk ?_
       exact plan_meet [.slice (some ⟨w2.heap.size,0,none⟩) 1 1,.string (bC [c]),.string (bC (bigL n 2))] (by first | exact ⟨_,rfl,ba⟩ | exact ⟨⟨_,rfl⟩,ba⟩) rfl
     ·rintro vs w' ⟨v32,rfl,hbl⟩
      simp only [puts,Act.put,List.setIfInBounds_toArray,List.set_cons_zero,List.set_cons_succ]
      have hcat:=CAT.out c 2 (by decide)
      have HBL:=Hh hbl
      clear hbl
      refine ask_late _ rfl trivial ?_;go_wp2_with fail;refine Seg.mk ?_
      refine ask_last _ rfl trivial ?_
      go_wp2
      go_ret
      exact ⟨by rw [HDR.out];rfl,B1.out.trans (HBL.out.mono B1.out.size)⟩
    ·simp only [Nat.reducePow,Nat.reduceMul] at hlt HDR ⊢
     have hlt':¬ (0:Int)<N / 4294967296:=hlt
     have RBk:=Hh (fun wx=>RB.out 4 (by decide) wx)
     rw [show ((4:Nat):Int)=4 from rfl] at RBk
     go_upto_region 9 with fail
     have hbw:Below w1.heap.size w1 w1.drew:=(Br _ _).drew
     have cd:w1.drew.cell? ⟨w.heap.size,1,none⟩=some (.int .u64 N):=c1
     have hzw:w.heap.size<w1.drew.heap.size:=cell_lt cd
     refine wp_region_plan (fun w'=>w'.cell? ⟨w.heap.size,1,none⟩=some (.int .u64 N)) [4] (.take 0 (.take 3 (.take 4 (.take 5 (Plan.join true (.ask 1 true (.ask 2 true (.ask 6 false .stop .stop) (.ask 6 false (.ask 2 false .stop .stop) .stop)) (.ask 6 false (.ask 1 false (.ask 2 false .stop .stop) .stop) .stop)) (.ask 7 false (.ask 8 false .stop .stop) .stop)))))) (by kernel_rfl) (by kernel_rfl) (fun _ d _ _ _ h=>by cases d <;> exact h) c1 ?_
     clear c0 c1
     generalize w1.drew=wd at hbw cd hzw ⊢
     refine take_any _ ?_ rfl rfl ?_ (fun K hK=>?_);rotate_left;(intro w0;go_simp;(try rfl));(go_simp;refine hK _ ?_;clear hK K)
     refine take_any _ ?_ rfl rfl ?_ (fun K hK=>?_);rotate_left;(intro w0;go_simp;(try rfl));(go_simp;refine hK _ ?_;clear hK K)
     refine take_held _ ?_ rfl rfl (by decide) ?_ (fun K hK=>?_);rotate_left;(intro w0 hw0;go_simp;(try rfl));(go_simp;refine hK _ ?_;clear hK K)
     refine take_any _ ?_ rfl rfl ?_ (fun K hK=>?_);rotate_left;(intro w0;go_simp;(try rfl));(go_simp;refine hK _ ?_;clear hK K)
     refine plan_cut [32,33,37] (fun vs wx=>∃v32,vs=[v32,.string (bC [c]),.string (bC (bigL n 4))]∧Below w1.heap.size w1 wx) ?_ ?_
     ·refine ask_step _ rfl ?_ ?_
      rotate_left
      ·go_wp2_with fail
       have ka:=Hn wd (.cells #[.int .u8 (c.toNat:Int)] 5)
       have ba:=hbw.alloc (o:=.cells #[.int .u8 (c.toNat:Int)] 5) hbw.size
       have ca:=((Br wd.heap.size wd).alloc (o:=.cells #[.int .u8 (c.toNat:Int)] 5) (Lr _)).cell (p:=⟨w.heap.size,1,none⟩) hzw |>.trans cd
       have hla:wd.heap.size<(wd.alloc (.cells #[.int .u8 (c.toNat:Int)] 5)).heap.size:=by simp
       generalize wd.alloc (.cells #[.int .u8 (c.toNat:Int)] 5)=wa at ka ba ca hla ⊢
       refine Seg.mk ⟨ca,?_⟩
       have hcv:=CV.out wa _ ka
       refine ask_step _ rfl ?_ ?_
       rotate_left
       ·go_wp2_with fail;refine Seg.mk ⟨ca,?_⟩
        refine ask_late _ rfl trivial ?_;go_wp2_with (go_at_call 246;(with_reducible refine (RBk.out _).mono ?_);rintro e w2 ⟨rfl,hb2⟩);refine Seg.mk ?_
        exact plan_meet [.slice (some ⟨wd.heap.size,0,none⟩) 1 1,.string (bC [c]),.string (bC (bigL n 4))] (by first | exact ⟨_,rfl,ba.trans (hb2.mono ba.size)⟩ | exact ⟨⟨_,rfl⟩,ba.trans (hb2.mono ba.size)⟩) rfl
       ·refine ask_late _ rfl trivial ?_;go_wp2_with (go_at_call 246;(with_reducible refine (RBk.out _).mono ?_);rintro e w2 ⟨rfl,hb2⟩);refine Seg.mk ?_
        have hcv2:=CV.out w2 _ ((hb2.block _ hla).trans ka)
        refine ask_late _ rfl trivial ?_;go_wp2_with fail;refine Seg.mk ?_
        exact plan_meet [.slice (some ⟨wd.heap.size,0,none⟩) 1 1,.string (bC [c]),.string (bC (bigL n 4))] (by first | exact ⟨_,rfl,ba.trans (hb2.mono ba.size)⟩ | exact ⟨⟨_,rfl⟩,ba.trans (hb2.mono ba.size)⟩) rfl
      ·refine ask_late _ rfl trivial ?_;go_wp2_with (go_at_call 246;(with_reducible refine (RBk.out _).mono ?_);rintro e w2 ⟨rfl,hb2⟩);refine Seg.mk ?_
       have b2:=hbw.trans (hb2.mono hbw.size)
       refine ask_late _ rfl trivial ?_;go_wp2_with fail;refine Seg.mk ?_
       have ka:=Hn w2 (.cells #[.int .u8 (c.toNat:Int)] 5)
       have ba:=b2.alloc (o:=.cells #[.int .u8 (c.toNat:Int)] 5) b2.size
       generalize w2.alloc (.cells #[.int .u8 (c.toNat:Int)] 5)=wa at ka ba ⊢
       have hcv:=CV.out wa _ ka
       refine ask_late _ rfl trivial ?_;go_wp2_with fail;refine Seg.mk ?_
       exact plan_meet [.slice (some ⟨w2.heap.size,0,none⟩) 1 1,.string (bC [c]),.string (bC (bigL n 4))] (by first | exact ⟨_,rfl,ba⟩ | exact ⟨⟨_,rfl⟩,ba⟩) rfl
     ·rintro vs w' ⟨v32,rfl,hbl⟩
      simp only [puts,Act.put,List.setIfInBounds_toArray,List.set_cons_zero,List.set_cons_succ]
      have hcat:=CAT.out c 4 (by decide)
      have HBL:=Hh hbl
      clear hbl
      refine ask_late _ rfl trivial ?_;go_wp2_with fail;refine Seg.mk ?_
      refine ask_last _ rfl trivial ?_
      go_wp2
      go_ret
      exact ⟨by rw [HDR.out];rfl,B1.out.trans (HBL.out.mono B1.out.size)⟩
    ·simp only [Nat.reducePow,Nat.reduceMul] at hlt HDR ⊢
     have hlt':¬ (0:Int)<N / 18446744073709551616:=hlt
     have RBk:=Hh (fun wx=>RB.out 8 (by decide) wx)
     rw [show ((8:Nat):Int)=8 from rfl] at RBk
     go_upto_region 9 with fail
     have hbw:Below w1.heap.size w1 w1.drew:=(Br _ _).drew
     have cd:w1.drew.cell? ⟨w.heap.size,1,none⟩=some (.int .u64 N):=c1
     have hzw:w.heap.size<w1.drew.heap.size:=cell_lt cd
     refine wp_region_plan (fun w'=>w'.cell? ⟨w.heap.size,1,none⟩=some (.int .u64 N)) [4] (.take 0 (.take 3 (.take 4 (.take 5 (Plan.join true (.ask 1 true (.ask 2 true (.ask 6 false .stop .stop) (.ask 6 false (.ask 2 false .stop .stop) .stop)) (.ask 6 false (.ask 1 false (.ask 2 false .stop .stop) .stop) .stop)) (.ask 7 false (.ask 8 false .stop .stop) .stop)))))) (by kernel_rfl) (by kernel_rfl) (fun _ d _ _ _ h=>by cases d <;> exact h) c1 ?_
     clear c0 c1
     generalize w1.drew=wd at hbw cd hzw ⊢
     refine take_any _ ?_ rfl rfl ?_ (fun K hK=>?_);rotate_left;(intro w0;go_simp;(try rfl));(go_simp;refine hK _ ?_;clear hK K)
     refine take_any _ ?_ rfl rfl ?_ (fun K hK=>?_);rotate_left;(intro w0;go_simp;(try rfl));(go_simp;refine hK _ ?_;clear hK K)
     refine take_held _ ?_ rfl rfl (by decide) ?_ (fun K hK=>?_);rotate_left;(intro w0 hw0;go_simp;(try rfl));(go_simp;refine hK _ ?_;clear hK K)
     refine take_any _ ?_ rfl rfl ?_ (fun K hK=>?_);rotate_left;(intro w0;go_simp;(try rfl));(go_simp;refine hK _ ?_;clear hK K)
     refine plan_cut [32,33,37] (fun vs wx=>∃v32,vs=[v32,.string (bC [c]),.string (bC (bigL n 8))]∧Below w1.heap.size w1 wx) ?_ ?_
     ·refine ask_step _ rfl ?_ ?_
      rotate_left
      ·go_wp2_with fail
       have ka:=Hn wd (.cells #[.int .u8 (c.toNat:Int)] 5)
       have ba:=hbw.alloc (o:=.cells #[.int .u8 (c.toNat:Int)] 5) hbw.size
       have ca:=((Br wd.heap.size wd).alloc (o:=.cells #[.int .u8 (c.toNat:Int)] 5) (Lr _)).cell (p:=⟨w.heap.size,1,none⟩) hzw |>.trans cd
       have hla:wd.heap.size<(wd.alloc (.cells #[.int .u8 (c.toNat:Int)] 5)).heap.size:=by simp
       generalize wd.alloc (.cells #[.int .u8 (c.toNat:Int)] 5)=wa at ka ba ca hla ⊢
       refine Seg.mk ⟨ca,?_⟩
       have hcv:=CV.out wa _ ka
       refine ask_step _ rfl ?_ ?_
       rotate_left
       ·go_wp2_with fail;refine Seg.mk ⟨ca,?_⟩
        refine ask_late _ rfl trivial ?_;go_wp2_with (go_at_call 246;(with_reducible refine (RBk.out _).mono ?_);rintro e w2 ⟨rfl,hb2⟩);refine Seg.mk ?_
        exact plan_meet [.slice (some ⟨wd.heap.size,0,none⟩) 1 1,.string (bC [c]),.string (bC (bigL n 8))] (by first | exact ⟨_,rfl,ba.trans (hb2.mono ba.size)⟩ | exact ⟨⟨_,rfl⟩,ba.trans (hb2.mono ba.size)⟩) rfl
       ·refine ask_late _ rfl trivial ?_;go_wp2_with (go_at_call 246;(with_reducible refine (RBk.out _).mono ?_);rintro e w2 ⟨rfl,hb2⟩);refine Seg.mk ?_
        have hcv2:=CV.out w2 _ ((hb2.block _ hla).trans ka)
        refine ask_late _ rfl trivial ?_;go_wp2_with fail;refine Seg.mk ?_
        exact plan_meet [.slice (some ⟨wd.heap.size,0,none⟩) 1 1,.string (bC [c]),.string (bC (bigL n 8))] (by first | exact ⟨_,rfl,ba.trans (hb2.mono ba.size)⟩ | exact ⟨⟨_,rfl⟩,ba.trans (hb2.mono ba.size)⟩) rfl
      ·refine ask_late _ rfl trivial ?_;go_wp2_with (go_at_call 246;(with_reducible refine (RBk.out _).mono ?_);rintro e w2 ⟨rfl,hb2⟩);refine Seg.mk ?_
       have b2:=hbw.trans (hb2.mono hbw.size)
       refine ask_late _ rfl trivial ?_;go_wp2_with fail;refine Seg.mk ?_
       have ka:=Hn w2 (.cells #[.int .u8 (c.toNat:Int)] 5)
       have ba:=b2.alloc (o:=.cells #[.int .u8 (c.toNat:Int)] 5) b2.size
       generalize w2.alloc (.cells #[.int .u8 (c.toNat:Int)] 5)=wa at ka ba ⊢
       have hcv:=CV.out wa _ ka
       refine ask_late _ rfl trivial ?_;go_wp2_with fail;refine Seg.mk ?_
       exact plan_meet [.slice (some ⟨w2.heap.size,0,none⟩) 1 1,.string (bC [c]),.string (bC (bigL n 8))] (by first | exact ⟨_,rfl,ba⟩ | exact ⟨⟨_,rfl⟩,ba⟩) rfl
     ·rintro vs w' ⟨v32,rfl,hbl⟩
      simp only [puts,Act.put,List.setIfInBounds_toArray,List.set_cons_zero,List.set_cons_succ]
      have hcat:=CAT.out c 8 (by decide)
      have HBL:=Hh hbl
      clear hbl
      refine ask_late _ rfl trivial ?_;go_wp2_with fail;refine Seg.mk ?_
      refine ask_last _ rfl trivial ?_
      go_wp2
      go_ret
      exact ⟨by rw [HDR.out];rfl,B1.out.trans (HBL.out.mono B1.out.size)⟩
end Go.Proofs.YtcklddldejejcaaGreatDoor