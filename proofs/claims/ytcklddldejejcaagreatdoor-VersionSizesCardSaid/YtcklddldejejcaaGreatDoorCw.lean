/- The document's heads: big, head, Head. -/
import Derived.Test.YtcklddldejejcaaGreatDoorCinj
import Derived.Test.YtcklddldejejcaaGreatDoorNmap
import Derived.Deep.AppendLies
set_option linter.unusedVariables false
set_option linter.unusedSimpArgs false
set_option maxHeartbeats 3200000
set_option maxRecDepth 100000
namespace Go.Proofs.YtcklddldejejcaaGreatDoor
open Go Go.ChangeShapes Go.WideShapes Go.ChangeAt Go.RowKit
def bC (l:List UInt8):ByteArray:=⟨l.toArray⟩
theorem bC_data (l:List UInt8):(bC l).data.toList=l:=by simp [bC]
theorem bC_size (l:List UInt8):(bC l).size=l.length:=by simp [bC,ByteArray.size]
theorem bC_of (s:ByteArray):bC s.data.toList=s:=by cases s;simp [bC]
theorem bC_app (a b:List UInt8):bC a++bC b=bC (a++b):=by
 apply data_inj
 rw [ByteArray.data_append,Array.toList_append,bC_data,bC_data,bC_data]
theorem bigL_take (n:Nat):∀k j,j<k→(bigL n k).take (j+1)=(bigL n k).take j++[UInt8.ofNat (n / 256 ^ (k - 1 - j))]
 | 0,j,h=>by omega
 | k+1,0,_=>by rw [bigL];rfl
 | k+1,j+1,h=>by
  have:=bigL_take n k j (by omega)
  rw [bigL,List.take_succ_cons,List.take_succ_cons,this,show k+1 - 1 - (j+1)=k - 1 - j by omega]
  rfl
theorem byte_at (n i:Nat):(n:Int) / 2 ^ (8 * i) % 256=((UInt8.ofNat (n / 256 ^ i)).toNat:Int):=by
 have h:(2:Int) ^ (8 * i)=((256 ^ i:Nat):Int):=by
  rw [show (256:Nat)=2 ^ 8 from rfl,←Nat.pow_mul,Int.natCast_pow];rfl
 rw [h,UInt8.toNat_ofNat',←Int.natCast_ediv]
 rfl
theorem rbig_any (n:Nat) (k:Nat) (w:World) (hk:k≤8) (hn:n<18446744073709551616):Calls Tryz.prog 182 #[.int .u64 (n:Int),.int .i64 (k:Int)] w fun e w'=>e=.returned (.string (bC (bigL n k)))∧Below w.heap.size w w':=by
 obtain ⟨ib,hib,hb0,hb1,hb2⟩:=info_parts Tryz.info5
 have hub:=Tryz.underlying73
 have hu8:=Tryz.underlying5
 have hust:=Tryz.underlying9
 have HIB:=Hh hib
 have hk8:(k:Int)≤8:=by omega
 have hk1:IntKind.i64.wrap ((k:Int) - 1)=(k:Int) - 1:=IntWalk.i64_in _ (by omega)
 obtain ⟨N,hN⟩:∃N:Int,N=(n:Int):=⟨_,rfl⟩
 rw [←hN]
 have HN:=Hh (Ai hN hn)
 clear hN hn hib
 go_enter Tryz.func182,Tryz.ntmps182
 go_upto_region 3 with fail
 go_loopw [5,6] (fun v i wr=>∃ (j:Nat),i=.int .i64 ((k:Int) - 1 - (j:Int))∧j≤k∧wr.ownsRow w.heap.size 5 1 v j (bytesV ((bigL n k).take j))∧Below w.heap.size w wr) (fun _ i _=>(intOf i+1).toNat)
 case atStart=>exact ⟨0,by simp,Nat.zero_le _,World.ownsRow_nil w _ _ _,Br _ _⟩
 case round=>
  obtain ⟨j,rfl,hj,hown,hB⟩:=hrel
  have HROW:=Hh (Ai hown hB)
  clear hown hB
  by_cases hlt:j<k
  ·have hge:(0:Int)≤(k:Int) - 1 - (j:Int):=by omega
   obtain ⟨i,hi⟩:∃i:Nat,(i:Int)=(k:Int) - 1 - (j:Int):=⟨k - 1 - j,by omega⟩
   have hi7:(i:Int)≤7:=by omega
   have hi0:(0:Int)≤(i:Int):=by omega
   rw [←hi] at hge ⊢
   have HI:=Hh hi
   clear hi hge
   obtain ⟨c,hcc⟩:∃c,c=UInt8.ofNat (n / 256 ^ i):=⟨_,rfl⟩
   have hc:N / 2 ^ (8 * i) % 256=(c.toNat:Int):=by rw [HN.out.1,hcc];exact byte_at n i
   have HC:=Hh hcc
   have hbl:((bigL n k).take j).length=j:=by rw [List.length_take,bigL_length];omega
   have HBL:=Hh hbl
   clear hcc hbl
   go_wp2_with (refine wpList_append_lies _ rfl (.tmp 13) (.tmp 20) 73 rfl w.heap.size 5 ib (.int .u8 0) 1 1 hub HIB.out hb0 hb1 hb2 rfl (by decide) _ j _ rfl (HROW.out.1.alloc (.cells #[.int .u8 (c.toNat:Int)] 5)) ⟨wr.heap.size,0,none⟩ 1 1 [.int .u8 (c.toNat:Int)] rfl rfl (cells_new wr #[.int .u8 (c.toNat:Int)] 5 [.int .u8 (c.toNat:Int)] rfl) (by intro u hu;simp only [List.mem_cons,List.not_mem_nil,or_false] at hu;rcases hu with rfl;rfl) (by decide) (by unfold maxLen;omega) (by omega) (by have:=HROW.out.2.size;simp;omega) _ rfl ?_;intro gg cc W8 hown hgrow hat hlt2)
   have hB8:=obelow (HROW.out.2.alloc HROW.out.2.size (.cells #[.int .u8 (c.toNat:Int)] 5)) (HROW.out.1.alloc (.cells #[.int .u8 (c.toNat:Int)] 5)) hgrow (by have:=HROW.out.2.size;simp;omega)
   have F:Hid (W8.ownsRow w.heap.size 5 1 (.slice (some ⟨gg,0,none⟩) (j+1) cc) (j+1) (bytesV ((bigL n k).take (j+1)))∧Below w.heap.size w W8):=Hh ⟨by
    rw [bigL_take n k j hlt,bytesV_append,show k - 1 - j=i by have:=HI.out;omega,←HC.out]
    exact hown,hB8⟩
   clear hown hgrow hat hB8
   go_wp2
   go_roundw
   case rel=>exact ⟨j+1,by have:=HI.out;exact congrArg _ (by omega),by omega,F.out.1,F.out.2⟩
   case measure=>simp [intOf] <;> omega
  ·have hj2:j=k:=by omega
   have hge:¬ (0:Int)≤(k:Int) - 1 - (j:Int):=by omega
   have hcv:=conv_owns (P:=Tryz.prog) wr 73 9 5 w.heap.size j _ ((bigL n k).take j) HROW.out.1 hub hu8 hust
   rw [hj2,List.take_of_length_le (by rw [bigL_length];exact Lr _)] at hcv
   have HJ:=Hh hj2
   clear hj2
   go_wp2
   go_ret
   exact ⟨rfl,HROW.out.2⟩
theorem head_bits:∀m v:Nat,m<8→v<32→bits BinOp.or IntKind.u8 ((m:Int) * 32) (v:Int)=((UInt8.ofNat (32 * m+v)).toNat:Int):=by
 have:∀ (m:Fin 8) (v:Fin 32),bits BinOp.or IntKind.u8 ((m.1:Int) * 32) (v.1:Int)=((UInt8.ofNat (32 * m.1+v.1)).toNat:Int):=by decide +kernel
 exact fun m v hm hv=>this ⟨m,hm⟩ ⟨v,hv⟩
theorem rhead_any (m n:Nat) (w:World) (hm:m<8) (hn:n<18446744073709551616):Calls Tryz.prog 135 #[.int .i64 (m:Int),.int .u64 (n:Int)] w fun e w'=>e=.returned (.string (bC (headL m n)))∧Below w.heap.size w w':=by
 have hmz:(0:Int)≤(m:Int):=by omega
 have hm8:(m:Int)<8:=by omega
 obtain ⟨N,hN⟩:∃N:Int,N=(n:Int):=⟨_,rfl⟩
 rw [←hN]
 have HN:=Hh (Ai hN hn)
 have RB:=Hh (fun k (hk:k≤8) wx=>rbig_any n k wx hk hn)
 rw [←hN] at RB
 have CV:Hid (∀ (W:World) (b:Nat) {c:UInt8},W.heap[b]?=some (.cells #[.int .u8 (c.toNat:Int)] 5 (0,0))→(convert 73 9 (.slice (some ⟨b,0,none⟩) 1 1)).run Tryz.prog W=.ok (.string (bC [c])) W):=Hh fun W b c h=>
  run_convert_bytes_back W _ _ 5 ⟨b,0,none⟩ 1 [c] Tryz.underlying73 Tryz.underlying5 Tryz.underlying9 fun j hj=>(by
   obtain rfl:j=0:=by simpa using hj
   exact cells_lit [Value.int .u8 (c.toNat:Int)] h rfl 0 _ rfl)
 have CAT:Hid (∀ (c:UInt8) k,k≤8→¬9223372036854775807<(bC [c]).size+(bC (bigL n k)).size):=Hh fun c k hk=>by rw [bC_size,bC_size,bigL_length];simp;omega
 clear hn
 by_cases h24:n<24
 ·have h24':N<24:=by omega
  obtain ⟨c,hcc⟩:∃c,c=UInt8.ofNat (32 * m+n):=⟨_,rfl⟩
  have hor:bits BinOp.or IntKind.u8 ((m:Int) * 32) (N % 256)=(c.toNat:Int):=by rw [hcc,show N % 256=(n:Int) by omega];exact head_bits m n hm (by omega)
  have HDR:Hid (bC (headL m n)=bC [c]):=Hh (by rw [headL,hcc,show headV n=n by unfold headV;exact if_pos h24,show headK n=0 by unfold headK;exact if_pos h24];rfl)
  have ka:=Hn w (.cells #[.int .u8 (c.toNat:Int)] 5)
  have hcv:=CV.out _ _ ka
  clear h24 hcc hN ka
  go_enter Tryz.func135,Tryz.ntmps135
  go_wp2
  go_ret
  exact ⟨by rw [HDR.out];rfl,(Br _ _).alloc (Lr _) _⟩
 ·have h24':¬N<24:=by omega
  by_cases h256:n<256
  ·have h256':N<256:=by omega
   obtain ⟨c,hcc⟩:∃c,c=UInt8.ofNat (32 * m+24):=⟨_,rfl⟩
   have HC:=Hh hcc
   have HOR:Hid (bits BinOp.or IntKind.u8 ((m:Int) * 32) 24=(c.toNat:Int)):=Hh (by rw [hcc];exact head_bits m 24 hm (by decide))
   clear hcc
   have HDR:Hid (bC [c]++bC (bigL n 1)=bC (headL m n)):=Hh (by
    rw [bC_app,HC.out,headL,show headV n=24 by unfold headV;rw [if_neg h24,if_pos h256],show headK n=1 by unfold headK;rw [if_neg h24,if_pos h256]]
    rfl)
   have hor:bits BinOp.or IntKind.u8 ((m:Int) * 32) 24=(c.toNat:Int):=HOR.out
   clear hN
   go_enter Tryz.func135,Tryz.ntmps135
   go_upto_region 5 with fail
   have hbw:Below w.heap.size w w.drew:=(Br _ _).drew
   refine wp_region_plan (fun w'=>True) [] (.take 0 (.take 1 (.take 4 (Plan.join true (.ask 2 false (.ask 3 false (.ask 5 false .stop .stop) (.ask 5 false (.ask 3 false .stop .stop) .stop)) (.ask 5 false (.ask 2 false (.ask 3 false .stop .stop) .stop) .stop)) (.ask 6 false (.ask 7 false .stop .stop) .stop))))) (by kernel_rfl) (by kernel_rfl) (fun _ d _ _ _ h=>by cases d <;> exact h) trivial ?_
   generalize w.drew=wd at hbw ⊢
   refine take_any _ ?_ rfl rfl ?_ (fun K hK=>?_);rotate_left;(intro w0;go_simp;(try rfl));(go_simp;refine hK _ ?_;clear hK K)
   refine take_any _ ?_ rfl rfl ?_ (fun K hK=>?_);rotate_left;(intro w0;go_simp;(try rfl));(go_simp;refine hK _ ?_;clear hK K)
   refine take_any _ ?_ rfl rfl ?_ (fun K hK=>?_);rotate_left;(intro w0;go_simp;(try rfl));(go_simp;refine hK _ ?_;clear hK K)
   have RBk:=Hh (fun wx=>RB.out 1 (by decide) wx)
   rw [show ((1:Nat):Int)=1 from rfl] at RBk
   refine plan_cut [23,24,26] (fun vs wx=>∃v23,vs=[v23,.string (bC [c]),.string (bC (bigL n 1))]∧Below w.heap.size w wx) ?_ ?_
   ·refine ask_late _ rfl ?_ ?_
    rotate_left
    ·go_wp2_with fail;refine Seg.mk ?_
     have ka:=Hn wd (.cells #[.int .u8 (c.toNat:Int)] 5)
     have ba:=hbw.alloc (o:=.cells #[.int .u8 (c.toNat:Int)] 5) hbw.size
     have hla:wd.heap.size<(wd.alloc (.cells #[.int .u8 (c.toNat:Int)] 5)).heap.size:=by simp
     generalize wd.alloc (.cells #[.int .u8 (c.toNat:Int)] 5)=wa at ka ba hla ⊢
     have hcv:=CV.out wa _ ka
     refine ask_late _ rfl ?_ ?_
     rotate_left
     ·go_wp2_with fail;refine Seg.mk ?_
      refine ask_late _ rfl trivial ?_;go_wp2_with (go_at_call 182;(with_reducible refine (RBk.out _).mono ?_);rintro e w2 ⟨rfl,hb2⟩);refine Seg.mk ?_
      exact plan_meet [.slice (some ⟨wd.heap.size,0,none⟩) 1 1,.string (bC [c]),.string (bC (bigL n 1))] (by first | exact ⟨_,rfl,ba.trans (hb2.mono ba.size)⟩ | exact ⟨⟨_,rfl⟩,ba.trans (hb2.mono ba.size)⟩) rfl
     ·refine ask_late _ rfl trivial ?_;go_wp2_with (go_at_call 182;(with_reducible refine (RBk.out _).mono ?_);rintro e w2 ⟨rfl,hb2⟩);refine Seg.mk ?_
      have hcv2:=CV.out w2 _ ((hb2.block _ hla).trans ka)
      refine ask_late _ rfl trivial ?_;go_wp2_with fail;refine Seg.mk ?_
      exact plan_meet [.slice (some ⟨wd.heap.size,0,none⟩) 1 1,.string (bC [c]),.string (bC (bigL n 1))] (by first | exact ⟨_,rfl,ba.trans (hb2.mono ba.size)⟩ | exact ⟨⟨_,rfl⟩,ba.trans (hb2.mono ba.size)⟩) rfl
    ·refine ask_late _ rfl trivial ?_;go_wp2_with (go_at_call 182;(with_reducible refine (RBk.out _).mono ?_);rintro e w2 ⟨rfl,hb2⟩);refine Seg.mk ?_
     have b2:=hbw.trans (hb2.mono hbw.size)
     refine ask_late _ rfl trivial ?_;go_wp2_with fail;refine Seg.mk ?_
     have ka:=Hn w2 (.cells #[.int .u8 (c.toNat:Int)] 5)
     have ba:=b2.alloc (o:=.cells #[.int .u8 (c.toNat:Int)] 5) b2.size
     generalize w2.alloc (.cells #[.int .u8 (c.toNat:Int)] 5)=wa at ka ba ⊢
     have hcv:=CV.out wa _ ka
     refine ask_late _ rfl trivial ?_;go_wp2_with fail;refine Seg.mk ?_
     exact plan_meet [.slice (some ⟨w2.heap.size,0,none⟩) 1 1,.string (bC [c]),.string (bC (bigL n 1))] (by first | exact ⟨_,rfl,ba⟩ | exact ⟨⟨_,rfl⟩,ba⟩) rfl
   ·rintro vs w' ⟨v23,rfl,hbl⟩
    simp only [puts,Act.put,List.setIfInBounds_toArray,List.set_cons_zero,List.set_cons_succ]
    have hcat:=CAT.out c 1 (by decide)
    have HBL:=Hh hbl
    clear hbl
    refine ask_late _ rfl trivial ?_;go_wp2_with fail;refine Seg.mk ?_
    refine ask_last _ rfl trivial ?_
    go_wp2
    go_ret
    exact ⟨by rw [HDR.out];rfl,HBL.out⟩
  ·have h256':¬N<256:=by omega
   by_cases h65:n<65536
   ·have h65':N<65536:=by omega
    obtain ⟨c,hcc⟩:∃c,c=UInt8.ofNat (32 * m+25):=⟨_,rfl⟩
    have HC:=Hh hcc
    have HOR:Hid (bits BinOp.or IntKind.u8 ((m:Int) * 32) 25=(c.toNat:Int)):=Hh (by rw [hcc];exact head_bits m 25 hm (by decide))
    clear hcc
    have HDR:Hid (bC [c]++bC (bigL n 2)=bC (headL m n)):=Hh (by
     rw [bC_app,HC.out,headL,show headV n=25 by unfold headV;rw [if_neg h24,if_neg h256,if_pos h65],show headK n=2 by unfold headK;rw [if_neg h24,if_neg h256,if_pos h65]]
     rfl)
    have hor:bits BinOp.or IntKind.u8 ((m:Int) * 32) 25=(c.toNat:Int):=HOR.out
    clear hN
    go_enter Tryz.func135,Tryz.ntmps135
    go_upto_region 7 with fail
    have hbw:Below w.heap.size w w.drew:=(Br _ _).drew
    refine wp_region_plan (fun w'=>True) [] (.take 0 (.take 1 (.take 4 (Plan.join true (.ask 2 false (.ask 3 false (.ask 5 false .stop .stop) (.ask 5 false (.ask 3 false .stop .stop) .stop)) (.ask 5 false (.ask 2 false (.ask 3 false .stop .stop) .stop) .stop)) (.ask 6 false (.ask 7 false .stop .stop) .stop))))) (by kernel_rfl) (by kernel_rfl) (fun _ d _ _ _ h=>by cases d <;> exact h) trivial ?_
    generalize w.drew=wd at hbw ⊢
    refine take_any _ ?_ rfl rfl ?_ (fun K hK=>?_);rotate_left;(intro w0;go_simp;(try rfl));(go_simp;refine hK _ ?_;clear hK K)
    refine take_any _ ?_ rfl rfl ?_ (fun K hK=>?_);rotate_left;(intro w0;go_simp;(try rfl));(go_simp;refine hK _ ?_;clear hK K)
    refine take_any _ ?_ rfl rfl ?_ (fun K hK=>?_);rotate_left;(intro w0;go_simp;(try rfl));(go_simp;refine hK _ ?_;clear hK K)
    have RBk:=Hh (fun wx=>RB.out 2 (by decide) wx)
    rw [show ((2:Nat):Int)=2 from rfl] at RBk
    refine plan_cut [33,34,36] (fun vs wx=>∃v23,vs=[v23,.string (bC [c]),.string (bC (bigL n 2))]∧Below w.heap.size w wx) ?_ ?_
    ·refine ask_late _ rfl ?_ ?_
     rotate_left
     ·go_wp2_with fail;refine Seg.mk ?_
      have ka:=Hn wd (.cells #[.int .u8 (c.toNat:Int)] 5)
      have ba:=hbw.alloc (o:=.cells #[.int .u8 (c.toNat:Int)] 5) hbw.size
      have hla:wd.heap.size<(wd.alloc (.cells #[.int .u8 (c.toNat:Int)] 5)).heap.size:=by simp
      generalize wd.alloc (.cells #[.int .u8 (c.toNat:Int)] 5)=wa at ka ba hla ⊢
      have hcv:=CV.out wa _ ka
      refine ask_late _ rfl ?_ ?_
      rotate_left
      ·go_wp2_with fail;refine Seg.mk ?_
       refine ask_late _ rfl trivial ?_;go_wp2_with (go_at_call 182;(with_reducible refine (RBk.out _).mono ?_);rintro e w2 ⟨rfl,hb2⟩);refine Seg.mk ?_
       exact plan_meet [.slice (some ⟨wd.heap.size,0,none⟩) 1 1,.string (bC [c]),.string (bC (bigL n 2))] (by first | exact ⟨_,rfl,ba.trans (hb2.mono ba.size)⟩ | exact ⟨⟨_,rfl⟩,ba.trans (hb2.mono ba.size)⟩) rfl
      ·refine ask_late _ rfl trivial ?_;go_wp2_with (go_at_call 182;(with_reducible refine (RBk.out _).mono ?_);rintro e w2 ⟨rfl,hb2⟩);refine Seg.mk ?_
       have hcv2:=CV.out w2 _ ((hb2.block _ hla).trans ka)
       refine ask_late _ rfl trivial ?_;go_wp2_with fail;refine Seg.mk ?_
       exact plan_meet [.slice (some ⟨wd.heap.size,0,none⟩) 1 1,.string (bC [c]),.string (bC (bigL n 2))] (by first | exact ⟨_,rfl,ba.trans (hb2.mono ba.size)⟩ | exact ⟨⟨_,rfl⟩,ba.trans (hb2.mono ba.size)⟩) rfl
     ·refine ask_late _ rfl trivial ?_;go_wp2_with (go_at_call 182;(with_reducible refine (RBk.out _).mono ?_);rintro e w2 ⟨rfl,hb2⟩);refine Seg.mk ?_
      have b2:=hbw.trans (hb2.mono hbw.size)
      refine ask_late _ rfl trivial ?_;go_wp2_with fail;refine Seg.mk ?_
      have ka:=Hn w2 (.cells #[.int .u8 (c.toNat:Int)] 5)
      have ba:=b2.alloc (o:=.cells #[.int .u8 (c.toNat:Int)] 5) b2.size
      generalize w2.alloc (.cells #[.int .u8 (c.toNat:Int)] 5)=wa at ka ba ⊢
      have hcv:=CV.out wa _ ka
      refine ask_late _ rfl trivial ?_;go_wp2_with fail;refine Seg.mk ?_
      exact plan_meet [.slice (some ⟨w2.heap.size,0,none⟩) 1 1,.string (bC [c]),.string (bC (bigL n 2))] (by first | exact ⟨_,rfl,ba⟩ | exact ⟨⟨_,rfl⟩,ba⟩) rfl
    ·rintro vs w' ⟨v23,rfl,hbl⟩
     simp only [puts,Act.put,List.setIfInBounds_toArray,List.set_cons_zero,List.set_cons_succ]
     have hcat:=CAT.out c 2 (by decide)
     have HBL:=Hh hbl
     clear hbl
     refine ask_late _ rfl trivial ?_;go_wp2_with fail;refine Seg.mk ?_
     refine ask_last _ rfl trivial ?_
     go_wp2
     go_ret
     exact ⟨by rw [HDR.out];rfl,HBL.out⟩
   ·have h65':¬N<65536:=by omega
    by_cases h32:n<4294967296
    ·have h32':N<4294967296:=by omega
     obtain ⟨c,hcc⟩:∃c,c=UInt8.ofNat (32 * m+26):=⟨_,rfl⟩
     have HC:=Hh hcc
     have HOR:Hid (bits BinOp.or IntKind.u8 ((m:Int) * 32) 26=(c.toNat:Int)):=Hh (by rw [hcc];exact head_bits m 26 hm (by decide))
     clear hcc
     have HDR:Hid (bC [c]++bC (bigL n 4)=bC (headL m n)):=Hh (by
      rw [bC_app,HC.out,headL,show headV n=26 by unfold headV;rw [if_neg h24,if_neg h256,if_neg h65,if_pos h32],show headK n=4 by unfold headK;rw [if_neg h24,if_neg h256,if_neg h65,if_pos h32]]
      rfl)
     have hor:bits BinOp.or IntKind.u8 ((m:Int) * 32) 26=(c.toNat:Int):=HOR.out
     clear hN
     go_enter Tryz.func135,Tryz.ntmps135
     go_upto_region 9 with fail
     have hbw:Below w.heap.size w w.drew:=(Br _ _).drew
     refine wp_region_plan (fun w'=>True) [] (.take 0 (.take 1 (.take 4 (Plan.join true (.ask 2 false (.ask 3 false (.ask 5 false .stop .stop) (.ask 5 false (.ask 3 false .stop .stop) .stop)) (.ask 5 false (.ask 2 false (.ask 3 false .stop .stop) .stop) .stop)) (.ask 6 false (.ask 7 false .stop .stop) .stop))))) (by kernel_rfl) (by kernel_rfl) (fun _ d _ _ _ h=>by cases d <;> exact h) trivial ?_
     generalize w.drew=wd at hbw ⊢
     refine take_any _ ?_ rfl rfl ?_ (fun K hK=>?_);rotate_left;(intro w0;go_simp;(try rfl));(go_simp;refine hK _ ?_;clear hK K)
     refine take_any _ ?_ rfl rfl ?_ (fun K hK=>?_);rotate_left;(intro w0;go_simp;(try rfl));(go_simp;refine hK _ ?_;clear hK K)
     refine take_any _ ?_ rfl rfl ?_ (fun K hK=>?_);rotate_left;(intro w0;go_simp;(try rfl));(go_simp;refine hK _ ?_;clear hK K)
     have RBk:=Hh (fun wx=>RB.out 4 (by decide) wx)
     rw [show ((4:Nat):Int)=4 from rfl] at RBk
     refine plan_cut [43,44,46] (fun vs wx=>∃v23,vs=[v23,.string (bC [c]),.string (bC (bigL n 4))]∧Below w.heap.size w wx) ?_ ?_
     ·refine ask_late _ rfl ?_ ?_
      rotate_left
      ·go_wp2_with fail;refine Seg.mk ?_
       have ka:=Hn wd (.cells #[.int .u8 (c.toNat:Int)] 5)
       have ba:=hbw.alloc (o:=.cells #[.int .u8 (c.toNat:Int)] 5) hbw.size
       have hla:wd.heap.size<(wd.alloc (.cells #[.int .u8 (c.toNat:Int)] 5)).heap.size:=by simp
       generalize wd.alloc (.cells #[.int .u8 (c.toNat:Int)] 5)=wa at ka ba hla ⊢
       have hcv:=CV.out wa _ ka
       refine ask_late _ rfl ?_ ?_
       rotate_left
       ·go_wp2_with fail;refine Seg.mk ?_
        refine ask_late _ rfl trivial ?_;go_wp2_with (go_at_call 182;(with_reducible refine (RBk.out _).mono ?_);rintro e w2 ⟨rfl,hb2⟩);refine Seg.mk ?_
        exact plan_meet [.slice (some ⟨wd.heap.size,0,none⟩) 1 1,.string (bC [c]),.string (bC (bigL n 4))] (by first | exact ⟨_,rfl,ba.trans (hb2.mono ba.size)⟩ | exact ⟨⟨_,rfl⟩,ba.trans (hb2.mono ba.size)⟩) rfl
       ·refine ask_late _ rfl trivial ?_;go_wp2_with (go_at_call 182;(with_reducible refine (RBk.out _).mono ?_);rintro e w2 ⟨rfl,hb2⟩);refine Seg.mk ?_
        have hcv2:=CV.out w2 _ ((hb2.block _ hla).trans ka)
        refine ask_late _ rfl trivial ?_;go_wp2_with fail;refine Seg.mk ?_
        exact plan_meet [.slice (some ⟨wd.heap.size,0,none⟩) 1 1,.string (bC [c]),.string (bC (bigL n 4))] (by first | exact ⟨_,rfl,ba.trans (hb2.mono ba.size)⟩ | exact ⟨⟨_,rfl⟩,ba.trans (hb2.mono ba.size)⟩) rfl
      ·refine ask_late _ rfl trivial ?_;go_wp2_with (go_at_call 182;(with_reducible refine (RBk.out _).mono ?_);rintro e w2 ⟨rfl,hb2⟩);refine Seg.mk ?_
       have b2:=hbw.trans (hb2.mono hbw.size)
       refine ask_late _ rfl trivial ?_;go_wp2_with fail;refine Seg.mk ?_
       have ka:=Hn w2 (.cells #[.int .u8 (c.toNat:Int)] 5)
       have ba:=b2.alloc (o:=.cells #[.int .u8 (c.toNat:Int)] 5) b2.size
       generalize w2.alloc (.cells #[.int .u8 (c.toNat:Int)] 5)=wa at ka ba ⊢
       have hcv:=CV.out wa _ ka
       refine ask_late _ rfl trivial ?_;go_wp2_with fail;refine Seg.mk ?_
       exact plan_meet [.slice (some ⟨w2.heap.size,0,none⟩) 1 1,.string (bC [c]),.string (bC (bigL n 4))] (by first | exact ⟨_,rfl,ba⟩ | exact ⟨⟨_,rfl⟩,ba⟩) rfl
     ·rintro vs w' ⟨v23,rfl,hbl⟩
      simp only [puts,Act.put,List.setIfInBounds_toArray,List.set_cons_zero,List.set_cons_succ]
      have hcat:=CAT.out c 4 (by decide)
      have HBL:=Hh hbl
      clear hbl
      refine ask_late _ rfl trivial ?_;go_wp2_with fail;refine Seg.mk ?_
      refine ask_last _ rfl trivial ?_
      go_wp2
      go_ret
      exact ⟨by rw [HDR.out];rfl,HBL.out⟩
    ·have h32':¬N<4294967296:=by omega
     obtain ⟨c,hcc⟩:∃c,c=UInt8.ofNat (32 * m+27):=⟨_,rfl⟩
     have HC:=Hh hcc
     have HOR:Hid (bits BinOp.or IntKind.u8 ((m:Int) * 32) 27=(c.toNat:Int)):=Hh (by rw [hcc];exact head_bits m 27 hm (by decide))
     clear hcc
     have HDR:Hid (bC [c]++bC (bigL n 8)=bC (headL m n)):=Hh (by
      rw [bC_app,HC.out,headL,show headV n=27 by unfold headV;rw [if_neg h24,if_neg h256,if_neg h65,if_neg h32],show headK n=8 by unfold headK;rw [if_neg h24,if_neg h256,if_neg h65,if_neg h32]]
      rfl)
     have hor:bits BinOp.or IntKind.u8 ((m:Int) * 32) 27=(c.toNat:Int):=HOR.out
     clear hN
     go_enter Tryz.func135,Tryz.ntmps135
     go_upto_region 10 with fail
     have hbw:Below w.heap.size w w.drew:=(Br _ _).drew
     refine wp_region_plan (fun w'=>True) [] (.take 0 (.take 1 (.take 4 (Plan.join true (.ask 2 false (.ask 3 false (.ask 5 false .stop .stop) (.ask 5 false (.ask 3 false .stop .stop) .stop)) (.ask 5 false (.ask 2 false (.ask 3 false .stop .stop) .stop) .stop)) (.ask 6 false (.ask 7 false .stop .stop) .stop))))) (by kernel_rfl) (by kernel_rfl) (fun _ d _ _ _ h=>by cases d <;> exact h) trivial ?_
     generalize w.drew=wd at hbw ⊢
     refine take_any _ ?_ rfl rfl ?_ (fun K hK=>?_);rotate_left;(intro w0;go_simp;(try rfl));(go_simp;refine hK _ ?_;clear hK K)
     refine take_any _ ?_ rfl rfl ?_ (fun K hK=>?_);rotate_left;(intro w0;go_simp;(try rfl));(go_simp;refine hK _ ?_;clear hK K)
     refine take_any _ ?_ rfl rfl ?_ (fun K hK=>?_);rotate_left;(intro w0;go_simp;(try rfl));(go_simp;refine hK _ ?_;clear hK K)
     have RBk:=Hh (fun wx=>RB.out 8 (by decide) wx)
     rw [show ((8:Nat):Int)=8 from rfl] at RBk
     refine plan_cut [50,51,53] (fun vs wx=>∃v23,vs=[v23,.string (bC [c]),.string (bC (bigL n 8))]∧Below w.heap.size w wx) ?_ ?_
     ·refine ask_late _ rfl ?_ ?_
      rotate_left
      ·go_wp2_with fail;refine Seg.mk ?_
       have ka:=Hn wd (.cells #[.int .u8 (c.toNat:Int)] 5)
       have ba:=hbw.alloc (o:=.cells #[.int .u8 (c.toNat:Int)] 5) hbw.size
       have hla:wd.heap.size<(wd.alloc (.cells #[.int .u8 (c.toNat:Int)] 5)).heap.size:=by simp
       generalize wd.alloc (.cells #[.int .u8 (c.toNat:Int)] 5)=wa at ka ba hla ⊢
       have hcv:=CV.out wa _ ka
       refine ask_late _ rfl ?_ ?_
       rotate_left
       ·go_wp2_with fail;refine Seg.mk ?_
        refine ask_late _ rfl trivial ?_;go_wp2_with (go_at_call 182;(with_reducible refine (RBk.out _).mono ?_);rintro e w2 ⟨rfl,hb2⟩);refine Seg.mk ?_
        exact plan_meet [.slice (some ⟨wd.heap.size,0,none⟩) 1 1,.string (bC [c]),.string (bC (bigL n 8))] (by first | exact ⟨_,rfl,ba.trans (hb2.mono ba.size)⟩ | exact ⟨⟨_,rfl⟩,ba.trans (hb2.mono ba.size)⟩) rfl
       ·refine ask_late _ rfl trivial ?_;go_wp2_with (go_at_call 182;(with_reducible refine (RBk.out _).mono ?_);rintro e w2 ⟨rfl,hb2⟩);refine Seg.mk ?_
        have hcv2:=CV.out w2 _ ((hb2.block _ hla).trans ka)
        refine ask_late _ rfl trivial ?_;go_wp2_with fail;refine Seg.mk ?_
        exact plan_meet [.slice (some ⟨wd.heap.size,0,none⟩) 1 1,.string (bC [c]),.string (bC (bigL n 8))] (by first | exact ⟨_,rfl,ba.trans (hb2.mono ba.size)⟩ | exact ⟨⟨_,rfl⟩,ba.trans (hb2.mono ba.size)⟩) rfl
      ·refine ask_late _ rfl trivial ?_;go_wp2_with (go_at_call 182;(with_reducible refine (RBk.out _).mono ?_);rintro e w2 ⟨rfl,hb2⟩);refine Seg.mk ?_
       have b2:=hbw.trans (hb2.mono hbw.size)
       refine ask_late _ rfl trivial ?_;go_wp2_with fail;refine Seg.mk ?_
       have ka:=Hn w2 (.cells #[.int .u8 (c.toNat:Int)] 5)
       have ba:=b2.alloc (o:=.cells #[.int .u8 (c.toNat:Int)] 5) b2.size
       generalize w2.alloc (.cells #[.int .u8 (c.toNat:Int)] 5)=wa at ka ba ⊢
       have hcv:=CV.out wa _ ka
       refine ask_late _ rfl trivial ?_;go_wp2_with fail;refine Seg.mk ?_
       exact plan_meet [.slice (some ⟨w2.heap.size,0,none⟩) 1 1,.string (bC [c]),.string (bC (bigL n 8))] (by first | exact ⟨_,rfl,ba⟩ | exact ⟨⟨_,rfl⟩,ba⟩) rfl
     ·rintro vs w' ⟨v23,rfl,hbl⟩
      simp only [puts,Act.put,List.setIfInBounds_toArray,List.set_cons_zero,List.set_cons_succ]
      have hcat:=CAT.out c 8 (by decide)
      have HBL:=Hh hbl
      clear hbl
      refine ask_late _ rfl trivial ?_;go_wp2_with fail;refine Seg.mk ?_
      refine ask_last _ rfl trivial ?_
      go_wp2
      go_ret
      exact ⟨by rw [HDR.out];rfl,HBL.out⟩
end Go.Proofs.YtcklddldejejcaaGreatDoor