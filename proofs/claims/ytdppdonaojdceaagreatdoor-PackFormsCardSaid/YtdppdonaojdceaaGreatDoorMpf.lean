/- The document's bytes of the third serialisation: big, one, number, text. Then: The document's Write and Encode of the third serialisation, at every depth. Then: The document's Encode of the third serialisation; what a node's bytes cost. -/
import Derived.Test.YtdppdonaojdceaaGreatDoorCen
import Derived.Test.YtdppdonaojdceaaGreatDoorMsd
set_option linter.unusedVariables false
set_option linter.unusedSimpArgs false
set_option maxHeartbeats 6400000
set_option maxRecDepth 100000
namespace Go.Proofs.YtdppdonaojdceaaGreatDoor
open Go Go.ChangeShapes Go.WideShapes Go.ChangeAt Go.RowKit
theorem rpbig_any (n:Nat) (k:Nat) (w:World) (hk:k≤8) (hn:n<18446744073709551616):Calls Tryz.prog 60 #[.int .u64 (n:Int),.int .i64 (k:Int)] w fun e w'=>e=.returned (.string (bC (bigL n k)))∧Below w.heap.size w w':=by
 obtain ⟨ib,hib,hb0,hb1,hb2⟩:=info_parts Tryz.info5
 have hub:=Tryz.underlying56
 have hu8:=Tryz.underlying5
 have hust:=Tryz.underlying9
 have HIB:=Hh hib
 have hk8:(k:Int)≤8:=by omega
 have hk1:IntKind.i64.wrap ((k:Int) - 1)=(k:Int) - 1:=IntWalk.i64_in _ (by omega)
 obtain ⟨N,hN⟩:∃N:Int,N=(n:Int):=⟨_,rfl⟩
 rw [←hN]
 have HN:=Hh (Ai hN hn)
 clear hN hn hib
 go_enter Tryz.func60,Tryz.ntmps60
 go_upto_region 3 with fail
 go_loopw [5,6] (fun v i wr=>∃ (j:Nat),i=.int .i64 ((k:Int) - 1 - (j:Int))∧j≤k∧wr.ownsRow w.heap.size 5 1 v j (bytesV ((bigL n k).take j))∧Below w.heap.size w wr) (fun _ i _=>(intOf i+1).toNat)
 case atStart=>exact ⟨0,by simp,Nat.zero_le _,World.ownsRow_nil w _ _ _,Br _ _⟩
 case round=>
  obtain ⟨j,rfl,hj,hown,hB⟩:=hrel
  have HROW:=Hh (Ai hown hB)
  clear hown hB
  by_cases hlt:j<k
  ·have hge:(0:Int)≤(k:Int) - 1 - (j:Int):=by omega
   obtain ⟨i,hi⟩:∃i:Nat,(i:Int)=(k:Int) - 1 - (j:Int):=⟨k - 1 - j,by omega⟩
   have hi7:(i:Int)≤7:=by omega
   have hi0:(0:Int)≤(i:Int):=by omega
   rw [←hi] at hge ⊢
   have HI:=Hh hi
   clear hi hge
   obtain ⟨c,hcc⟩:∃c,c=UInt8.ofNat (n / 256 ^ i):=⟨_,rfl⟩
   have hc:N / 2 ^ (8 * i) % 256=(c.toNat:Int):=by rw [HN.out.1,hcc];exact byte_at n i
   have HC:=Hh hcc
   have hbl:((bigL n k).take j).length=j:=by rw [List.length_take,bigL_length];omega
   have HBL:=Hh hbl
   clear hcc hbl
   go_wp2_with (refine wpList_append_lies _ rfl (.tmp 13) (.tmp 20) 56 rfl w.heap.size 5 ib (.int .u8 0) 1 1 hub HIB.out hb0 hb1 hb2 rfl (by decide) _ j _ rfl (HROW.out.1.alloc (.cells #[.int .u8 (c.toNat:Int)] 5)) ⟨wr.heap.size,0,none⟩ 1 1 [.int .u8 (c.toNat:Int)] rfl rfl (cells_new wr #[.int .u8 (c.toNat:Int)] 5 [.int .u8 (c.toNat:Int)] rfl) (by intro u hu;simp only [List.mem_cons,List.not_mem_nil,or_false] at hu;rcases hu with rfl;rfl) (by decide) (by unfold maxLen;omega) (by omega) (by have:=HROW.out.2.size;simp;omega) _ rfl ?_;intro gg cc W8 hown hgrow hat hlt2)
   have hB8:=obelow (HROW.out.2.alloc HROW.out.2.size (.cells #[.int .u8 (c.toNat:Int)] 5)) (HROW.out.1.alloc (.cells #[.int .u8 (c.toNat:Int)] 5)) hgrow (by have:=HROW.out.2.size;simp;omega)
   have F:Hid (W8.ownsRow w.heap.size 5 1 (.slice (some ⟨gg,0,none⟩) (j+1) cc) (j+1) (bytesV ((bigL n k).take (j+1)))∧Below w.heap.size w W8):=Hh ⟨by
    rw [bigL_take n k j hlt,bytesV_append,show k - 1 - j=i by have:=HI.out;omega,←HC.out]
    exact hown,hB8⟩
   clear hown hgrow hat hB8
   go_wp2
   go_roundw
   case rel=>exact ⟨j+1,by have:=HI.out;exact congrArg _ (by omega),by omega,F.out.1,F.out.2⟩
   case measure=>simp [intOf] <;> omega
  ·have hj2:j=k:=by omega
   have hge:¬ (0:Int)≤(k:Int) - 1 - (j:Int):=by omega
   have hcv:=conv_owns (P:=Tryz.prog) wr 56 9 5 w.heap.size j _ ((bigL n k).take j) HROW.out.1 hub hu8 hust
   rw [hj2,List.take_of_length_le (by rw [bigL_length];exact Lr _)] at hcv
   have HJ:=Hh hj2
   clear hj2
   go_wp2
   go_ret
   exact ⟨rfl,HROW.out.2⟩
theorem rpone_any (z:Int) (c:Nat) (w:World) (hc:z % 256=((UInt8.ofNat c).toNat:Int)):Calls Tryz.prog 61 #[.int .i64 z] w fun e w'=>e=.returned (.string (bC [UInt8.ofNat c]))∧Below w.heap.size w w':=by
 generalize UInt8.ofNat c=b at hc ⊢
 have ka:=Hn w (.cells #[.int .u8 (b.toNat:Int)] 5)
 have hcv:(convert 56 9 (.slice (some ⟨w.heap.size,0,none⟩) 1 1)).run Tryz.prog (w.alloc (.cells #[.int .u8 (b.toNat:Int)] 5))=.ok (.string (bC [b])) (w.alloc (.cells #[.int .u8 (b.toNat:Int)] 5)):=
  run_convert_bytes_back _ _ _ 5 ⟨w.heap.size,0,none⟩ 1 [b] Tryz.underlying56 Tryz.underlying5 Tryz.underlying9 fun j hj=>(by
   obtain rfl:j=0:=by simpa using hj
   exact cells_lit [Value.int .u8 (b.toNat:Int)] ka rfl 0 _ rfl)
 clear ka
 go_enter Tryz.func61,Tryz.ntmps61
 go_wp2
 go_ret
 exact ⟨rfl,(Br _ _).alloc (Lr _) _⟩
theorem bC_cat (c:UInt8) (l:List UInt8):(⟨#[c]⟩:ByteArray)++bC l=bC (c::l):=by
 rw [show (⟨#[c]⟩:ByteArray)=bC [c] from rfl,bC_app];rfl
theorem u64_wrapN (z:Int):IntKind.u64.wrap z=(u64N z:Int):=by rw [IntKind.wrap_u64];unfold u64N;omega
theorem u64N_lt (z:Int):u64N z<18446744073709551616:=by unfold u64N;omega
theorem rpnum_any (z:Int) (w:World) (h1:-9223372036854775808≤z) (h2:z≤9223372036854775807):Calls Tryz.prog 58 #[.int .i64 z] w fun e w'=>e=.returned (.string (bC (headP (numH z) (u64N z))))∧Below w.heap.size w w':=by
 have hw:=u64_wrapN z
 have RB:=Hh (fun k (hk:k≤8) wx=>rpbig_any (u64N z) k wx hk (u64N_lt z))
 have CAT:Hid (∀k,k≤8→¬9223372036854775807<1+(bC (bigL (u64N z) k)).size):=Hh fun k hk=>by rw [bC_size,bigL_length];omega
 by_cases a:-32≤z∧z<128
 ·have hx:numH z=(u64N z % 256,0):=by unfold numH;rw [if_pos a]
  have RO:=Hh (fun wx=>rpone_any z (u64N z % 256) wx (by rw [UInt8.toNat_ofNat'];unfold u64N;omega))
  obtain ⟨a1,a2⟩:=a
  rw [hx]
  clear hx hw RB CAT
  generalize u64N z % 256=c at RO ⊢
  go_enter Tryz.func58,Tryz.ntmps58
  go_wp2_with (go_at_call 61;(with_reducible refine (RO.out _).mono ?_);rintro e w2 ⟨rfl,hb2⟩)
  go_ret
  exact ⟨rfl,hb2⟩
 have ha:¬ (-32≤z∧z<128):=a
 by_cases p:0<z
 ·have a1:-32≤z:=by omega
  have a2:¬z<128:=by omega
  by_cases q1:z<256
  ·skip
   have hx:bC (headP (numH z) (u64N z))=⟨#[204]⟩++bC (bigL (u64N z) 1):=by
    rw [bC_cat]
    unfold numH
    rw [if_neg ha,if_pos p,if_pos q1];rfl
   rw [hx]
   have RBk:=Hh (fun wx=>RB.out 1 (by decide) wx)
   rw [show ((1:Nat):Int)=1 from rfl] at RBk
   have hcat:=CAT.out 1 (by decide)
   clear hx RB CAT ha a
   generalize u64N z=N at hw RBk hcat ⊢
   go_enter Tryz.func58,Tryz.ntmps58
   go_wp2_with (go_at_call 60;(with_reducible refine (RBk.out _).mono ?_);rintro e w2 ⟨rfl,hb2⟩)
   go_ret
   exact ⟨rfl,hb2⟩
  by_cases q2:z<65536
  ·skip
   have hx:bC (headP (numH z) (u64N z))=⟨#[205]⟩++bC (bigL (u64N z) 2):=by
    rw [bC_cat]
    unfold numH
    rw [if_neg ha,if_pos p,if_neg q1,if_pos q2];rfl
   rw [hx]
   have RBk:=Hh (fun wx=>RB.out 2 (by decide) wx)
   rw [show ((2:Nat):Int)=2 from rfl] at RBk
   have hcat:=CAT.out 2 (by decide)
   clear hx RB CAT ha a
   generalize u64N z=N at hw RBk hcat ⊢
   go_enter Tryz.func58,Tryz.ntmps58
   go_wp2_with (go_at_call 60;(with_reducible refine (RBk.out _).mono ?_);rintro e w2 ⟨rfl,hb2⟩)
   go_ret
   exact ⟨rfl,hb2⟩
  by_cases q3:z<4294967296
  ·skip
   have hx:bC (headP (numH z) (u64N z))=⟨#[206]⟩++bC (bigL (u64N z) 4):=by
    rw [bC_cat]
    unfold numH
    rw [if_neg ha,if_pos p,if_neg q1,if_neg q2,if_pos q3];rfl
   rw [hx]
   have RBk:=Hh (fun wx=>RB.out 4 (by decide) wx)
   rw [show ((4:Nat):Int)=4 from rfl] at RBk
   have hcat:=CAT.out 4 (by decide)
   clear hx RB CAT ha a
   generalize u64N z=N at hw RBk hcat ⊢
   go_enter Tryz.func58,Tryz.ntmps58
   go_wp2_with (go_at_call 60;(with_reducible refine (RBk.out _).mono ?_);rintro e w2 ⟨rfl,hb2⟩)
   go_ret
   exact ⟨rfl,hb2⟩
  have hx:bC (headP (numH z) (u64N z))=⟨#[207]⟩++bC (bigL (u64N z) 8):=by
   rw [bC_cat]
   unfold numH
   rw [if_neg ha,if_pos p,if_neg q1,if_neg q2,if_neg q3];rfl
  rw [hx]
  have RBk:=Hh (fun wx=>RB.out 8 (by decide) wx)
  rw [show ((8:Nat):Int)=8 from rfl] at RBk
  have hcat:=CAT.out 8 (by decide)
  clear hx RB CAT ha a
  generalize u64N z=N at hw RBk hcat ⊢
  go_enter Tryz.func58,Tryz.ntmps58
  go_wp2_with (go_at_call 60;(with_reducible refine (RBk.out _).mono ?_);rintro e w2 ⟨rfl,hb2⟩)
  go_ret
  exact ⟨rfl,hb2⟩
 ·have a1:¬ -32≤z:=by omega
  by_cases q1:-128≤z
  ·skip
   have hx:bC (headP (numH z) (u64N z))=⟨#[208]⟩++bC (bigL (u64N z) 1):=by
    rw [bC_cat]
    unfold numH
    rw [if_neg ha,if_neg p,if_pos q1];rfl
   rw [hx]
   have RBk:=Hh (fun wx=>RB.out 1 (by decide) wx)
   rw [show ((1:Nat):Int)=1 from rfl] at RBk
   have hcat:=CAT.out 1 (by decide)
   clear hx RB CAT ha a
   generalize u64N z=N at hw RBk hcat ⊢
   go_enter Tryz.func58,Tryz.ntmps58
   go_wp2_with (go_at_call 60;(with_reducible refine (RBk.out _).mono ?_);rintro e w2 ⟨rfl,hb2⟩)
   go_ret
   exact ⟨rfl,hb2⟩
  by_cases q2:-32768≤z
  ·skip
   have hx:bC (headP (numH z) (u64N z))=⟨#[209]⟩++bC (bigL (u64N z) 2):=by
    rw [bC_cat]
    unfold numH
    rw [if_neg ha,if_neg p,if_neg q1,if_pos q2];rfl
   rw [hx]
   have RBk:=Hh (fun wx=>RB.out 2 (by decide) wx)
   rw [show ((2:Nat):Int)=2 from rfl] at RBk
   have hcat:=CAT.out 2 (by decide)
   clear hx RB CAT ha a
   generalize u64N z=N at hw RBk hcat ⊢
   go_enter Tryz.func58,Tryz.ntmps58
   go_wp2_with (go_at_call 60;(with_reducible refine (RBk.out _).mono ?_);rintro e w2 ⟨rfl,hb2⟩)
   go_ret
   exact ⟨rfl,hb2⟩
  by_cases q3:-2147483648≤z
  ·skip
   have hx:bC (headP (numH z) (u64N z))=⟨#[210]⟩++bC (bigL (u64N z) 4):=by
    rw [bC_cat]
    unfold numH
    rw [if_neg ha,if_neg p,if_neg q1,if_neg q2,if_pos q3];rfl
   rw [hx]
   have RBk:=Hh (fun wx=>RB.out 4 (by decide) wx)
   rw [show ((4:Nat):Int)=4 from rfl] at RBk
   have hcat:=CAT.out 4 (by decide)
   clear hx RB CAT ha a
   generalize u64N z=N at hw RBk hcat ⊢
   go_enter Tryz.func58,Tryz.ntmps58
   go_wp2_with (go_at_call 60;(with_reducible refine (RBk.out _).mono ?_);rintro e w2 ⟨rfl,hb2⟩)
   go_ret
   exact ⟨rfl,hb2⟩
  have hx:bC (headP (numH z) (u64N z))=⟨#[211]⟩++bC (bigL (u64N z) 8):=by
   rw [bC_cat]
   unfold numH
   rw [if_neg ha,if_neg p,if_neg q1,if_neg q2,if_neg q3];rfl
  rw [hx]
  have RBk:=Hh (fun wx=>RB.out 8 (by decide) wx)
  rw [show ((8:Nat):Int)=8 from rfl] at RBk
  have hcat:=CAT.out 8 (by decide)
  clear hx RB CAT ha a
  generalize u64N z=N at hw RBk hcat ⊢
  go_enter Tryz.func58,Tryz.ntmps58
  go_wp2_with (go_at_call 60;(with_reducible refine (RBk.out _).mono ?_);rintro e w2 ⟨rfl,hb2⟩)
  go_ret
  exact ⟨rfl,hb2⟩
theorem pText_bC (s:ByteArray):bC (pText s)=bC (headP (txtH s.size) s.size)++s:=by
 unfold pText
 rw [←bC_app,bC_of]
theorem rptext_any (s:ByteArray) (w:World) (hs:s.size≤65536):Calls Tryz.prog 59 #[.string s] w fun e w'=>e=.returned (.string (bC (pText s)))∧Below w.heap.size w w':=by
 rw [pText_bC]
 have hw:IntKind.u64.wrap (s.size:Int)=(s.size:Int):=by rw [IntKind.wrap_u64];omega
 have RB:=Hh (fun k (hk:k≤8) wx=>rpbig_any s.size k wx hk (by omega))
 have CAT:Hid (∀k,k≤8→¬9223372036854775807<1+(bC (bigL s.size k)).size∧∀c:UInt8,¬9223372036854775807<((⟨#[c]⟩:ByteArray)++bC (bigL s.size k)).size+s.size):=Hh fun k hk=>by
  refine ⟨by rw [bC_size,bigL_length];omega,fun c=>?_⟩
  rw [ByteArray.size_append,bC_size,bigL_length];show ¬9223372036854775807<1+k+s.size;omega
 by_cases q0:s.size<32
 ·have q0':(s.size:Int)<32:=by omega
  have hx:bC (headP (txtH s.size) s.size)=bC [UInt8.ofNat (160+s.size)]:=by unfold txtH;rw [if_pos q0];rfl
  rw [hx]
  have RO:=Hh (fun wx=>rpone_any (160+(s.size:Int)) (160+s.size) wx (by rw [UInt8.toNat_ofNat'];omega))
  have hcat:∀c:UInt8,¬9223372036854775807<(bC [c]).size+s.size:=fun c=>by rw [bC_size];simp;omega
  have hcat2:=hcat (UInt8.ofNat (160+s.size))
  clear hx RB CAT hw hcat
  generalize UInt8.ofNat (160+s.size)=c at RO hcat2 ⊢
  go_enter Tryz.func59,Tryz.ntmps59
  go_wp2_with (go_at_call 61;(with_reducible refine (RO.out _).mono ?_);rintro e w2 ⟨rfl,hb2⟩)
  go_ret
  exact ⟨rfl,hb2⟩
 have q0':¬ (s.size:Int)<32:=by omega
 by_cases q1:s.size<256
 ·have q1':(s.size:Int)<256:=by omega
  have hx:bC (headP (txtH s.size) s.size)=⟨#[217]⟩++bC (bigL s.size 1):=by
   rw [bC_cat]
   unfold txtH
   rw [if_neg q0,if_pos q1];rfl
  rw [hx]
  have RBk:=Hh (fun wx=>RB.out 1 (by decide) wx)
  rw [show ((1:Nat):Int)=1 from rfl] at RBk
  have hcat:=(CAT.out 1 (by decide)).1
  have hcat2:=(CAT.out 1 (by decide)).2 217
  clear hx RB CAT
  go_enter Tryz.func59,Tryz.ntmps59
  go_wp2_with (go_at_call 60;(with_reducible refine (RBk.out _).mono ?_);rintro e w2 ⟨rfl,hb2⟩)
  go_ret
  exact ⟨rfl,hb2⟩
 have q1':¬ (s.size:Int)<256:=by omega
 by_cases q2:s.size<65536
 ·have q2':(s.size:Int)<65536:=by omega
  have hx:bC (headP (txtH s.size) s.size)=⟨#[218]⟩++bC (bigL s.size 2):=by
   rw [bC_cat]
   unfold txtH
   rw [if_neg q0,if_neg q1,if_pos q2];rfl
  rw [hx]
  have RBk:=Hh (fun wx=>RB.out 2 (by decide) wx)
  rw [show ((2:Nat):Int)=2 from rfl] at RBk
  have hcat:=(CAT.out 2 (by decide)).1
  have hcat2:=(CAT.out 2 (by decide)).2 218
  clear hx RB CAT
  go_enter Tryz.func59,Tryz.ntmps59
  go_wp2_with (go_at_call 60;(with_reducible refine (RBk.out _).mono ?_);rintro e w2 ⟨rfl,hb2⟩)
  go_ret
  exact ⟨rfl,hb2⟩
 have q2':¬ (s.size:Int)<65536:=by omega
 have hx:bC (headP (txtH s.size) s.size)=⟨#[219]⟩++bC (bigL s.size 4):=by
  rw [bC_cat]
  unfold txtH
  rw [if_neg q0,if_neg q1,if_neg q2];rfl
 rw [hx]
 have RBk:=Hh (fun wx=>RB.out 4 (by decide) wx)
 rw [show ((4:Nat):Int)=4 from rfl] at RBk
 have hcat:=(CAT.out 4 (by decide)).1
 have hcat2:=(CAT.out 4 (by decide)).2 219
 clear hx RB CAT
 go_enter Tryz.func59,Tryz.ntmps59
 go_wp2_with (go_at_call 60;(with_reducible refine (RBk.out _).mono ?_);rintro e w2 ⟨rfl,hb2⟩)
 go_ret
 exact ⟨rfl,hb2⟩
theorem headM_cost {h:Nat × Nat} {v:Nat} (hh:h.2≤8):(headP h v).length≤9:=by unfold headP;rw [List.length_cons,bigL_length];omega
def RPWriteAt (d:Nat):Prop:=∀ (D:Nat) (S:Nat→Prop) (cs:List Value) (x:ND) (w:World),NodeIn D S w cs x→(∀b,S b→b<w.heap.size)→validN d x=true→numsB d x=true→(writeP d x).length≤35184372088832 →
 Calls Tryz.prog 38 #[.agg cs.toArray] w fun e w'=>e=.returned (.string (bC (writeP d x)))∧Below w.heap.size w w'
theorem rpwrite_step {d:Nat} (IH:RPWriteAt d):RPWriteAt (d+1):=by
 intro D S cs x w h hS hv hn hlen
 obtain ⟨a1,l1,c1,a2,l2,c2,rfl⟩:=h.slices
 have b1:=(Br w.heap.size w).alloc (o:=.cells #[.int .i64 x.kind,.bool x.bool,.int .i64 x.num,.string x.text,.slice a1 l1 c1,.slice a2 l2 c2] 30) (Lr _)
 have hnl:=numsB_parts hn
 have hvl:=validN_parts hv
 cases D with
 | zero=>exact h.elim
 | succ D=>
 obtain ⟨vn,vi,e,ht,hns,his⟩:=h
 simp only [List.cons.injEq,and_true,true_and] at e
 obtain ⟨rfl,rfl⟩:=e
 have hk:=kinds hv
 obtain ⟨k,b,n,t,ns,its⟩:=x
 simp only [ND.kind,ND.bool,ND.num,ND.text,ND.names,ND.items,nd0,ND.mk.injEq,true_and,and_true] at hk ht hns his b1 hnl hvl ⊢
 rcases hk with ⟨rfl,rfl,rfl,rfl,rfl,rfl⟩ | ⟨rfl,rfl,rfl,rfl,rfl⟩ | ⟨rfl,rfl,rfl,rfl,rfl⟩ | ⟨rfl,rfl,rfl,rfl,rfl⟩ | ⟨rfl,rfl,rfl,rfl,rfl⟩ | ⟨⟨rfl,rfl,rfl,rfl⟩,hlen2⟩
 ·rw [show bC (writeP (d+1) (.mk 0 false 0 ⟨#[]⟩ [] []))=⟨#[192]⟩ from rfl]
  clear hns his hnl hvl hv hn hlen IH ht
  go_enter Tryz.func38,Tryz.ntmps38
  go_wp2
  go_ret
  exact ⟨rfl,b1⟩
 ·rw [show bC (writeP (d+1) (.mk 1 b 0 ⟨#[]⟩ [] []))=if b then ⟨#[195]⟩ else ⟨#[194]⟩ by cases b <;> rfl]
  clear hns his hnl hvl hv hn hlen IH ht
  cases b
  all_goals
   go_enter Tryz.func38,Tryz.ntmps38
   go_wp2
   go_ret
   exact ⟨rfl,b1⟩
 ·obtain ⟨hw,-⟩:=hnl
  unfold wideI at hw
  rw [Bool.and_eq_true,decide_eq_true_eq,decide_eq_true_eq] at hw
  have B1:=Hh b1
  rw [show writeP (d+1) (.mk 2 false n ⟨#[]⟩ [] [])=headP (numH n) (u64N n) by rw [writeP_succ];exact List.append_nil _]
  have RN:=Hh (fun wx=>rpnum_any n wx hw.1 hw.2)
  clear hns his hvl hv hn hlen IH ht b1 hw
  generalize bC (headP (numH n) (u64N n))=X at RN ⊢
  go_enter Tryz.func38,Tryz.ntmps38
  go_wp2_with (go_at_call 58;(with_reducible refine (RN.out _).mono ?_);rintro e w2 ⟨rfl,hb2⟩)
  go_ret
  exact ⟨rfl,B1.out.trans (hb2.mono B1.out.size)⟩
 ·have hs:=textOk_le hvl.2.2.1
  have B1:=Hh b1
  rw [show writeP (d+1) (.mk 3 false 0 t [] [])=pText t from rfl]
  have RT:=Hh (fun wx=>rptext_any t wx hs)
  clear hns his hnl hvl hv hn hlen IH ht b1 hs
  generalize bC (pText t)=X at RT ⊢
  go_enter Tryz.func38,Tryz.ntmps38
  go_wp2_with (go_at_call 59;(with_reducible refine (RT.out _).mono ?_);rintro e w2 ⟨rfl,hb2⟩)
  go_ret
  exact ⟨rfl,B1.out.trans (hb2.mono B1.out.size)⟩
 ·obtain ⟨P0,hP0⟩:∃P,P=its.map (writeP d):=⟨_,rfl⟩
  have hws:writeP (d+1) (.mk 4 false 0 ⟨#[]⟩ [] its)=headP (lstH its.length) its.length++P0.flatten:=by rw [hP0];rfl
  rw [hws] at hlen ⊢
  have hlenP:P0.flatten.length≤35184372088832:=by rw [Lg] at hlen;omega
  obtain ⟨ai,ci,ei,hi1,hi2,-⟩:=id his
  have hl2:l2=its.length:=by cases ei;rfl
  subst hl2
  clear ei
  have hmost:=hvl.2.1
  have ck:=six_of (Hn w (.cells #[.int .i64 4,.bool false,.int .i64 0,.string ⟨#[]⟩,.slice a1 l1 c1,.slice a2 its.length c2] 30))
  have hwlt:w.heap.size<(w.alloc (.cells #[.int .i64 4,.bool false,.int .i64 0,.string ⟨#[]⟩,.slice a1 l1 c1,.slice a2 its.length c2] 30)).heap.size:=by simp
  obtain ⟨w1,hw1⟩:∃W,W=w.alloc (.cells #[.int .i64 4,.bool false,.int .i64 0,.string ⟨#[]⟩,.slice a1 l1 c1,.slice a2 its.length c2] 30):=⟨_,rfl⟩
  rw [←hw1] at b1 ck hwlt
  have H:=Hh his
  have HS:=Hh hS
  have HV:=Hh hvl
  have HNL:=Hh hnl
  have HP:=Hh hP0
  have HLP:=Hh hlenP
  have HI:=Hh IH
  have B1:=Hh b1
  have CK:=Hh ck
  have WL:=Hh hwlt
  have RB:=Hh (fun wx=>rpbig_any its.length 2 wx (by decide) (by omega))
  rw [show ((2:Nat):Int)=2 from rfl] at RB
  have hitz:IntKind.u64.wrap (its.length:Int)=(its.length:Int):=by rw [IntKind.wrap_u64];omega
  have hcat0:¬9223372036854775807<1+(bC (bigL its.length 2)).size:=by rw [bC_size,bigL_length];omega
  obtain ⟨h0,hh0⟩:∃h0,h0=headP (lstH its.length) its.length:=⟨_,rfl⟩
  have hhl:h0.length≤9:=by rw [hh0];exact headM_cost (by unfold lstH;split <;> simp)
  have HH0:=Hh hh0
  rw [←hh0]
  clear his hS hvl hnl hP0 hlenP IH b1 hwlt hlen hws hn hv ht hh0 hns
  have START:∀ (K:World→Prop),(∀w2,Below w1.heap.size w1 w2→K w2)→True:=fun _ _=>trivial
  clear START
  by_cases hsm:its.length<16
  case' pos=>
   go_enter Tryz.func38,Tryz.ntmps38
   go_upto_region 1 with fail
   rw [←hw1]
   clear hw1
   have hsm':(its.length:Int)<16:=by omega
   have hx:h0=[UInt8.ofNat (144+its.length)]:=by rw [HH0.out];unfold lstH;rw [if_pos hsm];rfl
   have RO:=Hh (fun wx=>rpone_any (144+(its.length:Int)) (144+its.length) wx (by rw [UInt8.toNat_ofNat'];omega))
   rw [←hx] at RO
   clear hx hsm
   go_upto_region 21 with (first
    | (go_at_call 61;(with_reducible refine (RO.out _).mono ?_);rintro e w3 ⟨rfl,hb3⟩)
    | (go_at_call 60;(with_reducible refine (RB.out _).mono ?_);rintro e w2 ⟨rfl,hb2⟩))
   have hB2:Below w1.heap.size w1 w3:=hb2.trans (hb3.mono hb2.size)
   generalize hww:w3=wl at hB2 ⊢
  case' neg=>
   go_enter Tryz.func38,Tryz.ntmps38
   go_upto_region 1 with fail
   rw [←hw1]
   clear hw1
   have hsm':¬ (its.length:Int)<16:=by omega
   have hx:(⟨#[220]⟩:ByteArray)++bC (bigL its.length 2)=bC h0:=by rw [bC_cat,HH0.out];unfold lstH;rw [if_neg hsm];rfl
   clear hsm
   go_upto_region 21 with ((with_reducible refine (RB.out _).mono ?_);rintro e w2 ⟨rfl,hb2⟩)
   try rw [hx]
   clear hx
   have hB2:Below w1.heap.size w1 w2:=hb2
   generalize hww:w2=wl at hB2 ⊢
  all_goals
   clear hww hitz hcat0 RB
   have hz2:=Ll WL.out hB2.size
   have ck2:wl.cell? ⟨w.heap.size,5,none⟩=_:=(hB2.cell (p:=⟨w.heap.size,5,none⟩) WL.out).trans CK.out.2.2.2.2.2
   have HB2:=Hh hB2
   clear ck hB2 hb2
   go_upto_region 22 with fail
   clear ck2
   go_loopw [4,51] (fun v i wr=>∃ (j:Nat),i=.int .i64 j∧j≤its.length∧v=.string (bC (h0++(P0.take j).flatten))∧Below wl.heap.size wl wr) (fun _ i _=>its.length - (intOf i).toNat)
   case atStart=>exact ⟨0,rfl,Nat.zero_le _,by simp,Br _ _⟩
   case round=>
    obtain ⟨j,rfl,hj,rfl,hB⟩:=hrel
    have hB12:=HB2.out.trans (hB.mono HB2.out.size)
    by_cases hlt:j<its.length
    ·have hlt':(j:Int)<(its.length:Int):=by omega
     have hj0:(0:Int)≤(j:Int):=by omega
     obtain ⟨-,-,-,b,off,y,a3,l3,c3,a4,l4,c4,rfl,hSb,hx,hnd,k0,k1,k2,k3,k4,k5⟩:=H.out.at hlt
     have hb1w:=B1.out.trans (hB12.mono B1.out.size)
     have hbw:=HS.out b hSb
     have q0:=(hb1w.cell (p:=⟨b,off+j * 6,none⟩) hbw).trans k0
     have q1:=(hb1w.cell (p:=⟨b,off+j * 6+1,none⟩) hbw).trans k1
     have q2:=(hb1w.cell (p:=⟨b,off+j * 6+2,none⟩) hbw).trans k2
     have q3:=(hb1w.cell (p:=⟨b,off+j * 6+3,none⟩) hbw).trans k3
     have q4:=(hb1w.cell (p:=⟨b,off+j * 6+4,none⟩) hbw).trans k4
     have q5:=(hb1w.cell (p:=⟨b,off+j * 6+5,none⟩) hbw).trans k5
     clear k0 k1 k2 k3 k4 k5
     have hyv:=HV.out.1 y (List.mem_of_getElem? hx)
     have hyn:=HNL.out.2 y (List.mem_of_getElem? hx)
     have hPj:P0[j]?=some (writeP d y):=by rw [HP.out,List.getElem?_map,hx];rfl
     obtain ⟨Q,hQ⟩:∃Q,Q=(P0.take j).flatten:=⟨_,rfl⟩
     have hnx:=flat_take_succ hPj
     have hat:=flat_take_le P0 (j+1)
     rw [hnx,Lg] at hat
     rw [←hQ] at hnx hat ⊢
     have hQl:Q.length≤35184372088832:=by have:=HLP.out;omega
     have hyl:(writeP d y).length≤35184372088832:=by have:=HLP.out;omega
     have WR:=Hh (fun (wx:World) (hb:Below w.heap.size w wx)=>HI.out D S _ y wx (hnd.same fun b hb'=>hb.block b (HS.out b hb')) (fun b hb'=>Ll (HS.out b hb') hb.size) hyv hyn hyl)
     have bA:=hb1w.alloc (o:=.cells #[.int .i64 y.kind,.bool y.bool,.int .i64 y.num,.string y.text,.slice a3 l3 c3,.slice a4 l4 c4] 30) hb1w.size
     have cA:=six_of (Hn wr (.cells #[.int .i64 y.kind,.bool y.bool,.int .i64 y.num,.string y.text,.slice a3 l3 c3,.slice a4 l4 c4] 30))
     have hzA:wr.heap.size<(wr.alloc (.cells #[.int .i64 y.kind,.bool y.bool,.int .i64 y.num,.string y.text,.slice a3 l3 c3,.slice a4 l4 c4] 30)).heap.size:=by simp
     have b2A:=hB.alloc (o:=.cells #[.int .i64 y.kind,.bool y.bool,.int .i64 y.num,.string y.text,.slice a3 l3 c3,.slice a4 l4 c4] 30) hB.size
     obtain ⟨Y,hY⟩:∃Y,Y=writeP d y:=⟨_,rfl⟩
     rw [←hY] at hyl hnx WR
     have HNX:=Hh hnx
     clear hPj hat hnx hx hnd hyv hyn hY hb1w hQ
     go_upto_region 24 with fail
     generalize wr.alloc (.cells #[.int .i64 y.kind,.bool y.bool,.int .i64 y.num,.string y.text,.slice a3 l3 c3,.slice a4 l4 c4] 30)=wa at bA b2A cA hzA ⊢
     have BA:=Hh (Ai bA b2A)
     have cx:wa.cell? ⟨w.heap.size,0,none⟩=some (.int .i64 4)∧wa.cell? ⟨w.heap.size,4,none⟩=some (.slice a1 l1 c1):=⟨(b2A.cell (p:=⟨w.heap.size,0,none⟩) hz2).trans ((HB2.out.cell (p:=⟨w.heap.size,0,none⟩) WL.out).trans CK.out.1),(b2A.cell (p:=⟨w.heap.size,4,none⟩) hz2).trans ((HB2.out.cell (p:=⟨w.heap.size,4,none⟩) WL.out).trans CK.out.2.2.2.2.1)⟩
     clear bA b2A hB hB12
     have hcat1:¬9223372036854775807<(bC (h0++Q)).size+(bC Y).size:=by rw [bC_size,bC_size,Lg];omega
     go_wp2_with (go_at_call 38;(with_reducible refine (WR.out _ BA.out.1).mono ?_);rintro e wn ⟨rfl,hbn⟩)
     go_roundw
     case rel=>
      refine ⟨j+1,by go_num,by omega,?_,BA.out.2.trans (hbn.mono BA.out.2.size)⟩
      rw [HNX.out]
      simp only [bC_app,List.append_assoc]
     case measure=>simp [intOf];omega
    ·have hlt':¬ (j:Int)<(its.length:Int):=by omega
     have hPl:P0.length≤its.length:=by rw [HP.out];simp [List.length_zipWith];try omega
     rw [List.take_of_length_le (by omega)]
     clear hPl
     go_wp2
     go_ret
     exact ⟨rfl,B1.out.trans (hB12.mono B1.out.size)⟩
 ·obtain ⟨P0,hP0⟩:∃P,P=List.zipWith (fun s y=>pText s++writeP d y) ns its:=⟨_,rfl⟩
  have hws:writeP (d+1) (.mk 5 false 0 ⟨#[]⟩ ns its)=headP (mapH its.length) its.length++P0.flatten:=by rw [hP0];rfl
  rw [hws] at hlen ⊢
  have hlenP:P0.flatten.length≤35184372088832:=by rw [Lg] at hlen;omega
  obtain ⟨ai,ci,ei,hi1,hi2,-⟩:=id his
  have hl2:l2=its.length:=by cases ei;rfl
  subst hl2
  clear ei
  obtain ⟨an,cn,en,hn1,hn2,hSn⟩:=hns
  have hl1:l1=ns.length∧a1=an:=by cases en;exact ⟨rfl,rfl⟩
  obtain ⟨rfl,rfl⟩:=hl1
  clear en
  have HSN:=Hh hSn
  have HL2:=Hh hlen2
  clear hSn
  have hmost:=hvl.2.1
  have ck:=six_of (Hn w (.cells #[.int .i64 5,.bool false,.int .i64 0,.string ⟨#[]⟩,.slice a1 ns.length c1,.slice a2 its.length c2] 30))
  have hwlt:w.heap.size<(w.alloc (.cells #[.int .i64 5,.bool false,.int .i64 0,.string ⟨#[]⟩,.slice a1 ns.length c1,.slice a2 its.length c2] 30)).heap.size:=by simp
  obtain ⟨w1,hw1⟩:∃W,W=w.alloc (.cells #[.int .i64 5,.bool false,.int .i64 0,.string ⟨#[]⟩,.slice a1 ns.length c1,.slice a2 its.length c2] 30):=⟨_,rfl⟩
  rw [←hw1] at b1 ck hwlt
  have H:=Hh his
  have HS:=Hh hS
  have HV:=Hh hvl
  have HNL:=Hh hnl
  have HP:=Hh hP0
  have HLP:=Hh hlenP
  have HI:=Hh IH
  have B1:=Hh b1
  have CK:=Hh ck
  have WL:=Hh hwlt
  have RB:=Hh (fun wx=>rpbig_any its.length 2 wx (by decide) (by omega))
  rw [show ((2:Nat):Int)=2 from rfl] at RB
  have hitz:IntKind.u64.wrap (its.length:Int)=(its.length:Int):=by rw [IntKind.wrap_u64];omega
  have hcat0:¬9223372036854775807<1+(bC (bigL its.length 2)).size:=by rw [bC_size,bigL_length];omega
  obtain ⟨h0,hh0⟩:∃h0,h0=headP (mapH its.length) its.length:=⟨_,rfl⟩
  have hhl:h0.length≤9:=by rw [hh0];exact headM_cost (by unfold mapH;split <;> simp)
  have HH0:=Hh hh0
  rw [←hh0]
  clear his hS hvl hnl hP0 hlenP IH b1 hwlt hlen hws hn hv ht hh0 hlen2 hn1 hn2
  have START:∀ (K:World→Prop),(∀w2,Below w1.heap.size w1 w2→K w2)→True:=fun _ _=>trivial
  clear START
  by_cases hsm:its.length<16
  case' pos=>
   go_enter Tryz.func38,Tryz.ntmps38
   go_upto_region 1 with fail
   rw [←hw1]
   clear hw1
   have hsm':(its.length:Int)<16:=by omega
   have hx:h0=[UInt8.ofNat (128+its.length)]:=by rw [HH0.out];unfold mapH;rw [if_pos hsm];rfl
   have RO:=Hh (fun wx=>rpone_any (128+(its.length:Int)) (128+its.length) wx (by rw [UInt8.toNat_ofNat'];omega))
   rw [←hx] at RO
   clear hx hsm
   go_upto_region 21 with (first
    | (go_at_call 61;(with_reducible refine (RO.out _).mono ?_);rintro e w3 ⟨rfl,hb3⟩)
    | (go_at_call 60;(with_reducible refine (RB.out _).mono ?_);rintro e w2 ⟨rfl,hb2⟩))
   have hB2:Below w1.heap.size w1 w3:=hb2.trans (hb3.mono hb2.size)
   generalize hww:w3=wl at hB2 ⊢
  case' neg=>
   go_enter Tryz.func38,Tryz.ntmps38
   go_upto_region 1 with fail
   rw [←hw1]
   clear hw1
   have hsm':¬ (its.length:Int)<16:=by omega
   have hx:(⟨#[222]⟩:ByteArray)++bC (bigL its.length 2)=bC h0:=by rw [bC_cat,HH0.out];unfold mapH;rw [if_neg hsm];rfl
   clear hsm
   go_upto_region 21 with ((with_reducible refine (RB.out _).mono ?_);rintro e w2 ⟨rfl,hb2⟩)
   try rw [hx]
   clear hx
   have hB2:Below w1.heap.size w1 w2:=hb2
   generalize hww:w2=wl at hB2 ⊢
  all_goals
   clear hww hitz hcat0 RB
   have hz2:=Ll WL.out hB2.size
   have ck2:wl.cell? ⟨w.heap.size,5,none⟩=_:=(hB2.cell (p:=⟨w.heap.size,5,none⟩) WL.out).trans CK.out.2.2.2.2.2
   have HB2:=Hh hB2
   clear ck hB2 hb2
   go_upto_region 22 with fail
   clear ck2
   go_loopw [4,51] (fun v i wr=>∃ (j:Nat),i=.int .i64 j∧j≤its.length∧v=.string (bC (h0++(P0.take j).flatten))∧Below wl.heap.size wl wr) (fun _ i _=>its.length - (intOf i).toNat)
   case atStart=>exact ⟨0,rfl,Nat.zero_le _,by simp,Br _ _⟩
   case round=>
    obtain ⟨j,rfl,hj,rfl,hB⟩:=hrel
    have hB12:=HB2.out.trans (hB.mono HB2.out.size)
    by_cases hlt:j<its.length
    ·have hlt':(j:Int)<(its.length:Int):=by omega
     have hj0:(0:Int)≤(j:Int):=by omega
     obtain ⟨-,-,-,b,off,y,a3,l3,c3,a4,l4,c4,rfl,hSb,hx,hnd,k0,k1,k2,k3,k4,k5⟩:=H.out.at hlt
     have hb1w:=B1.out.trans (hB12.mono B1.out.size)
     have hbw:=HS.out b hSb
     have q0:=(hb1w.cell (p:=⟨b,off+j * 6,none⟩) hbw).trans k0
     have q1:=(hb1w.cell (p:=⟨b,off+j * 6+1,none⟩) hbw).trans k1
     have q2:=(hb1w.cell (p:=⟨b,off+j * 6+2,none⟩) hbw).trans k2
     have q3:=(hb1w.cell (p:=⟨b,off+j * 6+3,none⟩) hbw).trans k3
     have q4:=(hb1w.cell (p:=⟨b,off+j * 6+4,none⟩) hbw).trans k4
     have q5:=(hb1w.cell (p:=⟨b,off+j * 6+5,none⟩) hbw).trans k5
     obtain ⟨sn,hsn⟩:∃s,ns[j]?=some s:=⟨_,List.getElem?_eq_getElem (by have:=HL2.out;omega)⟩
     obtain ⟨bn,on,hab,hSbn,hcn,hsz⟩:=HSN.out j sn hsn
     subst hab
     have hltn:(j:Int)<(ns.length:Int):=by have:=HL2.out;omega
     have hcnr:=(hb1w.cell (p:=⟨bn,on+j,none⟩) (HS.out bn hSbn)).trans hcn
     have htn:=textOk_le (HV.out.2.2.2 sn (List.mem_of_getElem? hsn))
     have RT:=Hh (fun wx=>rptext_any sn wx htn)
     have hptl:(pText sn).length≤65545:=by
      unfold pText
      rw [Lg,show sn.data.toList.length=sn.size by rw [Array.length_toList];rfl]
      have:=headM_cost (h:=txtH sn.size) (v:=sn.size) (by unfold txtH;(repeat' split) <;> simp)
      omega
     clear k0 k1 k2 k3 k4 k5
     have hyv:=HV.out.1 y (List.mem_of_getElem? hx)
     have hyn:=HNL.out.2 y (List.mem_of_getElem? hx)
     have hPj:P0[j]?=some (pText sn++writeP d y):=by rw [HP.out,List.getElem?_zipWith,hsn,hx]
     obtain ⟨Q,hQ⟩:∃Q,Q=(P0.take j).flatten:=⟨_,rfl⟩
     have hnx:=flat_take_succ hPj
     have hat:=flat_take_le P0 (j+1)
     rw [hnx,Lg,Lg] at hat
     rw [←hQ] at hnx hat ⊢
     have hQl:Q.length≤35184372088832:=by have:=HLP.out;omega
     have hyl:(writeP d y).length≤35184372088832:=by have:=HLP.out;omega
     have WR:=Hh (fun (wx:World) (hb:Below w.heap.size w wx)=>HI.out D S _ y wx (hnd.same fun b hb'=>hb.block b (HS.out b hb')) (fun b hb'=>Ll (HS.out b hb') hb.size) hyv hyn hyl)
     have bA:=hb1w.alloc (o:=.cells #[.int .i64 y.kind,.bool y.bool,.int .i64 y.num,.string y.text,.slice a3 l3 c3,.slice a4 l4 c4] 30) hb1w.size
     have cA:=six_of (Hn wr (.cells #[.int .i64 y.kind,.bool y.bool,.int .i64 y.num,.string y.text,.slice a3 l3 c3,.slice a4 l4 c4] 30))
     have hzA:wr.heap.size<(wr.alloc (.cells #[.int .i64 y.kind,.bool y.bool,.int .i64 y.num,.string y.text,.slice a3 l3 c3,.slice a4 l4 c4] 30)).heap.size:=by simp
     have b2A:=hB.alloc (o:=.cells #[.int .i64 y.kind,.bool y.bool,.int .i64 y.num,.string y.text,.slice a3 l3 c3,.slice a4 l4 c4] 30) hB.size
     obtain ⟨Y,hY⟩:∃Y,Y=writeP d y:=⟨_,rfl⟩
     rw [←hY] at hyl hnx WR
     have HNX:=Hh hnx
     clear hPj hat hnx hx hnd hyv hyn hY hb1w hQ
     go_upto_region 24 with fail
     generalize wr.alloc (.cells #[.int .i64 y.kind,.bool y.bool,.int .i64 y.num,.string y.text,.slice a3 l3 c3,.slice a4 l4 c4] 30)=wa at bA b2A cA hzA ⊢
     have BA:=Hh (Ai bA b2A)
     have cx:wa.cell? ⟨w.heap.size,0,none⟩=some (.int .i64 5)∧wa.cell? ⟨w.heap.size,4,none⟩=some (.slice (some ⟨bn,on,none⟩) ns.length c1):=⟨(b2A.cell (p:=⟨w.heap.size,0,none⟩) hz2).trans ((HB2.out.cell (p:=⟨w.heap.size,0,none⟩) WL.out).trans CK.out.1),(b2A.cell (p:=⟨w.heap.size,4,none⟩) hz2).trans ((HB2.out.cell (p:=⟨w.heap.size,4,none⟩) WL.out).trans CK.out.2.2.2.2.1)⟩
     have hcnA:wa.cell? ⟨bn,on+j,none⟩=some (.string sn):=(bA.cell (p:=⟨bn,on+j,none⟩) (HS.out bn hSbn)).trans hcn
     have KA:=Hh (fun wx (hb:Below wa.heap.size wa wx)=>(show wx.cell? ⟨wr.heap.size,0,none⟩=some (.int .i64 y.kind)∧wx.cell? ⟨wr.heap.size,1,none⟩=some (.bool y.bool)∧wx.cell? ⟨wr.heap.size,2,none⟩=some (.int .i64 y.num)∧wx.cell? ⟨wr.heap.size,3,none⟩=some (.string y.text)∧wx.cell? ⟨wr.heap.size,4,none⟩=some (.slice a3 l3 c3)∧wx.cell? ⟨wr.heap.size,5,none⟩=some (.slice a4 l4 c4) from ⟨(hb.cell (p:=⟨wr.heap.size,0,none⟩) hzA).trans cA.1,(hb.cell (p:=⟨wr.heap.size,1,none⟩) hzA).trans cA.2.1,(hb.cell (p:=⟨wr.heap.size,2,none⟩) hzA).trans cA.2.2.1,(hb.cell (p:=⟨wr.heap.size,3,none⟩) hzA).trans cA.2.2.2.1,(hb.cell (p:=⟨wr.heap.size,4,none⟩) hzA).trans cA.2.2.2.2.1,(hb.cell (p:=⟨wr.heap.size,5,none⟩) hzA).trans cA.2.2.2.2.2⟩))
     clear bA b2A hB hB12 cA
     have hcat1:¬9223372036854775807<(bC (h0++Q)).size+(bC (pText sn)).size:=by rw [bC_size,bC_size,Lg];omega
     have hcat2:¬9223372036854775807<(bC (h0++Q)++bC (pText sn)).size+(bC Y).size:=by rw [ByteArray.size_append,bC_size,bC_size,bC_size,Lg];omega
     go_upto_region 26 with ((with_reducible refine (RT.out _).mono ?_);rintro e w5 ⟨rfl,hb5⟩)
     have ca:=KA.out _ hb5
     have hb15:=BA.out.1.trans (hb5.mono BA.out.1.size)
     have HB5:=Hh hb5
     clear hb5
     go_wp2_with (go_at_call 38;(with_reducible refine (WR.out _ hb15).mono ?_);rintro e wn ⟨rfl,hbn0⟩;(have hbn:=HB5.out.trans (hbn0.mono HB5.out.size)))
     go_roundw
     case rel=>
      refine ⟨j+1,by go_num,by omega,?_,BA.out.2.trans (hbn.mono BA.out.2.size)⟩
      rw [HNX.out]
      simp only [bC_app,List.append_assoc]
     case measure=>simp [intOf];omega
    ·have hlt':¬ (j:Int)<(its.length:Int):=by omega
     have hPl:P0.length≤its.length:=by rw [HP.out];simp [List.length_zipWith];try omega
     rw [List.take_of_length_le (by omega)]
     clear hPl
     go_wp2
     go_ret
     exact ⟨rfl,B1.out.trans (hB12.mono B1.out.size)⟩
theorem rpwrite_any:∀d,RPWriteAt d
 | 0=>fun D S cs x w h hS hv=>by cases hv
 | d+1=>rpwrite_step (rpwrite_any d)
def mpS (x:ND):ByteArray:=if validN 8 x then (if 65536<(writeP 8 x).length then ⟨#[]⟩ else bC (writeP 8 x)) else ⟨#[]⟩
def mpE (x:ND):Int:=if validN 8 x then (if 65536<(writeP 8 x).length then 3 else 0) else 1
theorem mpse_bad {x:ND} (h:validN 8 x=false):mpS x=⟨#[]⟩∧mpE x=1:=by unfold mpS mpE;rw [h];exact ⟨rfl,rfl⟩
theorem mpse_long {x:ND} (h:validN 8 x=true) (hl:65536<(writeP 8 x).length):mpS x=⟨#[]⟩∧mpE x=3:=by unfold mpS mpE;rw [h,if_pos rfl,if_pos rfl,if_pos hl,if_pos hl];exact ⟨rfl,rfl⟩
theorem mpse_good {x:ND} (h:validN 8 x=true) (hl:¬65536<(writeP 8 x).length):mpS x=bC (writeP 8 x)∧mpE x=0:=by unfold mpS mpE;rw [h,if_pos rfl,if_pos rfl,if_neg hl,if_neg hl];exact ⟨rfl,rfl⟩
def MEncPost (x:ND) (w:World) (e:Ending) (w':World):Prop:=e=.returned (.tuple #[.string (mpS x),.int .i64 (mpE x)])∧Below w.heap.size w w'
theorem mrenc_any {D:Nat} {S:Nat→Prop} (cs:List Value) (x:ND) (w:World) (h:NodeIn D S w cs x) (hS:∀b,S b→b<w.heap.size) (hl:lowV D x) (hw:validN 8 x=true→numsB 8 x=true∧(writeP 8 x).length≤35184372088832) (hT:Utab w):Calls Tryz.prog 23 #[.agg cs.toArray] w (MEncPost x w):=by
 obtain ⟨a1,l1,c1,a2,l2,c2,rfl⟩:=h.slices
 have b1:=(Br w.heap.size w).alloc (o:=.cells #[.int .i64 x.kind,.bool x.bool,.int .i64 x.num,.string x.text,.slice a1 l1 c1,.slice a2 l2 c2] 30) (Lr _)
 have ck:=six_of (Hn w (.cells #[.int .i64 x.kind,.bool x.bool,.int .i64 x.num,.string x.text,.slice a1 l1 c1,.slice a2 l2 c2] 30))
 have hwl:w.heap.size<(w.alloc (.cells #[.int .i64 x.kind,.bool x.bool,.int .i64 x.num,.string x.text,.slice a1 l1 c1,.slice a2 l2 c2] 30)).heap.size:=by simp
 obtain ⟨w1,hw1⟩:∃W,W=w.alloc (.cells #[.int .i64 x.kind,.bool x.bool,.int .i64 x.num,.string x.text,.slice a1 l1 c1,.slice a2 l2 c2] 30):=⟨_,rfl⟩
 rw [←hw1] at b1 ck hwl
 have V:=Hh (risvalid_any _ x w1 (h.same fun b hb=>b1.block b (hS b hb)) (fun b hb=>Ll (hS b hb) b1.size) hl (hT.below b1))
 have B1:=Hh b1
 have CK:=Hh ck
 have HN:=Hh h
 have HS:=Hh hS
 have HW:=Hh hw
 have WL:=Hh hwl
 clear h hS hl hw hT b1 hwl
 cases hv:validN 8 x with
 | false=>
  rw [hv] at V
  obtain ⟨e1,e2⟩:=mpse_bad hv
  have HE:=Hh (Ai e1 e2)
  clear hv e1 e2
  go_enter Tryz.func23,Tryz.ntmps23
  go_upto_region 1 with fail
  rw [←hw1]
  clear hw1
  go_wp2_with (go_at_call 17;(with_reducible refine (V.out).mono ?_);rintro e w2 ⟨rfl,hb2⟩)
  go_ret2
  exact ⟨by rw [HE.out.1,HE.out.2];rfl,B1.out.trans (hb2.mono B1.out.size)⟩
 | true=>
  rw [hv] at V
  obtain ⟨hnu,hlen⟩:=HW.out hv
  have HV:=Hh hv
  have HNU:=Hh hnu
  have HLEN:=Hh hlen
  clear hv hnu hlen
  go_enter Tryz.func23,Tryz.ntmps23
  go_upto_region 1 with fail
  rw [←hw1]
  clear hw1
  go_upto_region 3 with ((with_reducible refine (V.out).mono ?_);rintro e w2 ⟨rfl,hb2⟩)
  have hB2:=B1.out.trans (hb2.mono B1.out.size)
  have cc:∀q v,w1.cell? ⟨w.heap.size,q,none⟩=some v→w2.cell? ⟨w.heap.size,q,none⟩=some v:=fun q v hq=>(hb2.cell (p:=⟨w.heap.size,q,none⟩) WL.out).trans hq
  have d0:=cc 0 _ CK.out.1
  have d1:=cc 1 _ CK.out.2.1
  have d2:=cc 2 _ CK.out.2.2.1
  have d3:=cc 3 _ CK.out.2.2.2.1
  have d4:=cc 4 _ CK.out.2.2.2.2.1
  have d5:=cc 5 _ CK.out.2.2.2.2.2
  have WR:=Hh (rpwrite_any 8 D S _ x w2 (HN.out.same fun b hb=>hB2.block b (HS.out b hb)) (fun b hb=>Ll (HS.out b hb) hB2.size) HV.out HNU.out HLEN.out)
  obtain ⟨s,hs⟩:∃s:ByteArray,s=bC (writeP 8 x):=⟨_,rfl⟩
  rw [←hs] at WR
  have hsz:s.size=(writeP 8 x).length:=by rw [hs,bC_size]
  have HBB:=Hh hB2
  clear ck cc hb2 hB2
  by_cases hov:65536<s.size
  ·have hov':(65536:Int)<(s.size:Int):=by omega
   obtain ⟨e1,e2⟩:=mpse_long HV.out (by omega)
   have HE:=Hh (Ai e1 e2)
   clear e1 e2 hs hsz hov
   go_wp2_with (go_at_call 38;(with_reducible refine (WR.out).mono ?_);rintro e w3 ⟨rfl,hb3⟩)
   go_ret2
   exact ⟨by rw [HE.out.1,HE.out.2];rfl,HBB.out.trans (hb3.mono HBB.out.size)⟩
  ·have hov':¬ (65536:Int)<(s.size:Int):=by omega
   obtain ⟨e1,e2⟩:=mpse_good HV.out (by omega)
   have HE:=Hh (Ai (e1.trans hs.symm) e2)
   clear e1 e2 hs hsz hov
   go_wp2_with (go_at_call 38;(with_reducible refine (WR.out).mono ?_);rintro e w3 ⟨rfl,hb3⟩)
   go_ret2
   exact ⟨by rw [HE.out.1,HE.out.2];rfl,HBB.out.trans (hb3.mono HBB.out.size)⟩
theorem writeP_same:∀ {e d:Nat} {x:ND},e≤d→validN e x=true→writeP d x=writeP e x
 | 0,_,_,_,h=>by cases h
 | e+1,0,_,h,_=>by omega
 | e+1,d+1,x,hd,h=>by
  rw [validN_succ,Bool.and_eq_true,List.all_eq_true] at h
  have hm:x.items.flatMap (writeP d)=x.items.flatMap (writeP e):=by
   rw [List.flatMap_def,List.flatMap_def,List.map_congr_left fun y hy=>writeP_same (by omega) (h.2 y hy)]
  have hz:List.zipWith (fun s y=>pText s++writeP d y) x.names x.items=List.zipWith (fun s y=>pText s++writeP e y) x.names x.items:=by
   have:∀ (ns:List ByteArray) (its:List ND),(∀y,y ∈ its→validN e y=true)→List.zipWith (fun s y=>pText s++writeP d y) ns its=List.zipWith (fun s y=>pText s++writeP e y) ns its:=by
    intro ns
    induction ns with
    | nil=>intro its _;rfl
    | cons s t ih=>
     intro its hi
     cases its with
     | nil=>rfl
     | cons y u=>rw [List.zipWith_cons_cons,List.zipWith_cons_cons,ih u (fun z hz=>hi z (by simp [hz])),writeP_same (by omega) (hi y (by simp))]
   exact this _ _ h.2
  rw [writeP_succ,writeP_succ]
  unfold bodyM
  rw [hm,hz]
theorem pText_cost (s:ByteArray):(pText s).length≤6 * s.size+8:=by
 have h2:s.data.toList.length=s.size:=by rw [Array.length_toList];rfl
 unfold pText headP
 rw [Lg,List.length_cons,bigL_length,h2]
 unfold txtH
 (repeat' split) <;> dsimp only <;> omega
theorem zipP_sum {W:ND→List UInt8} {c:ND→Nat}:∀ (ns:List ByteArray) (its:List ND),(∀y,y ∈ its→(W y).length≤c y)→(List.zipWith (fun s y=>pText s++W y) ns its).flatten.length≤(ns.map fun s=>6 * s.size+8).sum+(its.map fun y=>c y+1).sum
 | [],_,_=>by simp
 | _::_,[],_=>by simp
 | s::ss,y::ys,h=>by
  have ih:=zipP_sum ss ys (fun z hz=>h z (by simp [hz]))
  have h1:=pText_cost s
  have h3:=h y (by simp)
  rw [List.zipWith_cons_cons,List.flatten_cons,Lg,Lg,List.map_cons,List.sum_cons,List.map_cons,List.sum_cons]
  omega
theorem pHd_le (x:ND):(pHd x).2≤8:=by
 unfold pHd numH txtH lstH mapH
 (repeat' split) <;> dsimp only <;> omega
theorem writeP_cost:∀ (d:Nat) (x:ND),validN d x=true→(writeP d x).length≤costN d x
 | 0,_,h=>by cases h
 | d+1,x,h=>by
  obtain ⟨hi,hl,htx,hns⟩:=validN_parts h
  have ih:∀y,y ∈ x.items→(writeP d y).length≤costN d y:=fun y hy=>writeP_cost d y (hi y hy)
  have hts:x.text.data.toList.length=x.text.size:=by rw [Array.length_toList];rfl
  have h9:=headM_cost (v:=pVal x) (pHd_le x)
  have h1:=flatC_sum x.items ih
  have h2:=zipP_sum (W:=writeP d) x.names x.items ih
  rw [costN_succ,writeP_succ,Lg]
  unfold bodyM
  split
  ·omega
  ·split
   ·omega
   ·split
    ·omega
    ·simp;omega
end Go.Proofs.YtdppdonaojdceaaGreatDoor