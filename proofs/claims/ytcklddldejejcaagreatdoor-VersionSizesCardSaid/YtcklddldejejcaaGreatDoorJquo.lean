/- The document's quoted texts. -/
import Derived.Test.YtcklddldejejcaaGreatDoorJread
import Derived.Test.YtcklddldejejcaaGreatDoorNmap
import Derived.Deep.AppendLies
set_option linter.unusedVariables false
set_option linter.unusedSimpArgs false
set_option maxHeartbeats 1600000
set_option maxRecDepth 100000
namespace Go.Proofs.YtcklddldejejcaaGreatDoor
open Go Go.ChangeShapes Go.WideShapes Go.ChangeAt Go.RowKit
theorem hex_get (m:Nat) (h:m<ByteArray.size { data:=#[48,49,50,51,52,53,54,55,56,57,97,98,99,100,101,102] }):({ data:=#[48,49,50,51,52,53,54,55,56,57,97,98,99,100,101,102] }:ByteArray)[m]'h=hexD (UInt8.ofNat m):=by
 have all:∀m:Fin 16,({ data:=#[48,49,50,51,52,53,54,55,56,57,97,98,99,100,101,102] }:ByteArray)[m.val]'(m.isLt)=hexD (UInt8.ofNat m.val):=by decide +kernel
 exact all ⟨m,h⟩
theorem one_get (m:Nat) (h:m<ByteArray.size { data:=#[48,49] }):({ data:=#[48,49] }:ByteArray)[m]'h=hexD (UInt8.ofNat m):=by
 have all:∀m:Fin 2,({ data:=#[48,49] }:ByteArray)[m.val]'(m.isLt)=hexD (UInt8.ofNat m.val):=by decide +kernel
 exact all ⟨m,h⟩
def BRow (TB:TypeId) (w wr:World) (v:Value) (l:List UInt8):Prop:=wr.ownsRow w.heap.size TB 1 v l.length (bytesV l)∧Below w.heap.size w wr
theorem flatEsc_le:∀l:List UInt8,(l.flatMap jEsc).length≤6 * l.length
 | []=>Lr _
 | c::r=>by
  have h1:(jEsc c).length≤6:=by
   unfold jEsc
   repeat' split
   all_goals simp
  have h2:=flatEsc_le r
  rw [List.flatMap_cons,Lg,List.length_cons]
  omega
theorem brow_next {TB:TypeId} {w W8:World} {l:List UInt8} {j m:Nat} {c:UInt8} {L new:List UInt8} {v:Value} {cells:List Value} (hL:L=34::(l.take j).flatMap jEsc) (hc:l[j]?=some c) (he:jEsc c=new) (hown:W8.ownsRow w.heap.size TB 1 v (L.length+m) (bytesV L++cells)) (hcells:cells=bytesV new) (hm:m=new.length) (hB:Below w.heap.size w W8):BRow TB w W8 v (34::(l.take (j+1)).flatMap jEsc):=by
 have e:34::(l.take (j+1)).flatMap jEsc=L++new:=by
  rw [List.take_add_one,hc,List.flatMap_append,hL]
  show _=(34::(l.take j).flatMap jEsc)++new
  rw [List.cons_append,←he]
  simp
 refine ⟨?_,hB⟩
 rw [e,Lg,bytesV_append,←hm,←hcells]
 exact hown
theorem u8_of {x:Nat} {c:UInt8} (h:x=c.toNat):c=UInt8.ofNat x:=by rw [h,UInt8.ofNat_toNat]
theorem esc_c {x:Nat} {c:UInt8} (h:x=c.toNat) (h0:x<32) (h1:x ≠ 8) (h2:x ≠ 9) (h3:x ≠ 10) (h4:x ≠ 12) (h5:x ≠ 13):jEsc c=[92,117,48,48,hexD (UInt8.ofNat (x / 16)),hexD (UInt8.ofNat (x % 16))]:=by
 have:∀n:Fin 32,n.1 ≠ 8→n.1 ≠ 9→n.1 ≠ 10→n.1 ≠ 12→n.1 ≠ 13→jEsc (UInt8.ofNat n.1)=[92,117,48,48,hexD (UInt8.ofNat (n.1 / 16)),hexD (UInt8.ofNat (n.1 % 16))]:=by decide +kernel
 rw [u8_of h]
 exact this ⟨x,h0⟩ h1 h2 h3 h4 h5
theorem esc_d {x:Nat} {c:UInt8} (h:x=c.toNat) (h0:32≤x) (h1:x ≠ 34) (h2:x ≠ 92):jEsc c=[c]:=by
 have hn:∀v:UInt8,v.toNat ≠ x→c ≠ v:=fun v hv e=>hv (by rw [h,e])
 unfold jEsc
 rw [if_neg (by rintro (e | e);exact hn _ (by simpa using Ne.symm h1) e;exact hn _ (by simpa using Ne.symm h2) e),if_neg (hn _ (by simp;omega)),if_neg (hn _ (by simp;omega)),if_neg (hn _ (by simp;omega)),if_neg (hn _ (by simp;omega)),if_neg (hn _ (by simp;omega)),if_neg]
 rw [UInt8.lt_iff_toNat_lt,←h]
 simp;omega
theorem rquote_any (s:ByteArray) (w:World) (hs:s.size≤1099511627776):Calls Tryz.prog 131 #[.string s] w fun e w'=>e=.returned (.string ⟨(quoteL s.data.toList).toArray⟩)∧Below w.heap.size w w':=by
 obtain ⟨ib,hib,hb0,hb1,hb2⟩:=info_parts Tryz.info5
 have hub:=Tryz.underlying73
 have hu8:=Tryz.underlying5
 have hust:=Tryz.underlying9
 have HIB:=Hh hib
 have hsz:s.data.toList.length=s.size:=by rw [Array.length_toList];rfl
 have HSZ:=Hh hsz
 have hsi:(s.size:Int)≤1099511627776:=by omega
 have o1:=World.ownsRow_lit (base:=w.heap.size) (e:=5) (size:=1) w #[.int .u8 34] 1 (Lr _) (by decide) rfl
 have b1:=(Br w.heap.size w).alloc (o:=.cells #[.int .u8 34] 5) (Lr _)
 have R0:Hid (BRow 5 w (w.alloc (.cells #[.int .u8 34] 5)) (.slice (some ⟨w.heap.size,0,none⟩) 1 1) [34]):=Hh ⟨o1,b1⟩
 clear o1 b1 hib hsz
 go_enter Tryz.func131,Tryz.ntmps131
 go_wp2
 go_loopw [3,9] (fun v i wr=>∃j:Nat,i=.int .i64 j∧j≤s.size∧BRow 5 w wr v (34::(s.data.toList.take j).flatMap jEsc)) (fun _ i _=>s.size - (intOf i).toNat)
 case atStart=>exact ⟨0,rfl,Nat.zero_le _,R0.out⟩
 case round=>
  clear R0
  obtain ⟨j,rfl,hj,hrow⟩:=hrel
  by_cases hlt:j<s.size
  ·have hlt':(j:Int)<(s.size:Int):=by omega
   have hj0:(0:Int)≤(j:Int):=by omega
   obtain ⟨L,hL⟩:∃L,L=34::(s.data.toList.take j).flatMap jEsc:=⟨_,rfl⟩
   rw [←hL] at hrow
   have hLl:L.length≤6 * s.size+1:=by
    rw [hL,List.length_cons]
    have:=flatEsc_le (s.data.toList.take j)
    rw [List.length_take] at this
    omega
   have HL:=Hh hL
   have HROW:=Hh hrow
   clear hL hrow
   have hcj:s.data.toList[j]?=some s[j]:=by rw [List.getElem?_eq_getElem (by have:=HSZ.out;omega)];rfl
   go_upto_region 7 with fail
   generalize s[j]=c at hcj ⊢
   have hx256:c.toNat<256:=c.toNat_lt
   obtain ⟨x,hx⟩:∃x,x=c.toNat:=⟨_,rfl⟩
   rw [←hx] at hx256 ⊢
   have HX:=Hh hx
   have HC:=Hh hcj
   have hcase:x=34∨x=92∨x=8∨x=9∨x=10∨x=12∨x=13∨(x<32∧x ≠ 8∧x ≠ 9∧x ≠ 10∧x ≠ 12∧x ≠ 13)∨(32≤x∧x ≠ 34∧x ≠ 92):=by omega
   clear hx hcj
   rcases hcase with hx | hx | hx | hx | hx | hx | hx | ⟨hx,n8,n9,n10,n12,n13⟩ | ⟨hx,n34,n92⟩
   ·subst hx
    go_wp2_with (refine wpList_append_lies _ rfl (.tmp 26) (.tmp 28) 73 rfl w.heap.size 5 ib (.int .u8 0) 1 1 hub HIB.out hb0 hb1 hb2 rfl (by decide) _ L.length _ rfl (HROW.out.1.alloc (.cells #[.int .u8 92,.int .u8 34] 5)) ⟨wr.heap.size,0,none⟩ 2 2 [.int .u8 92,.int .u8 34] rfl rfl (cells_new wr #[.int .u8 92,.int .u8 34] 5 [.int .u8 92,.int .u8 34] rfl) (by intro u hu;simp only [List.mem_cons,List.not_mem_nil,or_false] at hu;rcases hu with rfl | rfl <;> rfl) (by decide) (by unfold maxLen;omega) (by omega) (by have:=HROW.out.2.size;simp;omega) _ rfl ?_;intro gg cc W8 hown hgrow hat hlt2)
    have hB8:=obelow (HROW.out.2.alloc HROW.out.2.size (.cells #[.int .u8 92,.int .u8 34] 5)) (HROW.out.1.alloc (.cells #[.int .u8 92,.int .u8 34] 5)) hgrow (by have:=HROW.out.2.size;simp;omega)
    have F:=Hh (brow_next HL.out HC.out (show jEsc c=[92,34] by rw [u8_of HX.out];rfl) hown rfl rfl hB8)
    clear hown hgrow hat hB8
    go_wp2
    go_roundw
    case rel=>exact ⟨j+1,by go_num,by omega,F.out⟩
    case measure=>simp [intOf];omega
   ·subst hx
    go_wp2_with (refine wpList_append_lies _ rfl (.tmp 26) (.tmp 28) 73 rfl w.heap.size 5 ib (.int .u8 0) 1 1 hub HIB.out hb0 hb1 hb2 rfl (by decide) _ L.length _ rfl (HROW.out.1.alloc (.cells #[.int .u8 92,.int .u8 92] 5)) ⟨wr.heap.size,0,none⟩ 2 2 [.int .u8 92,.int .u8 92] rfl rfl (cells_new wr #[.int .u8 92,.int .u8 92] 5 [.int .u8 92,.int .u8 92] rfl) (by intro u hu;simp only [List.mem_cons,List.not_mem_nil,or_false] at hu;rcases hu with rfl | rfl <;> rfl) (by decide) (by unfold maxLen;omega) (by omega) (by have:=HROW.out.2.size;simp;omega) _ rfl ?_;intro gg cc W8 hown hgrow hat hlt2)
    have hB8:=obelow (HROW.out.2.alloc HROW.out.2.size (.cells #[.int .u8 92,.int .u8 92] 5)) (HROW.out.1.alloc (.cells #[.int .u8 92,.int .u8 92] 5)) hgrow (by have:=HROW.out.2.size;simp;omega)
    have F:=Hh (brow_next HL.out HC.out (show jEsc c=[92,92] by rw [u8_of HX.out];rfl) hown rfl rfl hB8)
    clear hown hgrow hat hB8
    go_wp2
    go_roundw
    case rel=>exact ⟨j+1,by go_num,by omega,F.out⟩
    case measure=>simp [intOf];omega
   ·subst hx
    go_wp2_with (refine wpList_append_lies _ rfl (.tmp 49) (.tmp 53) 73 rfl w.heap.size 5 ib (.int .u8 0) 1 1 hub HIB.out hb0 hb1 hb2 rfl (by decide) _ L.length _ rfl (HROW.out.1.alloc (.cells #[.int .u8 92,.int .u8 98] 5)) ⟨wr.heap.size,0,none⟩ 2 2 [.int .u8 92,.int .u8 98] rfl rfl (cells_new wr #[.int .u8 92,.int .u8 98] 5 [.int .u8 92,.int .u8 98] rfl) (by intro u hu;simp only [List.mem_cons,List.not_mem_nil,or_false] at hu;rcases hu with rfl | rfl <;> rfl) (by decide) (by unfold maxLen;omega) (by omega) (by have:=HROW.out.2.size;simp;omega) _ rfl ?_;intro gg cc W8 hown hgrow hat hlt2)
    have hB8:=obelow (HROW.out.2.alloc HROW.out.2.size (.cells #[.int .u8 92,.int .u8 98] 5)) (HROW.out.1.alloc (.cells #[.int .u8 92,.int .u8 98] 5)) hgrow (by have:=HROW.out.2.size;simp;omega)
    have F:=Hh (brow_next HL.out HC.out (show jEsc c=[92,98] by rw [u8_of HX.out];rfl) hown rfl rfl hB8)
    clear hown hgrow hat hB8
    go_wp2
    go_roundw
    case rel=>exact ⟨j+1,by go_num,by omega,F.out⟩
    case measure=>simp [intOf];omega
   ·subst hx
    go_wp2_with (refine wpList_append_lies _ rfl (.tmp 49) (.tmp 53) 73 rfl w.heap.size 5 ib (.int .u8 0) 1 1 hub HIB.out hb0 hb1 hb2 rfl (by decide) _ L.length _ rfl (HROW.out.1.alloc (.cells #[.int .u8 92,.int .u8 116] 5)) ⟨wr.heap.size,0,none⟩ 2 2 [.int .u8 92,.int .u8 116] rfl rfl (cells_new wr #[.int .u8 92,.int .u8 116] 5 [.int .u8 92,.int .u8 116] rfl) (by intro u hu;simp only [List.mem_cons,List.not_mem_nil,or_false] at hu;rcases hu with rfl | rfl <;> rfl) (by decide) (by unfold maxLen;omega) (by omega) (by have:=HROW.out.2.size;simp;omega) _ rfl ?_;intro gg cc W8 hown hgrow hat hlt2)
    have hB8:=obelow (HROW.out.2.alloc HROW.out.2.size (.cells #[.int .u8 92,.int .u8 116] 5)) (HROW.out.1.alloc (.cells #[.int .u8 92,.int .u8 116] 5)) hgrow (by have:=HROW.out.2.size;simp;omega)
    have F:=Hh (brow_next HL.out HC.out (show jEsc c=[92,116] by rw [u8_of HX.out];rfl) hown rfl rfl hB8)
    clear hown hgrow hat hB8
    go_wp2
    go_roundw
    case rel=>exact ⟨j+1,by go_num,by omega,F.out⟩
    case measure=>simp [intOf];omega
   ·subst hx
    go_wp2_with (refine wpList_append_lies _ rfl (.tmp 49) (.tmp 53) 73 rfl w.heap.size 5 ib (.int .u8 0) 1 1 hub HIB.out hb0 hb1 hb2 rfl (by decide) _ L.length _ rfl (HROW.out.1.alloc (.cells #[.int .u8 92,.int .u8 110] 5)) ⟨wr.heap.size,0,none⟩ 2 2 [.int .u8 92,.int .u8 110] rfl rfl (cells_new wr #[.int .u8 92,.int .u8 110] 5 [.int .u8 92,.int .u8 110] rfl) (by intro u hu;simp only [List.mem_cons,List.not_mem_nil,or_false] at hu;rcases hu with rfl | rfl <;> rfl) (by decide) (by unfold maxLen;omega) (by omega) (by have:=HROW.out.2.size;simp;omega) _ rfl ?_;intro gg cc W8 hown hgrow hat hlt2)
    have hB8:=obelow (HROW.out.2.alloc HROW.out.2.size (.cells #[.int .u8 92,.int .u8 110] 5)) (HROW.out.1.alloc (.cells #[.int .u8 92,.int .u8 110] 5)) hgrow (by have:=HROW.out.2.size;simp;omega)
    have F:=Hh (brow_next HL.out HC.out (show jEsc c=[92,110] by rw [u8_of HX.out];rfl) hown rfl rfl hB8)
    clear hown hgrow hat hB8
    go_wp2
    go_roundw
    case rel=>exact ⟨j+1,by go_num,by omega,F.out⟩
    case measure=>simp [intOf];omega
   ·subst hx
    go_wp2_with (refine wpList_append_lies _ rfl (.tmp 49) (.tmp 53) 73 rfl w.heap.size 5 ib (.int .u8 0) 1 1 hub HIB.out hb0 hb1 hb2 rfl (by decide) _ L.length _ rfl (HROW.out.1.alloc (.cells #[.int .u8 92,.int .u8 102] 5)) ⟨wr.heap.size,0,none⟩ 2 2 [.int .u8 92,.int .u8 102] rfl rfl (cells_new wr #[.int .u8 92,.int .u8 102] 5 [.int .u8 92,.int .u8 102] rfl) (by intro u hu;simp only [List.mem_cons,List.not_mem_nil,or_false] at hu;rcases hu with rfl | rfl <;> rfl) (by decide) (by unfold maxLen;omega) (by omega) (by have:=HROW.out.2.size;simp;omega) _ rfl ?_;intro gg cc W8 hown hgrow hat hlt2)
    have hB8:=obelow (HROW.out.2.alloc HROW.out.2.size (.cells #[.int .u8 92,.int .u8 102] 5)) (HROW.out.1.alloc (.cells #[.int .u8 92,.int .u8 102] 5)) hgrow (by have:=HROW.out.2.size;simp;omega)
    have F:=Hh (brow_next HL.out HC.out (show jEsc c=[92,102] by rw [u8_of HX.out];rfl) hown rfl rfl hB8)
    clear hown hgrow hat hB8
    go_wp2
    go_roundw
    case rel=>exact ⟨j+1,by go_num,by omega,F.out⟩
    case measure=>simp [intOf];omega
   ·subst hx
    go_wp2_with (refine wpList_append_lies _ rfl (.tmp 49) (.tmp 53) 73 rfl w.heap.size 5 ib (.int .u8 0) 1 1 hub HIB.out hb0 hb1 hb2 rfl (by decide) _ L.length _ rfl (HROW.out.1.alloc (.cells #[.int .u8 92,.int .u8 114] 5)) ⟨wr.heap.size,0,none⟩ 2 2 [.int .u8 92,.int .u8 114] rfl rfl (cells_new wr #[.int .u8 92,.int .u8 114] 5 [.int .u8 92,.int .u8 114] rfl) (by intro u hu;simp only [List.mem_cons,List.not_mem_nil,or_false] at hu;rcases hu with rfl | rfl <;> rfl) (by decide) (by unfold maxLen;omega) (by omega) (by have:=HROW.out.2.size;simp;omega) _ rfl ?_;intro gg cc W8 hown hgrow hat hlt2)
    have hB8:=obelow (HROW.out.2.alloc HROW.out.2.size (.cells #[.int .u8 92,.int .u8 114] 5)) (HROW.out.1.alloc (.cells #[.int .u8 92,.int .u8 114] 5)) hgrow (by have:=HROW.out.2.size;simp;omega)
    have F:=Hh (brow_next HL.out HC.out (show jEsc c=[92,114] by rw [u8_of HX.out];rfl) hown rfl rfl hB8)
    clear hown hgrow hat hB8
    go_wp2
    go_roundw
    case rel=>exact ⟨j+1,by go_num,by omega,F.out⟩
    case measure=>simp [intOf];omega
   ·have e1:((x:Int) == 34)=false:=beq_eq_false_iff_ne.2 (by omega)
    have e2:((x:Int) == 92)=false:=beq_eq_false_iff_ne.2 (by omega)
    have e3:((x:Int) == 8)=false:=beq_eq_false_iff_ne.2 (by omega)
    have e4:((x:Int) == 9)=false:=beq_eq_false_iff_ne.2 (by omega)
    have e5:((x:Int) == 10)=false:=beq_eq_false_iff_ne.2 (by omega)
    have e6:((x:Int) == 12)=false:=beq_eq_false_iff_ne.2 (by omega)
    have e7:((x:Int) == 13)=false:=beq_eq_false_iff_ne.2 (by omega)
    have e8:(x:Int)<32:=by omega
    obtain ⟨p,hp⟩:∃p,p=x / 16:=⟨_,rfl⟩
    obtain ⟨q,hq⟩:∃q,q=x % 16:=⟨_,rfl⟩
    have w1:IntKind.u8.wrap ((x:Int) / 16)=(p:Int):=by rw [IntKind.wrap_u8];omega
    have w2:(x:Int).tmod 16=(q:Int):=by rw [Int.tmod_eq_emod_of_nonneg (by omega)];omega
    have hp2:(p:Int)<2:=by omega
    have hp0:(0:Int)≤(p:Int):=by omega
    have hq2:(q:Int)<16:=by omega
    have hq0:(0:Int)≤(q:Int):=by omega
    have hpn:p<2:=by omega
    have hqn:q<16:=by omega
    have g1:=one_get p hpn
    have g2:=hex_get q hqn
    obtain ⟨u,hu⟩:∃u,u=hexD (UInt8.ofNat p):=⟨_,rfl⟩
    obtain ⟨v,hv⟩:∃v,v=hexD (UInt8.ofNat q):=⟨_,rfl⟩
    rw [←hu] at g1
    rw [←hv] at g2
    have HE:=Hh (show jEsc c=[92,117,48,48,u,v] by rw [hu,hv,hp,hq];exact esc_c HX.out hx n8 n9 n10 n12 n13)
    clear hu hv hp hq
    go_upto_region 12 with fail
    refine wp_region_plan (fun _=>True) [] (.take 0 (.take 1 (.take 2 (.take 3 (.take 4 (.take 5 (.take 6 (.ask 7 false (.ask 8 false (.ask 9 false .stop .stop) .stop) .stop)))))))) (by kernel_rfl) (by kernel_rfl) (fun _ d _ _ _ h=>by cases d <;> exact h) trivial ?_
    refine take_any _ ?_ rfl rfl ?_ (fun K hK=>?_);rotate_left;(intro w0;go_simp;(try rfl));(go_simp;refine hK _ ?_;clear hK K)
    refine take_any _ ?_ rfl rfl ?_ (fun K hK=>?_);rotate_left;(intro w0;go_simp;(try rfl));(go_simp;refine hK _ ?_;clear hK K)
    refine take_any _ ?_ rfl rfl ?_ (fun K hK=>?_);rotate_left;(intro w0;go_simp;(try rfl));(go_simp;refine hK _ ?_;clear hK K)
    refine take_any _ ?_ rfl rfl ?_ (fun K hK=>?_);rotate_left;(intro w0;go_simp;(try rfl));(go_simp;refine hK _ ?_;clear hK K)
    refine take_any _ ?_ rfl rfl ?_ (fun K hK=>?_);rotate_left;(intro w0;go_simp;(try rfl));(go_simp;refine hK _ ?_;clear hK K)
    refine take_any _ ?_ rfl rfl ?_ (fun K hK=>?_);rotate_left;(intro w0;go_simp;(try rfl));(go_simp;refine hK _ ?_;clear hK K)
    refine take_any _ ?_ rfl rfl ?_ (fun K hK=>?_);rotate_left;(intro w0;go_simp;(try rfl));(go_simp;refine hK _ ?_;clear hK K)
    have bd:Below w.heap.size w wr.drew:=HROW.out.2.drew
    have od:wr.drew.ownsRow w.heap.size 5 1 _ L.length (bytesV L):=HROW.out.1
    generalize wr.drew=wd at bd od ⊢
    have HOD:=Hh (od.alloc (.cells #[.int .u8 92,.int .u8 117,.int .u8 48,.int .u8 48,.int .u8 (u.toNat:Int),.int .u8 (v.toNat:Int)] 5))
    have HBD:=Hh (bd.alloc bd.size (.cells #[.int .u8 92,.int .u8 117,.int .u8 48,.int .u8 48,.int .u8 (u.toNat:Int),.int .u8 (v.toNat:Int)] 5))
    have CN:=Hh (cells_new wd #[.int .u8 92,.int .u8 117,.int .u8 48,.int .u8 48,.int .u8 (u.toNat:Int),.int .u8 (v.toNat:Int)] 5 [.int .u8 92,.int .u8 117,.int .u8 48,.int .u8 48,.int .u8 (u.toNat:Int),.int .u8 (v.toNat:Int)] rfl)
    have hbz:w.heap.size≤(wd.alloc (.cells #[.int .u8 92,.int .u8 117,.int .u8 48,.int .u8 48,.int .u8 (u.toNat:Int),.int .u8 (v.toNat:Int)] 5)).heap.size:=HBD.out.size
    clear od
    refine ask_late _ rfl trivial ?_
    go_wp2_with fail
    generalize hWA:wd.alloc (.cells #[.int .u8 92,.int .u8 117,.int .u8 48,.int .u8 48,.int .u8 (u.toNat:Int),.int .u8 (v.toNat:Int)] 5)=wa at HOD HBD CN hbz ⊢
    refine Seg.mk ?_
    refine ask_late _ rfl trivial ?_
    go_wp2_with (refine wpList_append_lies _ rfl (.tmp 58) (.tmp 65) 73 rfl w.heap.size 5 ib (.int .u8 0) 1 1 hub HIB.out hb0 hb1 hb2 rfl (by decide) _ L.length _ rfl HOD.out ⟨wd.heap.size,0,none⟩ 6 6 [.int .u8 92,.int .u8 117,.int .u8 48,.int .u8 48,.int .u8 (u.toNat:Int),.int .u8 (v.toNat:Int)] rfl rfl CN.out (by intro z hz;simp only [List.mem_cons,List.not_mem_nil,or_false] at hz;rcases hz with rfl | rfl | rfl | rfl | rfl | rfl <;> rfl) (by decide) (by unfold maxLen;omega) (by omega) hbz _ rfl ?_;intro gg cc W8 hown hgrow hat hlt2)
    have hB8:=obelow HBD.out HOD.out hgrow hbz
    have F:=Hh (brow_next HL.out HC.out HE.out hown rfl rfl hB8)
    clear hown hgrow hat hB8
    refine Seg.mk ?_
    refine ask_last _ rfl trivial ?_
    go_wp2
    go_roundw
    case rel=>exact ⟨j+1,by go_num,by omega,F.out⟩
    case measure=>simp [intOf];omega
   ·have e1:¬ (x:Int)=34:=by omega
    have e2:((x:Int) == 92)=false:=beq_eq_false_iff_ne.2 (by omega)
    have e3:((x:Int) == 8)=false:=beq_eq_false_iff_ne.2 (by omega)
    have e4:((x:Int) == 9)=false:=beq_eq_false_iff_ne.2 (by omega)
    have e5:((x:Int) == 10)=false:=beq_eq_false_iff_ne.2 (by omega)
    have e6:((x:Int) == 12)=false:=beq_eq_false_iff_ne.2 (by omega)
    have e7:((x:Int) == 13)=false:=beq_eq_false_iff_ne.2 (by omega)
    have e8:¬ (x:Int)<32:=by omega
    go_wp2_with (refine wpList_append_lies _ rfl (.tmp 15) (.tmp 17) 73 rfl w.heap.size 5 ib (.int .u8 0) 1 1 hub HIB.out hb0 hb1 hb2 rfl (by decide) _ L.length _ rfl (HROW.out.1.alloc (.cells #[.int .u8 (x:Int)] 5)) ⟨wr.heap.size,0,none⟩ 1 1 [.int .u8 (x:Int)] rfl rfl (cells_new wr #[.int .u8 (x:Int)] 5 [.int .u8 (x:Int)] rfl) (by intro u hu;simp only [List.mem_cons,List.not_mem_nil,or_false] at hu;rcases hu with rfl <;> rfl) (by decide) (by unfold maxLen;omega) (by omega) (by have:=HROW.out.2.size;simp;omega) _ rfl ?_;intro gg cc W8 hown hgrow hat hlt2)
    have hB8:=obelow (HROW.out.2.alloc HROW.out.2.size (.cells #[.int .u8 (x:Int)] 5)) (HROW.out.1.alloc (.cells #[.int .u8 (x:Int)] 5)) hgrow (by have:=HROW.out.2.size;simp;omega)
    have F:=Hh (brow_next HL.out HC.out (esc_d HX.out hx n34 n92) hown (by rw [HX.out];rfl) rfl hB8)
    clear hown hgrow hat hB8
    go_wp2
    go_roundw
    case rel=>exact ⟨j+1,by go_num,by omega,F.out⟩
    case measure=>simp [intOf];omega
  ·have hlt':¬ (j:Int)<(s.size:Int):=by omega
   have hjs:j=s.size:=by omega
   rw [hjs,List.take_of_length_le (by rw [HSZ.out];exact Lr _)] at hrow
   obtain ⟨L,hL⟩:∃L,L=34::s.data.toList.flatMap jEsc:=⟨_,rfl⟩
   rw [←hL] at hrow
   have hLl:L.length≤6 * s.size+1:=by
    rw [hL,List.length_cons]
    have:=flatEsc_le s.data.toList
    have:=HSZ.out
    omega
   have HL:=Hh hL
   have HROW:=Hh hrow
   clear hL hrow hjs hj
   go_wp2_with (refine wpList_append_lies _ rfl (.tmp 68) (.tmp 69) 73 rfl w.heap.size 5 ib (.int .u8 0) 1 1 hub HIB.out hb0 hb1 hb2 rfl (by decide) _ L.length _ rfl (HROW.out.1.alloc (.cells #[.int .u8 34] 5)) ⟨wr.heap.size,0,none⟩ 1 1 [.int .u8 34] rfl rfl (cells_new wr #[.int .u8 34] 5 [.int .u8 34] rfl) (by intro u hu;simp only [List.mem_cons,List.not_mem_nil,or_false] at hu;rcases hu with rfl <;> rfl) (by decide) (by unfold maxLen;omega) (by omega) (by have:=HROW.out.2.size;simp;omega) _ rfl ?_;intro gg cc W8 hown hgrow hat hlt2;(have hcv:=conv_owns (P:=Tryz.prog) W8 73 9 5 w.heap.size (L.length+1) _ (L++[34]) (by have:=hown;rw [show bytesV L++[.int .u8 34]=bytesV (L++[34]) by rw [bytesV_append];rfl] at this;exact this) Tryz.underlying73 Tryz.underlying5 Tryz.underlying9))
   have hB8:=obelow (HROW.out.2.alloc HROW.out.2.size (.cells #[.int .u8 34] 5)) (HROW.out.1.alloc (.cells #[.int .u8 34] 5)) hgrow (by have:=HROW.out.2.size;simp;omega)
   have HB8:=Hh hB8
   clear hown hgrow hat hB8
   go_wp2
   go_ret
   refine ⟨?_,HB8.out⟩
   rw [HL.out];rfl
end Go.Proofs.YtcklddldejejcaaGreatDoor