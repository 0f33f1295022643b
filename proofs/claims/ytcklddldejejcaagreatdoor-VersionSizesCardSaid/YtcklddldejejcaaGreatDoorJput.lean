/- The writer: what its block holds; put, exceedsLimit, character, quoted. -/
import Derived.Test.YtcklddldejejcaaGreatDoorJquo
import Derived.Test.YtcklddldejejcaaGreatDoorMrf
import Derived.Test.YtcklddldejejcaaGreatDoorJmap
import Derived.Lib.AppendStr
set_option linter.unusedVariables false
set_option linter.unusedSimpArgs false
set_option maxHeartbeats 1600000
set_option maxRecDepth 100000
namespace Go.Proofs.YtcklddldejejcaaGreatDoor
open Go Go.ChangeShapes Go.WideShapes Go.ChangeAt Go.RowKit
theorem twb:201 ≠ 5:=by decide
abbrev WStJ:=WSt 201 5
def WPost (B g m:Nat) (l':List UInt8) (w:World) (e:Ending) (w':World):Prop:=e=.returned (.tuple #[])∧WStJ B w' g m l'∧WFr 5 g w w'
theorem wput_any (s:ByteArray) {B g m:Nat} {l:List UInt8} (w:World) (h:WStJ B w g m l) (hs:l.length+s.size≤1000000) (hB:B≤w.heap.size):Calls Tryz.prog 215 #[.pointer (some ⟨g,0,none⟩),.string s] w (WPost B g m (l++s.data.toList) w):=by
 obtain ⟨ib,hib,hb0,hb1,hb2⟩:=info_parts Tryz.info5
 have hub:=Tryz.underlying73
 have hust:=Tryz.underlying9
 obtain ⟨v,h1,h2,h3,h4⟩:=h
 have c0:w.cell? ⟨g,0,none⟩=some v:=cell_blk h1 rfl
 obtain ⟨ao,cap,rfl,-,-⟩:=wown_form h2
 have HIB:=Hh hib
 have H1:=Hh h1
 have H2:=Hh h2
 have hss:s.data.toList.length=s.size:=by rw [Array.length_toList];rfl
 have ST:=Hh (fun (w8:World) (v':Value) (ho:w8.ownsRow B 5 1 v' (l.length+s.size) (bytesV l++Lib.strCells s)) (hg:w.grownBy w8 (Value.slice ao l.length cap).ownBlock)=>wst_step (l':=l++s.data.toList) h1 h2 h3 h4 twb (by rw [Lg,hss,bytesV_append];exact ho) hg)
 clear h1 h2 hib hss
 go_enter Tryz.func215,Tryz.ntmps215
 go_wp2_with (at_builtin;refine Lib.wpList_append_own_string _ rfl (.tmp 8) (.tmp 9) 73 9 rfl B 5 ib hub hust HIB.out hb0 hb1 hb2 _ l.length _ rfl H2.out s rfl (by unfold maxLen;omega) (by omega) hB ?_;intro v' w8 hown hgr hnil;obtain ⟨ao8,cap8,rfl,-,-⟩:=wown_form hown;obtain ⟨k8,st8,fr8⟩:=ST.out w8 _ hown hgr;(have F:=Hh (Ai st8 fr8));(have c8:w8.cell? ⟨g,0,none⟩=some _:=cell_blk k8 rfl);(have f8:w8.frozen? ⟨g,0,none⟩=false:=free_blk k8);clear st8 fr8 hown hgr hnil k8)
 go_end0
 exact ⟨rfl,F.out.1,F.out.2⟩
theorem wexc_any {B g m:Nat} {l:List UInt8} (w:World) (h:WStJ B w g m l):Calls Tryz.prog 194 #[.pointer (some ⟨g,0,none⟩)] w fun e w'=>e=.returned (.bool (decide (65536<l.length)))∧w=w':=by
 obtain ⟨v,h1,h2,-,-⟩:=h
 have c0:w.cell? ⟨g,0,none⟩=some v:=cell_blk h1 rfl
 obtain ⟨ao,cap,rfl,-,-⟩:=wown_form h2
 clear h1 h2
 by_cases hl:65536<l.length
 ·have hl':(65536:Int)<(l.length:Int):=by omega
  rw [decide_eq_true hl]
  go_enter Tryz.func194,Tryz.ntmps194
  go_wp2
  go_ret
  exact ⟨rfl,rfl⟩
 ·have hl':¬ (65536:Int)<(l.length:Int):=by omega
  rw [decide_eq_false hl]
  go_enter Tryz.func194,Tryz.ntmps194
  go_wp2
  go_ret
  exact ⟨by first | rfl | (refine congrArg (fun q=>Ending.returned (Value.bool q)) ?_;simp;omega),rfl⟩
theorem esc_letter {c l:UInt8} (h:letZ (c.toNat:Int)=some l):jEsc c=[92,l]:=by
 have:∀n:Fin 256,∀l,letZ ((UInt8.ofNat n.1).toNat:Int)=some l→jEsc (UInt8.ofNat n.1)=[92,l]:=by
  intro n l h
  have:∀n:Fin 256,(letZ ((UInt8.ofNat n.1).toNat:Int)).isSome=true→jEsc (UInt8.ofNat n.1)=[92,(letZ ((UInt8.ofNat n.1).toNat:Int)).getD 0]:=by decide +kernel
  rw [this n (by rw [h];rfl),h];rfl
 have hc:=this ⟨c.toNat,c.toNat_lt⟩ l
 rw [show UInt8.ofNat c.toNat=c from UInt8.ofNat_toNat] at hc
 exact hc h
theorem letter_none {x:Nat} (h:letZ (x:Int)=none):x ≠ 34∧x ≠ 92∧x ≠ 8∧x ≠ 9∧x ≠ 10∧x ≠ 12∧x ≠ 13:=by
 refine ⟨?_,?_,?_,?_,?_,?_,?_⟩ <;> (intro e;subst e;revert h;decide)
theorem char_any (c:UInt8) {B g m:Nat} {l:List UInt8} (w:World) (h:WStJ B w g m l) (hL:Letters w m) (hs:l.length+6≤1000000) (hB:B≤w.heap.size):Calls Tryz.prog 240 #[.pointer (some ⟨g,0,none⟩),.int .u8 (c.toNat:Int)] w (WPost B g m (l++jEsc c) w):=by
 obtain ⟨ib,hib,hb0,hb1,hb2⟩:=info_parts Tryz.info5
 have hub:=Tryz.underlying73
 have hc256:c.toNat<256:=c.toNat_lt
 have hlook:=hL.look (c:=(c.toNat:Int)) (by omega) (by omega)
 have W:=Hh h
 obtain ⟨v,h1,h2,h3,h4⟩:=h
 have c1:w.cell? ⟨g,1,none⟩=some (.map (some m)):=cell_blk h1 rfl
 cases hz:letZ (c.toNat:Int) with
 | some q=>
  have he:=esc_letter hz
  rw [hz] at hlook
  have P:=Hh (wput_any ((⟨#[92]⟩:ByteArray)++⟨#[q]⟩) w W.out (by rw [ByteArray.size_append];show l.length+(1+1)≤_;omega) hB)
  have hcat:¬9223372036854775807<1+1:=by omega
  rw [he,show [92,q]=((⟨#[92]⟩:ByteArray)++⟨#[q]⟩).data.toList by simp [ByteArray.data_append]]
  clear h1 h2 hib hz he hL
  go_enter Tryz.func240,Tryz.ntmps240
  go_wp2_with (go_at_call 215;(with_reducible refine (P.out).mono ?_);rintro e w1 ⟨rfl,hw1⟩)
  go_end0
  exact ⟨rfl,hw1⟩
 | none=>
  rw [hz] at hlook
  obtain ⟨n34,n92,n8,n9,n10,n12,n13⟩:=letter_none hz
  have c0:w.cell? ⟨g,0,none⟩=some v:=cell_blk h1 rfl
  by_cases hx:c.toNat<32
  ·have hx':(c.toNat:Int)<32:=by omega
   have he:=esc_c (c:=c) rfl hx n8 n9 n10 n12 n13
   have P:=Hh (wput_any ⟨#[92,117,48,48]⟩ w W.out (by show l.length+4≤_;omega) hB)
   obtain ⟨x,hxx⟩:∃x,x=c.toNat:=⟨_,rfl⟩
   rw [←hxx] at hx hx' he hlook hz ⊢
   have hx0:(0:Int)≤(x:Int):=by omega
   have hcv:IntKind.i64.wrap (x:Int)=(x:Int):=IntWalk.i64_in _ (by omega)
   obtain ⟨p,hp⟩:∃p,p=x / 16:=⟨_,rfl⟩
   obtain ⟨q,hq⟩:∃q,q=x % 16:=⟨_,rfl⟩
   have w1:IntKind.i64.wrap (p:Int)=(p:Int):=IntWalk.i64_in _ (by omega)
   have w2:(x:Int).tmod 16=(q:Int):=by rw [Int.tmod_eq_emod_of_nonneg (by omega)];omega
   have w3:(x:Int) / 16=(p:Int):=by omega
   have hp2:(p:Int)<16:=by omega
   have hp0:(0:Int)≤(p:Int):=by omega
   have hq2:(q:Int)<16:=by omega
   have hq0:(0:Int)≤(q:Int):=by omega
   have hpn:p<16:=by omega
   have hqn:q<16:=by omega
   have g1:=hex_get p hpn
   have g2:=hex_get q hqn
   rw [←hp,←hq] at he
   obtain ⟨u,hu⟩:∃u,u=hexD (UInt8.ofNat p):=⟨_,rfl⟩
   obtain ⟨y,hy⟩:∃y,y=hexD (UInt8.ofNat q):=⟨_,rfl⟩
   rw [←hu] at g1 he
   rw [←hy] at g2 he
   have HE:=Hh he
   have HIB:=Hh hib
   clear hu hy hp hq hz he hL hib h1 h2 hxx c0
   go_enter Tryz.func240,Tryz.ntmps240
   go_upto_region 5 with ((with_reducible refine (P.out).mono ?_);rintro e wp ⟨rfl,hst,hfr⟩)
   obtain ⟨v5,k1,k2,-,-⟩:=id hst
   obtain ⟨ao,cap,rfl,-,-⟩:=wown_form k2
   have hl4:(l++[92,117,48,48]).length=l.length+4:=by simp
   obtain ⟨l4,hl4e⟩:∃l4,l4=l++[92,117,48,48]:=⟨_,rfl⟩
   have k2':wp.ownsRow B 5 1 (.slice ao l4.length cap) l4.length (bytesV l4):=by rw [hl4e];exact k2
   have k1':wp.heap[g]?=some (.cells #[.slice ao l4.length cap,.map (some m)] 201 (0,0)):=by rw [hl4e];exact k1
   have hl4n:l4.length=l.length+4:=by rw [hl4e];exact hl4
   have cc:wp.drew.cell? ⟨g,0,none⟩=some (.slice ao l4.length cap):=cell_blk k1' rfl
   have hBw:B≤wp.heap.size:=Nat.le_trans hB hfr.1.size
   have HE5:Hid (l4++[u,y]=l++jEsc c):=Hh (by rw [HE.out,hl4e];simp)
   have K1:=Hh k1'
   have K2:=Hh k2'
   have FR:=Hh hfr
   have HL4N:=Hh hl4n
   clear k1 k2 k1' k2' hl4 hl4e hl4n hst hfr c1 hlook
   refine wp_region_plan (fun w'=>w'.cell? ⟨g,0,none⟩=some (.slice ao l4.length cap)) [4] (.take 0 (.take 1 (.take 2 (.take 3 (.take 4 (.take 5 (.take 6 (.take 7 (.take 8 (.take 9 (.take 10 (.take 11 (.take 12 (.ask 13 true (.ask 14 false (.ask 15 false (.ask 16 false (.ask 17 false .stop .stop) .stop) .stop) .stop) .stop)))))))))))))) (by kernel_rfl) (by kernel_rfl) (fun _ d _ _ _ h=>by cases d <;> exact h) cc ?_
   refine take_any _ ?_ rfl rfl ?_ (fun K hK=>?_);rotate_left;(intro w0;go_simp;(try rfl));(go_simp;refine hK _ ?_;clear hK K)
   refine take_any _ ?_ rfl rfl ?_ (fun K hK=>?_);rotate_left;(intro w0;go_simp;(try rfl));(go_simp;refine hK _ ?_;clear hK K)
   refine take_any _ ?_ rfl rfl ?_ (fun K hK=>?_);rotate_left;(intro w0;go_simp;(try rfl));(go_simp;refine hK _ ?_;clear hK K)
   refine take_any _ ?_ rfl rfl ?_ (fun K hK=>?_);rotate_left;(intro w0;go_simp;(try rfl));(go_simp;refine hK _ ?_;clear hK K)
   refine take_held _ ?_ rfl rfl (by decide) ?_ (fun K hK=>?_);rotate_left;(intro w0 hw0;go_simp;(try rfl));(go_simp;refine hK _ ?_;clear hK K)
   refine take_any _ ?_ rfl rfl ?_ (fun K hK=>?_);rotate_left;(intro w0;go_simp;(try rfl));(go_simp;refine hK _ ?_;clear hK K)
   refine take_any _ ?_ rfl rfl ?_ (fun K hK=>?_);rotate_left;(intro w0;go_simp;(try rfl));(go_simp;refine hK _ ?_;clear hK K)
   refine take_any _ ?_ rfl rfl ?_ (fun K hK=>?_);rotate_left;(intro w0;go_simp;(try rfl));(go_simp;refine hK _ ?_;clear hK K)
   refine take_any _ ?_ rfl rfl ?_ (fun K hK=>?_);rotate_left;(intro w0;go_simp;(try rfl));(go_simp;refine hK _ ?_;clear hK K)
   refine take_any _ ?_ rfl rfl ?_ (fun K hK=>?_);rotate_left;(intro w0;go_simp;(try rfl));(go_simp;refine hK _ ?_;clear hK K)
   refine take_any _ ?_ rfl rfl ?_ (fun K hK=>?_);rotate_left;(intro w0;go_simp;(try rfl));(go_simp;refine hK _ ?_;clear hK K)
   refine take_any _ ?_ rfl rfl ?_ (fun K hK=>?_);rotate_left;(intro w0;go_simp;(try rfl));(go_simp;refine hK _ ?_;clear hK K)
   refine take_any _ ?_ rfl rfl ?_ (fun K hK=>?_);rotate_left;(intro w0;go_simp;(try rfl));(go_simp;refine hK _ ?_;clear hK K)
   have bd:Below wp.heap.size wp wp.drew:=(Br _ _).drew
   have k1d:wp.drew.heap[g]?=_:=K1.out
   have k2d:wp.drew.ownsRow B 5 1 _ l4.length (bytesV l4):=K2.out
   have hzd:B≤wp.drew.heap.size:=hBw
   generalize wp.drew=wd at bd k1d k2d hzd cc ⊢
   have bA:=(Br wd.heap.size wd).alloc (o:=.cells #[.int .u8 (u.toNat:Int),.int .u8 (y.toNat:Int)] 5) (Lr _)
   have k1a:(wd.alloc (.cells #[.int .u8 (u.toNat:Int),.int .u8 (y.toNat:Int)] 5)).heap[g]?=_:=(bA.block g (lt_of_block k1d)).trans k1d
   have k2a:=k2d.alloc (.cells #[.int .u8 (u.toNat:Int),.int .u8 (y.toNat:Int)] 5)
   have CN:=Hh (cells_new wd #[.int .u8 (u.toNat:Int),.int .u8 (y.toNat:Int)] 5 [.int .u8 (u.toNat:Int),.int .u8 (y.toNat:Int)] rfl)
   have hza:B≤(wd.alloc (.cells #[.int .u8 (u.toNat:Int),.int .u8 (y.toNat:Int)] 5)).heap.size:=Nat.le_trans hzd bA.size
   have hca:(wd.alloc (.cells #[.int .u8 (u.toNat:Int),.int .u8 (y.toNat:Int)] 5)).cell? ⟨g,0,none⟩=some (.slice ao l4.length cap):=cell_blk k1a rfl
   have bAA:=bd.trans (bA.mono bd.size)
   clear k1d k2d bA cc bd
   refine ask_step _ rfl trivial ?_
   go_wp2_with fail
   generalize wd.alloc (.cells #[.int .u8 (u.toNat:Int),.int .u8 (y.toNat:Int)] 5)=wa at k1a k2a CN hza hca bAA ⊢
   refine Seg.mk ⟨hca,?_⟩
   have ST:=Hh (fun (w8:World) (v':Value) (ho:w8.ownsRow B 5 1 v' (l4.length+2) (bytesV l4++[.int .u8 (u.toNat:Int),.int .u8 (y.toNat:Int)])) (hg:wa.grownBy w8 (Value.slice ao l4.length cap).ownBlock)=>wst_step (l':=l4++[u,y]) k1a k2a h3 h4 twb (by rw [Lg,bytesV_append];exact ho) hg)
   have K2A:=Hh k2a
   have BAA:=Hh bAA
   clear k1a k2a bAA
   refine ask_late _ rfl trivial ?_
   go_wp2_with (refine wpList_append_lies _ rfl (.tmp 28) (.tmp 37) 73 rfl B 5 ib (.int .u8 0) 1 1 hub HIB.out hb0 hb1 hb2 rfl (by decide) _ l4.length _ rfl K2A.out ⟨wd.heap.size,0,none⟩ 2 2 [.int .u8 (u.toNat:Int),.int .u8 (y.toNat:Int)] rfl rfl CN.out (by intro z hz;simp only [List.mem_cons,List.not_mem_nil,or_false] at hz;rcases hz with rfl | rfl <;> rfl) (by decide) (by have:=HL4N.out;unfold maxLen;omega) (by have:=HL4N.out;omega) hza _ rfl ?_;intro gg cc8 w8 hown hgr hat hlt2)
   obtain ⟨k8,st8,fr8⟩:=ST.out w8 _ hown hgr
   have F:=Hh (Ai st8 fr8)
   have c8:w8.cell? ⟨g,0,none⟩=some _:=cell_blk k8 rfl
   have f8:w8.frozen? ⟨g,0,none⟩=false:=free_blk k8
   clear st8 fr8 hown hgr hat hlt2 k8
   refine Seg.mk ?_
   refine ask_late _ rfl trivial ?_
   go_wp2_with fail
   refine Seg.mk ?_
   refine ask_late _ rfl trivial ?_
   go_wp2_with fail
   refine Seg.mk ?_
   refine ask_last _ rfl trivial ?_
   go_wp2
   go_end0
   refine ⟨rfl,?_,FR.out.trans ((WFr.of_below BAA.out (by omega)).trans F.out.2)⟩
   have:=F.out.1
   rw [HE5.out] at this
   exact this
  ·have hx':¬ (c.toNat:Int)<32:=by omega
   have he:=esc_d (c:=c) rfl (by omega) n34 n92
   obtain ⟨ao,cap,rfl,-,-⟩:=wown_form h2
   have bA:=(Br w.heap.size w).alloc (o:=.cells #[.int .u8 (c.toNat:Int)] 5) (Lr _)
   have k1a:(w.alloc (.cells #[.int .u8 (c.toNat:Int)] 5)).heap[g]?=_:=(bA.block g (lt_of_block h1)).trans h1
   have k2a:=h2.alloc (.cells #[.int .u8 (c.toNat:Int)] 5)
   have ST:=Hh (fun (w8:World) (v':Value) (ho:w8.ownsRow B 5 1 v' (l.length+1) (bytesV l++[.int .u8 (c.toNat:Int)])) (hg:(w.alloc (.cells #[.int .u8 (c.toNat:Int)] 5)).grownBy w8 (Value.slice ao l.length cap).ownBlock)=>wst_step (l':=l++[c]) k1a k2a h3 h4 twb (by rw [Lg,bytesV_append];exact ho) hg)
   have K2A:=Hh k2a
   have BA:=Hh bA
   have HE:=Hh he
   have HIB:=Hh hib
   have hza:B≤(w.alloc (.cells #[.int .u8 (c.toNat:Int)] 5)).heap.size:=Nat.le_trans hB bA.size
   have hgl:=W.out.lt
   clear hz he hL hib h1 h2 k1a k2a bA
   go_enter Tryz.func240,Tryz.ntmps240
   go_wp2_with (refine wpList_append_lies _ rfl (.tmp 45) (.tmp 47) 73 rfl B 5 ib (.int .u8 0) 1 1 hub HIB.out hb0 hb1 hb2 rfl (by decide) _ l.length _ rfl K2A.out ⟨w.heap.size,0,none⟩ 1 1 [.int .u8 (c.toNat:Int)] rfl rfl (cells_new w #[.int .u8 (c.toNat:Int)] 5 [.int .u8 (c.toNat:Int)] rfl) (by intro z hz;simp only [List.mem_cons,List.not_mem_nil,or_false] at hz;rcases hz with rfl;rfl) (by decide) (by unfold maxLen;omega) (by omega) hza _ rfl ?_;intro gg cc8 w8 hown hgr hat hlt2;obtain ⟨k8,st8,fr8⟩:=ST.out w8 _ hown hgr;(have F:=Hh (Ai st8 fr8));(have c8:w8.cell? ⟨g,0,none⟩=some _:=cell_blk k8 rfl);(have f8:w8.frozen? ⟨g,0,none⟩=false:=free_blk k8);clear st8 fr8 hown hgr hat hlt2 k8)
   go_end0
   refine ⟨rfl,?_,(WFr.of_below BA.out (by omega)).trans F.out.2⟩
   rw [HE.out]
   exact F.out.1
theorem quoted_any (s:ByteArray) {B g m:Nat} {l:List UInt8} (w:World) (h:WStJ B w g m l) (hL:Letters w m) (hs:l.length+6 * s.size+2≤1000000) (hB:B≤w.heap.size):Calls Tryz.prog 216 #[.pointer (some ⟨g,0,none⟩),.string s] w (WPost B g m (l++quoteL s.data.toList) w):=by
 have hsz:s.data.toList.length=s.size:=by rw [Array.length_toList];rfl
 have HSZ:=Hh hsz
 have hss:s.size≤1000000:=by omega
 have P0:=Hh (wput_any ⟨#[34]⟩ w h (by show l.length+1≤_;omega) hB)
 have hml:=h.le
 have HL:=Hh hL
 have hlt0:=h.lt
 clear h hsz hL
 go_enter Tryz.func216,Tryz.ntmps216
 go_upto_region 2 with ((with_reducible refine (P0.out).mono ?_);rintro e w1 ⟨rfl,hst,hfr⟩)
 go_loopw [9] (fun i wr=>∃j:Nat,i=.int .i64 j∧j≤s.size∧WStJ B wr g m (l++34::(s.data.toList.take j).flatMap jEsc)∧WFr 5 g w wr) (fun i _=>s.size - (intOf i).toNat)
 case atStart=>exact ⟨0,rfl,Nat.zero_le _,hst,hfr⟩
 case round=>
  clear hst hfr
  obtain ⟨j,rfl,hj,hst,hfr⟩:=hrel
  have hBr:B≤wr.heap.size:=Nat.le_trans hB hfr.1.size
  have HLr:=Hh (HL.out.same (hfr.1.block m hml))
  by_cases hlt:j<s.size
  ·have hlt':(j:Int)<(s.size:Int):=by omega
   have hj0:(0:Int)≤(j:Int):=by omega
   have hcj:s.data.toList[j]?=some s[j]:=by rw [List.getElem?_eq_getElem (by have:=HSZ.out;omega)];rfl
   have hlen:(l++34::(s.data.toList.take j).flatMap jEsc).length+6≤1000000:=by
    rw [Lg,List.length_cons]
    have:=flatEsc_le (s.data.toList.take j)
    rw [List.length_take] at this
    omega
   have C:=Hh (fun c=>char_any c wr hst HLr.out hlen hBr)
   have HFR:=Hh hfr
   clear hst hfr
   go_upto_region 4 with fail
   have HCJ:=Hh hcj
   clear hcj
   go_wp2_with (go_at_call 240;(with_reducible refine (C.out _).mono ?_);rintro e w2 ⟨rfl,hst2,hfr2⟩)
   go_roundw
   case rel=>
    refine ⟨j+1,by go_num,by omega,?_,HFR.out.trans hfr2⟩
    have e:l++34::(s.data.toList.take (j+1)).flatMap jEsc=(l++34::(s.data.toList.take j).flatMap jEsc)++jEsc s[j]:=by
     rw [List.take_add_one,HCJ.out,List.flatMap_append]
     simp
    rw [e];exact hst2
   case measure=>simp [intOf];omega
  ·have hlt':¬ (j:Int)<(s.size:Int):=by omega
   rw [List.take_of_length_le (by have:=HSZ.out;omega)] at hst
   have P1:=Hh (wput_any ⟨#[34]⟩ wr hst (by
    show (l++34::s.data.toList.flatMap jEsc).length+1≤_
    rw [Lg,List.length_cons]
    have:=flatEsc_le s.data.toList
    have:=HSZ.out
    omega) hBr)
   have HFR:=Hh hfr
   clear hst hfr
   go_wp2_with (go_at_call 215;(with_reducible refine (P1.out).mono ?_);rintro e w2 ⟨rfl,hst2,hfr2⟩)
   go_end0
   refine ⟨rfl,?_,HFR.out.trans hfr2⟩
   have e:l++quoteL s.data.toList=(l++34::s.data.toList.flatMap jEsc)++[34]:=by unfold quoteL;simp
   rw [e];exact hst2
end Go.Proofs.YtcklddldejejcaaGreatDoor