/- The parser: node, at any depth. -/
import Derived.Test.YtdppdonaojdceaaGreatDoorJits
set_option linter.unusedVariables false
set_option linter.unusedSimpArgs false
set_option maxHeartbeats 6400000
set_option maxRecDepth 100000
namespace Go.Proofs.YtdppdonaojdceaaGreatDoor
open Go Go.ChangeShapes Go.WideShapes Go.ChangeAt Go.RowKit
theorem val_list {d:Nat} {q t:List UInt8} {y:ND} (h:valueP (d+1) (91::q)=some (y,t)):∃n0 ns its,itemsP (valueP d) (decide ((4:Int)=5)) 93 n0 [] [] q=some ((ns,its),t)∧y=.mk 4 false 0 ⟨#[]⟩ ns its:=by
 rw [valueP_other d 91 q (by decide) (by decide) (by decide),if_neg (by decide),if_pos rfl] at h
 cases hi:itemsP (valueP d) false 93 (q.length+1) [] [] q with
 | none=>rw [hi] at h;cases h
 | some z=>
  obtain ⟨⟨ns,its⟩,t'⟩:=z
  rw [hi] at h
  cases h
  exact ⟨q.length+1,ns,its,hi,rfl⟩
theorem val_map {d:Nat} {q t:List UInt8} {y:ND} (h:valueP (d+1) (123::q)=some (y,t)):∃n0 ns its,itemsP (valueP d) (decide ((5:Int)=5)) 125 n0 [] [] q=some ((ns,its),t)∧y=.mk 5 false 0 ⟨#[]⟩ ns its:=by
 rw [valueP_other d 123 q (by decide) (by decide) (by decide),if_neg (by decide),if_neg (by decide),if_pos rfl] at h
 cases hi:itemsP (valueP d) true 125 (q.length+1) [] [] q with
 | none=>rw [hi] at h;cases h
 | some z=>
  obtain ⟨⟨ns,its⟩,t'⟩:=z
  rw [hi] at h
  cases h
  exact ⟨q.length+1,ns,its,hi,rfl⟩
theorem val_text {d:Nat} {q t:List UInt8} {y:ND} (h:valueP (d+1) (34::q)=some (y,t)):∃s,quotedP q=some (s,t)∧y=.mk 3 false 0 (bA s) [] []:=by
 rw [valueP_other d 34 q (by decide) (by decide) (by decide),if_pos rfl] at h
 cases hi:quotedP q with
 | none=>rw [hi] at h;cases h
 | some z=>
  obtain ⟨s,t'⟩:=z
  rw [hi] at h
  cases h
  exact ⟨s,rfl,rfl⟩
theorem val_nil (d:Nat):valueP d []=none:=by
 cases d with
 | zero=>rfl
 | succ d=>unfold valueP;rw [if_pos rfl]
theorem no_pre {c:UInt8} {r:List UInt8} (h:Lib.hasPrefix r [c]=false) (q:List UInt8):r ≠ c::q:=by
 rintro rfl
 rw [has34] at h
 simp at h
theorem rpost_up {V:ND→List UInt8→Prop} {g mw mc:Nat} {r:List UInt8} {w:World} {e:Ending} {w':World} (D:Nat) (h:RPost V 0 g mw mc r w e w'):RPost V D g mw mc r w e w':=by
 obtain ⟨cs,x,ok,r',h1,h2,h3,h4,h5,⟨-,h7⟩,h8⟩:=h
 have hi:x.items=[]:=by
  obtain ⟨vn,vi,-,-,-,a,c,-,-,-,hx⟩:=h2
  refine List.eq_nil_iff_forall_not_mem.2 fun y hy=>?_
  obtain ⟨j,hj⟩:=List.getElem?_of_mem hy
  obtain ⟨b,off,cs,-,-,-,hf⟩:=hx j y hj
  exact hf
 refine ⟨cs,x,ok,r',h1,h2.deeper (by omega),h3,h4,h5,⟨⟨by rw [hi];simp,fun y hy=>by rw [hi] at hy;simp at hy⟩,?_⟩,h8⟩
 rw [numsB_succ,Bool.and_eq_true] at h7 ⊢
 exact ⟨h7.1,by rw [hi];rfl⟩
theorem rpost_on {V:ND→List UInt8→Prop} {d g mw mc:Nat} {r:List UInt8} {w wX wY:World} {x:ND} {ok:Bool} {r':List UInt8} {a1 a2:Option Addr} {l1 c1 l2 c2:Nat}
 (hn:NodeIn (d+1) (fun b=>wX.heap.size≤b∧b<wY.heap.size) wY [.int .i64 x.kind,.bool x.bool,.int .i64 x.num,.string x.text,.slice a1 l1 c1,.slice a2 l2 c2] x) (hX:w.heap.size<wX.heap.size) (hp:PrS wY g mw mc r') (hg:w.grownBy wY (some g)) (hgw:g<w.heap.size) (hl:r'.length≤r.length) (hf:lowV (d+1) x∧numsB (d+1) x=true) (hV:∀y t,V y t→ok=true∧x=y∧r'=t) :
 RPost V d g mw mc r w (.returned (.tuple #[.agg #[.int .i64 x.kind,.bool x.bool,.int .i64 x.num,.string x.text,.slice a1 l1 c1,.slice a2 l2 c2],.bool ok])) (set6 wY w.heap.size (.int .i64 x.kind) (.bool x.bool) (.int .i64 x.num) (.string x.text) (.slice a1 l1 c1) (.slice a2 l2 c2)):=by
 have hgs:=grown_set6 wY w.heap.size (.int .i64 x.kind) (.bool x.bool) (.int .i64 x.num) (.string x.text) (.slice a1 l1 c1) (.slice a2 l2 c2)
 refine ⟨[.int .i64 x.kind,.bool x.bool,.int .i64 x.num,.string x.text,.slice a1 l1 c1,.slice a2 l2 c2],x,ok,r',rfl,?_,hp.kept hgs hgw,grown_new hg hgs (Lr _),hl,hf,hV⟩
 exact (hn.same fun b hb=>hgs.block b hb.2 (by intro e;have:=Option.some.inj e;omega)).mono fun b hb=>⟨by omega,Ll hb.2 hgs.size⟩
theorem pnode_zero:PNodeAt 0:=by
 intro g mw mc r w h hr
 have hgw:=h.lt
 have bA':=(Br w.heap.size w).alloc (o:=.cells #[.int .i64 0,.bool false,.int .i64 0,.string ⟨#[]⟩,.slice none 0 0,.slice none 0 0] 30) (Lr _)
 have h0:=h.below bA'
 have hr0:=Hn w (.cells #[.int .i64 0,.bool false,.int .i64 0,.string ⟨#[]⟩,.slice none 0 0,.slice none 0 0] 30)
 have hg0:=galloc w (.cells #[.int .i64 0,.bool false,.int .i64 0,.string ⟨#[]⟩,.slice none 0 0,.slice none 0 0] 30) (some g)
 have hz0:w.heap.size<(w.alloc (.cells #[.int .i64 0,.bool false,.int .i64 0,.string ⟨#[]⟩,.slice none 0 0,.slice none 0 0] 30)).heap.size:=by simp
 have HP:=Hh (Ai h0 hg0)
 have HR:=Hh hr0
 have f1:=free_six hr0
 have c1:=six_of hr0
 clear h bA' h0 hg0 hr0
 go_enter Tryz.func67,Tryz.ntmps67
 go_upto_region 1 with fail
 generalize w.alloc (.cells #[.int .i64 0,.bool false,.int .i64 0,.string ⟨#[]⟩,.slice none 0 0,.slice none 0 0] 30)=w0 at HP HR f1 c1 ⊢
 go_wp2
 refine ret_node (v:=.bool false) HR.out Tryz.results67 rfl rfl rfl ?_
 exact leaf_res (T:=0) 0 false 0 ⟨#[]⟩ false HP.out.1 HP.out.2 hgw (Lr _) (by decide) (by decide) (fun y t hV=>by have:=hV.1;cases this)
theorem pnode_step (d:Nat) (hd20:d≤20) (PN:PNodeAt d):PNodeAt (d+1):=by
 intro g mw mc r w h hr
 rw [show ((d+1:Nat):Int)=(d:Int)+1 by omega]
 have hgw:=h.lt
 have bA':=(Br w.heap.size w).alloc (o:=.cells #[.int .i64 0,.bool false,.int .i64 0,.string ⟨#[]⟩,.slice none 0 0,.slice none 0 0] 30) (Lr _)
 have h0:=h.below bA'
 have hr0:=Hn w (.cells #[.int .i64 0,.bool false,.int .i64 0,.string ⟨#[]⟩,.slice none 0 0,.slice none 0 0] 30)
 have hg0:=galloc w (.cells #[.int .i64 0,.bool false,.int .i64 0,.string ⟨#[]⟩,.slice none 0 0,.slice none 0 0] 30) (some g)
 have hz0:w.heap.size<(w.alloc (.cells #[.int .i64 0,.bool false,.int .i64 0,.string ⟨#[]⟩,.slice none 0 0,.slice none 0 0] 30)).heap.size:=by simp
 cases hp91:Lib.hasPrefix r [91] with
 | true=>
  have hrr0:=prefix_split hp91
  obtain ⟨q,hq⟩:∃q,q=r.drop 1:=⟨_,rfl⟩
  have hrr:r=91::q:=by rw [hq];exact hrr0
  have hql:q.length+1=r.length:=by rw [hrr];rfl
  have S91:Hid (∀wx:World,PrS wx g mw mc r→Calls Tryz.prog 98 #[.pointer (some ⟨g,0,none⟩),.string ⟨#[91]⟩] wx (PPost g mw mc wx (.bool true) q)):=Hh fun wx hx=>by
   have:=skip_any ⟨#[91]⟩ wx hx
   rw [show (⟨#[91]⟩:ByteArray).data.toList=[91] from rfl,hp91,trim_true hp91] at this
   rw [hq];exact this
  have HRR:=Hh hrr
  clear hrr0 hrr hq hp91
  have IT:=Hh (fun (wx:World) (hx:PrS wx g mw mc q)=>pitems_any d hd20 PN 4 93 (by decide) wx hx (by omega))
  have HV0:Hid (∀y t,(valueP (d+1) r=some (y,t)∧endR t)→PItemsIs d 4 93 q y t):=Hh fun y t hy=>by rw [HRR.out] at hy;exact val_list hy.1
  clear h PN HRR
  have h1d:¬ (d:Int)+1<1:=by omega
  go_enter Tryz.func67,Tryz.ntmps67
  go_upto_region 1 with fail
  generalize w.alloc (.cells #[.int .i64 0,.bool false,.int .i64 0,.string ⟨#[]⟩,.slice none 0 0,.slice none 0 0] 30)=w0 at h0 hr0 hg0 hz0 ⊢
  have HR:=Hh hr0
  clear hr0 bA'
  go_wp2_with (first | (go_at_call 98;(with_reducible refine (S91.out _ h0).mono ?_);rintro e1 w1 ⟨rfl,hp1,hg1⟩) | (go_at_call 99;(with_reducible refine (IT.out _ hp1).mono ?_);rintro e5 w5 ⟨cs,x,ok,r',rfl,hnode,hp5,hg5,hl5,hf5,hv5⟩;go_loud ((obtain ⟨a1,l1,c1,a2,l2,c2,hcs⟩:=hnode.slices);subst hcs;(have hr9:=keepG (gtrans hg1 hg5) (by omega) HR.out);(have f9:=free_six hr9);(have c9:=six_of hr9);(have HR9:=Hh hr9);(have HN:=Hh (Ai hnode (Ai hp5 hf5)));(have HG:=Hh (Ai (hg1).size (gtrans hg1 hg5)));(have HL:Hid (r'.length≤r.length):=Hh (by omega));(have HVV:Hid (∀y t,(valueP (d+1) r=some (y,t)∧endR t)→ok=true∧x=y∧r'=t):=Hh fun y t hy=>hv5 y t (HV0.out y t hy));clear hr9 hnode hp5 hf5 hg5 hv5)))
  refine ret_node (v:=.bool ok) HR9.out Tryz.results67 rfl rfl rfl ?_
  exact rpost_on HN.out.1 (Ll hz0 HG.out.1) HN.out.2.1 (gtrans hg0 HG.out.2) hgw HL.out HN.out.2.2 HVV.out
 | false=>
  cases hp123:Lib.hasPrefix r [123] with
  | true=>
   have S91:Hid (∀wx:World,PrS wx g mw mc r→Calls Tryz.prog 98 #[.pointer (some ⟨g,0,none⟩),.string ⟨#[91]⟩] wx (PPost g mw mc wx (.bool false) r)):=Hh fun wx hx=>by
    have:=skip_any ⟨#[91]⟩ wx hx
    rw [show (⟨#[91]⟩:ByteArray).data.toList=[91] from rfl,hp91,trim_false hp91] at this
    exact this
   clear hp91
   have hrr0:=prefix_split hp123
   obtain ⟨q,hq⟩:∃q,q=r.drop 1:=⟨_,rfl⟩
   have hrr:r=123::q:=by rw [hq];exact hrr0
   have hql:q.length+1=r.length:=by rw [hrr];rfl
   have S123:Hid (∀wx:World,PrS wx g mw mc r→Calls Tryz.prog 98 #[.pointer (some ⟨g,0,none⟩),.string ⟨#[123]⟩] wx (PPost g mw mc wx (.bool true) q)):=Hh fun wx hx=>by
    have:=skip_any ⟨#[123]⟩ wx hx
    rw [show (⟨#[123]⟩:ByteArray).data.toList=[123] from rfl,hp123,trim_true hp123] at this
    rw [hq];exact this
   have HRR:=Hh hrr
   clear hrr0 hrr hq hp123
   have IT:=Hh (fun (wx:World) (hx:PrS wx g mw mc q)=>pitems_any d hd20 PN 5 125 (by decide) wx hx (by omega))
   have HV0:Hid (∀y t,(valueP (d+1) r=some (y,t)∧endR t)→PItemsIs d 5 125 q y t):=Hh fun y t hy=>by rw [HRR.out] at hy;exact val_map hy.1
   clear h PN HRR
   have h1d:¬ (d:Int)+1<1:=by omega
   go_enter Tryz.func67,Tryz.ntmps67
   go_upto_region 1 with fail
   generalize w.alloc (.cells #[.int .i64 0,.bool false,.int .i64 0,.string ⟨#[]⟩,.slice none 0 0,.slice none 0 0] 30)=w0 at h0 hr0 hg0 hz0 ⊢
   have HR:=Hh hr0
   clear hr0 bA'
   go_wp2_with (first | (go_at_call 98;(with_reducible refine (S91.out _ h0).mono ?_);rintro e1 w1 ⟨rfl,hp1,hg1⟩) | (go_at_call 98;(with_reducible refine (S123.out _ hp1).mono ?_);rintro e2 w2 ⟨rfl,hp2,hg2⟩) | (go_at_call 99;(with_reducible refine (IT.out _ hp2).mono ?_);rintro e5 w5 ⟨cs,x,ok,r',rfl,hnode,hp5,hg5,hl5,hf5,hv5⟩;go_loud ((obtain ⟨a1,l1,c1,a2,l2,c2,hcs⟩:=hnode.slices);subst hcs;(have hr9:=keepG (gtrans (gtrans hg1 hg2) hg5) (by omega) HR.out);(have f9:=free_six hr9);(have c9:=six_of hr9);(have HR9:=Hh hr9);(have HN:=Hh (Ai hnode (Ai hp5 hf5)));(have HG:=Hh (Ai ((gtrans hg1 hg2)).size (gtrans (gtrans hg1 hg2) hg5)));(have HL:Hid (r'.length≤r.length):=Hh (by omega));(have HVV:Hid (∀y t,(valueP (d+1) r=some (y,t)∧endR t)→ok=true∧x=y∧r'=t):=Hh fun y t hy=>hv5 y t (HV0.out y t hy));clear hr9 hnode hp5 hf5 hg5 hv5)))
   refine ret_node (v:=.bool ok) HR9.out Tryz.results67 rfl rfl rfl ?_
   exact rpost_on HN.out.1 (Ll hz0 HG.out.1) HN.out.2.1 (gtrans hg0 HG.out.2) hgw HL.out HN.out.2.2 HVV.out
  | false=>
   cases hp34:Lib.hasPrefix r [34] with
   | true=>
    have S91:Hid (∀wx:World,PrS wx g mw mc r→Calls Tryz.prog 98 #[.pointer (some ⟨g,0,none⟩),.string ⟨#[91]⟩] wx (PPost g mw mc wx (.bool false) r)):=Hh fun wx hx=>by
     have:=skip_any ⟨#[91]⟩ wx hx
     rw [show (⟨#[91]⟩:ByteArray).data.toList=[91] from rfl,hp91,trim_false hp91] at this
     exact this
    have S123:Hid (∀wx:World,PrS wx g mw mc r→Calls Tryz.prog 98 #[.pointer (some ⟨g,0,none⟩),.string ⟨#[123]⟩] wx (PPost g mw mc wx (.bool false) r)):=Hh fun wx hx=>by
     have:=skip_any ⟨#[123]⟩ wx hx
     rw [show (⟨#[123]⟩:ByteArray).data.toList=[123] from rfl,hp123,trim_false hp123] at this
     exact this
    clear hp91 hp123
    have hrr0:=prefix_split hp34
    obtain ⟨q,hq⟩:∃q,q=r.drop 1:=⟨_,rfl⟩
    have hrr:r=34::q:=by rw [hq];exact hrr0
    have hql:q.length+1=r.length:=by rw [hrr];rfl
    have S34:Hid (∀wx:World,PrS wx g mw mc r→Calls Tryz.prog 98 #[.pointer (some ⟨g,0,none⟩),.string ⟨#[34]⟩] wx (PPost g mw mc wx (.bool true) q)):=Hh fun wx hx=>by
     have:=skip_any ⟨#[34]⟩ wx hx
     rw [show (⟨#[34]⟩:ByteArray).data.toList=[34] from rfl,hp34,trim_true hp34] at this
     rw [hq];exact this
    have HRR:=Hh hrr
    clear hrr0 hrr hq hp34
    have QT:=Hh (fun (wx:World) (hx:PrS wx g mw mc q)=>pquoted_any wx hx (by omega))
    have HV0:Hid (∀y t,(valueP (d+1) r=some (y,t)∧endR t)→∃s,quotedP q=some (s,t)∧y=.mk 3 false 0 (bA s) [] []):=Hh fun y t hy=>by rw [HRR.out] at hy;exact val_text hy.1
    clear h PN HRR
    have h1d:¬ (d:Int)+1<1:=by omega
    go_enter Tryz.func67,Tryz.ntmps67
    go_upto_region 1 with fail
    generalize w.alloc (.cells #[.int .i64 0,.bool false,.int .i64 0,.string ⟨#[]⟩,.slice none 0 0,.slice none 0 0] 30)=w0 at h0 hr0 hg0 hz0 ⊢
    have HR:=Hh hr0
    clear hr0 bA'
    go_wp2_with (first | (go_at_call 98;(with_reducible refine (S91.out _ h0).mono ?_);rintro e1 w1 ⟨rfl,hp1,hg1⟩) | (go_at_call 98;(with_reducible refine (S123.out _ hp1).mono ?_);rintro e2 w2 ⟨rfl,hp2,hg2⟩) | (go_at_call 98;(with_reducible refine (S34.out _ hp2).mono ?_);rintro e3 w3 ⟨rfl,hp3,hg3⟩) | (go_at_call 100;(with_reducible refine (QT.out _ hp3).mono ?_);rintro e5 w5 ⟨sl,ok,r',rfl,hp5,hg5,hl5,hq5⟩;(have NT:=Hh (ntext_any (bA sl) w5));(have HQ5:=Hh hq5);clear hq5) | (go_at_call 91;(with_reducible refine (NT.out).mono ?_);rintro e6 w6 ⟨rfl,hb6⟩;(have hg9:=gtrans (gtrans (gtrans (gtrans hg1 hg2) hg3) hg5) (grown_of_below hb6 (Lr _) _));(have hr9:=keepG hg9 (by omega) HR.out);(have f9:=free_six hr9);(have c9:=six_of hr9);(have HR9:=Hh hr9);(have HP9:=Hh (Ai (hp5.below hb6) (gtrans hg0 hg9)));clear hr9 hg9))
    refine ret_node (v:=.bool ok) HR9.out Tryz.results67 rfl rfl rfl ?_
    exact leaf_res (T:=0) 3 false 0 (bA sl) ok HP9.out.1 HP9.out.2 hgw (by omega) (by rw [bA_size];unfold maxLen;omega) (by decide) (fun y t hV=>by
     obtain ⟨s',e1,e2⟩:=HV0.out y t hV
     obtain ⟨h1,h2,h3⟩:=HQ5.out s' t e1
     subst h2
     exact ⟨h1,e2.symm,h3⟩)
   | false=>
    have S91:Hid (∀wx:World,PrS wx g mw mc r→Calls Tryz.prog 98 #[.pointer (some ⟨g,0,none⟩),.string ⟨#[91]⟩] wx (PPost g mw mc wx (.bool false) r)):=Hh fun wx hx=>by
     have:=skip_any ⟨#[91]⟩ wx hx
     rw [show (⟨#[91]⟩:ByteArray).data.toList=[91] from rfl,hp91,trim_false hp91] at this
     exact this
    have S123:Hid (∀wx:World,PrS wx g mw mc r→Calls Tryz.prog 98 #[.pointer (some ⟨g,0,none⟩),.string ⟨#[123]⟩] wx (PPost g mw mc wx (.bool false) r)):=Hh fun wx hx=>by
     have:=skip_any ⟨#[123]⟩ wx hx
     rw [show (⟨#[123]⟩:ByteArray).data.toList=[123] from rfl,hp123,trim_false hp123] at this
     exact this
    have S34:Hid (∀wx:World,PrS wx g mw mc r→Calls Tryz.prog 98 #[.pointer (some ⟨g,0,none⟩),.string ⟨#[34]⟩] wx (PPost g mw mc wx (.bool false) r)):=Hh fun wx hx=>by
     have:=skip_any ⟨#[34]⟩ wx hx
     rw [show (⟨#[34]⟩:ByteArray).data.toList=[34] from rfl,hp34,trim_false hp34] at this
     exact this
    have BR:=Hh (fun (wx:World) (hx:PrS wx g mw mc r)=>(bare_any wx hx hr).mono fun e w' hh=>rpost_up (d+1) hh)
    have HV0:Hid (∀y t,(valueP (d+1) r=some (y,t)∧endR t)→BareIs r y t):=Hh fun y t hy=>by
     cases hrr:r with
     | nil=>rw [hrr,val_nil] at hy;cases hy.1
     | cons c q=>
      rw [hrr] at hy
      exact bare_val hy.1 (fun e=>no_pre hp34 q (by rw [hrr,e])) (fun e=>no_pre hp91 q (by rw [hrr,e])) (fun e=>no_pre hp123 q (by rw [hrr,e])) hy.2
    clear h PN hp91 hp123 hp34
    have h1d:¬ (d:Int)+1<1:=by omega
    go_enter Tryz.func67,Tryz.ntmps67
    go_upto_region 1 with fail
    generalize w.alloc (.cells #[.int .i64 0,.bool false,.int .i64 0,.string ⟨#[]⟩,.slice none 0 0,.slice none 0 0] 30)=w0 at h0 hr0 hg0 hz0 ⊢
    have HR:=Hh hr0
    clear hr0 bA'
    go_wp2_with (first | (go_at_call 98;(with_reducible refine (S91.out _ h0).mono ?_);rintro e1 w1 ⟨rfl,hp1,hg1⟩) | (go_at_call 98;(with_reducible refine (S123.out _ hp1).mono ?_);rintro e2 w2 ⟨rfl,hp2,hg2⟩) | (go_at_call 98;(with_reducible refine (S34.out _ hp2).mono ?_);rintro e3 w3 ⟨rfl,hp3,hg3⟩) | (go_at_call 101;(with_reducible refine (BR.out _ hp3).mono ?_);rintro e5 w5 ⟨cs,x,ok,r',rfl,hnode,hp5,hg5,hl5,hf5,hv5⟩;go_loud ((obtain ⟨a1,l1,c1,a2,l2,c2,hcs⟩:=hnode.slices);subst hcs;(have hr9:=keepG (gtrans (gtrans (gtrans hg1 hg2) hg3) hg5) (by omega) HR.out);(have f9:=free_six hr9);(have c9:=six_of hr9);(have HR9:=Hh hr9);(have HN:=Hh (Ai hnode (Ai hp5 hf5)));(have HG:=Hh (Ai ((gtrans (gtrans hg1 hg2) hg3)).size (gtrans (gtrans (gtrans hg1 hg2) hg3) hg5)));(have HL:Hid (r'.length≤r.length):=Hh (hl5));(have HVV:Hid (∀y t,(valueP (d+1) r=some (y,t)∧endR t)→ok=true∧x=y∧r'=t):=Hh fun y t hy=>hv5 y t (HV0.out y t hy));clear hr9 hnode hp5 hf5 hg5 hv5)))
    refine ret_node (v:=.bool ok) HR9.out Tryz.results67 rfl rfl rfl ?_
    exact rpost_on HN.out.1 (Ll hz0 HG.out.1) HN.out.2.1 (gtrans hg0 HG.out.2) hgw HL.out HN.out.2.2 HVV.out
theorem pnode_any:∀d,d≤20→PNodeAt d
 | 0,_=>pnode_zero
 | d+1,h=>pnode_step d (by omega) (pnode_any d (by omega))
def DecIs (s:ByteArray) (x:ND) (er:Int):Prop:=(er=0∧validN 8 x=true∧numsB 8 x=true∧writeN 8 x=s.data.toList∧s.size≤65536)∨(er=4∧x=nd0∧∀y,validN 8 y=true→numsB 8 y=true→s.size≤65536→writeN 8 y ≠ s.data.toList)
def DecPost (s:ByteArray) (w:World) (e:Ending) (w':World):Prop:=∃ (cs:List Value) (x:ND) (er:Int),e=.returned (.tuple #[.agg cs.toArray,.int .i64 er])∧NodeIn 9 (fun b=>w.heap.size≤b∧b<w'.heap.size) w' cs x∧Below w.heap.size w w'∧DecIs s x er
theorem dec_none {s:ByteArray} {w wx:World} (hb:Below w.heap.size w wx) (hV:DecIs s nd0 4) :
 DecPost s w (.returned (.tuple #[.agg #[.int .i64 0,.bool false,.int .i64 0,.string ⟨#[]⟩,.slice none 0 0,.slice none 0 0],.int .i64 4])) (set6 wx w.heap.size (.int .i64 0) (.bool false) (.int .i64 0) (.string ⟨#[]⟩) (.slice none 0 0) (.slice none 0 0)):=by
 have hgs:=grown_set6 wx w.heap.size (.int .i64 0) (.bool false) (.int .i64 0) (.string ⟨#[]⟩) (.slice none 0 0) (.slice none 0 0)
 exact ⟨[.int .i64 0,.bool false,.int .i64 0,.string ⟨#[]⟩,.slice none 0 0,.slice none 0 0],nd0,4,rfl,(node_leaf _ _ 0 false 0 ⟨#[]⟩ (by decide)).deeper (by decide),hb.grown hgs hb.size (fun k hk=>by cases hk;exact Lr _),hV⟩
theorem jdec_any (s:ByteArray) (w:World) (hT:Utab w) (hI:Itab w) (hE:EVars w):Calls Tryz.prog 40 #[.string s] w (DecPost s w):=by
 have b0:=(Br w.heap.size w).alloc (o:=.cells #[.int .i64 0,.bool false,.int .i64 0,.string ⟨#[]⟩,.slice none 0 0,.slice none 0 0] 30) (Lr _)
 have hr0:=Hn w (.cells #[.int .i64 0,.bool false,.int .i64 0,.string ⟨#[]⟩,.slice none 0 0,.slice none 0 0] 30)
 have hz0:w.heap.size<(w.alloc (.cells #[.int .i64 0,.bool false,.int .i64 0,.string ⟨#[]⟩,.slice none 0 0,.slice none 0 0] 30)).heap.size:=by simp
 by_cases hl:65536<s.size
 ·have hl':(65536:Int)<(s.size:Int):=by omega
  have HV:Hid (DecIs s nd0 4):=Hh (.inr ⟨rfl,rfl,fun y _ _ h=>absurd h (by omega)⟩)
  have B0:=Hh b0
  have HR:=Hh hr0
  have f1:=free_six hr0
  have c1:=six_of hr0
  clear hl b0 hr0
  go_enter Tryz.func40,Tryz.ntmps40
  go_upto_region 1 with fail
  generalize w.alloc (.cells #[.int .i64 0,.bool false,.int .i64 0,.string ⟨#[]⟩,.slice none 0 0,.slice none 0 0] 30)=w0 at B0 HR f1 c1 ⊢
  go_wp2
  refine ret_node (v:=.int .i64 4) HR.out Tryz.results40 rfl rfl rfl ?_
  exact dec_none B0.out HV.out
 ·have hl':¬ (65536:Int)<(s.size:Int):=by omega
  have hsl:s.data.toList.length=s.size:=by rw [Array.length_toList];rfl
  have HT:=Hh (Ai hT (Ai hI hE))
  have HL:=Hh hl
  clear hT hI hE hl
  go_enter Tryz.func40,Tryz.ntmps40
  go_upto_region 1 with fail
  obtain ⟨w0,hw0⟩:∃W,W=w.alloc (.cells #[.int .i64 0,.bool false,.int .i64 0,.string ⟨#[]⟩,.slice none 0 0,.slice none 0 0] 30):=⟨_,rfl⟩
  rw [←hw0] at b0 hr0 hz0
  rw [←hw0]
  clear hw0
  have HR:=Hh hr0
  have B0:=Hh b0
  have WD:=Hh (fun wx=>words_any wx)
  have CD:=Hh (fun wx=>chars_any wx)
  clear hr0 b0
  go_upto_region 4 with (first
   | (go_at_call 65;(with_reducible refine (WD.out _).mono ?_);rintro e1 w1 ⟨rfl,hw1,hb1⟩)
   | (go_at_call 66;(with_reducible refine (CD.out _).mono ?_);rintro e2 w2 ⟨rfl,hc2,hb2⟩))
  have hb3:=(Br w2.heap.size w2).alloc (o:=.cells #[.string s,.map (some w0.heap.size),.map (some w1.heap.size)] 88) (Lr _)
  have hg3:=Hn w2 (.cells #[.string s,.map (some w0.heap.size),.map (some w1.heap.size)] 88)
  obtain ⟨w3,hw3⟩:∃W,W=w2.alloc (.cells #[.string s,.map (some w0.heap.size),.map (some w1.heap.size)] 88):=⟨_,rfl⟩
  rw [←hw3] at hb3 hg3
  rw [←hw3]
  clear hw3
  have hW2:=hw1.same (hb2.block _ hw1.lt)
  have hp3:PrS w3 w2.heap.size w0.heap.size w1.heap.size s.data.toList:=by
   have hB03:=B0.out.trans ((hb1.trans ((hb2.trans (hb3.mono hb2.size)).mono hb1.size)).mono B0.out.size)
   obtain ⟨⟨t,p,e1⟩,⟨t',p',e2⟩⟩:=HT.out.2.2
   have l1:4<w.heap.size:=cell_lt e1
   have l2:5<w.heap.size:=cell_lt e2
   have z1:=B0.out.size
   have z2:=hb1.size
   have z3:=hb2.size
   refine ⟨by rw [bA_of];exact hg3,hW2.same (hb3.block _ hW2.lt),hc2.same (hb3.block _ hc2.lt),⟨Ll hw1.lt z3,hc2.lt⟩,HT.out.2.2.below hB03,by omega,by omega⟩
  have hB3:=B0.out.trans ((hb1.trans ((hb2.trans (hb3.mono hb2.size)).mono hb1.size)).mono B0.out.size)
  have hgw:w.heap.size≤w2.heap.size:=Nat.le_trans B0.out.size (Nat.le_trans hb1.size hb2.size)
  have hg0w:w0.heap.size≤w3.heap.size:=Nat.le_trans hb1.size (Nat.le_trans hb2.size hb3.size)
  have hr3:=((hb1.trans ((hb2.trans (hb3.mono hb2.size)).mono hb1.size)).block _ (lt_of_block HR.out)).trans HR.out
  have ND':Hid (Calls Tryz.prog 67 #[.pointer (some ⟨w2.heap.size,0,none⟩),.int .i64 8] w3 (RPost (fun y t=>valueP 8 s.data.toList=some (y,t)∧endR t) 8 w2.heap.size w0.heap.size w1.heap.size s.data.toList w3)):=Hh (pnode_any 8 (by decide) w2.heap.size w0.heap.size w1.heap.size s.data.toList w3 hp3 (by have:=HL.out;omega))
  have HB3:=Hh hB3
  have HR3:=Hh hr3
  have hgr:w.heap.size ≠ w2.heap.size:=by have:=Nat.le_trans hb1.size hb2.size;omega
  generalize hgx:w2.heap.size=gx at ND' hgw hgr ⊢
  clear hgx hp3 hW2 hw1 hb1 hc2 hb2 hb3 hg3 hB3 hr3 WD CD B0 HR
  go_upto_region 5 with ((with_reducible refine (ND'.out).mono ?_);rintro e5 w5 ⟨cs,x,ok,r',rfl,hnode,hp5,hg5,hl5,hf5,hv5⟩;go_loud ((obtain ⟨a1,l1,c1,a2,l2,c2,hcs⟩:=hnode.slices);subst hcs))
  have hv8:s.size≤65536→∀y,validN 8 y=true→numsB 8 y=true→writeN 8 y=s.data.toList→ok=true∧x=y:=fun _ y h1 h2 h3=>by
   have:=valueP_back 8 y [] h1 h2 okR_nil
   rw [List.append_nil,h3] at this
   have:=hv5 y [] ⟨this,fun c hc=>by cases hc⟩
   exact ⟨this.1,this.2.1⟩
  have hB5:Below w.heap.size w w5:=HB3.out.grown hg5 HB3.out.size (fun k hk=>by cases hk;exact hgw)
  have hr5:=keepG hg5 hgr HR3.out
  have b6:=(Br w5.heap.size w5).alloc (o:=.cells #[.int .i64 x.kind,.bool x.bool,.int .i64 x.num,.string x.text,.slice a1 l1 c1,.slice a2 l2 c2] 30) (Lr _)
  have hn6:=Hn w5 (.cells #[.int .i64 x.kind,.bool x.bool,.int .i64 x.num,.string x.text,.slice a1 l1 c1,.slice a2 l2 c2] 30)
  have hnd6:=hnode.same fun b hb=>b6.block b hb.2
  have hB6:=hB5.trans (b6.mono hB5.size)
  have hr6:=(b6.block _ (lt_of_block hr5)).trans hr5
  have hz6:w5.heap.size<(w5.alloc (.cells #[.int .i64 x.kind,.bool x.bool,.int .i64 x.num,.string x.text,.slice a1 l1 c1,.slice a2 l2 c2] 30)).heap.size:=by simp
  have hne5:w.heap.size ≠ w5.heap.size:=by have:=lt_of_block hr5;omega
  obtain ⟨w6,hw6⟩:∃W,W=w5.alloc (.cells #[.int .i64 x.kind,.bool x.bool,.int .i64 x.num,.string x.text,.slice a1 l1 c1,.slice a2 l2 c2] 30):=⟨_,rfl⟩
  rw [←hw6] at b6 hn6 hnd6 hB6 hr6 hz6
  rw [←hw6]
  have hz3:w.heap.size≤w3.heap.size:=HB3.out.size
  have HV8:=Hh hv8
  have HB6:=Hh hB6
  have HN6:=Hh hnd6
  have HR6:=Hh hr6
  have HZ6:=Hh (Ai hz6 hz3)
  have hnum8:numsB 8 x=true:=numsB_down (by decide) hf5.2
  have hlow9:lowV 9 x:=hf5.1
  have EN:=Hh (jenc_any _ x w6 hnd6 (fun b hb=>Nat.lt_trans hb.2 hz6) hlow9 (fun _=>hnum8) (HT.out.1.below hB6) (HT.out.2.1.below hB6))
  have HN8:=Hh hnum8
  clear hw6 hv8 hv5 hB5 hr5 b6 hnd6 hB6 hr6 hz6 hnode hp5 hg5 hf5 hl5 HB3 HR3 ND' hnum8 hlow9 HT
  cases ok with
  | false=>
   have HV:Hid (DecIs s nd0 4):=Hh (.inr ⟨rfl,rfl,fun y h1 h2 h3 h4=>by have:=(HV8.out h3 y h1 h2 h4).1;cases this⟩)
   have f1:=free_six HR6.out
   have cz1:=six_of HR6.out
   go_wp2
   refine ret_node (v:=.int .i64 4) HR6.out Tryz.results40 rfl rfl rfl ?_
   exact dec_none HB6.out HV.out
  | true=>
   have cn:=six_of hn6
   have HN66:=Hh hn6
   clear hn6
   go_upto_region 8 with ((with_reducible refine (EN.out).mono ?_);rintro e7 w7 ⟨rfl,hb7⟩)
   have hB7:=HB6.out.trans (hb7.mono HB6.out.size)
   have hr7:=(hb7.block _ (lt_of_block HR6.out)).trans HR6.out
   have hn7:=(hb7.block _ (lt_of_block HN66.out)).trans HN66.out
   have hnd7:=HN6.out.same fun b hb=>hb7.block b (Nat.lt_trans hb.2 HZ6.out.1)
   have HB7:=Hh hB7
   have HR7:=Hh hr7
   have HND7:=Hh (Ai hnd7 hb7.size)
   clear hB7 hr7 hnd7 hb7 EN HN66 cn
   by_cases hbad:jsE x ≠ 0∨jsS x ≠ s
   ·have HV:Hid (DecIs s nd0 4):=Hh (.inr ⟨rfl,rfl,fun y h1 h2 h3 h4=>by
     obtain ⟨-,rfl⟩:=HV8.out h3 y h1 h2 h4
     have hlen:¬65536<(writeN 8 x).length:=by rw [h4,hsl];omega
     obtain ⟨g1,g2⟩:=jse_good h1 hlen
     rcases hbad with h | h
     ·exact h g2
     ·apply h;rw [g1,h4]⟩)
    clear hn7
    by_cases hE0:jsE x=0
    ·have hS0:jsS x ≠ s:=hbad.resolve_left (fun h=>h hE0)
     have hSb:((jsS x).toList == s.toList)=false:=by
      rw [Lib.toList_data,Lib.toList_data]
      exact beq_eq_false_iff_ne.2 fun h=>hS0 (by rw [←bA_of (jsS x),h,bA_of])
     have hEb:(jsE x != 0)=false:=by simpa using hE0
     clear hbad
     rw [hE0]
     have f1:=free_six HR7.out
     have cz1:=six_of HR7.out
     go_wp2
     refine ret_node (v:=.int .i64 4) HR7.out Tryz.results40 rfl rfl rfl ?_
     exact dec_none HB7.out HV.out
    ·have hEb:(jsE x != 0)=true:=by simpa using hE0
     clear hbad
     have f1:=free_six HR7.out
     have cz1:=six_of HR7.out
     go_wp2
     refine ret_node (v:=.int .i64 4) HR7.out Tryz.results40 rfl rfl rfl ?_
     exact dec_none HB7.out HV.out
   ·have hE0:jsE x=0:=Classical.byContradiction fun h=>hbad (.inl h)
    have hS0:jsS x=s:=Classical.byContradiction fun h=>hbad (.inr h)
    have HV:Hid (DecIs s x 0):=Hh (by
     have hv:validN 8 x=true:=by
      cases q:validN 8 x with
      | true=>rfl
      | false=>rw [(jse_bad q).2] at hE0;cases hE0
     have hlen:¬65536<(writeN 8 x).length:=fun q=>by rw [(jse_long hv q).2] at hE0;cases hE0
     have hw:writeN 8 x=s.data.toList:=by rw [←hS0,(jse_good hv hlen).1]
     exact .inl ⟨rfl,hv,HN8.out,hw,by rw [hw,hsl] at hlen;omega⟩)
    clear hbad
    rw [hE0,hS0]
    have f1:=free_six HR7.out
    have cz1:=six_of HR7.out
    have cn:=six_of hn7
    go_wp2
    refine ret_node (v:=.int .i64 0) HR7.out Tryz.results40 rfl rfl rfl ?_
    have hgs:=grown_set6 w7 w.heap.size (.int .i64 x.kind) (.bool x.bool) (.int .i64 x.num) (.string x.text) (.slice a1 l1 c1) (.slice a2 l2 c2)
    refine ⟨[.int .i64 x.kind,.bool x.bool,.int .i64 x.num,.string x.text,.slice a1 l1 c1,.slice a2 l2 c2],x,0,rfl,?_,HB7.out.grown hgs HB7.out.size (fun k hk=>by cases hk;exact Lr _),HV.out⟩
    have hz:=HZ6.out
    have hz7:=HND7.out.2
    have hr:=lt_of_block HR7.out
    exact (HND7.out.1.same fun b hb=>hgs.block b (by omega) (by intro e;have:=Option.some.inj e;omega)).mono fun b hb=>⟨by omega,Ll (by omega) hgs.size⟩
end Go.Proofs.YtdppdonaojdceaaGreatDoor