/- Guess: the program's and the document's own. -/
import Derived.Test.YtdppdonaojdceaaGreatDoorMfc
set_option linter.unusedVariables false
set_option linter.unusedSimpArgs false
set_option maxHeartbeats 3200000
set_option maxRecDepth 100000
namespace Go.Proofs.YtdppdonaojdceaaGreatDoor
open Go Go.ChangeShapes Go.WideShapes Go.ChangeAt Go.RowKit
def st1 (z:Int):Bool:=z == 123
def st2 (z:Int):Bool:=decide (160≤z) && decide (z≤187)
def st3 (z:Int):Bool:=(decide (128≤z) && decide (z≤143)) || z == 222
def gsB (z:Int):Int:=if st1 z=true then 1 else if st2 z=true then 2 else if st3 z=true then 3 else 0
theorem neq_lit {k z:Int} (h:k ≠ z):(k == z)=false:=by simpa using h
def gsI (s:ByteArray):Int:=match s.data.toList with
 | []=>0
 | c::_=>gsB (c.toNat:Int)
theorem gs_cons {s:ByteArray} (h:0<s.size):gsI s=gsB ((s[0]'h).toNat:Int):=by
 obtain ⟨d⟩:=s
 obtain ⟨l⟩:=d
 cases l with
 | nil=>exact absurd h (by decide)
 | cons c t=>rfl
theorem gs_nil {s:ByteArray} (h:¬0<s.size):s=⟨#[]⟩:=by
 obtain ⟨d⟩:=s
 obtain ⟨l⟩:=d
 cases l with
 | nil=>rfl
 | cons c t=>exact absurd (Nat.succ_pos _) h
theorem empty_no {s:ByteArray} (h:0<s.size):(s.toList == ([]:List UInt8))=false:=by
 rw [Lib.toList_data]
 obtain ⟨d⟩:=s
 obtain ⟨l⟩:=d
 cases l with
 | nil=>exact absurd h (by decide)
 | cons c t=>rfl
theorem st1_any (z:Int) (w:World):Calls Tryz.prog 41 #[.int .u8 z] w fun e w'=>e=.returned (.bool (st1 z))∧w'=w:=by
 go_enter Tryz.func41,Tryz.ntmps41
 go_wp2
 go_ret
 exact ⟨rfl,rfl⟩
theorem st2_any (z:Int) (w:World):Calls Tryz.prog 44 #[.int .u8 z] w fun e w'=>e=.returned (.bool (st2 z))∧w'=w:=by
 by_cases q2:160≤z <;> by_cases q3:z≤187 <;> (
  go_enter Tryz.func44,Tryz.ntmps44
  go_wp2
  go_ret
  exact ⟨by simp [st2,q2,q3],rfl⟩)
theorem st3_any (z:Int) (w:World):Calls Tryz.prog 46 #[.int .u8 z] w fun e w'=>e=.returned (.bool (st3 z))∧w'=w:=by
 by_cases q4:128≤z <;> by_cases q5:z≤143 <;> cases q6:(z == 222) <;> (
  go_enter Tryz.func46,Tryz.ntmps46
  go_wp2
  go_ret
  exact ⟨by simp [st3,q4,q5,q6],rfl⟩)
theorem guess_any (s:ByteArray) (w:World):Calls Tryz.prog 11 #[.string s] w fun e w'=>e=.returned (.int .i64 (gsI s))∧Below w.heap.size w w':=by
 have SE:=Hh (fun wx:World=>serials_any wx)
 by_cases h0:0<s.size
 ·have HG:=Hh (gs_cons h0)
  have en:=empty_no h0
  obtain ⟨c,hc⟩:∃c,c=s[0]'h0:=⟨_,rfl⟩
  rw [←hc] at HG
  have hc':=hc.symm
  obtain ⟨z,hz⟩:∃z:Int,z=(c.toNat:Int):=⟨_,rfl⟩
  rw [←hz] at HG
  have hz':=hz.symm
  clear hc hz
  have S1:=Hh (fun wx:World=>st1_any z wx)
  have S2:=Hh (fun wx:World=>st2_any z wx)
  have S3:=Hh (fun wx:World=>st3_any z wx)
  go_enter Tryz.func11,Tryz.ntmps11
  go_upto_region 4 with ((with_reducible refine (SE.out _).mono ?_);rintro e w3 ⟨rfl,rfl⟩)
  generalize ae:w.alloc _=w3
  obtain ⟨b3,k3⟩:=Al ae
  clear ae
  have hgl:=lt_of_block k3
  have B3:=Hh b3
  have K3:Hid (FoAt w3 w.heap.size):=Hh k3
  clear b3 k3
  go_loopw [9] (fun i wr=>∃j:Nat,j≤3∧i=.int .i64 (j:Int)∧((1≤j→st1 z=false)∧(2≤j→st2 z=false)∧(3≤j→st3 z=false))∧Below w3.heap.size w3 wr) (fun i _=>3 - (intOf i).toNat)
  case atStart=>exact ⟨0,by omega,rfl,⟨fun h=>absurd h (by decide),fun h=>absurd h (by decide),fun h=>absurd h (by decide)⟩,Br _ _⟩
  case round=>
   obtain ⟨j,hj,rfl,hno,hbr⟩:=hrel
   have HNO:=Hh hno
   have HBR:=Hh hbr
   obtain ⟨⟨s0,s1,s2,s3⟩,⟨s4,s5,s6,s7⟩,s8,s9,s10,s11⟩:=FoAt.all (show FoAt wr w.heap.size from (hbr.block _ hgl).trans K3.out)
   simp [foC] at s0 s1 s2 s3 s4 s5 s6 s7 s8 s9 s10 s11
   clear hno hbr
   have hf:Hid (∀wx,Below wr.heap.size wr wx→Below w.heap.size w wx):=Hh fun wx h=>(B3.out.trans (HBR.out.mono B3.out.size)).trans (h.mono (B3.out.trans (HBR.out.mono B3.out.size)).size)
   have gen:w.heap.size=w.heap.size:=rfl
   rcases (by omega:j=3∨j=0∨j=1∨j=2) with rfl | rfl | rfl | rfl
   ·go_wp2
    go_ret
    obtain ⟨h1,h2,h3⟩:=HNO.out
    exact ⟨by rw [HG.out];simp [gsB,h1 (by decide),h2 (by decide),h3 (by decide)],hf.out _ (Br _ _)⟩
   ·go_upto_region 6 with fail
    generalize ae:wr.alloc _=w5
    obtain ⟨b5,k5⟩:=Al ae
    clear ae
    have f5:=four_of k5
    have HF:=Hh (hf.out _ b5)
    have HR:=Hh (HBR.out.trans (b5.mono HBR.out.size))
    generalize wr.heap.size=g5 at f5 ⊢
    clear b5 k5 s0 s1 s2 s3 s4 s5 s6 s7 s8 s9 s10 s11 hf
    cases hst:st1 z with
    | true=>
     rw [hst] at S1
     have HS:Hid (st1 z=true):=Hh hst
     clear hst
     have c0:w5.drew.cell? ⟨g5,0,none⟩=some (.int .i64 1):=f5.1
     have c3:w5.drew.cell? ⟨g5,3,none⟩=some (.func (.func 41) #[] #[]):=f5.2.2.2
     have HF:Hid (Below w.heap.size w w5.drew):=Hh HF.out.drew
     have HR:Hid (Below w3.heap.size w3 w5.drew):=Hh HR.out.drew
     refine wp_region_plan (fun w'=>w'.cell? ⟨g5,3,none⟩=some (.func (.func 41) #[] #[])) [1] (.take 0 (.take 1 (.take 2 (.ask 3 true (.ask 4 false .stop .stop) .stop)))) (by kernel_rfl) (by kernel_rfl) (fun _ d _ _ _ h=>by cases d <;> exact h) c3 ?_
     generalize w5.drew=wd at c0 c3 HF HR ⊢
     clear f5
     refine take_any _ ?_ rfl rfl ?_ (fun K hK=>?_);rotate_left;(intro w0;go_simp;(try rfl));(go_simp;refine hK _ ?_;clear hK K)
     refine take_held _ ?_ rfl rfl (by decide) ?_ (fun K hK=>?_);rotate_left;(intro w0 hw0;go_simp;(try rfl));(go_simp;refine hK _ ?_;clear hK K)
     refine take_any _ ?_ rfl rfl ?_ (fun K hK=>?_);rotate_left;(intro w0;go_simp;(try rfl));(go_simp;refine hK _ ?_;clear hK K)
     refine ask_step _ rfl trivial ?_
     go_wp2_with fail
     refine Seg.mk ⟨c3,?_⟩
     refine ask_last _ rfl trivial ?_
     go_wp2_with (go_at_call 41;(with_reducible refine (S1.out _).mono ?_);rintro e w6 ⟨rfl,rfl⟩)
     go_ret
     obtain ⟨h1,h2,h3⟩:=HNO.out
     refine ⟨by rw [HG.out];simp [gsB,HS.out,h1,h2],?_⟩
     exact HF.out
    | false=>
     rw [hst] at S1
     have HS:Hid (st1 z=false):=Hh hst
     clear hst
     have c0:w5.drew.cell? ⟨g5,0,none⟩=some (.int .i64 1):=f5.1
     have c3:w5.drew.cell? ⟨g5,3,none⟩=some (.func (.func 41) #[] #[]):=f5.2.2.2
     have HF:Hid (Below w.heap.size w w5.drew):=Hh HF.out.drew
     have HR:Hid (Below w3.heap.size w3 w5.drew):=Hh HR.out.drew
     refine wp_region_plan (fun w'=>w'.cell? ⟨g5,3,none⟩=some (.func (.func 41) #[] #[])) [1] (.take 0 (.take 1 (.take 2 (.ask 3 true (.ask 4 false .stop .stop) .stop)))) (by kernel_rfl) (by kernel_rfl) (fun _ d _ _ _ h=>by cases d <;> exact h) c3 ?_
     generalize w5.drew=wd at c0 c3 HF HR ⊢
     clear f5
     refine take_any _ ?_ rfl rfl ?_ (fun K hK=>?_);rotate_left;(intro w0;go_simp;(try rfl));(go_simp;refine hK _ ?_;clear hK K)
     refine take_held _ ?_ rfl rfl (by decide) ?_ (fun K hK=>?_);rotate_left;(intro w0 hw0;go_simp;(try rfl));(go_simp;refine hK _ ?_;clear hK K)
     refine take_any _ ?_ rfl rfl ?_ (fun K hK=>?_);rotate_left;(intro w0;go_simp;(try rfl));(go_simp;refine hK _ ?_;clear hK K)
     refine ask_step _ rfl trivial ?_
     go_wp2_with fail
     refine Seg.mk ⟨c3,?_⟩
     refine ask_last _ rfl trivial ?_
     go_wp2_with (go_at_call 41;(with_reducible refine (S1.out _).mono ?_);rintro e w6 ⟨rfl,rfl⟩)
     go_roundw
     case rel=>
      obtain ⟨h1,h2,h3⟩:=HNO.out
      exact ⟨1,by omega,by go_num,⟨by first | exact fun _=>HS.out | exact fun _=>h1 (by decide),by first | exact fun _=>HS.out | exact fun _=>h2 (by decide) | exact fun h=>absurd h (by decide),by first | exact fun _=>HS.out | exact fun h=>absurd h (by decide)⟩,HR.out⟩
     case measure=>simp [intOf]
   ·go_upto_region 6 with fail
    generalize ae:wr.alloc _=w5
    obtain ⟨b5,k5⟩:=Al ae
    clear ae
    have f5:=four_of k5
    have HF:=Hh (hf.out _ b5)
    have HR:=Hh (HBR.out.trans (b5.mono HBR.out.size))
    generalize wr.heap.size=g5 at f5 ⊢
    clear b5 k5 s0 s1 s2 s3 s4 s5 s6 s7 s8 s9 s10 s11 hf
    cases hst:st2 z with
    | true=>
     rw [hst] at S2
     have HS:Hid (st2 z=true):=Hh hst
     clear hst
     have c0:w5.drew.cell? ⟨g5,0,none⟩=some (.int .i64 2):=f5.1
     have c3:w5.drew.cell? ⟨g5,3,none⟩=some (.func (.func 44) #[] #[]):=f5.2.2.2
     have HF:Hid (Below w.heap.size w w5.drew):=Hh HF.out.drew
     have HR:Hid (Below w3.heap.size w3 w5.drew):=Hh HR.out.drew
     refine wp_region_plan (fun w'=>w'.cell? ⟨g5,3,none⟩=some (.func (.func 44) #[] #[])) [1] (.take 0 (.take 1 (.take 2 (.ask 3 true (.ask 4 false .stop .stop) .stop)))) (by kernel_rfl) (by kernel_rfl) (fun _ d _ _ _ h=>by cases d <;> exact h) c3 ?_
     generalize w5.drew=wd at c0 c3 HF HR ⊢
     clear f5
     refine take_any _ ?_ rfl rfl ?_ (fun K hK=>?_);rotate_left;(intro w0;go_simp;(try rfl));(go_simp;refine hK _ ?_;clear hK K)
     refine take_held _ ?_ rfl rfl (by decide) ?_ (fun K hK=>?_);rotate_left;(intro w0 hw0;go_simp;(try rfl));(go_simp;refine hK _ ?_;clear hK K)
     refine take_any _ ?_ rfl rfl ?_ (fun K hK=>?_);rotate_left;(intro w0;go_simp;(try rfl));(go_simp;refine hK _ ?_;clear hK K)
     refine ask_step _ rfl trivial ?_
     go_wp2_with fail
     refine Seg.mk ⟨c3,?_⟩
     refine ask_last _ rfl trivial ?_
     go_wp2_with (go_at_call 44;(with_reducible refine (S2.out _).mono ?_);rintro e w6 ⟨rfl,rfl⟩)
     go_ret
     obtain ⟨h1,h2,h3⟩:=HNO.out
     refine ⟨by rw [HG.out];simp [gsB,HS.out,h1,h2],?_⟩
     exact HF.out
    | false=>
     rw [hst] at S2
     have HS:Hid (st2 z=false):=Hh hst
     clear hst
     have c0:w5.drew.cell? ⟨g5,0,none⟩=some (.int .i64 2):=f5.1
     have c3:w5.drew.cell? ⟨g5,3,none⟩=some (.func (.func 44) #[] #[]):=f5.2.2.2
     have HF:Hid (Below w.heap.size w w5.drew):=Hh HF.out.drew
     have HR:Hid (Below w3.heap.size w3 w5.drew):=Hh HR.out.drew
     refine wp_region_plan (fun w'=>w'.cell? ⟨g5,3,none⟩=some (.func (.func 44) #[] #[])) [1] (.take 0 (.take 1 (.take 2 (.ask 3 true (.ask 4 false .stop .stop) .stop)))) (by kernel_rfl) (by kernel_rfl) (fun _ d _ _ _ h=>by cases d <;> exact h) c3 ?_
     generalize w5.drew=wd at c0 c3 HF HR ⊢
     clear f5
     refine take_any _ ?_ rfl rfl ?_ (fun K hK=>?_);rotate_left;(intro w0;go_simp;(try rfl));(go_simp;refine hK _ ?_;clear hK K)
     refine take_held _ ?_ rfl rfl (by decide) ?_ (fun K hK=>?_);rotate_left;(intro w0 hw0;go_simp;(try rfl));(go_simp;refine hK _ ?_;clear hK K)
     refine take_any _ ?_ rfl rfl ?_ (fun K hK=>?_);rotate_left;(intro w0;go_simp;(try rfl));(go_simp;refine hK _ ?_;clear hK K)
     refine ask_step _ rfl trivial ?_
     go_wp2_with fail
     refine Seg.mk ⟨c3,?_⟩
     refine ask_last _ rfl trivial ?_
     go_wp2_with (go_at_call 44;(with_reducible refine (S2.out _).mono ?_);rintro e w6 ⟨rfl,rfl⟩)
     go_roundw
     case rel=>
      obtain ⟨h1,h2,h3⟩:=HNO.out
      exact ⟨2,by omega,by go_num,⟨by first | exact fun _=>HS.out | exact fun _=>h1 (by decide),by first | exact fun _=>HS.out | exact fun _=>h2 (by decide) | exact fun h=>absurd h (by decide),by first | exact fun _=>HS.out | exact fun h=>absurd h (by decide)⟩,HR.out⟩
     case measure=>simp [intOf]
   ·go_upto_region 6 with fail
    generalize ae:wr.alloc _=w5
    obtain ⟨b5,k5⟩:=Al ae
    clear ae
    have f5:=four_of k5
    have HF:=Hh (hf.out _ b5)
    have HR:=Hh (HBR.out.trans (b5.mono HBR.out.size))
    generalize wr.heap.size=g5 at f5 ⊢
    clear b5 k5 s0 s1 s2 s3 s4 s5 s6 s7 s8 s9 s10 s11 hf
    cases hst:st3 z with
    | true=>
     rw [hst] at S3
     have HS:Hid (st3 z=true):=Hh hst
     clear hst
     have c0:w5.drew.cell? ⟨g5,0,none⟩=some (.int .i64 3):=f5.1
     have c3:w5.drew.cell? ⟨g5,3,none⟩=some (.func (.func 46) #[] #[]):=f5.2.2.2
     have HF:Hid (Below w.heap.size w w5.drew):=Hh HF.out.drew
     have HR:Hid (Below w3.heap.size w3 w5.drew):=Hh HR.out.drew
     refine wp_region_plan (fun w'=>w'.cell? ⟨g5,3,none⟩=some (.func (.func 46) #[] #[])) [1] (.take 0 (.take 1 (.take 2 (.ask 3 true (.ask 4 false .stop .stop) .stop)))) (by kernel_rfl) (by kernel_rfl) (fun _ d _ _ _ h=>by cases d <;> exact h) c3 ?_
     generalize w5.drew=wd at c0 c3 HF HR ⊢
     clear f5
     refine take_any _ ?_ rfl rfl ?_ (fun K hK=>?_);rotate_left;(intro w0;go_simp;(try rfl));(go_simp;refine hK _ ?_;clear hK K)
     refine take_held _ ?_ rfl rfl (by decide) ?_ (fun K hK=>?_);rotate_left;(intro w0 hw0;go_simp;(try rfl));(go_simp;refine hK _ ?_;clear hK K)
     refine take_any _ ?_ rfl rfl ?_ (fun K hK=>?_);rotate_left;(intro w0;go_simp;(try rfl));(go_simp;refine hK _ ?_;clear hK K)
     refine ask_step _ rfl trivial ?_
     go_wp2_with fail
     refine Seg.mk ⟨c3,?_⟩
     refine ask_last _ rfl trivial ?_
     go_wp2_with (go_at_call 46;(with_reducible refine (S3.out _).mono ?_);rintro e w6 ⟨rfl,rfl⟩)
     go_ret
     obtain ⟨h1,h2,h3⟩:=HNO.out
     refine ⟨by rw [HG.out];simp [gsB,HS.out,h1,h2],?_⟩
     exact HF.out
    | false=>
     rw [hst] at S3
     have HS:Hid (st3 z=false):=Hh hst
     clear hst
     have c0:w5.drew.cell? ⟨g5,0,none⟩=some (.int .i64 3):=f5.1
     have c3:w5.drew.cell? ⟨g5,3,none⟩=some (.func (.func 46) #[] #[]):=f5.2.2.2
     have HF:Hid (Below w.heap.size w w5.drew):=Hh HF.out.drew
     have HR:Hid (Below w3.heap.size w3 w5.drew):=Hh HR.out.drew
     refine wp_region_plan (fun w'=>w'.cell? ⟨g5,3,none⟩=some (.func (.func 46) #[] #[])) [1] (.take 0 (.take 1 (.take 2 (.ask 3 true (.ask 4 false .stop .stop) .stop)))) (by kernel_rfl) (by kernel_rfl) (fun _ d _ _ _ h=>by cases d <;> exact h) c3 ?_
     generalize w5.drew=wd at c0 c3 HF HR ⊢
     clear f5
     refine take_any _ ?_ rfl rfl ?_ (fun K hK=>?_);rotate_left;(intro w0;go_simp;(try rfl));(go_simp;refine hK _ ?_;clear hK K)
     refine take_held _ ?_ rfl rfl (by decide) ?_ (fun K hK=>?_);rotate_left;(intro w0 hw0;go_simp;(try rfl));(go_simp;refine hK _ ?_;clear hK K)
     refine take_any _ ?_ rfl rfl ?_ (fun K hK=>?_);rotate_left;(intro w0;go_simp;(try rfl));(go_simp;refine hK _ ?_;clear hK K)
     refine ask_step _ rfl trivial ?_
     go_wp2_with fail
     refine Seg.mk ⟨c3,?_⟩
     refine ask_last _ rfl trivial ?_
     go_wp2_with (go_at_call 46;(with_reducible refine (S3.out _).mono ?_);rintro e w6 ⟨rfl,rfl⟩)
     go_roundw
     case rel=>
      obtain ⟨h1,h2,h3⟩:=HNO.out
      exact ⟨3,by omega,by go_num,⟨by first | exact fun _=>HS.out | exact fun _=>h1 (by decide),by first | exact fun _=>HS.out | exact fun _=>h2 (by decide) | exact fun h=>absurd h (by decide),by first | exact fun _=>HS.out | exact fun h=>absurd h (by decide)⟩,HR.out⟩
     case measure=>simp [intOf]
 ·obtain rfl:=gs_nil h0
  go_enter Tryz.func11,Tryz.ntmps11
  go_wp2
  go_ret
  exact ⟨rfl,Br _ _⟩
theorem rguess_any (s:ByteArray) (w:World):Calls Tryz.prog 12 #[.string s] w fun e w'=>e=.returned (.int .i64 (gsI s))∧Below w.heap.size w w':=by
 by_cases h0:0<s.size
 ·have HG:=Hh (gs_cons h0)
  have en:=empty_no h0
  obtain ⟨c,hc⟩:∃c,c=s[0]'h0:=⟨_,rfl⟩
  rw [←hc] at HG
  have hc':=hc.symm
  obtain ⟨z,hz⟩:∃z:Int,z=(c.toNat:Int):=⟨_,rfl⟩
  rw [←hz] at HG
  have hz':=hz.symm
  clear hc hz
  go_enter Tryz.func12,Tryz.ntmps12
  go_upto_region 4 with fail
  by_cases q1:z=123 <;> by_cases q2:160≤z <;> by_cases q3:z≤187 <;> by_cases q4:128≤z <;> by_cases q5:z≤143 <;> by_cases q6:z=222 <;> first | (exfalso;omega) | skip
  all_goals (
   first
    | have b1:(z == 123)=true:=beq_iff_eq.2 q1
    | have b1:(z == 123)=false:=neq_lit q1
   first
    | have b6:(z == 222)=true:=beq_iff_eq.2 q6
    | have b6:(z == 222)=false:=neq_lit q6
   first
    | have Q2:Hid (decide (160≤z)=true):=Hh (decide_eq_true (by omega))
    | have Q2:Hid (decide (160≤z)=false):=Hh (decide_eq_false (by omega))
   first
    | have Q3:Hid (decide (z≤187)=true):=Hh (decide_eq_true (by omega))
    | have Q3:Hid (decide (z≤187)=false):=Hh (decide_eq_false (by omega))
   first
    | have Q4:Hid (decide (128≤z)=true):=Hh (decide_eq_true (by omega))
    | have Q4:Hid (decide (128≤z)=false):=Hh (decide_eq_false (by omega))
   first
    | have Q5:Hid (decide (z≤143)=true):=Hh (decide_eq_true (by omega))
    | have Q5:Hid (decide (z≤143)=false):=Hh (decide_eq_false (by omega))
   clear q1 q6
   go_wp2
   go_ret
   exact ⟨by rw [HG.out];simp only [gsB,st1,st2,st3,b1,b6,Q2.out,Q3.out,Q4.out,Q5.out];rfl,Br _ _⟩)
 ·obtain rfl:=gs_nil h0
  go_enter Tryz.func12,Tryz.ntmps12
  go_wp2
  go_ret
  exact ⟨rfl,Br _ _⟩
end Go.Proofs.YtdppdonaojdceaaGreatDoor