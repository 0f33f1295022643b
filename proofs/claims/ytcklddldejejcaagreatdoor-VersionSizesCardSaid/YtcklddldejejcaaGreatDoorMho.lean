/- Heads of the third serialisation: numberOf, a scale's text, headOf. -/
import Derived.Test.YtcklddldejejcaaGreatDoorMtb
set_option linter.unusedVariables false
set_option linter.unusedSimpArgs false
set_option maxHeartbeats 3200000
set_option maxRecDepth 100000
namespace Go.Proofs.YtcklddldejejcaaGreatDoor
open Go Go.ChangeShapes Go.WideShapes Go.ChangeAt Go.RowKit
def RowOk (r:ScR):Prop:=(∀k,k ∈ r.widths→k=1∨k=2∨k=4∨k=8)∧r.widths.length≤4∧0≤r.first∧r.first≤255∧0≤r.wide∧r.wide≤251∧-32≤r.least∧r.least≤0∧0≤r.count∧r.count≤128
theorem row_ok:∀i,i<7→RowOk (scR i):=by
 refine scR_any ?_ ?_ ?_ ?_ ?_ ?_ ?_
 all_goals exact ⟨by simp,by decide,by decide,by decide,by decide,by decide,by decide,by decide,by decide,by decide⟩
theorem sWide_step {b z:Int} {l:List Int} {j:Nat} (hj:j<l.length):sWide b z (l.drop j) j=if fitZ z (l.getD j 0) then UInt8.ofNat (b.toNat+j)::bigL (u64N z) (l.getD j 0).toNat else sWide b z (l.drop (j+1)) (j+1):=by
 rw [List.drop_eq_getElem_cons hj]
 simp [sWide,List.getD,List.getElem?_eq_getElem hj]
theorem mnumof_any {D d:Nat} {S:Nat→Prop} (cs:List Value) (x:ND) (w:World) (h:NodeIn D S w cs x) (hv:validN (d+1) x=true) (hn:numsB (d+1) x=true):Calls Tryz.prog 258 #[.agg cs.toArray] w fun e w'=>e=.returned (.int .i64 (pPay x))∧Below w.heap.size w w':=by
 cases D with
 | zero=>exact h.elim
 | succ D=>
 obtain ⟨vn,vi,e,ht,⟨an,cn,en,hn1,hn2,-⟩,⟨ai,ci,ei,hi1,hi2,-⟩⟩:=h
 subst en ei e
 have hk:=kinds hv
 obtain ⟨k,b,n,t,ns,its⟩:=x
 simp only [ND.kind,ND.bool,ND.num,ND.text,ND.names,ND.items,nd0,ND.mk.injEq,true_and,and_true] at hk ht hn1 hn2 hi1 hi2 ⊢
 obtain ⟨P,hP⟩:∃P,P=pPay (.mk k b n t ns its):=⟨_,rfl⟩
 rw [←hP]
 go_enter Tryz.func258,Tryz.ntmps258
 go_upto_region 1 with fail
 generalize ae:w.alloc _=w1
 obtain ⟨b1,k1⟩:=Al ae
 clear ae
 have c1:=six_of k1
 have B1:=Hh b1
 clear hv hn b1 k1
 rcases hk with ⟨rfl,rfl,rfl,rfl,rfl,rfl⟩ | ⟨rfl,rfl,rfl,rfl,rfl⟩ | ⟨rfl,rfl,rfl,rfl,rfl⟩ | ⟨rfl,rfl,rfl,rfl,rfl⟩ | ⟨rfl,rfl,rfl,rfl,rfl⟩ | ⟨⟨rfl,rfl,rfl,rfl⟩,hlen2⟩
 ·go_wp2
  go_ret
  exact ⟨by rw [hP];rfl,B1.out⟩
 ·cases b
  ·go_wp2
   go_ret
   exact ⟨by rw [hP];rfl,B1.out⟩
  ·go_wp2
   go_ret
   exact ⟨by rw [hP];rfl,B1.out⟩
 ·go_wp2
  go_ret
  exact ⟨by rw [hP];rfl,B1.out⟩
 ·go_wp2
  go_ret
  exact ⟨by rw [hP];rfl,B1.out⟩
 ·go_wp2
  go_ret
  exact ⟨by rw [hP];rfl,B1.out⟩
 ·go_wp2
  go_ret
  exact ⟨by rw [hP];rfl,B1.out⟩
theorem stext_any {B:Nat} (r:ScR) (hr:RowOk r) (z:Int) (h1:-9223372036854775808≤z) (h2:z≤9223372036854775807) (v:Value) (w:World) (hB:B≤w.heap.size) (hI:IntsAt B w v r.widths):Calls Tryz.prog 259 #[.agg #[.int .i64 r.kind,.int .i64 r.least,.int .i64 r.count,.int .u8 r.first,.int .u8 r.wide,v],.int .i64 z] w fun e w'=>e=.returned (.string (bC (sText r z)))∧Below w.heap.size w w':=by
 obtain ⟨k,l,c,f,wd,ws⟩:=r
 obtain ⟨hw,hwl,f0,f1,u0,u1,l0,l1,c0,c1⟩:=hr
 dsimp only at hw hwl f0 f1 u0 u1 l0 l1 c0 c1 hI ⊢
 obtain ⟨ao,cap,rfl,hcap,hI⟩:=hI
 obtain ⟨T,hT⟩:∃T,T=sText ⟨k,l,c,f,wd,ws⟩ z:=⟨_,rfl⟩
 rw [←hT]
 have hlc:IntKind.i64.wrap (l+c)=l+c:=IntWalk.i64_in _ (by omega)
 go_enter Tryz.func259,Tryz.ntmps259
 go_upto_region 1 with fail
 generalize ae:w.alloc _=w1
 obtain ⟨b1,k1⟩:=Al ae
 clear ae
 have q1:=six_of k1
 have B1:=Hh b1
 have K1:=Hh k1
 clear b1 k1
 have CV:Hid (∀ (W:World) (b:Nat) {c:UInt8},W.heap[b]?=some (.cells #[.int .u8 (c.toNat:Int)] 5 (0,0))→(convert 73 9 (.slice (some ⟨b,0,none⟩) 1 1)).run Tryz.prog W=.ok (.string (bC [c])) W):=Hh fun W b c h=>
  run_convert_bytes_back W _ _ 5 ⟨b,0,none⟩ 1 [c] Tryz.underlying73 Tryz.underlying5 Tryz.underlying9 fun j hj=>(by
   obtain rfl:j=0:=by simpa using hj
   exact cells_lit [Value.int .u8 (c.toNat:Int)] h rfl 0 _ rfl)
 by_cases hin:l≤z∧z<l+c
 ·obtain ⟨hin1,hin2⟩:=hin
  obtain ⟨b,hbb⟩:∃b,b=UInt8.ofNat (f+(z - l)).toNat:=⟨_,rfl⟩
  have hT':T=[b]:=by rw [hT,hbb];unfold sText;rw [if_pos ⟨hin1,hin2⟩]
  have hsub:IntKind.i64.wrap (z - l)=z - l:=IntWalk.i64_in _ (by omega)
  have hbyte:(f+(z - l)) % 256=(b.toNat:Int):=by rw [hbb,UInt8.toNat_ofNat'];omega
  have HT:=Hh hT'
  have ka:=Hn w1 (.cells #[.int .u8 (b.toNat:Int)] 5)
  have hcv:=CV.out _ _ ka
  clear hT hT' hbb ka
  go_wp2
  go_ret
  exact ⟨by rw [HT.out];rfl,B1.out.alloc B1.out.size _⟩
 ·have hT':T=sWide wd z ws 0:=by rw [hT];unfold sText;rw [if_neg hin]
  have HT:=Hh hT'
  clear hT hT'
  have hwl4:(ws.length:Int)≤4:=by omega
  have HI:=Hh hI
  have HW:=Hh hw
  have HBN:=Hh (fun (kw:Nat) (hkw:kw≤8) wx=>mpbig_any z kw wx hkw)
  clear hI hw
  have hcs:(l≤z∧¬z<l+c)∨¬l≤z:=by omega
  clear hin
  rcases hcs with ⟨hlz,hzc⟩ | hlz
  all_goals
   go_upto_region 4 with fail
   go_loopw [33] (fun i wr=>∃j:Nat,j≤ws.length∧i=.int .i64 (j:Int)∧sWide wd z (ws.drop j) j=sWide wd z ws 0∧wr=w1) (fun i _=>ws.length - (intOf i).toNat)
   case atStart=>exact ⟨0,Nat.zero_le _,rfl,rfl,rfl⟩
   case round=>
    obtain ⟨j,hj,rfl,hsw,hww⟩:=hrel
    replace hww:=hww.symm
    subst hww
    by_cases hlt:j<ws.length
    ·have hlt':(j:Int)<(ws.length:Int):=by omega
     have hj0:(0:Int)≤(j:Int):=by omega
     obtain ⟨b,off,rfl,hb,hc⟩:=HI.out j hlt
     obtain ⟨kn,hkn⟩:∃kn:Nat,ws.getD j 0=(kn:Int)∧(kn=1∨kn=2∨kn=4∨kn=8):=by
      have hm:ws.getD j 0 ∈ ws:=by simp [List.getD,List.getElem?_eq_getElem hlt]
      have:=HW.out _ hm
      exact ⟨(ws.getD j 0).toNat,by omega,by omega⟩
     obtain ⟨hke,hk4⟩:=hkn
     rw [sWide_step hlt,hke] at hsw
     rw [hke] at hc
     have hc1:w1.cell? ⟨b,off+j,none⟩=some (.int .i64 (kn:Int)):=(B1.out.cell (p:=⟨b,off+j,none⟩) (by show b<_;omega)).trans hc
     have FT:=Hh (fun wx=>sfits_any z (kn:Int) wx (by omega) h1 h2)
     have HSW:=Hh hsw
     have HK4:=Hh hk4
     clear hsw hc hke hk4
     cases hf:fitZ z (kn:Int) with
     | true=>
      rw [hf] at FT HSW
      obtain ⟨b,hbb⟩:∃b,b=UInt8.ofNat (wd.toNat+j):=⟨_,rfl⟩
      rw [←hbb] at HSW
      have hbyte:wd+(j:Int)=(b.toNat:Int):=by rw [hbb,UInt8.toNat_ofNat'];omega
      have hbyt2:IntKind.u8.wrap (wd+IntKind.u8.wrap (j:Int))=(b.toNat:Int):=by rw [IntKind.wrap_u8,IntKind.wrap_u8];omega
      have BN:=Hh (fun wx=>HBN.out kn (by have:=HK4.out;omega) wx)
      obtain ⟨bs,hbs⟩:∃t,t=bigL (u64N z) kn:=⟨_,rfl⟩
      have hbl:bs.length≤8:=by rw [hbs,bigL_length];have:=HK4.out;omega
      rw [←hbs] at BN
      have HBS:=Hh hbs
      have hcat:¬9223372036854775807<(bC [b]).size+(bC bs).size:=by rw [bC_size,bC_size];simp;omega
      have HBY:=Hh (Ai hbyte hbyt2)
      clear hf hbb hbs hbyte hbyt2
      go_upto_region 7 with ((with_reducible refine (FT.out _).mono ?_);rintro e w2 ⟨rfl,hww⟩;subst hww)
      have hbw:Below w1.heap.size w1 w1.drew:=(Br _ _).drew
      have cd:w1.drew.cell? ⟨w.heap.size,4,none⟩=some (.int .u8 wd):=q1.2.2.2.2.1
      have hzw:w.heap.size<w1.drew.heap.size:=cell_lt cd
      refine wp_region_plan (fun w'=>w'.cell? ⟨w.heap.size,4,none⟩=some (.int .u8 wd)) [1] (.take 0 (.take 1 (.take 2 (.take 3 (.take 7 (.take 8 (Plan.join true (.ask 4 false (.ask 5 false (.ask 6 false (.ask 9 false .stop .stop) (.ask 9 false (.ask 6 false .stop .stop) .stop)) (.ask 9 false (.ask 5 false (.ask 6 false .stop .stop) .stop) .stop)) (.ask 9 true (.ask 4 false (.ask 5 false (.ask 6 false .stop .stop) .stop) .stop) .stop)) (.ask 10 false (.ask 11 false .stop .stop) .stop)))))))) (by kernel_rfl) (by kernel_rfl) (fun _ d _ _ _ h=>by cases d <;> exact h) q1.2.2.2.2.1 ?_
      generalize w1.drew=wd' at hbw cd hzw ⊢
      refine take_any _ ?_ rfl rfl ?_ (fun K hK=>?_);rotate_left;(intro w0;go_simp;(try rfl));(go_simp;refine hK _ ?_;clear hK K)
      refine take_held _ ?_ rfl rfl (by decide) ?_ (fun K hK=>?_);rotate_left;(intro w0 hw0;go_simp;(try rfl));(go_simp;refine hK _ ?_;clear hK K)
      refine take_any _ ?_ rfl rfl ?_ (fun K hK=>?_);rotate_left;(intro w0;go_simp;(try rfl));(go_simp;refine hK _ ?_;clear hK K)
      refine take_any _ ?_ rfl rfl ?_ (fun K hK=>?_);rotate_left;(intro w0;go_simp;(try rfl));(go_simp;refine hK _ ?_;clear hK K)
      have hby1:=HBY.out.1
      have hby2:=HBY.out.2
      refine take_any _ ?_ rfl rfl ?_ (fun K hK=>?_);rotate_left;(intro w0;go_simp;(try rfl));(go_simp;refine hK _ ?_;clear hK K)
      refine take_any _ ?_ rfl rfl ?_ (fun K hK=>?_);rotate_left;(intro w0;go_simp;(try rfl));(go_simp;refine hK _ ?_;clear hK K)
      refine plan_cut [45,46,47,50] (fun vs wx=>∃v45 v46,vs=[v45,v46,.string (bC [b]),.string (bC bs)]∧Below w1.heap.size w1 wx) ?_ ?_
      ·refine ask_late _ rfl ?_ ?_
       rotate_left
       ·go_wp2_with fail
        refine Seg.mk ?_
        refine ask_late _ rfl ?_ ?_
        rotate_left
        ·go_wp2_with fail
         have ka:=Hn wd' (.cells #[.int .u8 (b.toNat:Int)] 5)
         have ba:=hbw.alloc (o:=.cells #[.int .u8 (b.toNat:Int)] 5) hbw.size
         have hla:wd'.heap.size<(wd'.alloc (.cells #[.int .u8 (b.toNat:Int)] 5)).heap.size:=by simp
         generalize wd'.alloc (.cells #[.int .u8 (b.toNat:Int)] 5)=wa at ka ba hla ⊢
         refine Seg.mk ?_
         have hcv:=CV.out wa _ ka
         refine ask_late _ rfl ?_ ?_
         rotate_left
         ·go_wp2_with fail;refine Seg.mk ?_
          refine ask_late _ rfl trivial ?_;go_wp2_with (go_at_call 265;(with_reducible refine (BN.out _).mono ?_);rintro e w2 ⟨rfl,hb2⟩);refine Seg.mk ?_
          exact plan_meet [.int .u8 (b.toNat:Int),.slice (some ⟨wd'.heap.size,0,none⟩) 1 1,.string (bC [b]),.string (bC bs)] (by first | exact ⟨_,_,rfl,ba.trans (hb2.mono ba.size)⟩ | exact ⟨⟨_,_,rfl⟩,ba.trans (hb2.mono ba.size)⟩) rfl
         ·refine ask_late _ rfl trivial ?_;go_wp2_with (go_at_call 265;(with_reducible refine (BN.out _).mono ?_);rintro e w2 ⟨rfl,hb2⟩);refine Seg.mk ?_
          have hcv2:=CV.out w2 _ ((hb2.block _ hla).trans ka)
          refine ask_late _ rfl trivial ?_;go_wp2_with fail;refine Seg.mk ?_
          exact plan_meet [.int .u8 (b.toNat:Int),.slice (some ⟨wd'.heap.size,0,none⟩) 1 1,.string (bC [b]),.string (bC bs)] (by first | exact ⟨_,_,rfl,ba.trans (hb2.mono ba.size)⟩ | exact ⟨⟨_,_,rfl⟩,ba.trans (hb2.mono ba.size)⟩) rfl
        ·refine ask_late _ rfl trivial ?_;go_wp2_with (go_at_call 265;(with_reducible refine (BN.out _).mono ?_);rintro e w2 ⟨rfl,hb2⟩);refine Seg.mk ?_
         have b2:=hbw.trans (hb2.mono hbw.size)
         refine ask_late _ rfl trivial ?_;go_wp2_with fail;refine Seg.mk ?_
         have ka:=Hn w2 (.cells #[.int .u8 (b.toNat:Int)] 5)
         have ba:=b2.alloc (o:=.cells #[.int .u8 (b.toNat:Int)] 5) b2.size
         generalize w2.alloc (.cells #[.int .u8 (b.toNat:Int)] 5)=wa at ka ba ⊢
         have hcv:=CV.out wa _ ka
         refine ask_late _ rfl trivial ?_;go_wp2_with fail;refine Seg.mk ?_
         exact plan_meet [.int .u8 (b.toNat:Int),.slice (some ⟨w2.heap.size,0,none⟩) 1 1,.string (bC [b]),.string (bC bs)] (by first | exact ⟨_,_,rfl,ba⟩ | exact ⟨⟨_,_,rfl⟩,ba⟩) rfl
       ·refine ask_step _ rfl trivial ?_;go_wp2_with (go_at_call 265;(with_reducible refine (BN.out _).mono ?_);rintro e w2 ⟨rfl,hb2⟩);refine Seg.mk ⟨(hb2.cell (p:=⟨w.heap.size,4,none⟩) hzw).trans cd,?_⟩
        have b2:=hbw.trans (hb2.mono hbw.size)
        refine ask_late _ rfl trivial ?_;go_wp2_with fail;refine Seg.mk ?_
        refine ask_late _ rfl trivial ?_;go_wp2_with fail;refine Seg.mk ?_
        have ka:=Hn w2 (.cells #[.int .u8 (b.toNat:Int)] 5)
        have ba:=b2.alloc (o:=.cells #[.int .u8 (b.toNat:Int)] 5) b2.size
        generalize w2.alloc (.cells #[.int .u8 (b.toNat:Int)] 5)=wa at ka ba ⊢
        have hcv:=CV.out wa _ ka
        refine ask_late _ rfl trivial ?_;go_wp2_with fail;refine Seg.mk ?_
        exact plan_meet [.int .u8 (b.toNat:Int),.slice (some ⟨w2.heap.size,0,none⟩) 1 1,.string (bC [b]),.string (bC bs)] (by first | exact ⟨_,_,rfl,ba⟩ | exact ⟨⟨_,_,rfl⟩,ba⟩) rfl
      ·rintro vs w' ⟨v45,v46,rfl,hbl⟩
       simp only [puts,Act.put,List.setIfInBounds_toArray,List.set_cons_zero,List.set_cons_succ]
       have HBL:=Hh hbl
       clear hbl
       refine ask_late _ rfl trivial ?_;go_wp2_with fail;refine Seg.mk ?_
       refine ask_last _ rfl trivial ?_
       go_wp2
       go_ret
       exact ⟨by rw [HT.out,←HSW.out,if_pos (by first | rfl | trivial),HBS.out,Int.toNat_natCast];exact congrArg (fun q=>Ending.returned (Value.string q)) (bC_app [b] (bigL (u64N z) kn)),B1.out.trans (HBL.out.mono B1.out.size)⟩
     | false=>
      rw [hf] at FT HSW
      clear hf
      go_wp2_with (go_at_call 264;(with_reducible refine (FT.out _).mono ?_);rintro e w2 ⟨rfl,hww⟩;subst hww)
      go_roundw
      case rel=>exact ⟨j+1,by omega,by go_num,HSW.out,by first | rfl | trivial⟩
      case measure=>simp [intOf] <;> omega
    ·have hje:ws.drop j=[]:=List.drop_eq_nil_of_le (by omega)
     have hge:¬ (j:Int)<(ws.length:Int):=by omega
     rw [hje] at hsw
     have HSW:=Hh hsw
     clear hsw hje
     go_wp2
     go_ret
     exact ⟨by rw [HT.out,←HSW.out];rfl,B1.out⟩
theorem infoScl (v:Nat→Value):(Tryz.prog.info? 276).map (·.size)=some (scAll v).length:=by
 rw [show (scAll v).length=42 from rfl];kernel_rfl
theorem aggScl (w:World):(isAgg 275).run Tryz.prog w=.ok true w:=by kernel_rfl
theorem sizeScl (w:World):(sizeOf 275).run Tryz.prog w=.ok 6 w:=by kernel_rfl
theorem scl_index (v:Nat→Value) (j:Nat) (hj:j<7) (w:World):(Instr.index 276 (.agg (scAll v).toArray) (.int .i64 (j:Int))).run Tryz.prog w=.ok (.agg (scC j (v j)).toArray) w:=by
 rw [mindex_part (P:=Tryz.prog) 276 275 7 6 (scAll v).toArray j Tryz.underlying276 hj aggScl sizeScl w,scAll_part v j hj]
theorem mheadof_any {D d B:Nat} {S:Nat→Prop} (cs:List Value) (x:ND) (w:World) (h:NodeIn D S w cs x) (hS:∀b,S b→b<w.heap.size) (hv:validN (d+1) x=true) (hn:numsB (d+1) x=true) (hT:SclB B w):Calls Tryz.prog 250 #[.agg cs.toArray] w fun e w'=>e=.returned (.string (bC (headP (pHd x) (pVal x))))∧Below w.heap.size w w':=by
 obtain ⟨a1,l1,c1,a2,l2,c2,rfl⟩:=h.slices
 obtain ⟨i7,ik,is,it,ib,ip1,ip2⟩:=sIx_ok hv hn
 obtain ⟨v,hsv⟩:=hT
 have b1:=(Br w.heap.size w).alloc (o:=.cells #[.int .i64 x.kind,.bool x.bool,.int .i64 x.num,.string x.text,.slice a1 l1 c1,.slice a2 l2 c2] 28) (Lr _)
 have k1:=Hn w (.cells #[.int .i64 x.kind,.bool x.bool,.int .i64 x.num,.string x.text,.slice a1 l1 c1,.slice a2 l2 c2] 28)
 have hi:=infoScl v
 have HX:=Hh (scl_index v)
 obtain ⟨A,hA⟩:∃A,A=scAll v:=⟨_,rfl⟩
 rw [←hA] at HX hi
 have HA:=Hh hA
 obtain ⟨P,hP⟩:∃P,P=pPay x:=⟨_,rfl⟩
 rw [←hP] at is it ib ip1 ip2
 have NO:=Hh (fun (wx:World) (hb:Below w.heap.size w wx)=>mnumof_any [.int .i64 x.kind,.bool x.bool,.int .i64 x.num,.string x.text,.slice a1 l1 c1,.slice a2 l2 c2] x wx (h.same fun b hb'=>hb.block b (hS b hb')) hv hn)
 rw [←hP] at NO
 obtain ⟨T,hTT⟩:∃T,T=headP (pHd x) (pVal x):=⟨_,rfl⟩
 rw [←hTT] at it
 have HTT:=Hh hTT
 have IT:=Hh (Ai it ib)
 have SV:=Hh hsv
 clear hA hP h hv hn hS hsv hTT it ib
 go_enter Tryz.func250,Tryz.ntmps250
 go_upto_region 1 with fail
 generalize w.alloc _=w1 at b1 k1 ⊢
 have q1:=six_of k1
 go_upto_region 2 with ((with_reducible refine (NO.out _ b1).mono ?_);rintro e w2 ⟨rfl,hb2⟩)
 have b2:=b1.trans (hb2.mono b1.size)
 have k2:=(hb2.block _ (lt_of_block k1)).trans k1
 have HC:Hid (∀j u,A[j]?=some u→w2.cell? ⟨9,j,none⟩=some u):=Hh fun j u hu=>by
  rw [HA.out] at hu
  exact (SV.out.below (b2.mono SV.out.2.1)).2.2.1 j u hu
 have B2:=Hh b2
 have K2:=Hh k2
 obtain ⟨I,hI⟩:∃I,I=sIx x:=⟨_,rfl⟩
 rw [←hI] at i7 ik is IT
 have HI:=Hh hI
 have IK:=Hh (Ai ik is)
 clear q1 k1 b1 hb2 b2 k2 hI ik is
 go_upto_region 3 with (refine mp_ldc rfl 276 (.global 9) rfl 9 rfl A HC.out _ Tryz.underlying276 rfl hi ?_)
 go_loopw [9] (fun i wr=>∃j:Nat,j≤I∧i=.int .i64 (j:Int)∧Below w2.heap.size w2 wr) (fun i _=>7 - (intOf i).toNat)
 case atStart=>exact ⟨0,Nat.zero_le _,rfl,Br _ _⟩
 case round=>
  obtain ⟨j,hj,rfl,hbr⟩:=hrel
  have hj7:(j:Int)<7:=by omega
  have hix:=HX.out j (by omega)
  obtain ⟨ao,cap,hvj,-,-⟩:=SV.out.2.2.2 j (by omega)
  have hrow:=row_ok j (by omega)
  have hit:SclV B wr v:=SV.out.below ((B2.out.trans (hbr.mono B2.out.size)).mono SV.out.2.1)
  have hIA:=hit.2.2.2 j (by omega)
  have hBw:B≤wr.heap.size:=hit.2.1
  unfold scC at hix
  have hib:j<I→¬ ((scR j).kind=x.kind∧((scR j).least<0↔P<0)):=IT.out.2 j
  have hie:j=I→(scR j).kind=x.kind∧((scR j).least<0↔P<0)∧sText (scR j) P=T:=fun h=>by rw [h];exact ⟨IK.out.1,IK.out.2,IT.out.1⟩
  obtain ⟨r,hr⟩:∃r,r=scR j:=⟨_,rfl⟩
  rw [←hr] at hix hrow hib hie hIA hvj
  rw [hvj] at hix hIA
  clear hr hvj hit
  have bA:=hbr.alloc (o:=.cells #[.int .i64 r.kind,.int .i64 r.least,.int .i64 r.count,.int .u8 r.first,.int .u8 r.wide,.slice ao r.widths.length cap] 275) hbr.size
  have kA:=Hn wr (.cells #[.int .i64 r.kind,.int .i64 r.least,.int .i64 r.count,.int .u8 r.first,.int .u8 r.wide,.slice ao r.widths.length cap] 275)
  have bW:=(Br wr.heap.size wr).alloc (o:=.cells #[.int .i64 r.kind,.int .i64 r.least,.int .i64 r.count,.int .u8 r.first,.int .u8 r.wide,.slice ao r.widths.length cap] 275) (Lr _)
  have NG:=Hh (fun wx=>sneg_any r.kind r.least r.count r.first r.wide ao r.widths.length cap wx)
  have hIA':=Hh hIA
  have HR:=Hh hrow
  have HB:=Hh (Ai hBw (Ai hib hie))
  have HBR:=Hh hbr
  clear hIA hrow hBw hib hie hbr
  go_upto_region 5 with fail
  generalize wr.alloc _=wa at bA kA bW ⊢
  have qa:=six_of kA
  have qx:=six_of ((bA.block _ (lt_of_block K2.out)).trans K2.out)
  have BA:=Hh bA
  have BW:=Hh bW
  have KA:=Hh kA
  clear kA bA bW
  have ST:=Hh (fun (wx:World) (hb:Below wr.heap.size wr wx)=>stext_any (B:=B) r HR.out P ip1 ip2 (.slice ao r.widths.length cap) wx (Nat.le_trans HB.out.1 hb.size) (hIA'.out.below (hb.mono HB.out.1)))
  by_cases hkx:r.kind=x.kind
  ·have hk1:(r.kind == x.kind)=true:=by simp [hkx]
   by_cases hsg:r.least<0↔P<0
   ·have hji:j=I:=by
     rcases Nat.lt_or_ge j I with h | h
     ·exact absurd ⟨hkx,hsg⟩ (HB.out.2.1 h)
     ·omega
    have hTx:=(HB.out.2.2 hji).2.2
    have hbq:(decide (r.least<0) == decide (P<0))=true:=by simp [hsg]
    rw [hTx] at ST
    clear hji hTx hsg hkx
    go_upto_region 6 with ((with_reducible refine (NG.out _).mono ?_);rintro e w3 ⟨rfl,hb3⟩)
    have qb:=six_of ((hb3.block _ (lt_of_block KA.out)).trans KA.out)
    have HB3:=Hh hb3
    clear hb3
    go_wp2_with (go_at_call 259;(with_reducible refine (ST.out _ (BW.out.trans (HB3.out.mono BW.out.size))).mono ?_);rintro e w4 ⟨rfl,hb4⟩)
    go_ret
    have h9:=BA.out.trans (HB3.out.mono BA.out.size)
    have h8:=h9.trans (hb4.mono h9.size)
    exact ⟨by rw [HTT.out];rfl,B2.out.trans (h8.mono B2.out.size)⟩
   ·have hbq:(decide (r.least<0) == decide (P<0))=false:=by
     rw [Bool.eq_false_iff];intro h;rw [beq_iff_eq,decide_eq_decide] at h;exact hsg h
    have hji:j<I:=by
     rcases Nat.lt_or_ge j I with h | h
     ·exact h
     ·exact absurd (HB.out.2.2 (by omega)).2.1 hsg
    clear hsg hkx
    go_wp2_with (go_at_call 252;(with_reducible refine (NG.out _).mono ?_);rintro e w3 ⟨rfl,hb3⟩)
    go_roundw
    case rel=>exact ⟨j+1,by omega,by go_num,BA.out.trans (hb3.mono BA.out.size)⟩
    case measure=>simp [intOf] <;> omega
  ·have hk1:(r.kind == x.kind)=false:=by simp [hkx]
   have hji:j<I:=by
    rcases Nat.lt_or_ge j I with h | h
    ·exact h
    ·exact absurd (HB.out.2.2 (by omega)).1 hkx
   clear hkx
   go_wp2
   go_roundw
   case rel=>exact ⟨j+1,by omega,by go_num,BA.out⟩
   case measure=>simp [intOf] <;> omega
end Go.Proofs.YtcklddldejejcaaGreatDoor