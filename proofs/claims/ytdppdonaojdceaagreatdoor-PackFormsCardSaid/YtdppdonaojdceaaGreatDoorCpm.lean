/- The map that Decode makes: the nodes that are a byte, by their heads. -/
import Derived.Test.YtdppdonaojdceaaGreatDoorCpo
import Derived.Test.YtdppdonaojdceaaGreatDoorJcur
import Derived.Maps.StringElems
import Derived.DeepKeys4
set_option linter.unusedVariables false
set_option linter.unusedSimpArgs false
set_option maxRecDepth 100000
set_option maxHeartbeats 3200000
namespace Go.Proofs.YtdppdonaojdceaaGreatDoor
open Go Go.Maps Go.ChangeShapes Go.WideShapes Go.ChangeAt Go.RowKit
def hKey (m n:Nat):Lit:=.string (keyBytes [.int .i64 (m:Int),.int .u64 (n:Int)])
def hD1:DataW Unit:=(DataW.map []).put (hKey 7 22) (.lit (.int .i64 0))
def hD2:DataW Unit:=hD1.put (hKey 7 20) (.lit (.int .i64 1))
def hD3:DataW Unit:=hD2.put (hKey 7 21) (.lit (.int .i64 2))
def simZ (m n:Nat):Option ND:=if m=7∧n=21 then some (.mk 1 true 0 ⟨#[]⟩ [] []) else if m=7∧n=20 then some (.mk 1 false 0 ⟨#[]⟩ [] []) else if m=7∧n=22 then some nd0 else none
theorem putK_has {D:DataW Unit} (hD:IsMap D) (c l:Lit) (hc:WideAt.IsKeyLit c) (d:DataW Unit) [Decidable (l=c)]:Maps.has (D.put c d) l=(decide (l=c) || Maps.has D l):=by
 by_cases h:l=c
 ·subst h;rw [has_put_same hD hc,decide_eq_true rfl];rfl
 ·rw [has_put_other (fun e=>h e),decide_eq_false h];rfl
theorem putK_at {D:DataW Unit} (hD:IsMap D) (c l:Lit) (hc:WideAt.IsKeyLit c) (d z:DataW Unit) [Decidable (l=c)]:(D.put c d).atKey l z=if l=c then d else D.atKey l z:=by
 by_cases h:l=c
 ·subst h;rw [atKey_put_same hD hc,if_pos rfl]
 ·rw [atKey_put_other (fun e=>h e),if_neg h]
theorem laidC:laidOutB Tryz.prog=true:=by kernel_rfl
theorem rowHd:(129:TypeId)<Tryz.prog.types.size:=of_decide_eq_true (by kernel_rfl)
theorem wideHd:(match Tryz.prog.underlying 129 with | some (.array _ _) | some (.struct _)=>true | _=>false)=true:=by rw [Tryz.underlying129]
theorem lawHd:Keyed Tryz.prog 129:=Keyed.of_law (deep_law_laid laidC (m:=2) (by decide) rowHd (by kernel_rfl) wideHd)
theorem keyTypeHd:Tryz.prog.keyType 129=true:=by kernel_rfl
theorem cellsHd:Tryz.prog.cellsOf 129=2:=by kernel_rfl
theorem cellsHi:Tryz.prog.cellsOf 3=1:=by kernel_rfl
theorem cellsHu:Tryz.prog.cellsOf 74=1:=by kernel_rfl
theorem typesHd:∃k,Tryz.prog.types.size=k+1:=⟨_,(Nat.succ_pred_eq_of_pos (Nat.lt_of_le_of_lt (Nat.zero_le _) rowHd)).symm⟩
theorem key_hd (m n:Nat) (hm:m<8) (hn:n<18446744073709551616):keyOf Tryz.prog 129 (.agg #[.int .i64 (m:Int),.int .u64 (n:Int)])=some (hKey m n):=by
 obtain ⟨k,hk⟩:=typesHd
 have w1:(Lit.int IntKind.i64 (m:Int)).wf=true:=by simp [Lit.wf,IntKind.min,IntKind.max,IntKind.signed,IntKind.bits];omega
 have w2:(Lit.int IntKind.u64 (n:Int)).wf=true:=by simp [Lit.wf,IntKind.min,IntKind.max,IntKind.signed,IntKind.bits];omega
 have hf:(Value.agg #[.int .i64 (m:Int),.int .u64 (n:Int)]).formed Tryz.prog 129=true:=by simp [Value.formed,Tryz.underlying129,cellsHd]
 unfold keyOf hKey
 rw [Tryz.underlying129]
 simp only [keyTypeHd,hf,Bool.and_true,if_true]
 rw [hk]
 simp [Program.keyLits,Tryz.underlying129,Tryz.underlying3,Tryz.underlying74,cellsHd,cellsHi,cellsHu,Value.cells,w1,w2]
theorem hKey_inj {m n m' n':Nat} (hm:m<8) (hn:n<18446744073709551616) (hm':m'<8) (hn':n'<18446744073709551616) (h:hKey m n=hKey m' n'):m=m'∧n=n':=by
 have:=lawHd.inj (key_hd m n hm hn) (by rw [h];exact key_hd m' n' hm' hn')
 simp at this
 omega
open Classical in
theorem heads_look (m n:Nat) (hm:m<8) (hn:n<18446744073709551616):Maps.has hD3 (hKey m n)=(simZ m n).isSome∧hD3.atKey (hKey m n) (.lit (.int .i64 0))=.lit (.int .i64 (if m=7∧n=21 then 2 else if m=7∧n=20 then 1 else 0)):=by
 have i0:IsMap (.map []:DataW Unit):=isMap_empty
 have i1:IsMap hD1:=i0.put (hKey 7 22) (.lit (.int .i64 0))
 have i2:IsMap hD2:=i1.put (hKey 7 20) (.lit (.int .i64 1))
 have k:∀a b,WideAt.IsKeyLit (hKey a b):=fun _ _=>trivial
 have e:∀a,a<18446744073709551616→(hKey m n=hKey 7 a↔m=7∧n=a):=fun a ha=>⟨fun h=>hKey_inj hm hn (by decide) ha h,fun h=>by rw [h.1,h.2]⟩
 have e1:=e 21 (by decide)
 have e2:=e 20 (by decide)
 have e3:=e 22 (by decide)
 refine ⟨?_,?_⟩
 ·rw [show hD3=hD2.put (hKey 7 21) (.lit (.int .i64 2)) from rfl,putK_has i2 _ _ (k _ _),show hD2=hD1.put (hKey 7 20) (.lit (.int .i64 1)) from rfl,putK_has i1 _ _ (k _ _),show hD1=(DataW.map []).put (hKey 7 22) (.lit (.int .i64 0)) from rfl,putK_has i0 _ _ (k _ _),show Maps.has (.map []:DataW Unit) (hKey m n)=false from rfl]
  unfold simZ
  by_cases h1:m=7∧n=21
  ·rw [if_pos h1,decide_eq_true (e1.2 h1)];rfl
  by_cases h2:m=7∧n=20
  ·rw [if_neg h1,if_pos h2,decide_eq_true (e2.2 h2)];simp
  by_cases h3:m=7∧n=22
  ·rw [if_neg h1,if_neg h2,if_pos h3,decide_eq_true (e3.2 h3)];simp
  rw [if_neg h1,if_neg h2,if_neg h3,decide_eq_false (fun h=>h1 (e1.1 h)),decide_eq_false (fun h=>h2 (e2.1 h)),decide_eq_false (fun h=>h3 (e3.1 h))];rfl
 ·rw [show hD3=hD2.put (hKey 7 21) (.lit (.int .i64 2)) from rfl,putK_at i2 _ _ (k _ _),show hD2=hD1.put (hKey 7 20) (.lit (.int .i64 1)) from rfl,putK_at i1 _ _ (k _ _),show hD1=(DataW.map []).put (hKey 7 22) (.lit (.int .i64 0)) from rfl,putK_at i0 _ _ (k _ _),show (.map []:DataW Unit).atKey (hKey m n) (.lit (.int .i64 0))=.lit (.int .i64 0) from rfl]
  by_cases h1:m=7∧n=21
  ·rw [if_pos (e1.2 h1),if_pos h1]
  by_cases h2:m=7∧n=20
  ·rw [if_neg (fun h=>h1 (e1.1 h)),if_neg h1,if_pos (e2.2 h2),if_pos h2]
  rw [if_neg (fun h=>h1 (e1.1 h)),if_neg h1,if_neg (fun h=>h2 (e2.1 h)),if_neg h2,ite_self]
theorem zeroNodeC (w:World):(zeroValue 30).run Tryz.prog w=.ok (leafV 0 false) w:=by kernel_rfl
def HeadsAt (n:Nat) (D:DataW Unit) (w:World) (m:Nat):Prop:=w.ownsMap Tryz.prog 129 wordR m n D
def Heads (w:World) (m:Nat):Prop:=w.ownsMap Tryz.prog 129 wordR m 3 hD3
theorem Heads.same {w w':World} {m:Nat} (h:Heads w m) (hb:w'.heap[m]?=w.heap[m]?):Heads w' m:=by
 obtain ⟨es,clock,h1,F,hs,hD⟩:=h
 exact ⟨es,clock,hb.trans h1,F,hs,hD⟩
theorem Heads.lt {w:World} {m:Nat} (h:Heads w m):m<w.heap.size:=World.ownsMap.lt h
theorem Heads.look {w:World} {b:Nat} (h:Heads w b) {m n:Nat} (hm:m<8) (hn:n<18446744073709551616):(Instr.lookup 95 (.map (some b)) (.agg #[.int .i64 (m:Int),.int .u64 (n:Int)]) true).run Tryz.prog w=.ok (.tuple #[leafV (((simZ m n).getD nd0).kind) (((simZ m n).getD nd0).bool),.bool (simZ m n).isSome]) w:=by
 obtain ⟨v,ps,hrun,hv⟩:=World.ownsMap.look_ok h lawHd Tryz.underlying95 (zeroNodeC w) wordR_null (key_hd m n hm hn)
 obtain ⟨l1,l2⟩:=heads_look m n hm hn
 rw [l2] at hv
 rw [hrun,l1]
 obtain ⟨q0,q1,q2⟩:=wordR_inv hv
 have:v=leafV (((simZ m n).getD nd0).kind) (((simZ m n).getD nd0).bool):=by
  by_cases h1:m=7∧n=21
  ·rw [q2 (by rw [if_pos h1])];unfold simZ;rw [if_pos h1];rfl
  by_cases h2:m=7∧n=20
  ·rw [q1 (by rw [if_neg h1,if_pos h2])];unfold simZ;rw [if_neg h1,if_pos h2];rfl
  rw [q0 (by rw [if_neg h1,if_neg h2])];unfold simZ;rw [if_neg h1,if_neg h2]
  by_cases h3:m=7∧n=22
  ·rw [if_pos h3];rfl
  ·rw [if_neg h3];rfl
 rw [this]
theorem simple_any (w:World):Calls Tryz.prog 70 #[] w fun e w'=>e=.returned (.map (some w.heap.size))∧Heads w' w.heap.size∧Below w.heap.size w w':=by
 have hmm:=@run_makeMap Tryz.prog
 have h0:=World.ownsMap_made (H:=Unit) w Tryz.prog 129 wordR
 have b0:=(Br w.heap.size w).alloc (o:=.map #[] 0) (Lr _)
 have H0:=Hh h0
 have B0:=Hh b0
 clear h0 b0
 go_enter Tryz.func70,Tryz.ntmps70
 go_upto_region 3 with fail
 have b1:=B0.out.alloc (o:=.cells #[.int .i64 0,.bool false,.int .i64 0,.string ⟨#[]⟩,.slice none 0 0,.slice none 0 0,.int .i64 1,.bool false,.int .i64 0,.string ⟨#[]⟩,.slice none 0 0,.slice none 0 0,.int .i64 1,.bool true,.int .i64 0,.string ⟨#[]⟩,.slice none 0 0,.slice none 0 0] 30) B0.out.size
 have k1:=Hn (w.alloc (.map #[] 0)) (.cells #[.int .i64 0,.bool false,.int .i64 0,.string ⟨#[]⟩,.slice none 0 0,.slice none 0 0,.int .i64 1,.bool false,.int .i64 0,.string ⟨#[]⟩,.slice none 0 0,.slice none 0 0,.int .i64 1,.bool true,.int .i64 0,.string ⟨#[]⟩,.slice none 0 0,.slice none 0 0] 30)
 rw [World.size_alloc] at k1
 have h1:=H0.out.alloc (.cells #[.int .i64 0,.bool false,.int .i64 0,.string ⟨#[]⟩,.slice none 0 0,.slice none 0 0,.int .i64 1,.bool false,.int .i64 0,.string ⟨#[]⟩,.slice none 0 0,.slice none 0 0,.int .i64 1,.bool true,.int .i64 0,.string ⟨#[]⟩,.slice none 0 0,.slice none 0 0] 30)
 generalize (w.alloc (.map #[] 0)).alloc (.cells #[.int .i64 0,.bool false,.int .i64 0,.string ⟨#[]⟩,.slice none 0 0,.slice none 0 0,.int .i64 1,.bool false,.int .i64 0,.string ⟨#[]⟩,.slice none 0 0,.slice none 0 0,.int .i64 1,.bool true,.int .i64 0,.string ⟨#[]⟩,.slice none 0 0,.slice none 0 0] 30)=w1 at b1 k1 h1 ⊢
 have K1:=Hh k1
 have B1:=Hh b1
 have H1:=Hh h1
 clear k1 b1 h1 hmm H0 B0
 obtain ⟨g,hg⟩:∃g,g=w.heap.size+1:=⟨_,rfl⟩
 rw [←hg] at K1 ⊢
 have HG:=Hh hg
 clear hg
 go_loopw [10] (fun i wr=>∃ (j:Nat),j≤3∧i=.int .i64 (j:Int)∧(∃D:DataW Unit,(j=0→D=.map [])∧(j=1→D=hD1)∧(j=2→D=hD2)∧(j=3→D=hD3)∧HeadsAt j D wr w.heap.size)∧Below w.heap.size w wr∧wr.heap[g]?=some (.cells #[.int .i64 0,.bool false,.int .i64 0,.string ⟨#[]⟩,.slice none 0 0,.slice none 0 0,.int .i64 1,.bool false,.int .i64 0,.string ⟨#[]⟩,.slice none 0 0,.slice none 0 0,.int .i64 1,.bool true,.int .i64 0,.string ⟨#[]⟩,.slice none 0 0,.slice none 0 0] 30)) (fun i _=>3 - (intOf i).toNat)
 case atStart=>exact ⟨0,by decide,rfl,⟨_,fun _=>rfl,fun h=>(by cases h),fun h=>(by cases h),fun h=>(by cases h),H1.out⟩,B1.out,K1.out⟩
 case round=>
  obtain ⟨j,hj,rfl,⟨D,hD0,hDD1,hDD2,hDD3,hown⟩,hB,hk⟩:=hrel
  have HO:=Hh hown
  have HB:=Hh hB
  have HK:=Hh hk
  have hgl:=lt_of_block hk
  have hmg:w.heap.size<g:=by have:=HG.out;omega
  obtain rfl | rfl | rfl | rfl:j=0∨j=1∨j=2∨j=3:=by omega
  ·have cc:wr.cell? ⟨g,0,none⟩=some (.int .i64 0)∧wr.cell? ⟨g,1,none⟩=some (.bool false)∧wr.cell? ⟨g,2,none⟩=some (.int .i64 0)∧wr.cell? ⟨g,3,none⟩=some (.string ⟨#[]⟩)∧wr.cell? ⟨g,4,none⟩=some (.slice none 0 0)∧wr.cell? ⟨g,5,none⟩=some (.slice none 0 0):=⟨cell_blk hk rfl,cell_blk hk rfl,cell_blk hk rfl,cell_blk hk rfl,cell_blk hk rfl,cell_blk hk rfl⟩
   have hD:=hD0 rfl
   clear hown hB hk hj hD0 hDD1 hDD2 hDD3
   have HD:=Hh hD
   clear hD
   have ba:=(Br wr.heap.size wr).alloc (o:=.cells #[.int .i64 0,.bool false,.int .i64 0,.string ⟨#[]⟩,.slice none 0 0,.slice none 0 0] 30) (Lr _)
   have ka:=Hn wr (.cells #[.int .i64 0,.bool false,.int .i64 0,.string ⟨#[]⟩,.slice none 0 0,.slice none 0 0] 30)
   have oa:=World.ownsMap.alloc HO.out (.cells #[.int .i64 0,.bool false,.int .i64 0,.string ⟨#[]⟩,.slice none 0 0,.slice none 0 0] 30)
   go_upto_region 5 with fail
   generalize wr.alloc (.cells #[.int .i64 0,.bool false,.int .i64 0,.string ⟨#[]⟩,.slice none 0 0,.slice none 0 0] 30)=wa at ba ka oa ⊢
   have sa:=six_of ka
   have hla:=lt_of_block ka
   have hbw:Below wa.heap.size wa wa.drew:=(Br _ _).drew
   have HF:=Hh (headOf_any [.int .i64 0,.bool false,.int .i64 0,.string ⟨#[]⟩,.slice none 0 0,.slice none 0 0] (.mk 0 false 0 ⟨#[]⟩ [] []) wa.drew (node_leaf (fun _=>True) wa.drew 0 false 0 ⟨#[]⟩ (by decide)) (d:=0) (by decide) (by decide))
   rw [show headV7 (.mk 0 false 0 ⟨#[]⟩ [] [])=.agg #[.int .i64 7,.int .u64 22] from rfl] at HF
   refine wp_region_plan (fun w'=>w'.cell? ⟨wr.heap.size,0,none⟩=some (.int .i64 0)∧w'.cell? ⟨wr.heap.size,1,none⟩=some (.bool false)∧w'.cell? ⟨wr.heap.size,2,none⟩=some (.int .i64 0)∧w'.cell? ⟨wr.heap.size,3,none⟩=some (.string ⟨#[]⟩)∧w'.cell? ⟨wr.heap.size,4,none⟩=some (.slice none 0 0)∧w'.cell? ⟨wr.heap.size,5,none⟩=some (.slice none 0 0)) [1,3] (.take 0 (.take 1 (.take 3 (.ask 2 true (.ask 4 false .stop .stop) .stop)))) (by kernel_rfl) (by kernel_rfl) (fun _ d _ _ _ h=>by cases d <;> exact h) sa ?_
   have sd:wa.drew.cell? ⟨wr.heap.size,0,none⟩=some (.int .i64 0)∧wa.drew.cell? ⟨wr.heap.size,1,none⟩=some (.bool false)∧wa.drew.cell? ⟨wr.heap.size,2,none⟩=some (.int .i64 0)∧wa.drew.cell? ⟨wr.heap.size,3,none⟩=some (.string ⟨#[]⟩)∧wa.drew.cell? ⟨wr.heap.size,4,none⟩=some (.slice none 0 0)∧wa.drew.cell? ⟨wr.heap.size,5,none⟩=some (.slice none 0 0):=sa
   have od:wa.drew.ownsMap Tryz.prog 129 wordR w.heap.size 0 D:=oa
   have kd:wa.drew.heap[g]?=wr.heap[g]?:=ba.block g hgl
   have hla2:wr.heap.size<wa.drew.heap.size:=hla
   have hmd:w.heap.size<wa.drew.heap.size:=Ll (Nat.lt_trans hmg hgl) ba.size
   have hbd:=ba.drew
   generalize wa.drew=wd at HF hbw sd od kd hla2 hmd hbd ⊢
   have OD:=Hh od
   clear sa ka cc od
   refine take_any _ ?_ rfl rfl ?_ (fun K hK=>?_);rotate_left;(intro w0;go_simp;(try rfl));(go_simp;refine hK _ ?_;clear hK K)
   refine take_held _ ?_ rfl rfl (by decide) ?_ (fun K hK=>?_);rotate_left;(intro w0 hw0;obtain ⟨hs0,hs1,hs2,hs3,hs4,hs5⟩:=hw0;go_simp;(try rfl));(go_simp;refine hK _ ?_;clear hK K)
   refine take_held _ ?_ rfl rfl (by decide) ?_ (fun K hK=>?_);rotate_left;(intro w0 hw0;obtain ⟨hs0,hs1,hs2,hs3,hs4,hs5⟩:=hw0;go_simp;(try rfl));(go_simp;refine hK _ ?_;clear hK K)
   refine ask_step _ rfl trivial ?_;go_wp2_with (go_at_call 102;(with_reducible refine (HF.out).mono ?_);rintro e w3 ⟨rfl,hb3⟩);refine Seg.mk ⟨by obtain ⟨s0,s1,s2,s3,s4,s5⟩:=sd;exact ⟨(hb3.cell (p:=⟨wr.heap.size,0,none⟩) hla2).trans s0,(hb3.cell (p:=⟨wr.heap.size,1,none⟩) hla2).trans s1,(hb3.cell (p:=⟨wr.heap.size,2,none⟩) hla2).trans s2,(hb3.cell (p:=⟨wr.heap.size,3,none⟩) hla2).trans s3,(hb3.cell (p:=⟨wr.heap.size,4,none⟩) hla2).trans s4,(hb3.cell (p:=⟨wr.heap.size,5,none⟩) hla2).trans s5⟩,?_⟩
   have o3:w3.ownsMap Tryz.prog 129 wordR w.heap.size 0 D:=World.ownsMap.kept OD.out (grown_of_below hb3 (Lr _) none) (by simp)
   refine ask_last _ rfl trivial ?_
   go_wp2_with (refine wpList_mapUpdate_own _ rfl _ _ _ 95 rfl 129 30 lawHd Tryz.underlying95 _ w.heap.size 0 _ rfl o3 (by unfold maxLen;omega) _ _ _ rfl rfl (key_hd 7 22 (by decide) (by decide)) _ [] wordR_null ?_;intro w4 h4 g4)
   have hb03:=hbd.trans (hb3.mono hbd.size)
   have B4:=gbelow (HB.out.trans (hb03.mono HB.out.size)) g4 (Nat.le_trans HB.out.size hb03.size) (Lr _)
   have hk4:w4.heap[g]?=some (.cells #[.int .i64 0,.bool false,.int .i64 0,.string ⟨#[]⟩,.slice none 0 0,.slice none 0 0,.int .i64 1,.bool false,.int .i64 0,.string ⟨#[]⟩,.slice none 0 0,.slice none 0 0,.int .i64 1,.bool true,.int .i64 0,.string ⟨#[]⟩,.slice none 0 0,.slice none 0 0] 30):=by
    rw [g4.block g (Ll hgl hb03.size) (by intro e;have:=Option.some.inj e;omega),hb03.block g hgl];exact HK.out
   rw [HD.out] at h4
   go_wp2
   go_roundw
   case rel=>exact ⟨1,by decide,rfl,⟨_,fun h=>(by first | rfl | (exfalso;omega)),fun h=>(by first | rfl | (exfalso;omega)),fun h=>(by first | rfl | (exfalso;omega)),fun h=>(by first | rfl | (exfalso;omega)),h4⟩,B4,hk4⟩
   case measure=>simp [intOf]
  ·have cc:wr.cell? ⟨g,6,none⟩=some (.int .i64 1)∧wr.cell? ⟨g,7,none⟩=some (.bool false)∧wr.cell? ⟨g,8,none⟩=some (.int .i64 0)∧wr.cell? ⟨g,9,none⟩=some (.string ⟨#[]⟩)∧wr.cell? ⟨g,10,none⟩=some (.slice none 0 0)∧wr.cell? ⟨g,11,none⟩=some (.slice none 0 0):=⟨cell_blk hk rfl,cell_blk hk rfl,cell_blk hk rfl,cell_blk hk rfl,cell_blk hk rfl,cell_blk hk rfl⟩
   have hD:=hDD1 rfl
   clear hown hB hk hj hD0 hDD1 hDD2 hDD3
   have HD:=Hh hD
   clear hD
   have ba:=(Br wr.heap.size wr).alloc (o:=.cells #[.int .i64 1,.bool false,.int .i64 0,.string ⟨#[]⟩,.slice none 0 0,.slice none 0 0] 30) (Lr _)
   have ka:=Hn wr (.cells #[.int .i64 1,.bool false,.int .i64 0,.string ⟨#[]⟩,.slice none 0 0,.slice none 0 0] 30)
   have oa:=World.ownsMap.alloc HO.out (.cells #[.int .i64 1,.bool false,.int .i64 0,.string ⟨#[]⟩,.slice none 0 0,.slice none 0 0] 30)
   go_upto_region 5 with fail
   generalize wr.alloc (.cells #[.int .i64 1,.bool false,.int .i64 0,.string ⟨#[]⟩,.slice none 0 0,.slice none 0 0] 30)=wa at ba ka oa ⊢
   have sa:=six_of ka
   have hla:=lt_of_block ka
   have hbw:Below wa.heap.size wa wa.drew:=(Br _ _).drew
   have HF:=Hh (headOf_any [.int .i64 1,.bool false,.int .i64 0,.string ⟨#[]⟩,.slice none 0 0,.slice none 0 0] (.mk 1 false 0 ⟨#[]⟩ [] []) wa.drew (node_leaf (fun _=>True) wa.drew 1 false 0 ⟨#[]⟩ (by decide)) (d:=0) (by decide) (by decide))
   rw [show headV7 (.mk 1 false 0 ⟨#[]⟩ [] [])=.agg #[.int .i64 7,.int .u64 20] from rfl] at HF
   refine wp_region_plan (fun w'=>w'.cell? ⟨wr.heap.size,0,none⟩=some (.int .i64 1)∧w'.cell? ⟨wr.heap.size,1,none⟩=some (.bool false)∧w'.cell? ⟨wr.heap.size,2,none⟩=some (.int .i64 0)∧w'.cell? ⟨wr.heap.size,3,none⟩=some (.string ⟨#[]⟩)∧w'.cell? ⟨wr.heap.size,4,none⟩=some (.slice none 0 0)∧w'.cell? ⟨wr.heap.size,5,none⟩=some (.slice none 0 0)) [1,3] (.take 0 (.take 1 (.take 3 (.ask 2 true (.ask 4 false .stop .stop) .stop)))) (by kernel_rfl) (by kernel_rfl) (fun _ d _ _ _ h=>by cases d <;> exact h) sa ?_
   have sd:wa.drew.cell? ⟨wr.heap.size,0,none⟩=some (.int .i64 1)∧wa.drew.cell? ⟨wr.heap.size,1,none⟩=some (.bool false)∧wa.drew.cell? ⟨wr.heap.size,2,none⟩=some (.int .i64 0)∧wa.drew.cell? ⟨wr.heap.size,3,none⟩=some (.string ⟨#[]⟩)∧wa.drew.cell? ⟨wr.heap.size,4,none⟩=some (.slice none 0 0)∧wa.drew.cell? ⟨wr.heap.size,5,none⟩=some (.slice none 0 0):=sa
   have od:wa.drew.ownsMap Tryz.prog 129 wordR w.heap.size 1 D:=oa
   have kd:wa.drew.heap[g]?=wr.heap[g]?:=ba.block g hgl
   have hla2:wr.heap.size<wa.drew.heap.size:=hla
   have hmd:w.heap.size<wa.drew.heap.size:=Ll (Nat.lt_trans hmg hgl) ba.size
   have hbd:=ba.drew
   generalize wa.drew=wd at HF hbw sd od kd hla2 hmd hbd ⊢
   have OD:=Hh od
   clear sa ka cc od
   refine take_any _ ?_ rfl rfl ?_ (fun K hK=>?_);rotate_left;(intro w0;go_simp;(try rfl));(go_simp;refine hK _ ?_;clear hK K)
   refine take_held _ ?_ rfl rfl (by decide) ?_ (fun K hK=>?_);rotate_left;(intro w0 hw0;obtain ⟨hs0,hs1,hs2,hs3,hs4,hs5⟩:=hw0;go_simp;(try rfl));(go_simp;refine hK _ ?_;clear hK K)
   refine take_held _ ?_ rfl rfl (by decide) ?_ (fun K hK=>?_);rotate_left;(intro w0 hw0;obtain ⟨hs0,hs1,hs2,hs3,hs4,hs5⟩:=hw0;go_simp;(try rfl));(go_simp;refine hK _ ?_;clear hK K)
   refine ask_step _ rfl trivial ?_;go_wp2_with (go_at_call 102;(with_reducible refine (HF.out).mono ?_);rintro e w3 ⟨rfl,hb3⟩);refine Seg.mk ⟨by obtain ⟨s0,s1,s2,s3,s4,s5⟩:=sd;exact ⟨(hb3.cell (p:=⟨wr.heap.size,0,none⟩) hla2).trans s0,(hb3.cell (p:=⟨wr.heap.size,1,none⟩) hla2).trans s1,(hb3.cell (p:=⟨wr.heap.size,2,none⟩) hla2).trans s2,(hb3.cell (p:=⟨wr.heap.size,3,none⟩) hla2).trans s3,(hb3.cell (p:=⟨wr.heap.size,4,none⟩) hla2).trans s4,(hb3.cell (p:=⟨wr.heap.size,5,none⟩) hla2).trans s5⟩,?_⟩
   have o3:w3.ownsMap Tryz.prog 129 wordR w.heap.size 1 D:=World.ownsMap.kept OD.out (grown_of_below hb3 (Lr _) none) (by simp)
   refine ask_last _ rfl trivial ?_
   go_wp2_with (refine wpList_mapUpdate_own _ rfl _ _ _ 95 rfl 129 30 lawHd Tryz.underlying95 _ w.heap.size 1 _ rfl o3 (by unfold maxLen;omega) _ _ _ rfl rfl (key_hd 7 20 (by decide) (by decide)) _ [] wordR_false ?_;intro w4 h4 g4)
   have hb03:=hbd.trans (hb3.mono hbd.size)
   have B4:=gbelow (HB.out.trans (hb03.mono HB.out.size)) g4 (Nat.le_trans HB.out.size hb03.size) (Lr _)
   have hk4:w4.heap[g]?=some (.cells #[.int .i64 0,.bool false,.int .i64 0,.string ⟨#[]⟩,.slice none 0 0,.slice none 0 0,.int .i64 1,.bool false,.int .i64 0,.string ⟨#[]⟩,.slice none 0 0,.slice none 0 0,.int .i64 1,.bool true,.int .i64 0,.string ⟨#[]⟩,.slice none 0 0,.slice none 0 0] 30):=by
    rw [g4.block g (Ll hgl hb03.size) (by intro e;have:=Option.some.inj e;omega),hb03.block g hgl];exact HK.out
   rw [HD.out] at h4
   go_wp2
   go_roundw
   case rel=>exact ⟨2,by decide,rfl,⟨_,fun h=>(by first | rfl | (exfalso;omega)),fun h=>(by first | rfl | (exfalso;omega)),fun h=>(by first | rfl | (exfalso;omega)),fun h=>(by first | rfl | (exfalso;omega)),h4⟩,B4,hk4⟩
   case measure=>simp [intOf]
  ·have cc:wr.cell? ⟨g,12,none⟩=some (.int .i64 1)∧wr.cell? ⟨g,13,none⟩=some (.bool true)∧wr.cell? ⟨g,14,none⟩=some (.int .i64 0)∧wr.cell? ⟨g,15,none⟩=some (.string ⟨#[]⟩)∧wr.cell? ⟨g,16,none⟩=some (.slice none 0 0)∧wr.cell? ⟨g,17,none⟩=some (.slice none 0 0):=⟨cell_blk hk rfl,cell_blk hk rfl,cell_blk hk rfl,cell_blk hk rfl,cell_blk hk rfl,cell_blk hk rfl⟩
   have hD:=hDD2 rfl
   clear hown hB hk hj hD0 hDD1 hDD2 hDD3
   have HD:=Hh hD
   clear hD
   have ba:=(Br wr.heap.size wr).alloc (o:=.cells #[.int .i64 1,.bool true,.int .i64 0,.string ⟨#[]⟩,.slice none 0 0,.slice none 0 0] 30) (Lr _)
   have ka:=Hn wr (.cells #[.int .i64 1,.bool true,.int .i64 0,.string ⟨#[]⟩,.slice none 0 0,.slice none 0 0] 30)
   have oa:=World.ownsMap.alloc HO.out (.cells #[.int .i64 1,.bool true,.int .i64 0,.string ⟨#[]⟩,.slice none 0 0,.slice none 0 0] 30)
   go_upto_region 5 with fail
   generalize wr.alloc (.cells #[.int .i64 1,.bool true,.int .i64 0,.string ⟨#[]⟩,.slice none 0 0,.slice none 0 0] 30)=wa at ba ka oa ⊢
   have sa:=six_of ka
   have hla:=lt_of_block ka
   have hbw:Below wa.heap.size wa wa.drew:=(Br _ _).drew
   have HF:=Hh (headOf_any [.int .i64 1,.bool true,.int .i64 0,.string ⟨#[]⟩,.slice none 0 0,.slice none 0 0] (.mk 1 true 0 ⟨#[]⟩ [] []) wa.drew (node_leaf (fun _=>True) wa.drew 1 true 0 ⟨#[]⟩ (by decide)) (d:=0) (by decide) (by decide))
   rw [show headV7 (.mk 1 true 0 ⟨#[]⟩ [] [])=.agg #[.int .i64 7,.int .u64 21] from rfl] at HF
   refine wp_region_plan (fun w'=>w'.cell? ⟨wr.heap.size,0,none⟩=some (.int .i64 1)∧w'.cell? ⟨wr.heap.size,1,none⟩=some (.bool true)∧w'.cell? ⟨wr.heap.size,2,none⟩=some (.int .i64 0)∧w'.cell? ⟨wr.heap.size,3,none⟩=some (.string ⟨#[]⟩)∧w'.cell? ⟨wr.heap.size,4,none⟩=some (.slice none 0 0)∧w'.cell? ⟨wr.heap.size,5,none⟩=some (.slice none 0 0)) [1,3] (.take 0 (.take 1 (.take 3 (.ask 2 true (.ask 4 false .stop .stop) .stop)))) (by kernel_rfl) (by kernel_rfl) (fun _ d _ _ _ h=>by cases d <;> exact h) sa ?_
   have sd:wa.drew.cell? ⟨wr.heap.size,0,none⟩=some (.int .i64 1)∧wa.drew.cell? ⟨wr.heap.size,1,none⟩=some (.bool true)∧wa.drew.cell? ⟨wr.heap.size,2,none⟩=some (.int .i64 0)∧wa.drew.cell? ⟨wr.heap.size,3,none⟩=some (.string ⟨#[]⟩)∧wa.drew.cell? ⟨wr.heap.size,4,none⟩=some (.slice none 0 0)∧wa.drew.cell? ⟨wr.heap.size,5,none⟩=some (.slice none 0 0):=sa
   have od:wa.drew.ownsMap Tryz.prog 129 wordR w.heap.size 2 D:=oa
   have kd:wa.drew.heap[g]?=wr.heap[g]?:=ba.block g hgl
   have hla2:wr.heap.size<wa.drew.heap.size:=hla
   have hmd:w.heap.size<wa.drew.heap.size:=Ll (Nat.lt_trans hmg hgl) ba.size
   have hbd:=ba.drew
   generalize wa.drew=wd at HF hbw sd od kd hla2 hmd hbd ⊢
   have OD:=Hh od
   clear sa ka cc od
   refine take_any _ ?_ rfl rfl ?_ (fun K hK=>?_);rotate_left;(intro w0;go_simp;(try rfl));(go_simp;refine hK _ ?_;clear hK K)
   refine take_held _ ?_ rfl rfl (by decide) ?_ (fun K hK=>?_);rotate_left;(intro w0 hw0;obtain ⟨hs0,hs1,hs2,hs3,hs4,hs5⟩:=hw0;go_simp;(try rfl));(go_simp;refine hK _ ?_;clear hK K)
   refine take_held _ ?_ rfl rfl (by decide) ?_ (fun K hK=>?_);rotate_left;(intro w0 hw0;obtain ⟨hs0,hs1,hs2,hs3,hs4,hs5⟩:=hw0;go_simp;(try rfl));(go_simp;refine hK _ ?_;clear hK K)
   refine ask_step _ rfl trivial ?_;go_wp2_with (go_at_call 102;(with_reducible refine (HF.out).mono ?_);rintro e w3 ⟨rfl,hb3⟩);refine Seg.mk ⟨by obtain ⟨s0,s1,s2,s3,s4,s5⟩:=sd;exact ⟨(hb3.cell (p:=⟨wr.heap.size,0,none⟩) hla2).trans s0,(hb3.cell (p:=⟨wr.heap.size,1,none⟩) hla2).trans s1,(hb3.cell (p:=⟨wr.heap.size,2,none⟩) hla2).trans s2,(hb3.cell (p:=⟨wr.heap.size,3,none⟩) hla2).trans s3,(hb3.cell (p:=⟨wr.heap.size,4,none⟩) hla2).trans s4,(hb3.cell (p:=⟨wr.heap.size,5,none⟩) hla2).trans s5⟩,?_⟩
   have o3:w3.ownsMap Tryz.prog 129 wordR w.heap.size 2 D:=World.ownsMap.kept OD.out (grown_of_below hb3 (Lr _) none) (by simp)
   refine ask_last _ rfl trivial ?_
   go_wp2_with (refine wpList_mapUpdate_own _ rfl _ _ _ 95 rfl 129 30 lawHd Tryz.underlying95 _ w.heap.size 2 _ rfl o3 (by unfold maxLen;omega) _ _ _ rfl rfl (key_hd 7 21 (by decide) (by decide)) _ [] wordR_true ?_;intro w4 h4 g4)
   have hb03:=hbd.trans (hb3.mono hbd.size)
   have B4:=gbelow (HB.out.trans (hb03.mono HB.out.size)) g4 (Nat.le_trans HB.out.size hb03.size) (Lr _)
   have hk4:w4.heap[g]?=some (.cells #[.int .i64 0,.bool false,.int .i64 0,.string ⟨#[]⟩,.slice none 0 0,.slice none 0 0,.int .i64 1,.bool false,.int .i64 0,.string ⟨#[]⟩,.slice none 0 0,.slice none 0 0,.int .i64 1,.bool true,.int .i64 0,.string ⟨#[]⟩,.slice none 0 0,.slice none 0 0] 30):=by
    rw [g4.block g (Ll hgl hb03.size) (by intro e;have:=Option.some.inj e;omega),hb03.block g hgl];exact HK.out
   rw [HD.out] at h4
   go_wp2
   go_roundw
   case rel=>exact ⟨3,by decide,rfl,⟨_,fun h=>(by first | rfl | (exfalso;omega)),fun h=>(by first | rfl | (exfalso;omega)),fun h=>(by first | rfl | (exfalso;omega)),fun h=>(by first | rfl | (exfalso;omega)),h4⟩,B4,hk4⟩
   case measure=>simp [intOf]
  ·have hD:=hDD3 rfl
   clear hown hB hk hj hD0 hDD1 hDD2 hDD3
   subst hD
   go_wp2
   go_ret
   exact ⟨rfl,HO.out,HB.out⟩
end Go.Proofs.YtdppdonaojdceaaGreatDoor