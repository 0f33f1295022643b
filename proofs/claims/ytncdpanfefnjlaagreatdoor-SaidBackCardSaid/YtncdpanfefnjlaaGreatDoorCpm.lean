import Derived.Test.YtncdpanfefnjlaaGreatDoorCwt
set_option linter.unusedVariables false
set_option linter.unusedSimpArgs false
set_option maxRecDepth 100000
set_option maxHeartbeats 3200000
namespace Go.Proofs.YtncdpanfefnjlaaGreatDoor
open Go.Proofs.Tryz
open Go Go.Maps Go.ChangeShapes Go.WideShapes Go.ChangeAt Go.RowKit
def lU (m n:Nat):Lit:=.string (keyBytes [.int .i64 (m:Int),.int .u64 (n:Int)])
def hD1:DataW Unit:=(DataW.map []).put (lU 7 22) (.lit (.int .i64 0))
def hD2:DataW Unit:=hD1.put (lU 7 20) (.lit (.int .i64 1))
def hD3:DataW Unit:=hD2.put (lU 7 21) (.lit (.int .i64 2))
def nP (m n:Nat):Option ND:=if m=7∧n=21 then some (.mk 1 true 0 ⟨#[]⟩ [] []) else if m=7∧n=20 then some (.mk 1 false 0 ⟨#[]⟩ [] []) else if m=7∧n=22 then some nd0 else none
theorem yR {D:DataW Unit} (hD:IsMap D) (c l:Lit) (hc:WideAt.IsKeyLit c) (d:DataW Unit) [Decidable (l=c)]:Maps.has (D.put c d) l=(decide (l=c) || Maps.has D l):=by
 by_cases h:l=c
 ·subst h;rw [has_put_same hD hc,An rfl];rfl
 ·rw [has_put_other (fun e=>h e),Ap h];rfl
theorem EU {D:DataW Unit} (hD:IsMap D) (c l:Lit) (hc:WideAt.IsKeyLit c) (d z:DataW Unit) [Decidable (l=c)]:(D.put c d).atKey l z=if l=c then d else D.atKey l z:=by
 by_cases h:l=c
 ·subst h;rw [atKey_put_same hD hc,Am rfl]
 ·rw [atKey_put_other (fun e=>h e),Af h]
theorem aJr:laidOutB prog=true:=by kernel_rfl
theorem aHi:(214:TypeId)<Tryz.prog.types.size:=Ch (by kernel_rfl)
theorem aHs:(match Tryz.prog.underlying 214 with | some (.array _ _) | some (.struct _)=>true | _=>false)=true:=by rw [underlying214]
theorem KZ:Keyed prog 214:=Keyed.of_law (deep_law_laid aJr (m:=2) (by decide) aHi (by kernel_rfl) aHs)
theorem WY:Tryz.prog.keyType 214=true:=by kernel_rfl
theorem TM:Tryz.prog.cellsOf 214=2:=by kernel_rfl
theorem aGr:Tryz.prog.cellsOf 3=1:=by kernel_rfl
theorem aGq:Tryz.prog.cellsOf 130=1:=by kernel_rfl
theorem aFa:∃k,Tryz.prog.types.size=k+1:=⟨_,(Nat.succ_pred_eq_of_pos (Nat.lt_of_le_of_lt (Ax _) aHi)).symm⟩
theorem uD (m n:Nat) (hm:m<8) (hn:n<18446744073709551616):keyOf prog 214 (.agg #[Iz (m:Int),.int .u64 (n:Int)])=some (lU m n):=by
 obtain ⟨k,hk⟩:=aFa;have w1:(Lit.int IntKind.i64 (m:Int)).wf=true:=by simp [Lit.wf,IntKind.min,IntKind.max,IntKind.signed,IntKind.bits];omega
 have w2:(Lit.int IntKind.u64 (n:Int)).wf=true:=by simp [Lit.wf,IntKind.min,IntKind.max,IntKind.signed,IntKind.bits];omega
 have hf:(Value.agg #[Iz (m:Int),.int .u64 (n:Int)]).formed prog 214=true:=by simp [Value.formed,underlying214,TM]
 unfold keyOf lU;rw [underlying214];simp only [WY,hf,Bool.and_true,if_true];rw [hk];simp [Program.keyLits,underlying214,underlying3,underlying130,TM,aGr,aGq,Value.cells,w1,w2]
theorem aCd {m n m' n':Nat} (hm:m<8) (hn:n<18446744073709551616) (hm':m'<8) (hn':n'<18446744073709551616) (h:lU m n=lU m' n'):m=m'∧n=n':=by
 have:=KZ.inj (uD m n hm hn) (by rw [h];exact uD m' n' hm' hn')
 simp at this;omega
open Classical in
theorem QC (m n:Nat) (hm:m<8) (hn:n<18446744073709551616):Maps.has hD3 (lU m n)=(nP m n).isSome∧hD3.atKey (lU m n) (.lit (.int .i64 0))=.lit (.int .i64 (if m=7∧n=21 then 2 else if m=7∧n=20 then 1 else 0)):=by
 have i0:IsMap (.map []:DataW Unit):=isMap_empty;have i1:IsMap hD1:=i0.put (lU 7 22) (.lit (.int .i64 0));have i2:IsMap hD2:=i1.put (lU 7 20) (.lit (.int .i64 1));have k:∀a b,WideAt.IsKeyLit (lU a b):=fun _ _=>trivial
 have e:∀a,a<18446744073709551616→(lU m n=lU 7 a↔m=7∧n=a):=fun a ha=>⟨fun h=>aCd hm hn (by decide) ha h,fun h=>by rw [h.1,h.2]⟩
 have e1:=e 21 (by decide)
 have e2:=e 20 (by decide)
 have e3:=e 22 (by decide)
 refine ⟨?_,?_⟩
 ·rw [show hD3=hD2.put (lU 7 21) (.lit (.int .i64 2)) from rfl,yR i2 _ _ (k _ _),show hD2=hD1.put (lU 7 20) (.lit (.int .i64 1)) from rfl,yR i1 _ _ (k _ _),show hD1=(DataW.map []).put (lU 7 22) (.lit (.int .i64 0)) from rfl,yR i0 _ _ (k _ _),show Maps.has (.map []:DataW Unit) (lU m n)=false from rfl]
  unfold nP
  by_cases h1:m=7∧n=21
  ·rw [Am h1,An (e1.2 h1)];rfl
  by_cases h2:m=7∧n=20
  ·rw [Af h1,Am h2,An (e2.2 h2)];simp
  by_cases h3:m=7∧n=22
  ·rw [Af h1,Af h2,Am h3,An (e3.2 h3)];simp
  rw [Af h1,Af h2,Af h3,Ap (fun h=>h1 (e1.1 h)),Ap (fun h=>h2 (e2.1 h)),Ap (fun h=>h3 (e3.1 h))];rfl
 ·rw [show hD3=hD2.put (lU 7 21) (.lit (.int .i64 2)) from rfl,EU i2 _ _ (k _ _),show hD2=hD1.put (lU 7 20) (.lit (.int .i64 1)) from rfl,EU i1 _ _ (k _ _),show hD1=(DataW.map []).put (lU 7 22) (.lit (.int .i64 0)) from rfl,EU i0 _ _ (k _ _),show (.map []:DataW Unit).atKey (lU m n) (.lit (.int .i64 0))=.lit (.int .i64 0) from rfl]
  by_cases h1:m=7∧n=21
  ·rw [Am (e1.2 h1),Am h1]
  by_cases h2:m=7∧n=20
  ·rw [Af (fun h=>h1 (e1.1 h)),Af h1,Am (e2.2 h2),Am h2]
  rw [Af (fun h=>h1 (e1.1 h)),Af h1,Af (fun h=>h2 (e2.1 h)),Af h2,ite_self]
theorem UA (w:World):(zeroValue 28).run prog w=.ok (fL 0 false) w:=by kernel_rfl
def aHg (n:Nat) (D:DataW Unit) (w:World) (m:Nat):Prop:=w.ownsMap prog 214 iU m n D
def pA (w:World) (m:Nat):Prop:=w.ownsMap prog 214 iU m 3 hD3
theorem pA.same {w w':World} {m:Nat} (h:pA w m) (hb:w'.heap[m]?=w.heap[m]?):pA w' m:=by
 obtain ⟨es,clock,h1,F,hs,hD⟩:=h;exact ⟨es,clock,hb.trans h1,F,hs,hD⟩
theorem pA.lt {w:World} {m:Nat} (h:pA w m):m<w.heap.size:=World.ownsMap.lt h
theorem pA.look {w:World} {b:Nat} (h:pA w b) {m n:Nat} (hm:m<8) (hn:n<18446744073709551616):(Instr.lookup 183 (.map (some b)) (.agg #[Iz (m:Int),.int .u64 (n:Int)]) true).run prog w=.ok (.tuple #[fL (((nP m n).getD nd0).kind) (((nP m n).getD nd0).bool),.bool (nP m n).isSome]) w:=by
 obtain ⟨v,ps,hrun,hv⟩:=World.ownsMap.look_ok h KZ underlying183 (UA w) mQ (uD m n hm hn);obtain ⟨l1,l2⟩:=QC m n hm hn;rw [l2] at hv;rw [hrun,l1];obtain ⟨q0,q1,q2⟩:=BP hv;have:v=fL (((nP m n).getD nd0).kind) (((nP m n).getD nd0).bool):=by
  by_cases h1:m=7∧n=21
  ·rw [q2 (by rw [Am h1])];unfold nP;rw [Am h1];rfl
  by_cases h2:m=7∧n=20
  ·rw [q1 (by rw [Af h1,Am h2])];unfold nP;rw [Af h1,Am h2];rfl
  rw [q0 (by rw [Af h1,Af h2])];unfold nP;rw [Af h1,Af h2]
  by_cases h3:m=7∧n=22
  ·rw [Am h3];rfl
  ·rw [Af h3];rfl
 rw [this]
theorem OC (w:World):Calls prog 147 #[] w fun e w'=>e=.returned (.map (some w.heap.size))∧pA w' w.heap.size∧Below w.heap.size w w':=by
 have hmm:=@run_makeMap prog;have h0:=World.ownsMap_made (H:=Unit) w prog 214 iU;have b0:=(Br w.heap.size w).alloc (o:=.map #[] 0) (Lr _);have H0:=Hh h0;have B0:=Hh b0;clear h0 b0
 go_enter func147,ntmps147
 go_upto_region 3 with fail
 have b1:=B0.o.alloc (o:=.cells #[Iz 0,.bool false,Iz 0,.string ⟨#[]⟩,Sn,Sn,Iz 1,.bool false,Iz 0,.string ⟨#[]⟩,Sn,Sn,Iz 1,.bool true,Iz 0,.string ⟨#[]⟩,Sn,Sn] 28) B0.o.size;have k1:=Hn (w.alloc (.map #[] 0)) (.cells #[Iz 0,.bool false,Iz 0,.string ⟨#[]⟩,Sn,Sn,Iz 1,.bool false,Iz 0,.string ⟨#[]⟩,Sn,Sn,Iz 1,.bool true,Iz 0,.string ⟨#[]⟩,Sn,Sn] 28);rw [Cw] at k1;have h1:=H0.o.alloc (.cells #[Iz 0,.bool false,Iz 0,.string ⟨#[]⟩,Sn,Sn,Iz 1,.bool false,Iz 0,.string ⟨#[]⟩,Sn,Sn,Iz 1,.bool true,Iz 0,.string ⟨#[]⟩,Sn,Sn] 28);generalize (w.alloc (.map #[] 0)).alloc (.cells #[Iz 0,.bool false,Iz 0,.string ⟨#[]⟩,Sn,Sn,Iz 1,.bool false,Iz 0,.string ⟨#[]⟩,Sn,Sn,Iz 1,.bool true,Iz 0,.string ⟨#[]⟩,Sn,Sn] 28)=w1 at b1 k1 h1 ⊢;have K1:=Hh k1;have B1:=Hh b1;have H1:=Hh h1;clear k1 b1 h1 hmm H0 B0;obtain ⟨g,hg⟩:∃g,g=w.heap.size+1:=⟨_,rfl⟩;rw [←hg] at K1 ⊢;have HG:=Hh hg;clear hg
 go_loopw [10] (fun i wr=>∃ (j:Nat),j≤3∧i=.int .i64 (j:Int)∧(∃D:DataW Unit,(j=0→D=.map [])∧(j=1→D=hD1)∧(j=2→D=hD2)∧(j=3→D=hD3)∧aHg j D wr w.heap.size)∧Below w.heap.size w wr∧wr.heap[g]?=some (.cells #[.int .i64 0,.bool false,.int .i64 0,.string ⟨#[]⟩,Sn,Sn,.int .i64 1,.bool false,.int .i64 0,.string ⟨#[]⟩,Sn,Sn,.int .i64 1,.bool true,.int .i64 0,.string ⟨#[]⟩,Sn,Sn] 28)) (fun i _=>3 - (intOf i).toNat)
 case atStart=>exact ⟨0,by decide,rfl,⟨_,fun _=>rfl,fun h=>(by cases h),fun h=>(by cases h),fun h=>(by cases h),H1.o⟩,B1.o,K1.o⟩
 case round=>
  obtain ⟨j,hj,rfl,⟨D,hD0,hDD1,hDD2,hDD3,hown⟩,hB,hk⟩:=hrel;have HO:=Hh hown;have HB:=Hh hB;have HK:=Hh hk;have hgl:=Aa hk;have hmg:w.heap.size<g:=by have:=HG.o;omega
  obtain rfl | rfl | rfl | rfl:j=0∨j=1∨j=2∨j=3:=by omega
  ·have cc:wr.cell? ⟨g,0,none⟩=some (Iz 0)∧wr.cell? ⟨g,1,none⟩=some (.bool false)∧wr.cell? ⟨g,2,none⟩=some (Iz 0)∧wr.cell? ⟨g,3,none⟩=some (.string ⟨#[]⟩)∧wr.cell? ⟨g,4,none⟩=some (Sn)∧wr.cell? ⟨g,5,none⟩=some (Sn):=⟨aL hk rfl,aL hk rfl,aL hk rfl,aL hk rfl,aL hk rfl,aL hk rfl⟩
   have hD:=hD0 rfl;clear hown hB hk hj hD0 hDD1 hDD2 hDD3;have HD:=Hh hD;clear hD;have ba:=(Br wr.heap.size wr).alloc (o:=.cells Z6 28) (Lr _);have ka:=Hn wr (.cells Z6 28);have oa:=World.ownsMap.alloc HO.o (.cells Z6 28)
   go_upto_region 5 with fail
   generalize wr.alloc (.cells Z6 28)=wa at ba ka oa ⊢;have sa:=aA ka;have hla:=Aa ka;have hbw:Below wa.heap.size wa wa.drew:=(Br _ _).drew;have HF:=Hh (nC Y6 (.mk 0 false 0 ⟨#[]⟩ [] []) wa.drew (cC (fun _=>True) wa.drew 0 false 0 ⟨#[]⟩ (by decide)) (d:=0) (by decide) (by decide))
   rw [show iI (.mk 0 false 0 ⟨#[]⟩ [] [])=.agg #[Iz 7,.int .u64 22] from rfl] at HF
   refine aJ (fun w'=>w'.cell? ⟨wr.heap.size,0,none⟩=some (Iz 0)∧w'.cell? ⟨wr.heap.size,1,none⟩=some (.bool false)∧w'.cell? ⟨wr.heap.size,2,none⟩=some (Iz 0)∧w'.cell? ⟨wr.heap.size,3,none⟩=some (.string ⟨#[]⟩)∧w'.cell? ⟨wr.heap.size,4,none⟩=some (Sn)∧w'.cell? ⟨wr.heap.size,5,none⟩=some (Sn)) [1,3] (.take 0 (.take 1 (.take 3 (.ask 2 true (.ask 4 false .stop .stop) .stop)))) (by kernel_rfl) (by kernel_rfl) (fun _ d _ _ _ h=>by cases d <;> exact h) sa ?_
   have sd:wa.drew.cell? ⟨wr.heap.size,0,none⟩=some (Iz 0)∧wa.drew.cell? ⟨wr.heap.size,1,none⟩=some (.bool false)∧wa.drew.cell? ⟨wr.heap.size,2,none⟩=some (Iz 0)∧wa.drew.cell? ⟨wr.heap.size,3,none⟩=some (.string ⟨#[]⟩)∧wa.drew.cell? ⟨wr.heap.size,4,none⟩=some (Sn)∧wa.drew.cell? ⟨wr.heap.size,5,none⟩=some (Sn):=sa;have od:wa.drew.ownsMap prog 214 iU w.heap.size 0 D:=oa;have kd:wa.drew.heap[g]?=wr.heap[g]?:=ba.block g hgl;have hla2:wr.heap.size<wa.drew.heap.size:=hla;have hmd:w.heap.size<wa.drew.heap.size:=Ll (Cl hmg hgl) ba.size;have hbd:=ba.drew;generalize wa.drew=wd at HF hbw sd od kd hla2 hmd hbd ⊢;have OD:=Hh od;clear sa ka cc od;refine aG _ ?_ rfl rfl ?_ (fun K hK=>?_);rotate_left;(intro w0;go_simp;(try rfl));(go_simp;refine hK _ ?_;clear hK K)
   iterate 2 (refine aN _ ?_ rfl rfl (by decide) ?_ (fun K hK=>?_);rotate_left;(intro w0 hw0;obtain ⟨hs0,hs1,hs2,hs3,hs4,hs5⟩:=hw0;go_simp;(try rfl));(go_simp;refine hK _ ?_;clear hK K))
   refine aI _ rfl trivial ?_;go_wp2_with (go_at_call 167;(with_reducible refine (HF.o).mono ?_);rintro e w3 ⟨rfl,hb3⟩);refine Seg.mk ⟨by obtain ⟨s0,s1,s2,s3,s4,s5⟩:=sd;exact ⟨(hb3.cell (p:=⟨wr.heap.size,0,none⟩) hla2).trans s0,(hb3.cell (p:=⟨wr.heap.size,1,none⟩) hla2).trans s1,(hb3.cell (p:=⟨wr.heap.size,2,none⟩) hla2).trans s2,(hb3.cell (p:=⟨wr.heap.size,3,none⟩) hla2).trans s3,(hb3.cell (p:=⟨wr.heap.size,4,none⟩) hla2).trans s4,(hb3.cell (p:=⟨wr.heap.size,5,none⟩) hla2).trans s5⟩,?_⟩
   have o3:w3.ownsMap prog 214 iU w.heap.size 0 D:=Cs OD.o (aK hb3 (Lr _) none) (by simp)
   refine cG _ rfl trivial ?_
   go_wp2_with (refine Dk _ rfl _ _ _ 183 rfl 214 28 KZ underlying183 _ w.heap.size 0 _ rfl o3 (by unfold maxLen;omega) _ _ _ rfl rfl (uD 7 22 (by decide) (by decide)) _ [] mQ ?_;intro w4 h4 g4)
   have hb03:=hbd.trans (hb3.mono hbd.size);have B4:=fU (HB.o.trans (hb03.mono HB.o.size)) g4 (Ae HB.o.size hb03.size) (Lr _);have hk4:w4.heap[g]?=some (.cells #[Iz 0,.bool false,Iz 0,.string ⟨#[]⟩,Sn,Sn,Iz 1,.bool false,Iz 0,.string ⟨#[]⟩,Sn,Sn,Iz 1,.bool true,Iz 0,.string ⟨#[]⟩,Sn,Sn] 28):=by
    rw [g4.block g (Ll hgl hb03.size) (by intro e;have:=Ab e;omega),hb03.block g hgl];exact HK.o
   rw [HD.o] at h4
   go_wp2
   go_roundw
   case rel=>exact ⟨1,by decide,rfl,⟨_,fun h=>(by first | rfl | (exfalso;omega)),fun h=>(by first | rfl | (exfalso;omega)),fun h=>(by first | rfl | (exfalso;omega)),fun h=>(by first | rfl | (exfalso;omega)),h4⟩,B4,hk4⟩
   case measure=>simp [intOf]
  ·have cc:wr.cell? ⟨g,6,none⟩=some (Iz 1)∧wr.cell? ⟨g,7,none⟩=some (.bool false)∧wr.cell? ⟨g,8,none⟩=some (Iz 0)∧wr.cell? ⟨g,9,none⟩=some (.string ⟨#[]⟩)∧wr.cell? ⟨g,10,none⟩=some (Sn)∧wr.cell? ⟨g,11,none⟩=some (Sn):=⟨aL hk rfl,aL hk rfl,aL hk rfl,aL hk rfl,aL hk rfl,aL hk rfl⟩
   have hD:=hDD1 rfl;clear hown hB hk hj hD0 hDD1 hDD2 hDD3;have HD:=Hh hD;clear hD;have ba:=(Br wr.heap.size wr).alloc (o:=.cells #[Iz 1,.bool false,Iz 0,.string ⟨#[]⟩,Sn,Sn] 28) (Lr _);have ka:=Hn wr (.cells #[Iz 1,.bool false,Iz 0,.string ⟨#[]⟩,Sn,Sn] 28);have oa:=World.ownsMap.alloc HO.o (.cells #[Iz 1,.bool false,Iz 0,.string ⟨#[]⟩,Sn,Sn] 28)
   go_upto_region 5 with fail
   generalize wr.alloc (.cells #[Iz 1,.bool false,Iz 0,.string ⟨#[]⟩,Sn,Sn] 28)=wa at ba ka oa ⊢;have sa:=aA ka;have hla:=Aa ka;have hbw:Below wa.heap.size wa wa.drew:=(Br _ _).drew;have HF:=Hh (nC [Iz 1,.bool false,Iz 0,.string ⟨#[]⟩,Sn,Sn] (.mk 1 false 0 ⟨#[]⟩ [] []) wa.drew (cC (fun _=>True) wa.drew 1 false 0 ⟨#[]⟩ (by decide)) (d:=0) (by decide) (by decide))
   rw [show iI (.mk 1 false 0 ⟨#[]⟩ [] [])=.agg #[Iz 7,.int .u64 20] from rfl] at HF
   refine aJ (fun w'=>w'.cell? ⟨wr.heap.size,0,none⟩=some (Iz 1)∧w'.cell? ⟨wr.heap.size,1,none⟩=some (.bool false)∧w'.cell? ⟨wr.heap.size,2,none⟩=some (Iz 0)∧w'.cell? ⟨wr.heap.size,3,none⟩=some (.string ⟨#[]⟩)∧w'.cell? ⟨wr.heap.size,4,none⟩=some (Sn)∧w'.cell? ⟨wr.heap.size,5,none⟩=some (Sn)) [1,3] (.take 0 (.take 1 (.take 3 (.ask 2 true (.ask 4 false .stop .stop) .stop)))) (by kernel_rfl) (by kernel_rfl) (fun _ d _ _ _ h=>by cases d <;> exact h) sa ?_
   have sd:wa.drew.cell? ⟨wr.heap.size,0,none⟩=some (Iz 1)∧wa.drew.cell? ⟨wr.heap.size,1,none⟩=some (.bool false)∧wa.drew.cell? ⟨wr.heap.size,2,none⟩=some (Iz 0)∧wa.drew.cell? ⟨wr.heap.size,3,none⟩=some (.string ⟨#[]⟩)∧wa.drew.cell? ⟨wr.heap.size,4,none⟩=some (Sn)∧wa.drew.cell? ⟨wr.heap.size,5,none⟩=some (Sn):=sa;have od:wa.drew.ownsMap prog 214 iU w.heap.size 1 D:=oa;have kd:wa.drew.heap[g]?=wr.heap[g]?:=ba.block g hgl;have hla2:wr.heap.size<wa.drew.heap.size:=hla;have hmd:w.heap.size<wa.drew.heap.size:=Ll (Cl hmg hgl) ba.size;have hbd:=ba.drew;generalize wa.drew=wd at HF hbw sd od kd hla2 hmd hbd ⊢;have OD:=Hh od;clear sa ka cc od;refine aG _ ?_ rfl rfl ?_ (fun K hK=>?_);rotate_left;(intro w0;go_simp;(try rfl));(go_simp;refine hK _ ?_;clear hK K)
   iterate 2 (refine aN _ ?_ rfl rfl (by decide) ?_ (fun K hK=>?_);rotate_left;(intro w0 hw0;obtain ⟨hs0,hs1,hs2,hs3,hs4,hs5⟩:=hw0;go_simp;(try rfl));(go_simp;refine hK _ ?_;clear hK K))
   refine aI _ rfl trivial ?_;go_wp2_with (go_at_call 167;(with_reducible refine (HF.o).mono ?_);rintro e w3 ⟨rfl,hb3⟩);refine Seg.mk ⟨by obtain ⟨s0,s1,s2,s3,s4,s5⟩:=sd;exact ⟨(hb3.cell (p:=⟨wr.heap.size,0,none⟩) hla2).trans s0,(hb3.cell (p:=⟨wr.heap.size,1,none⟩) hla2).trans s1,(hb3.cell (p:=⟨wr.heap.size,2,none⟩) hla2).trans s2,(hb3.cell (p:=⟨wr.heap.size,3,none⟩) hla2).trans s3,(hb3.cell (p:=⟨wr.heap.size,4,none⟩) hla2).trans s4,(hb3.cell (p:=⟨wr.heap.size,5,none⟩) hla2).trans s5⟩,?_⟩
   have o3:w3.ownsMap prog 214 iU w.heap.size 1 D:=Cs OD.o (aK hb3 (Lr _) none) (by simp)
   refine cG _ rfl trivial ?_
   go_wp2_with (refine Dk _ rfl _ _ _ 183 rfl 214 28 KZ underlying183 _ w.heap.size 1 _ rfl o3 (by unfold maxLen;omega) _ _ _ rfl rfl (uD 7 20 (by decide) (by decide)) _ [] vF ?_;intro w4 h4 g4)
   have hb03:=hbd.trans (hb3.mono hbd.size);have B4:=fU (HB.o.trans (hb03.mono HB.o.size)) g4 (Ae HB.o.size hb03.size) (Lr _);have hk4:w4.heap[g]?=some (.cells #[Iz 0,.bool false,Iz 0,.string ⟨#[]⟩,Sn,Sn,Iz 1,.bool false,Iz 0,.string ⟨#[]⟩,Sn,Sn,Iz 1,.bool true,Iz 0,.string ⟨#[]⟩,Sn,Sn] 28):=by
    rw [g4.block g (Ll hgl hb03.size) (by intro e;have:=Ab e;omega),hb03.block g hgl];exact HK.o
   rw [HD.o] at h4
   go_wp2
   go_roundw
   case rel=>exact ⟨2,by decide,rfl,⟨_,fun h=>(by first | rfl | (exfalso;omega)),fun h=>(by first | rfl | (exfalso;omega)),fun h=>(by first | rfl | (exfalso;omega)),fun h=>(by first | rfl | (exfalso;omega)),h4⟩,B4,hk4⟩
   case measure=>simp [intOf]
  ·have cc:wr.cell? ⟨g,12,none⟩=some (Iz 1)∧wr.cell? ⟨g,13,none⟩=some (.bool true)∧wr.cell? ⟨g,14,none⟩=some (Iz 0)∧wr.cell? ⟨g,15,none⟩=some (.string ⟨#[]⟩)∧wr.cell? ⟨g,16,none⟩=some (Sn)∧wr.cell? ⟨g,17,none⟩=some (Sn):=⟨aL hk rfl,aL hk rfl,aL hk rfl,aL hk rfl,aL hk rfl,aL hk rfl⟩
   have hD:=hDD2 rfl;clear hown hB hk hj hD0 hDD1 hDD2 hDD3;have HD:=Hh hD;clear hD;have ba:=(Br wr.heap.size wr).alloc (o:=.cells #[Iz 1,.bool true,Iz 0,.string ⟨#[]⟩,Sn,Sn] 28) (Lr _);have ka:=Hn wr (.cells #[Iz 1,.bool true,Iz 0,.string ⟨#[]⟩,Sn,Sn] 28);have oa:=World.ownsMap.alloc HO.o (.cells #[Iz 1,.bool true,Iz 0,.string ⟨#[]⟩,Sn,Sn] 28)
   go_upto_region 5 with fail
   generalize wr.alloc (.cells #[Iz 1,.bool true,Iz 0,.string ⟨#[]⟩,Sn,Sn] 28)=wa at ba ka oa ⊢;have sa:=aA ka;have hla:=Aa ka;have hbw:Below wa.heap.size wa wa.drew:=(Br _ _).drew;have HF:=Hh (nC [Iz 1,.bool true,Iz 0,.string ⟨#[]⟩,Sn,Sn] (.mk 1 true 0 ⟨#[]⟩ [] []) wa.drew (cC (fun _=>True) wa.drew 1 true 0 ⟨#[]⟩ (by decide)) (d:=0) (by decide) (by decide))
   rw [show iI (.mk 1 true 0 ⟨#[]⟩ [] [])=.agg #[Iz 7,.int .u64 21] from rfl] at HF
   refine aJ (fun w'=>w'.cell? ⟨wr.heap.size,0,none⟩=some (Iz 1)∧w'.cell? ⟨wr.heap.size,1,none⟩=some (.bool true)∧w'.cell? ⟨wr.heap.size,2,none⟩=some (Iz 0)∧w'.cell? ⟨wr.heap.size,3,none⟩=some (.string ⟨#[]⟩)∧w'.cell? ⟨wr.heap.size,4,none⟩=some (Sn)∧w'.cell? ⟨wr.heap.size,5,none⟩=some (Sn)) [1,3] (.take 0 (.take 1 (.take 3 (.ask 2 true (.ask 4 false .stop .stop) .stop)))) (by kernel_rfl) (by kernel_rfl) (fun _ d _ _ _ h=>by cases d <;> exact h) sa ?_
   have sd:wa.drew.cell? ⟨wr.heap.size,0,none⟩=some (Iz 1)∧wa.drew.cell? ⟨wr.heap.size,1,none⟩=some (.bool true)∧wa.drew.cell? ⟨wr.heap.size,2,none⟩=some (Iz 0)∧wa.drew.cell? ⟨wr.heap.size,3,none⟩=some (.string ⟨#[]⟩)∧wa.drew.cell? ⟨wr.heap.size,4,none⟩=some (Sn)∧wa.drew.cell? ⟨wr.heap.size,5,none⟩=some (Sn):=sa;have od:wa.drew.ownsMap prog 214 iU w.heap.size 2 D:=oa;have kd:wa.drew.heap[g]?=wr.heap[g]?:=ba.block g hgl;have hla2:wr.heap.size<wa.drew.heap.size:=hla;have hmd:w.heap.size<wa.drew.heap.size:=Ll (Cl hmg hgl) ba.size;have hbd:=ba.drew;generalize wa.drew=wd at HF hbw sd od kd hla2 hmd hbd ⊢;have OD:=Hh od;clear sa ka cc od;refine aG _ ?_ rfl rfl ?_ (fun K hK=>?_);rotate_left;(intro w0;go_simp;(try rfl));(go_simp;refine hK _ ?_;clear hK K)
   iterate 2 (refine aN _ ?_ rfl rfl (by decide) ?_ (fun K hK=>?_);rotate_left;(intro w0 hw0;obtain ⟨hs0,hs1,hs2,hs3,hs4,hs5⟩:=hw0;go_simp;(try rfl));(go_simp;refine hK _ ?_;clear hK K))
   refine aI _ rfl trivial ?_;go_wp2_with (go_at_call 167;(with_reducible refine (HF.o).mono ?_);rintro e w3 ⟨rfl,hb3⟩);refine Seg.mk ⟨by obtain ⟨s0,s1,s2,s3,s4,s5⟩:=sd;exact ⟨(hb3.cell (p:=⟨wr.heap.size,0,none⟩) hla2).trans s0,(hb3.cell (p:=⟨wr.heap.size,1,none⟩) hla2).trans s1,(hb3.cell (p:=⟨wr.heap.size,2,none⟩) hla2).trans s2,(hb3.cell (p:=⟨wr.heap.size,3,none⟩) hla2).trans s3,(hb3.cell (p:=⟨wr.heap.size,4,none⟩) hla2).trans s4,(hb3.cell (p:=⟨wr.heap.size,5,none⟩) hla2).trans s5⟩,?_⟩
   have o3:w3.ownsMap prog 214 iU w.heap.size 2 D:=Cs OD.o (aK hb3 (Lr _) none) (by simp)
   refine cG _ rfl trivial ?_
   go_wp2_with (refine Dk _ rfl _ _ _ 183 rfl 214 28 KZ underlying183 _ w.heap.size 2 _ rfl o3 (by unfold maxLen;omega) _ _ _ rfl rfl (uD 7 21 (by decide) (by decide)) _ [] xO ?_;intro w4 h4 g4)
   have hb03:=hbd.trans (hb3.mono hbd.size);have B4:=fU (HB.o.trans (hb03.mono HB.o.size)) g4 (Ae HB.o.size hb03.size) (Lr _);have hk4:w4.heap[g]?=some (.cells #[Iz 0,.bool false,Iz 0,.string ⟨#[]⟩,Sn,Sn,Iz 1,.bool false,Iz 0,.string ⟨#[]⟩,Sn,Sn,Iz 1,.bool true,Iz 0,.string ⟨#[]⟩,Sn,Sn] 28):=by
    rw [g4.block g (Ll hgl hb03.size) (by intro e;have:=Ab e;omega),hb03.block g hgl];exact HK.o
   rw [HD.o] at h4
   go_wp2
   go_roundw
   case rel=>exact ⟨3,by decide,rfl,⟨_,fun h=>(by first | rfl | (exfalso;omega)),fun h=>(by first | rfl | (exfalso;omega)),fun h=>(by first | rfl | (exfalso;omega)),fun h=>(by first | rfl | (exfalso;omega)),h4⟩,B4,hk4⟩
   case measure=>simp [intOf]
  ·have hD:=hDD3 rfl
   clear hown hB hk hj hD0 hDD1 hDD2 hDD3;subst hD
   go_wp2
   go_ret
   exact ⟨rfl,HO.o,HB.o⟩
end Go.Proofs.YtncdpanfefnjlaaGreatDoor