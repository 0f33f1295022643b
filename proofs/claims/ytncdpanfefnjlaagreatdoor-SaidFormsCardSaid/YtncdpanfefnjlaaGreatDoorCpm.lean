import Derived.Test.YtncdpanfefnjlaaGreatDoorCwt
set_option linter.unusedVariables false
set_option linter.unusedSimpArgs false
set_option maxRecDepth 100000
set_option maxHeartbeats 3200000
namespace Go.Proofs.YtncdpanfefnjlaaGreatDoor
open Go.Proofs.Tryz
open Go Go.Maps Go.ChangeShapes Go.WideShapes Go.ChangeAt Go.RowKit
def mJ (m n:Nat):Lit:=.string (keyBytes [.int .i64 (m:Int),.int .u64 (n:Int)])
def hD1:DataW Unit:=(DataW.map []).put (mJ 7 22) (.lit (.int .i64 0))
def hD2:DataW Unit:=hD1.put (mJ 7 20) (.lit (.int .i64 1))
def hD3:DataW Unit:=hD2.put (mJ 7 21) (.lit (.int .i64 2))
def oF (m n:Nat):Option ND:=if m=7∧n=21 then some (.mk 1 true 0 ⟨#[]⟩ [] []) else if m=7∧n=20 then some (.mk 1 false 0 ⟨#[]⟩ [] []) else if m=7∧n=22 then some nd0 else none
theorem AB {D:DataW Unit} (b:IsMap D) (c l:Lit) (a:WideAt.IsKeyLit c) (d:DataW Unit) [Decidable (l=c)]:Maps.has (D.put c d) l=(decide (l=c) || Maps.has D l):=by
 by_cases h:l=c
 ·subst h;rw [has_put_same b a,Ap rfl];rfl
 ·rw [has_put_other (fun e=>h e),Ar h];rfl
theorem GS {D:DataW Unit} (b:IsMap D) (c l:Lit) (a:WideAt.IsKeyLit c) (d z:DataW Unit) [Decidable (l=c)]:(D.put c d).atKey l z=if l=c then d else D.atKey l z:=by
 by_cases h:l=c
 ·subst h;rw [atKey_put_same b a,Am rfl]
 ·rw [atKey_put_other (fun e=>h e),Ae h]
theorem aLh:laidOutB prog=true:=by kernel_rfl
theorem aIw:(214:TypeId)<Tryz.prog.types.size:=Ci (by kernel_rfl)
theorem aJi:(match Tryz.prog.underlying 214 with | some (.array _ _) | some (.struct _)=>true | _=>false)=true:=by rw [underlying214]
theorem MQ:Keyed prog 214:=Keyed.of_law (deep_law_laid aLh (m:=2) (by decide) aIw (by kernel_rfl) aJi)
theorem YO:Tryz.prog.keyType 214=true:=by kernel_rfl
theorem VC:Tryz.prog.cellsOf 214=2:=by kernel_rfl
theorem aIh:Tryz.prog.cellsOf 3=1:=by kernel_rfl
theorem aIg:Tryz.prog.cellsOf 130=1:=by kernel_rfl
theorem aGn:∃k,Tryz.prog.types.size=k+1:=⟨_,(Nat.succ_pred_eq_of_pos (Nat.lt_of_le_of_lt (Av _) aIw)).symm⟩
theorem vG (m n:Nat) (f:m<8) (e:n<18446744073709551616):keyOf prog 214 (.agg #[Iz (m:Int),.int .u64 (n:Int)])=some (mJ m n):=by
 obtain ⟨k,c⟩:=aGn;have d:(Lit.int IntKind.i64 (m:Int)).wf=true:=by simp [Lit.wf,IntKind.min,IntKind.max,IntKind.signed,IntKind.bits];omega
 have b:(Lit.int IntKind.u64 (n:Int)).wf=true:=by simp [Lit.wf,IntKind.min,IntKind.max,IntKind.signed,IntKind.bits];omega
 have a:(Value.agg #[Iz (m:Int),.int .u64 (n:Int)]).formed prog 214=true:=by simp [Value.formed,underlying214,VC]
 unfold keyOf mJ;rw [underlying214];simp only [YO,a,Bool.and_true,if_true];rw [c];simp [Program.keyLits,underlying214,underlying3,underlying130,VC,aIh,aIg,Value.cells,d,b]
theorem aDu {m n a n':Nat} (e:m<8) (d:n<18446744073709551616) (c:a<8) (b:n'<18446744073709551616) (h:mJ m n=mJ a n'):m=a∧n=n':=by
 have:=MQ.inj (vG m n e d) (by rw [h];exact vG a n' c b)
 simp at this;omega
open Classical in
theorem RY (m n:Nat) (r:m<8) (q:n<18446744073709551616):Maps.has hD3 (mJ m n)=(oF m n).isSome∧hD3.atKey (mJ m n) (.lit (.int .i64 0))=.lit (.int .i64 (if m=7∧n=21 then 2 else if m=7∧n=20 then 1 else 0)):=by
 have j:IsMap (.map []:DataW Unit):=isMap_empty;have l:IsMap hD1:=j.put (mJ 7 22) (.lit (.int .i64 0));have o:IsMap hD2:=l.put (mJ 7 20) (.lit (.int .i64 1));have k:∀a b,WideAt.IsKeyLit (mJ a b):=fun _ _=>trivial
 have e:∀a,a<18446744073709551616→(mJ m n=mJ 7 a↔m=7∧n=a):=fun a s=>⟨fun h=>aDu r q (by decide) s h,fun h=>by rw [h.1,h.2]⟩
 have f:=e 21 (by decide)
 have i:=e 20 (by decide)
 have p:=e 22 (by decide)
 refine ⟨?_,?_⟩
 ·rw [show hD3=hD2.put (mJ 7 21) (.lit (.int .i64 2)) from rfl,AB o _ _ (k _ _),show hD2=hD1.put (mJ 7 20) (.lit (.int .i64 1)) from rfl,AB l _ _ (k _ _),show hD1=(DataW.map []).put (mJ 7 22) (.lit (.int .i64 0)) from rfl,AB j _ _ (k _ _),show Maps.has (.map []:DataW Unit) (mJ m n)=false from rfl]
  unfold oF
  by_cases c:m=7∧n=21
  ·rw [Am c,Ap (f.2 c)];rfl
  by_cases d:m=7∧n=20
  ·rw [Ae c,Am d,Ap (i.2 d)];simp
  by_cases g:m=7∧n=22
  ·rw [Ae c,Ae d,Am g,Ap (p.2 g)];simp
  rw [Ae c,Ae d,Ae g,Ar (fun h=>c (f.1 h)),Ar (fun h=>d (i.1 h)),Ar (fun h=>g (p.1 h))];rfl
 ·rw [show hD3=hD2.put (mJ 7 21) (.lit (.int .i64 2)) from rfl,GS o _ _ (k _ _),show hD2=hD1.put (mJ 7 20) (.lit (.int .i64 1)) from rfl,GS l _ _ (k _ _),show hD1=(DataW.map []).put (mJ 7 22) (.lit (.int .i64 0)) from rfl,GS j _ _ (k _ _),show (.map []:DataW Unit).atKey (mJ m n) (.lit (.int .i64 0))=.lit (.int .i64 0) from rfl]
  by_cases c:m=7∧n=21
  ·rw [Am (f.2 c),Am c]
  by_cases d:m=7∧n=20
  ·rw [Ae (fun h=>c (f.1 h)),Ae c,Am (i.2 d),Am d]
  rw [Ae (fun h=>c (f.1 h)),Ae c,Ae (fun h=>d (i.1 h)),Ae d,ite_self]
theorem VN (w:World):(zeroValue 28).run prog w=.ok (fY 0 false) w:=by kernel_rfl
def aIv (n:Nat) (D:DataW Unit) (w:World) (m:Nat):Prop:=w.ownsMap prog 214 jD m n D
def pX (w:World) (m:Nat):Prop:=w.ownsMap prog 214 jD m 3 hD3
theorem pX.same {w w':World} {m:Nat} (h:pX w m) (b:w'.heap[m]?=w.heap[m]?):pX w' m:=by
 obtain ⟨f,a,c,F,d,e⟩:=h;exact ⟨f,a,b.trans c,F,d,e⟩
theorem pX.lt {w:World} {m:Nat} (h:pX w m):m<w.heap.size:=World.ownsMap.lt h
theorem pX.look {w:World} {b:Nat} (h:pX w b) {m n:Nat} (g:m<8) (e:n<18446744073709551616):(Instr.lookup 183 (.map (some b)) (.agg #[Iz (m:Int),.int .u64 (n:Int)]) true).run prog w=.ok (.tuple #[fY (((oF m n).getD nd0).kind) (((oF m n).getD nd0).bool),.bool (oF m n).isSome]) w:=by
 obtain ⟨v,q,c,f⟩:=World.ownsMap.look_ok h MQ underlying183 (VN w) nE (vG m n g e);obtain ⟨o,k⟩:=RY m n g e;rw [k] at f;rw [c,o];obtain ⟨p,l,j⟩:=DP f;have:v=fY (((oF m n).getD nd0).kind) (((oF m n).getD nd0).bool):=by
  by_cases a:m=7∧n=21
  ·rw [j (by rw [Am a])];unfold oF;rw [Am a];rfl
  by_cases d:m=7∧n=20
  ·rw [l (by rw [Ae a,Am d])];unfold oF;rw [Ae a,Am d];rfl
  rw [p (by rw [Ae a,Ae d])];unfold oF;rw [Ae a,Ae d]
  by_cases i:m=7∧n=22
  ·rw [Am i];rfl
  ·rw [Ae i];rfl
 rw [this]
theorem PY (w:World):Calls prog 147 #[] w fun e w'=>e=.returned (.map (some w.heap.size))∧pX w' w.heap.size∧Below w.heap.size w w':=by
 have xe:=@run_makeMap prog;have h0:=World.ownsMap_made (H:=Unit) w prog 214 jD;have b0:=(Br w.heap.size w).alloc (o:=.map #[] 0) (Lr _);have H0:=Hh h0;have B0:=Hh b0;clear h0 b0
 go_enter func147,ntmps147
 go_upto_region 3 with fail
 have b1:=B0.o.alloc (o:=.cells #[Iz 0,.bool false,Iz 0,.string ⟨#[]⟩,Sn,Sn,Iz 1,.bool false,Iz 0,.string ⟨#[]⟩,Sn,Sn,Iz 1,.bool true,Iz 0,.string ⟨#[]⟩,Sn,Sn] 28) B0.o.size;have k1:=Hn (w.alloc (.map #[] 0)) (.cells #[Iz 0,.bool false,Iz 0,.string ⟨#[]⟩,Sn,Sn,Iz 1,.bool false,Iz 0,.string ⟨#[]⟩,Sn,Sn,Iz 1,.bool true,Iz 0,.string ⟨#[]⟩,Sn,Sn] 28);rw [Cz] at k1;have h1:=H0.o.alloc (.cells #[Iz 0,.bool false,Iz 0,.string ⟨#[]⟩,Sn,Sn,Iz 1,.bool false,Iz 0,.string ⟨#[]⟩,Sn,Sn,Iz 1,.bool true,Iz 0,.string ⟨#[]⟩,Sn,Sn] 28);generalize (w.alloc (.map #[] 0)).alloc (.cells #[Iz 0,.bool false,Iz 0,.string ⟨#[]⟩,Sn,Sn,Iz 1,.bool false,Iz 0,.string ⟨#[]⟩,Sn,Sn,Iz 1,.bool true,Iz 0,.string ⟨#[]⟩,Sn,Sn] 28)=w1 at b1 k1 h1 ⊢;have K1:=Hh k1;have B1:=Hh b1;have H1:=Hh h1;clear k1 b1 h1 xe H0 B0;obtain ⟨g,hg⟩:∃g,g=w.heap.size+1:=⟨_,rfl⟩;rw [←hg] at K1 ⊢;have HG:=Hh hg;clear hg
 go_loopw [10] (fun i wr=>∃ (j:Nat),j≤3∧i=.int .i64 (j:Int)∧(∃D:DataW Unit,(j=0→D=.map [])∧(j=1→D=hD1)∧(j=2→D=hD2)∧(j=3→D=hD3)∧aIv j D wr w.heap.size)∧Below w.heap.size w wr∧wr.heap[g]?=some (.cells #[.int .i64 0,.bool false,.int .i64 0,.string ⟨#[]⟩,Sn,Sn,.int .i64 1,.bool false,.int .i64 0,.string ⟨#[]⟩,Sn,Sn,.int .i64 1,.bool true,.int .i64 0,.string ⟨#[]⟩,Sn,Sn] 28)) (fun i _=>3 - (intOf i).toNat)
 case atStart=>exact ⟨0,by decide,rfl,⟨_,fun _=>rfl,fun h=>(by cases h),fun h=>(by cases h),fun h=>(by cases h),H1.o⟩,B1.o,K1.o⟩
 case round=>
  obtain ⟨j,hj,rfl,⟨D,C,n,t,r,s⟩,Y,l⟩:=hrel;have HO:=Hh s;have I:=Hh Y;have HK:=Hh l;have k:=Aa l;have P:w.heap.size<g:=by have:=HG.o;omega
  obtain rfl | rfl | rfl | rfl:j=0∨j=1∨j=2∨j=3:=by omega
  ·have Q:wr.cell? ⟨g,0,none⟩=some (Iz 0)∧wr.cell? ⟨g,1,none⟩=some (.bool false)∧wr.cell? ⟨g,2,none⟩=some (Iz 0)∧wr.cell? ⟨g,3,none⟩=some (.string ⟨#[]⟩)∧wr.cell? ⟨g,4,none⟩=some (Sn)∧wr.cell? ⟨g,5,none⟩=some (Sn):=⟨aL l rfl,aL l rfl,aL l rfl,aL l rfl,aL l rfl,aL l rfl⟩
   have J:=C rfl;clear s Y l hj C n t r;have HD:=Hh J;clear J;have u:=(Br wr.heap.size wr).alloc (o:=.cells Z6 28) (Lr _);have v:=Hn wr (.cells Z6 28);have M:=World.ownsMap.alloc HO.o (.cells Z6 28)
   go_upto_region 5 with fail
   generalize wr.alloc (.cells Z6 28)=c at u v M ⊢;have x:=aA v;have B:=Aa v;have F:Below c.heap.size c c.drew:=(Br _ _).drew;have z:=Hh (nR Y6 (.mk 0 false 0 ⟨#[]⟩ [] []) c.drew (cJ (fun _=>True) c.drew 0 false 0 ⟨#[]⟩ (by decide)) (d:=0) (by decide) (by decide))
   rw [show iR (.mk 0 false 0 ⟨#[]⟩ [] [])=.agg #[Iz 7,.int .u64 22] from rfl] at z
   refine aI (fun w'=>w'.cell? ⟨wr.heap.size,0,none⟩=some (Iz 0)∧w'.cell? ⟨wr.heap.size,1,none⟩=some (.bool false)∧w'.cell? ⟨wr.heap.size,2,none⟩=some (Iz 0)∧w'.cell? ⟨wr.heap.size,3,none⟩=some (.string ⟨#[]⟩)∧w'.cell? ⟨wr.heap.size,4,none⟩=some (Sn)∧w'.cell? ⟨wr.heap.size,5,none⟩=some (Sn)) [1,3] (.take 0 (.take 1 (.take 3 (.ask 2 true (.ask 4 false .stop .stop) .stop)))) (by kernel_rfl) (by kernel_rfl) (fun _ d _ _ _ h=>by cases d <;> exact h) x ?_
   have L:c.drew.cell? ⟨wr.heap.size,0,none⟩=some (Iz 0)∧c.drew.cell? ⟨wr.heap.size,1,none⟩=some (.bool false)∧c.drew.cell? ⟨wr.heap.size,2,none⟩=some (Iz 0)∧c.drew.cell? ⟨wr.heap.size,3,none⟩=some (.string ⟨#[]⟩)∧c.drew.cell? ⟨wr.heap.size,4,none⟩=some (Sn)∧c.drew.cell? ⟨wr.heap.size,5,none⟩=some (Sn):=x;have G:c.drew.ownsMap prog 214 jD w.heap.size 0 D:=M;have V:c.drew.heap[g]?=wr.heap[g]?:=u.block g k;have a:wr.heap.size<c.drew.heap.size:=B;have E:w.heap.size<c.drew.heap.size:=Ll (Cm P k) u.size;have m:=u.drew;generalize c.drew=wd at z F L G V a E m ⊢;have OD:=Hh G;clear x v Q G;refine aF _ ?_ rfl rfl ?_ (fun K q=>?_);rotate_left;(intro w0;go_simp;(try rfl));(go_simp;refine q _ ?_;clear q K)
   iterate 2 (refine aM _ ?_ rfl rfl (by decide) ?_ (fun K q=>?_);rotate_left;(intro w0 y;obtain ⟨xa,xc,W,xb,xd,R⟩:=y;go_simp;(try rfl));(go_simp;refine q _ ?_;clear q K))
   refine aH _ rfl trivial ?_;go_wp2_with (go_at_call 167;(with_reducible refine (z.o).mono ?_);rintro e w3 ⟨rfl,b⟩);refine Seg.mk ⟨by obtain ⟨s0,U,s2,X,T,S⟩:=L;exact ⟨(b.cell (p:=⟨wr.heap.size,0,none⟩) a).trans s0,(b.cell (p:=⟨wr.heap.size,1,none⟩) a).trans U,(b.cell (p:=⟨wr.heap.size,2,none⟩) a).trans s2,(b.cell (p:=⟨wr.heap.size,3,none⟩) a).trans X,(b.cell (p:=⟨wr.heap.size,4,none⟩) a).trans T,(b.cell (p:=⟨wr.heap.size,5,none⟩) a).trans S⟩,?_⟩
   have o3:w3.ownsMap prog 214 jD w.heap.size 0 D:=Cu OD.o (aK b (Lr _) none) (by simp)
   refine bQ _ rfl trivial ?_
   go_wp2_with (refine Dq _ rfl _ _ _ 183 rfl 214 28 MQ underlying183 _ w.heap.size 0 _ rfl o3 (by unfold maxLen;omega) _ _ _ rfl rfl (vG 7 22 (by decide) (by decide)) _ [] nE ?_;intro Z N O)
   have f:=m.trans (b.mono m.size);have B4:=gI (I.o.trans (f.mono I.o.size)) O (Af I.o.size f.size) (Lr _);have A:Z.heap[g]?=some (.cells #[Iz 0,.bool false,Iz 0,.string ⟨#[]⟩,Sn,Sn,Iz 1,.bool false,Iz 0,.string ⟨#[]⟩,Sn,Sn,Iz 1,.bool true,Iz 0,.string ⟨#[]⟩,Sn,Sn] 28):=by
    rw [O.block g (Ll k f.size) (by intro e;have:=Ab e;omega),f.block g k];exact HK.o
   rw [HD.o] at N
   go_wp2
   go_roundw
   case rel=>exact ⟨1,by decide,rfl,⟨_,fun h=>(by first | rfl | (exfalso;omega)),fun h=>(by first | rfl | (exfalso;omega)),fun h=>(by first | rfl | (exfalso;omega)),fun h=>(by first | rfl | (exfalso;omega)),N⟩,B4,A⟩
   case measure=>simp [intOf]
  ·have Q:wr.cell? ⟨g,6,none⟩=some (Iz 1)∧wr.cell? ⟨g,7,none⟩=some (.bool false)∧wr.cell? ⟨g,8,none⟩=some (Iz 0)∧wr.cell? ⟨g,9,none⟩=some (.string ⟨#[]⟩)∧wr.cell? ⟨g,10,none⟩=some (Sn)∧wr.cell? ⟨g,11,none⟩=some (Sn):=⟨aL l rfl,aL l rfl,aL l rfl,aL l rfl,aL l rfl,aL l rfl⟩
   have J:=n rfl;clear s Y l hj C n t r;have HD:=Hh J;clear J;have u:=(Br wr.heap.size wr).alloc (o:=.cells #[Iz 1,.bool false,Iz 0,.string ⟨#[]⟩,Sn,Sn] 28) (Lr _);have v:=Hn wr (.cells #[Iz 1,.bool false,Iz 0,.string ⟨#[]⟩,Sn,Sn] 28);have M:=World.ownsMap.alloc HO.o (.cells #[Iz 1,.bool false,Iz 0,.string ⟨#[]⟩,Sn,Sn] 28)
   go_upto_region 5 with fail
   generalize wr.alloc (.cells #[Iz 1,.bool false,Iz 0,.string ⟨#[]⟩,Sn,Sn] 28)=c at u v M ⊢;have x:=aA v;have B:=Aa v;have F:Below c.heap.size c c.drew:=(Br _ _).drew;have z:=Hh (nR [Iz 1,.bool false,Iz 0,.string ⟨#[]⟩,Sn,Sn] (.mk 1 false 0 ⟨#[]⟩ [] []) c.drew (cJ (fun _=>True) c.drew 1 false 0 ⟨#[]⟩ (by decide)) (d:=0) (by decide) (by decide))
   rw [show iR (.mk 1 false 0 ⟨#[]⟩ [] [])=.agg #[Iz 7,.int .u64 20] from rfl] at z
   refine aI (fun w'=>w'.cell? ⟨wr.heap.size,0,none⟩=some (Iz 1)∧w'.cell? ⟨wr.heap.size,1,none⟩=some (.bool false)∧w'.cell? ⟨wr.heap.size,2,none⟩=some (Iz 0)∧w'.cell? ⟨wr.heap.size,3,none⟩=some (.string ⟨#[]⟩)∧w'.cell? ⟨wr.heap.size,4,none⟩=some (Sn)∧w'.cell? ⟨wr.heap.size,5,none⟩=some (Sn)) [1,3] (.take 0 (.take 1 (.take 3 (.ask 2 true (.ask 4 false .stop .stop) .stop)))) (by kernel_rfl) (by kernel_rfl) (fun _ d _ _ _ h=>by cases d <;> exact h) x ?_
   have L:c.drew.cell? ⟨wr.heap.size,0,none⟩=some (Iz 1)∧c.drew.cell? ⟨wr.heap.size,1,none⟩=some (.bool false)∧c.drew.cell? ⟨wr.heap.size,2,none⟩=some (Iz 0)∧c.drew.cell? ⟨wr.heap.size,3,none⟩=some (.string ⟨#[]⟩)∧c.drew.cell? ⟨wr.heap.size,4,none⟩=some (Sn)∧c.drew.cell? ⟨wr.heap.size,5,none⟩=some (Sn):=x;have G:c.drew.ownsMap prog 214 jD w.heap.size 1 D:=M;have V:c.drew.heap[g]?=wr.heap[g]?:=u.block g k;have a:wr.heap.size<c.drew.heap.size:=B;have E:w.heap.size<c.drew.heap.size:=Ll (Cm P k) u.size;have m:=u.drew;generalize c.drew=wd at z F L G V a E m ⊢;have OD:=Hh G;clear x v Q G;refine aF _ ?_ rfl rfl ?_ (fun K q=>?_);rotate_left;(intro w0;go_simp;(try rfl));(go_simp;refine q _ ?_;clear q K)
   iterate 2 (refine aM _ ?_ rfl rfl (by decide) ?_ (fun K q=>?_);rotate_left;(intro w0 y;obtain ⟨xa,xc,W,xb,xd,R⟩:=y;go_simp;(try rfl));(go_simp;refine q _ ?_;clear q K))
   refine aH _ rfl trivial ?_;go_wp2_with (go_at_call 167;(with_reducible refine (z.o).mono ?_);rintro e w3 ⟨rfl,b⟩);refine Seg.mk ⟨by obtain ⟨s0,U,s2,X,T,S⟩:=L;exact ⟨(b.cell (p:=⟨wr.heap.size,0,none⟩) a).trans s0,(b.cell (p:=⟨wr.heap.size,1,none⟩) a).trans U,(b.cell (p:=⟨wr.heap.size,2,none⟩) a).trans s2,(b.cell (p:=⟨wr.heap.size,3,none⟩) a).trans X,(b.cell (p:=⟨wr.heap.size,4,none⟩) a).trans T,(b.cell (p:=⟨wr.heap.size,5,none⟩) a).trans S⟩,?_⟩
   have o3:w3.ownsMap prog 214 jD w.heap.size 1 D:=Cu OD.o (aK b (Lr _) none) (by simp)
   refine bQ _ rfl trivial ?_
   go_wp2_with (refine Dq _ rfl _ _ _ 183 rfl 214 28 MQ underlying183 _ w.heap.size 1 _ rfl o3 (by unfold maxLen;omega) _ _ _ rfl rfl (vG 7 20 (by decide) (by decide)) _ [] wG ?_;intro Z N O)
   have f:=m.trans (b.mono m.size);have B4:=gI (I.o.trans (f.mono I.o.size)) O (Af I.o.size f.size) (Lr _);have A:Z.heap[g]?=some (.cells #[Iz 0,.bool false,Iz 0,.string ⟨#[]⟩,Sn,Sn,Iz 1,.bool false,Iz 0,.string ⟨#[]⟩,Sn,Sn,Iz 1,.bool true,Iz 0,.string ⟨#[]⟩,Sn,Sn] 28):=by
    rw [O.block g (Ll k f.size) (by intro e;have:=Ab e;omega),f.block g k];exact HK.o
   rw [HD.o] at N
   go_wp2
   go_roundw
   case rel=>exact ⟨2,by decide,rfl,⟨_,fun h=>(by first | rfl | (exfalso;omega)),fun h=>(by first | rfl | (exfalso;omega)),fun h=>(by first | rfl | (exfalso;omega)),fun h=>(by first | rfl | (exfalso;omega)),N⟩,B4,A⟩
   case measure=>simp [intOf]
  ·have Q:wr.cell? ⟨g,12,none⟩=some (Iz 1)∧wr.cell? ⟨g,13,none⟩=some (.bool true)∧wr.cell? ⟨g,14,none⟩=some (Iz 0)∧wr.cell? ⟨g,15,none⟩=some (.string ⟨#[]⟩)∧wr.cell? ⟨g,16,none⟩=some (Sn)∧wr.cell? ⟨g,17,none⟩=some (Sn):=⟨aL l rfl,aL l rfl,aL l rfl,aL l rfl,aL l rfl,aL l rfl⟩
   have J:=t rfl;clear s Y l hj C n t r;have HD:=Hh J;clear J;have u:=(Br wr.heap.size wr).alloc (o:=.cells #[Iz 1,.bool true,Iz 0,.string ⟨#[]⟩,Sn,Sn] 28) (Lr _);have v:=Hn wr (.cells #[Iz 1,.bool true,Iz 0,.string ⟨#[]⟩,Sn,Sn] 28);have M:=World.ownsMap.alloc HO.o (.cells #[Iz 1,.bool true,Iz 0,.string ⟨#[]⟩,Sn,Sn] 28)
   go_upto_region 5 with fail
   generalize wr.alloc (.cells #[Iz 1,.bool true,Iz 0,.string ⟨#[]⟩,Sn,Sn] 28)=c at u v M ⊢;have x:=aA v;have B:=Aa v;have F:Below c.heap.size c c.drew:=(Br _ _).drew;have z:=Hh (nR [Iz 1,.bool true,Iz 0,.string ⟨#[]⟩,Sn,Sn] (.mk 1 true 0 ⟨#[]⟩ [] []) c.drew (cJ (fun _=>True) c.drew 1 true 0 ⟨#[]⟩ (by decide)) (d:=0) (by decide) (by decide))
   rw [show iR (.mk 1 true 0 ⟨#[]⟩ [] [])=.agg #[Iz 7,.int .u64 21] from rfl] at z
   refine aI (fun w'=>w'.cell? ⟨wr.heap.size,0,none⟩=some (Iz 1)∧w'.cell? ⟨wr.heap.size,1,none⟩=some (.bool true)∧w'.cell? ⟨wr.heap.size,2,none⟩=some (Iz 0)∧w'.cell? ⟨wr.heap.size,3,none⟩=some (.string ⟨#[]⟩)∧w'.cell? ⟨wr.heap.size,4,none⟩=some (Sn)∧w'.cell? ⟨wr.heap.size,5,none⟩=some (Sn)) [1,3] (.take 0 (.take 1 (.take 3 (.ask 2 true (.ask 4 false .stop .stop) .stop)))) (by kernel_rfl) (by kernel_rfl) (fun _ d _ _ _ h=>by cases d <;> exact h) x ?_
   have L:c.drew.cell? ⟨wr.heap.size,0,none⟩=some (Iz 1)∧c.drew.cell? ⟨wr.heap.size,1,none⟩=some (.bool true)∧c.drew.cell? ⟨wr.heap.size,2,none⟩=some (Iz 0)∧c.drew.cell? ⟨wr.heap.size,3,none⟩=some (.string ⟨#[]⟩)∧c.drew.cell? ⟨wr.heap.size,4,none⟩=some (Sn)∧c.drew.cell? ⟨wr.heap.size,5,none⟩=some (Sn):=x;have G:c.drew.ownsMap prog 214 jD w.heap.size 2 D:=M;have V:c.drew.heap[g]?=wr.heap[g]?:=u.block g k;have a:wr.heap.size<c.drew.heap.size:=B;have E:w.heap.size<c.drew.heap.size:=Ll (Cm P k) u.size;have m:=u.drew;generalize c.drew=wd at z F L G V a E m ⊢;have OD:=Hh G;clear x v Q G;refine aF _ ?_ rfl rfl ?_ (fun K q=>?_);rotate_left;(intro w0;go_simp;(try rfl));(go_simp;refine q _ ?_;clear q K)
   iterate 2 (refine aM _ ?_ rfl rfl (by decide) ?_ (fun K q=>?_);rotate_left;(intro w0 y;obtain ⟨xa,xc,W,xb,xd,R⟩:=y;go_simp;(try rfl));(go_simp;refine q _ ?_;clear q K))
   refine aH _ rfl trivial ?_;go_wp2_with (go_at_call 167;(with_reducible refine (z.o).mono ?_);rintro e w3 ⟨rfl,b⟩);refine Seg.mk ⟨by obtain ⟨s0,U,s2,X,T,S⟩:=L;exact ⟨(b.cell (p:=⟨wr.heap.size,0,none⟩) a).trans s0,(b.cell (p:=⟨wr.heap.size,1,none⟩) a).trans U,(b.cell (p:=⟨wr.heap.size,2,none⟩) a).trans s2,(b.cell (p:=⟨wr.heap.size,3,none⟩) a).trans X,(b.cell (p:=⟨wr.heap.size,4,none⟩) a).trans T,(b.cell (p:=⟨wr.heap.size,5,none⟩) a).trans S⟩,?_⟩
   have o3:w3.ownsMap prog 214 jD w.heap.size 2 D:=Cu OD.o (aK b (Lr _) none) (by simp)
   refine bQ _ rfl trivial ?_
   go_wp2_with (refine Dq _ rfl _ _ _ 183 rfl 214 28 MQ underlying183 _ w.heap.size 2 _ rfl o3 (by unfold maxLen;omega) _ _ _ rfl rfl (vG 7 21 (by decide) (by decide)) _ [] yU ?_;intro Z N O)
   have f:=m.trans (b.mono m.size);have B4:=gI (I.o.trans (f.mono I.o.size)) O (Af I.o.size f.size) (Lr _);have A:Z.heap[g]?=some (.cells #[Iz 0,.bool false,Iz 0,.string ⟨#[]⟩,Sn,Sn,Iz 1,.bool false,Iz 0,.string ⟨#[]⟩,Sn,Sn,Iz 1,.bool true,Iz 0,.string ⟨#[]⟩,Sn,Sn] 28):=by
    rw [O.block g (Ll k f.size) (by intro e;have:=Ab e;omega),f.block g k];exact HK.o
   rw [HD.o] at N
   go_wp2
   go_roundw
   case rel=>exact ⟨3,by decide,rfl,⟨_,fun h=>(by first | rfl | (exfalso;omega)),fun h=>(by first | rfl | (exfalso;omega)),fun h=>(by first | rfl | (exfalso;omega)),fun h=>(by first | rfl | (exfalso;omega)),N⟩,B4,A⟩
   case measure=>simp [intOf]
  ·have J:=r rfl
   clear s Y l hj C n t r;subst J
   go_wp2
   go_ret
   exact ⟨rfl,HO.o,I.o⟩
end Go.Proofs.YtncdpanfefnjlaaGreatDoor