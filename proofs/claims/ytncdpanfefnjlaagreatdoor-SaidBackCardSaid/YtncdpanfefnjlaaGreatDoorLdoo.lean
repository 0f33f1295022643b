import Derived.Test.YtncdpanfefnjlaaGreatDoorLch
set_option linter.unusedVariables false
set_option linter.unusedSimpArgs false
set_option maxHeartbeats 3200000
set_option maxRecDepth 100000
namespace Go.Proofs.YtncdpanfefnjlaaGreatDoor
open Go.Proofs.Tryz
open Go Go.ChangeShapes Go.WideShapes Go.ChangeAt Go.RowKit
structure IA (w:World):Prop where
 f:uX w
 d:DB w
 s:GP w
 l:Lay w
theorem IA.below {w w':World} (h:IA w) (hb:Below w.heap.size w w'):IA w':=⟨h.f.below hb,h.d.below hb,h.s.below hb,h.l.go hb⟩
def gP (d:Nat) (X:ND) (s:Bt) (w:World) (e:Ending) (w':World):Prop:=∃cs:Vl,e=.returned (.tuple #[.agg cs.toArray,.string s,Iz 0])∧aC d (fun b=>w.heap.size≤b∧b<w'.heap.size) w' cs X∧Below w.heap.size w w'
structure NB (w:World) (g d:Nat) (X:ND) (a:Option Addr) (l c:Nat) (b:Option Addr) (m n:Nat):Prop where
 blk:w.heap[g]?=some (.cells (Na X a l c b m n) 28 (0,0))
 nod:aC d (fun i=>i<w.heap.size) w (Nc X a l c b m n) X
section
variable {w w':World} {g d:Nat} {X:ND} {a b:Option Addr} {l c m n:Nat}
theorem NB.below (h:NB w g d X a l c b m n) (hb:Below w.heap.size w w'):NB w' g d X a l c b m n:=
 ⟨(hb.block _ (Aa h.blk)).trans h.blk,(h.nod.same fun i q=>hb.block i q).mono fun i q=>Ll q hb.size⟩
theorem NB.new {S:Nat→Prop} (hx:aC d S w (Nc X a l c b m n) X) (hS:∀i,S i→i<w.heap.size):NB (w.alloc (.cells (Na X a l c b m n) 28)) w.heap.size d X a l c b m n:=by
 have b4:=(Br w.heap.size w).alloc (o:=.cells (Na X a l c b m n) 28) (Lr _);exact ⟨Hn w _,(hx.same fun i q=>b4.block i (hS i q)).mono fun i q=>Ll (hS i q) b4.size⟩
theorem NB.six (h:NB w g d X a l c b m n):w.cell? ⟨g,0,none⟩=some (Iz X.kind)∧w.cell? ⟨g,1,none⟩=some (.bool X.bool)∧w.cell? ⟨g,2,none⟩=some (Iz X.num)∧w.cell? ⟨g,3,none⟩=some (.string X.text)∧w.cell? ⟨g,4,none⟩=some (.slice a l c)∧w.cell? ⟨g,5,none⟩=some (.slice b m n):=aA h.blk
theorem cO (w:World) (o:Obj):Below w.heap.size w (w.alloc o):=(Br w.heap.size w).alloc (Lr _) o
end
theorem vO {d m:Nat} {S:Nat→Prop} (cs:Vl) (x:ND) (vl:Value) (ls:List Bt) (p:Bt) (k:Int) (w:World) (h:aC (d+1) S w cs x) (hS:∀b,S b→b<w.heap.size) (hm:cH 7 x) (hn:aO 8 x=true) (hc:bG 8 x≤400000000) (hl:bE S w vl ls) (hls:ls.length≤900000) (hlm:∀l,l ∈ ls→l.size≤m) (hb:ls.length * (6 * m+40)≤100000000) (hd:1≤d) (hk:wI k) (h0:spE x ls p k=0) (hT:IA w) :
 Calls prog 10 #[.agg cs.toArray,vl,.string p,Iz k] w (gP (d+1) (aW (spM x ls p k) p k) (foS k (aW (spM x ls p k) p k)) w):=
 (JV cs x vl ls p k w h hS (dO 8 (d+1) x ((bY hm.kind).2 hm)) hl hls hd hk (fun _=>hn) (fun hm c hc' _=>DQ hm hn hc hlm hb hls hc') hT.f hT.d hT.s hT.l).mono fun e w'=>by
  rintro ⟨cs,e,hx,hb⟩;have e1:spX x ls p k=aW (spM x ls p k) p k:=by unfold spX;rw [Am h0]
  have e2:spS x ls p k=foS k (aW (spM x ls p k) p k):=by unfold spS;rw [Am h0]
  rw [e1] at hx;rw [e2,h0] at e;exact ⟨cs,e,hx,hb⟩
theorem CS {d:Nat} {S:Nat→Prop} (cs:Vl) (x:ND) (vl:Value) (ls:List Bt) (p:Bt) (k:Int) (w:World) (O:eR x ls p k) (h:aC (d+1) S w cs x) (hS:∀b,S b→b<w.heap.size) (hl:bE S w vl ls) (hd:1≤d) (hk:wI k) (hT:IA w) :
 Calls prog 10 #[.agg cs.toArray,vl,.string p,Iz k] w (gP (d+1) (aW (spM x ls p k) p k) (foS k (aW (spM x ls p k) p k)) w):=
 vO (m:=1) cs x vl ls p k w h hS O.map O.nums (Ae O.cost0 (by decide)) hl (Ae O.two (by decide)) O.labs (Ae (Nat.mul_le_mul O.two (Lr _)) (by decide)) hd hk O.e hT
theorem wD {S:Nat→Prop} (x:ND) (vl:Value) (ls ms:List Bt) (p:Bt) (k:Int) (w:World) (O:eR x ls p k) (hms:∀l,l ∈ ms↔l ∈ ls) (hm2:ms.length≤2) (hl:bE S w vl ms) (hS:∀b,S b→b<w.heap.size) (hT:IA w) :
 Calls prog 11 #[.string (foS k (aW (spM x ls p k) p k)),vl] w (gP 9 (aW (spM x ls p k) p k) (spD x ls p k) w |> fun P e w'=>P e w'):=by
 obtain ⟨j,hf⟩:=O.find;refine (RA (foS k (aW (spM x ls p k) p k)) vl ms w hl hS (by omega) (Ae (GA k _) (by decide)) (fun v j' n hf' hd hm hin c hc hv=>?_) hT.f hT.d hT.s hT.l).mono fun e w'=>?_
 ·rw [hf] at hf'
  have e:=Ad Prod.fst (Ab hf');simp only at e;subst e;obtain ⟨-,rfl⟩:=O.fit.kit.read hd;exact DQ (m:=1) hm O.fit.kit.nums (Ae O.cost (by decide)) (fun l hl=>O.labs l ((hms l).1 hl)) (Ae (Nat.mul_le_mul hm2 (Lr _)) (by decide)) (by omega) hc
 ·rintro (⟨g,-⟩ | ⟨v,j',n,e0,cs,hf',hd,e,hx,hb⟩)
  ·rw [hf] at g;cases g
  ·rw [hf] at hf'
   have e1:=Ad Prod.fst (Ab hf');simp only at e1;subst e1;obtain ⟨rfl,rfl⟩:=O.fit.kit.read hd;obtain ⟨c1,c2⟩:=O.check hms;rw [c1,(O.dig hms).2] at e;rw [c2] at hx;exact ⟨cs,e,hx,hb⟩
def sD:Bt:=⟨#[100]⟩
def cS:Bt:=⟨#[75,69,82,73]⟩
def awN:ND:=.mk 5 false 0 ⟨#[]⟩ [sD] [nd0]
theorem LB {k:Int} (h1:1≤k) (h3:k≤3):aU ⟨cS,1,0,k,0⟩=true:=by
 rcases (by omega:k=1∨k=2∨k=3) with rfl | rfl | rfl <;> decide +kernel
theorem RH:eR awN [sD] cS 1:=
 SF ((bY rfl).1 (by decide +kernel)) (by decide +kernel) (by decide +kernel) (by decide) (by decide) (by simp) (by decide +kernel) (fun l hl=>by cases At.1 hl;decide +kernel) (LB (by decide) (by decide))
theorem aHa:60<(foS 1 (aW (spM awN [sD] cS 1) cS 1)).size:=by
 have h:=RH;have hp:=lC (mC (bQ awN [sD] iK) cS 1);have ht:=vG h.fit.val;rw [h.fit.kit.size,h.shape];rw [show spD awN [sD] cS 1=rD (mC (bQ awN [sD] iK) cS 1) from rfl]
 rw [show eV cS 1 (vfZ (spM awN [sD] cS 1) cS 1)=vtS ⟨cS,1,0,1,vfZ (spM awN [sD] cS 1) cS 1⟩ from rfl]
 generalize rD (mC (bQ awN [sD] iK) cS 1)=d at hp ⊢;generalize vtS ⟨cS,1,0,1,vfZ (spM awN [sD] cS 1) cS 1⟩=t at ht ⊢;have e:(fI (eW (dN awN) [sD])).map (dR [sD] (tN d))=[(sD,tN d)]:=by
  have e1:eW (dN awN) [sD]=dN awN:=xB fun l hl=>by cases At.1 hl;decide +kernel
  rw [e1];have e2:fI (dN awN)=[(sD,nd0)]:=by
   show List.filter _ [(sD,nd0)]=_
   rw [List.filter_cons_of_pos (by decide +kernel)];rfl
  rw [e2]
  show [dR [sD] (tN d) (sD,nd0)]=_
  unfold dR;rw [Am (At.2 rfl)]
 rw [e];have ld:d.data.toList.length=44:=by rw [Ah];exact hp.1
 show 60<(123::(((bH sV.data.toList++58::bH t.data.toList)++44::(bH sD.data.toList++58::bH d.data.toList))++[125])).length
 rw [mV hp.2];simp only [Ag,Lg,ld];have l1:(bH sV.data.toList).length=3:=by decide +kernel
 have l2:(bH sD.data.toList).length=3:=by decide +kernel
 have l3:17≤(bH t.data.toList).length:=by
  rw [ht.1,vM ht.2.2,Ag,Lg,fS h.fit.val]
  decide
 omega
theorem oJ {w:World} (ls:List Bt) (hn:ls.length≤100) (hs:∀s,s ∈ ls→s.size≤100):bE (fun b=>b<(w.alloc (.cells (ls.map Value.string).toArray 9)).heap.size) (w.alloc (.cells (ls.map Value.string).toArray 9)) (.slice (some ⟨w.heap.size,0,none⟩) ls.length ls.length) ls:=
 pV ls (Hn w _) rfl (by simp) (Ae hn (by decide)) fun s h=>Ae (hs s h) (by decide)
theorem MN (w:World) (hT:IA w):Calls prog 6 #[] w fun e w'=>e=.returned (.bool true)∧Below w.heap.size w w':=by
 obtain ⟨W,hW⟩:∃W,W=((w.alloc (.cells #[.string ⟨#[100]⟩] 9)).alloc (.cells Z6 28)).alloc (.cells #[Iz 5,.bool false,Iz 0,.string ⟨#[]⟩,.slice (some ⟨w.heap.size,0,none⟩) 1 1,.slice (some ⟨w.heap.size+1,0,none⟩) 1 1] 28):=⟨_,rfl⟩;have z1:(w.alloc (.cells #[.string ⟨#[100]⟩] 9)).heap.size=w.heap.size+1:=by simp
 have z2:((w.alloc (.cells #[.string ⟨#[100]⟩] 9)).alloc (.cells Z6 28)).heap.size=w.heap.size+1+1:=by simp
 have hb:Below w.heap.size w W:=by rw [hW];exact (((Br _ _).alloc (Lr _) _).alloc (by simp) _).alloc (by simp;omega) _
 have k0:W.heap[w.heap.size]?=some (.cells #[.string ⟨#[100]⟩] 9 (0,0)):=by rw [hW];exact (Bh _ _ _ (by omega)).trans ((Bh _ _ _ (by omega)).trans (Hn _ _))
 have k1:W.heap[w.heap.size+1]?=some (.cells Z6 28 (0,0)):=by
  have:=Hn (w.alloc (.cells #[.string ⟨#[100]⟩] 9)) (.cells Z6 28);rw [z1] at this;rw [hW];exact (Bh _ _ _ (by omega)).trans this
 have k2:W.heap[w.heap.size+1+1]?=some (.cells #[Iz 5,.bool false,Iz 0,.string ⟨#[]⟩,.slice (some ⟨w.heap.size,0,none⟩) 1 1,.slice (some ⟨w.heap.size+1,0,none⟩) 1 1] 28 (0,0)):=by
  have:=Hn ((w.alloc (.cells #[.string ⟨#[100]⟩] 9)).alloc (.cells Z6 28)) (.cells #[Iz 5,.bool false,Iz 0,.string ⟨#[]⟩,.slice (some ⟨w.heap.size,0,none⟩) 1 1,.slice (some ⟨w.heap.size+1,0,none⟩) 1 1] 28);rw [z2] at this;rw [hW];exact this
 have hN:aC 2 (fun b=>b<W.heap.size) W [Iz 5,.bool false,Iz 0,.string ⟨#[]⟩,.slice (some ⟨w.heap.size,0,none⟩) 1 1,.slice (some ⟨w.heap.size+1,0,none⟩) 1 1] awN:=
  ⟨_,_,rfl,Ax _,pV [sD] k0 rfl (Aa k0) (by decide) (fun s hs=>by cases At.1 hs;decide),
   zA [(Y6,nd0)] k1 rfl (Aa k1) (by decide) fun y hy=>by cases At.1 hy;exact cC _ W 0 false 0 ⟨#[]⟩ (by decide)⟩
 have HB:=Hh hb;have HN:=Hh hN;have HT:=Hh hT;have HK:=Hh k2;have c2:=aA k2;have bl:=(Br W.heap.size W).alloc (o:=.cells #[.string ⟨#[100]⟩] 9) (Lr _);have PU:Hid (Calls prog 10 #[.agg #[Iz 5,.bool false,Iz 0,.string ⟨#[]⟩,.slice (some ⟨w.heap.size,0,none⟩) 1 1,.slice (some ⟨w.heap.size+1,0,none⟩) 1 1],.slice (some ⟨W.heap.size,0,none⟩) 1 1,.string ⟨#[75,69,82,73]⟩,Iz 1] (W.alloc (.cells #[.string ⟨#[100]⟩] 9)) (gP 2 (aW (spM awN [sD] cS 1) cS 1) (foS 1 (aW (spM awN [sD] cS 1) cS 1)) (W.alloc (.cells #[.string ⟨#[100]⟩] 9)))):=
  Hh (CS (d:=1) [Iz 5,.bool false,Iz 0,.string ⟨#[]⟩,.slice (some ⟨w.heap.size,0,none⟩) 1 1,.slice (some ⟨w.heap.size+1,0,none⟩) 1 1] awN _ [sD] cS 1 _ RH ((hN.same fun b q=>bl.block b q).mono fun b q=>Ll q bl.size) (fun b q=>q) (oJ [sD] (by decide) (fun s hs=>by cases At.1 hs;decide)) (by decide) (by unfold wI;omega) (hT.below (hb.trans (bl.mono hb.size))))
 have CH:Hid (∀wx:World,Below w.heap.size w wx→Calls prog 11 #[.string (foS 1 (aW (spM awN [sD] cS 1) cS 1)),.slice (some ⟨wx.heap.size,0,none⟩) 1 1] (wx.alloc (.cells #[.string ⟨#[100]⟩] 9)) (gP 9 (aW (spM awN [sD] cS 1) cS 1) (spD awN [sD] cS 1) (wx.alloc (.cells #[.string ⟨#[100]⟩] 9)))):=
  Hh fun wx hbx=>wD awN _ [sD] [sD] cS 1 _ RH (fun _=>Iff.rfl) (by decide) (oJ [sD] (by decide) (fun s hs=>by cases At.1 hs;decide)) (fun b q=>q) (hT.below (hbx.trans (((Br wx.heap.size wx).alloc (Lr _) _).mono hbx.size)))
 have HBL:=Hh bl;have HAW:=Hh aHa;have hdz:(spD awN [sD] cS 1).size=44:=(lC _).1;have hdh:∃r,(spD awN [sD] cS 1).data.toList=69::r:=aCz _;generalize spD awN [sD] cS 1=dg at CH hdz hdh;have DU:=Hh (fun (wx:World) (hb:Below w.heap.size w wx)=>DS wx (hT.l.go hb))
 have HDZ:=Hh hdz;have HDH:=Hh hdh;clear hb hN hT k0 k1 k2 z1 z2 bl hdz hdh;generalize aW (spM awN [sD] cS 1) cS 1=X at PU CH HAW;generalize foS 1 X=s at PU CH HAW;unfold gP at PU CH
 go_enter func6,ntmps6
 go_upto_region 2 with fail
 rw [←hW];clear hW
 go_upto_region 3 with ((with_reducible refine (PU.o).mono ?_);rintro e w3 ⟨cx,rfl,hx,hb3⟩;obtain ⟨a1,l1,c1,a2,l2,c2',rfl⟩:=hx.slices)
 have b4:=(Br w3.heap.size w3).alloc (o:=.cells (Na X a1 l1 c1 a2 l2 c2') 28) (Lr _);have k4:=Hn w3 (.cells (Na X a1 l1 c1 a2 l2 c2') 28);have h4:=(hx.same fun b q=>b4.block b q.2).mono fun b q=>Ll q.2 b4.size
 have hb4:=HB.o.trans ((HBL.o.trans ((hb3.trans (b4.mono hb3.size)).mono HBL.o.size)).mono HB.o.size);generalize w3.alloc _=w4 at b4 k4 h4 hb4 ⊢;generalize w3.heap.size=g4 at k4 ⊢;have HB4:=Hh hb4;have HK4:=Hh k4;have HX4:=Hh h4;have C4:=Hh (CH.o _ hb4);have bl5:=(Br w4.heap.size w4).alloc (o:=.cells #[.string ⟨#[100]⟩] 9) (Lr _);have HBL5:=Hh bl5;clear hx hb3 b4 k4 h4 hb4 c2 PU CH bl5
 go_upto_region 4 with ((with_reducible refine (C4.o).mono ?_);rintro e w5 ⟨cy,rfl,hy,hb5⟩;obtain ⟨a3,l3,c3,a4,l4,c4,rfl⟩:=hy.slices)
 have b6:=(Br w5.heap.size w5).alloc (o:=.cells (Na X a3 l3 c3 a4 l4 c4) 28) (Lr _);have k6:=Hn w5 (.cells (Na X a3 l3 c3 a4 l4 c4) 28);have h6:=(hy.same fun b q=>b6.block b q.2).mono fun b q=>Ll q.2 b6.size
 have hb46:=HBL5.o.trans ((hb5.trans (b6.mono hb5.size)).mono HBL5.o.size);generalize w5.alloc _=w6 at b6 k6 h6 hb46 ⊢;generalize w5.heap.size=g6 at k6 ⊢;have HB6:=Hh (HB4.o.trans (hb46.mono HB4.o.size));have k4:=(hb46.block _ (Aa HK4.o)).trans HK4.o;have h4:=(HX4.o.same fun b q=>hb46.block b q).mono fun b q=>Ll q hb46.size
 have SM:=Hh (tU 2 9 _ _ _ _ X X w6 h4 h6 (fun b q=>q) (fun b q=>q))
 have x4:=aA k4;have x6:=aA k6;have hs60:(60:Int)<(s.size:Int):=by have:=HAW.o;omega
 have hd44:(dg.size:Int)=44:=by rw [HDZ.o];rfl
 have h69:∀h:0<dg.size,((dg[0]'h).toNat:Int)=69:=fun h=>by
  obtain ⟨r,hr⟩:=HDH.o;have h1:dg.data.toList[0]?=some 69:=by rw [hr];rfl
  rw [Array.getElem?_toList,Ca (show 0<dg.data.size from h)] at h1
  have h2:dg[0]'h=69:=Ab h1;rw [h2];rfl
 have hdum:(iK.size:Int)=44:=rfl;have HD6:=Hh (fun (wx:World) (hb:Below w6.heap.size w6 wx)=>DU.o wx (HB6.o.trans (hb.mono HB6.o.size)))
 clear hy hb5 b6 k6 h6 hb46 k4 h4 DU C4
 go_wp2_with (first
  | (go_at_call 13;(with_reducible refine (SM.o).mono ?_);rintro e w7 ⟨bz,rfl,hbz,hb7⟩;obtain rfl:bz=true:=hbz.2 (by first | exact rfl | trivial))
  | (go_at_call 16;(with_reducible refine (HD6.o _ hb7).mono ?_);rintro e w8 ⟨rfl,hb8⟩))
 go_ret
 exact ⟨rfl,HB6.o.trans ((hb7.trans (hb8.mono hb7.size)).mono HB6.o.size)⟩
end Go.Proofs.YtncdpanfefnjlaaGreatDoor
namespace Go.Proofs.YtncdpanfefnjlaaGreatDoor
open Go.Proofs.Tryz
open Go Go.ChangeShapes Go.WideShapes Go.ChangeAt Go.RowKit Go.Shelf Go.Lib
theorem nY {P:Program} {W:World} {name:String} {k:IntKind} {zs:List Int} {l:List (String × DataW Unit)} {g:Nat} {t e:TypeId} {n:Nat}
 (hg:P.globalNamed name=some g) (hty:(P.globals[g]?).map (·.type)=some t) (ht:P.underlying t=some (.array n e)) (he:P.underlying e=some (.int k)) (hce:P.cellsOf e=1) (hct:P.cellsOf t=n)
 (h:laidMet P l W) (hm:(name,Lib.tabData k zs) ∈ l):Lib.TabIs P W name k zs:=by
 obtain ⟨g',t',cs,fuel,p,hg',ht',hvar,hd⟩:=Lib.laidMet.reads h hm;obtain rfl:=Ab (hg.symm.trans hg');obtain rfl:=Ab (hty.symm.trans ht');unfold Lib.TabIs;rw [hvar,←Lib.cells_of_tab ht he hce hct hd]
theorem aBf:(Rows.laid_keyevent_hash_roundConstants:DataW Unit)=Lib.tabData .u32 KL:=by kernel_rfl
theorem aBg:(Rows.laid_keyevent_hash_startSums:DataW Unit)=Lib.tabData .u32 HL:=by kernel_rfl
def aIm:List (DataW Unit):=(List.range 9).map fun i=>.agg [.lit (.string (kG i)),.lit (.int .i64 (kN i))]
theorem aBe:(Rows.laid_keyevent_primitive_layouts:DataW Unit)=.agg aIm:=by kernel_rfl
theorem YH:Tryz.prog.cellsOf 99=2:=by kernel_rfl
theorem YG:Tryz.prog.cellsOf 9=1:=by kernel_rfl
theorem YI:Tryz.prog.cellsOf 3=1:=by kernel_rfl
theorem aAn {cs:Vl} {k:Nat} {v:Value} (h:(cs.drop k).take 1=[v]):cs[k]?=some v:=by
 have:=Ad (·[0]?) h
 simpa [Df,List.getElem?_drop] using this
theorem aGa {W:World} {enc:TypeId × Value→Unit} {base:Nat} {sp:Nat→Bool} {held:Bool} {fuel:Nat} {cs:Vl} {c:Ub} {r:Nat} {p:List MemPlace}
 (h:DataW.trod enc prog W base sp held fuel 99 cs=some (.agg [.lit (.string c),.lit (.int .i64 r)],p)):cs[0]?=some (.string ⟨c.toArray⟩)∧cs[1]?=some (.int .i64 r):=by
 obtain ⟨y0,y1,n,hx,hl,h0,h1⟩:=trod_struct2 underlying99 h;simp only [YG,YI] at h0 h1;obtain ⟨s,e0,f0,_⟩:=DataW.trod_string underlying9 h0;obtain ⟨z,e1,f1,_⟩:=DataW.trod_int underlying3 h1;subst f0 f1;simp only [Dn,DataW.agg.injEq,Bq,Cx,Lit.string.injEq,Lit.int.injEq,Dp,Di] at hx;obtain ⟨⟨hs,hz⟩,-⟩:=hx;refine ⟨?_,?_⟩
 ·rw [aAn e0,hs]
 ·rw [aAn e1,hz]
theorem FM {W : World} {cs : Array Value} {fuel : Nat} {p : List MemPlace} (hv : W.var? prog "keyevent/primitive.layouts" = some cs) (h : DataW.trod (fun _ => ()) prog W 0 (fun _ => true) false fuel 134 cs.toList = some (Rows.laid_keyevent_primitive_layouts, p)) : Lay W := by
 rw [aBe] at h;obtain ⟨xs,m,rfl,hx,hl,hxl,hall⟩:=DataW.trod_array underlying134 h;intro i hi;have hi':=hall i hi;rw [YH] at hi';have hxs:xs.map (·.1)=aIm:=by
  have:=Ad Prod.fst hx
  simpa using this.symm
 obtain ⟨b,hb⟩:∃b,xs[i]?=some b:=⟨xs[i]'(by omega),Ac (by omega)⟩
 rw [hb] at hi';have hb1:b.1=.agg [.lit (.string (kG i)),.lit (.int .i64 (kN i))]:=by
  have:=Ad (·[i]?) hxs;simp only [Bc,hb,Option.map_some] at this;simp only [aIm,Bc,List.getElem?_range hi,Option.map_some,Option.some.injEq] at this;exact this
 obtain ⟨d,q⟩:=b;simp only at hb1;subst hb1;obtain ⟨r0,r1⟩:=aGa hi';rw [Df,Am (by omega),List.getElem?_drop] at r0 r1
 have c0:=World.var?_cell (g:=1) (by kernel_rfl) hv (i * 2)
 have c1:=World.var?_cell (g:=1) (by kernel_rfl) hv (i * 2+1)
 rw [c0,c1];exact ⟨by simpa using r0,by simpa using r1⟩
theorem LZ {w : World} (h : laidMetH prog [("math/bits.deBruijn32tab", Rows.laid_math_bits_deBruijn32tab), ("math/bits.deBruijn64tab", Rows.laid_math_bits_deBruijn64tab), ("internal/strconv.uint64pow10", Rows.laid_internal_strconv_uint64pow10), ("unicode/utf8.acceptRanges", Rows.laid_unicode_utf8_acceptRanges), ("keyevent/primitive.layouts", Rows.laid_keyevent_primitive_layouts), ("strconv.ErrRange", Rows.laid_strconv_ErrRange), ("strconv.ErrSyntax", Rows.laid_strconv_ErrSyntax), ("keyevent/hash.roundConstants", Rows.laid_keyevent_hash_roundConstants), ("keyevent/hash.startSums", Rows.laid_keyevent_hash_startSums), ("keyevent/pack.scales", Rows.laid_keyevent_pack_scales), ("unicode/utf8.first", Rows.laid_unicode_utf8_first)] w) : IA w := by
 rw [MakeChecks.laidMetH_plain _ _ _ (by kernel_rfl)] at h
 obtain ⟨a,sa,hva,-,-,-⟩:=laid_sentinel h.tail.tail.tail.tail.tail (g:=7) (ti:=94) (tp:=253) (te:=255) (ts:=9) (by kernel_rfl) (by kernel_rfl) underlying94 SH underlying253 underlying255 rfl rfl underlying9 (by kernel_rfl) (by kernel_rfl)
 obtain ⟨b,sb,hvb,-,-,-⟩:=laid_sentinel h.tail.tail.tail.tail.tail.tail (g:=6) (ti:=94) (tp:=253) (te:=255) (ts:=9) (by kernel_rfl) (by kernel_rfl) underlying94 SH underlying253 underlying255 rfl rfl underlying9 (by kernel_rfl) (by kernel_rfl)
 have e1:w.cell? ⟨6,0,none⟩=some (.iface 253 (.pointer (some b))):=by
  have:=World.var?_cell (g:=6) (by kernel_rfl) hvb 0
  simpa using this
 have e2:w.cell? ⟨7,0,none⟩=some (.iface 253 (.pointer (some a))):=by
  have:=World.var?_cell (g:=7) (by kernel_rfl) hva 0
  simpa using this
 have hs:Scl w:=by
  obtain ⟨g',t',cs,fuel,p,hg',ht',hvar,hd⟩:=Lib.laidMet.reads h (.tail _ (.tail _ (.tail _ (.tail _ (.tail _ (.tail _ (.tail _ (.tail _ (.tail _ (.head _))))))))));have e1 : Tryz.prog.globalNamed "keyevent/pack.scales" = some 9 := by kernel_rfl
  obtain rfl:=Ab (e1.symm.trans hg');have e2:(Tryz.prog.globals[9]?).map (·.type)=some 250:=by kernel_rfl
  obtain rfl:=Ab (e2.symm.trans ht');exact ES hvar hd
 have hl:Lay w:=by
  obtain ⟨g',t',cs,fuel,p,hg',ht',hvar,hd⟩:=Lib.laidMet.reads h (.tail _ (.tail _ (.tail _ (.tail _ (.head _)))));have e1 : Tryz.prog.globalNamed "keyevent/primitive.layouts" = some 1 := by kernel_rfl
  obtain rfl:=Ab (e1.symm.trans hg');have e2:(Tryz.prog.globals[1]?).map (·.type)=some 134:=by kernel_rfl
  obtain rfl:=Ab (e2.symm.trans ht');exact FM hvar hd
 have hd:DB w:=by
  have h2:=h.tail;rw [UJ] at h2;have ht : TabIs prog w "math/bits.deBruijn64tab" .u8 (Lib.deBruijn64tab.map Int.ofNat) := tabIs_of_head (g := 11) (t := 259) (e := 5) (n := 64) (by kernel_rfl) (by kernel_rfl) underlying259 underlying5 (by kernel_rfl) (by kernel_rfl) h2
  have e2:=World.var?_cell (g:=11) (by kernel_rfl) ht 15
  exact e2.trans (by kernel_rfl)
 have hst:GP w:=by
  have h3:=h;rw [aBf,aBg] at h3;have hK:=nY (P:=prog) (g:=2) (t:=141) (e:=106) (n:=64) (by kernel_rfl) (by kernel_rfl) underlying141 underlying106 (by kernel_rfl) (by kernel_rfl) h3 (.tail _ (.tail _ (.tail _ (.tail _ (.tail _ (.tail _ (.tail _ (.head _))))))))
  have hH:=nY (P:=prog) (g:=0) (t:=107) (e:=106) (n:=8) (by kernel_rfl) (by kernel_rfl) underlying107 underlying106 (by kernel_rfl) (by kernel_rfl) h3 (.tail _ (.tail _ (.tail _ (.tail _ (.tail _ (.tail _ (.tail _ (.tail _ (.head _)))))))))
  have kt:tG w:=fun i hi=>hK.cell (g:=2) (by kernel_rfl) i (by rw [show KL.length=64 by decide];exact hi)
  have ht:aEk w:=by
   intro j v hv;have hj:j<HL.length:=by
    rcases Cc j HL.length with h | h
    ·exact h
    ·rw [By (by rw [dJ];exact h)] at hv;cases hv
   rw [lG HL j hj] at hv;cases hv;rw [Bv];exact hH.cell (g:=0) (by kernel_rfl) j hj
  refine ⟨kt,ht,cD (kt 0 (by omega)),?_⟩
  have:=ht 0 _ (lG HL 0 (by decide))
  exact cD this
 exact ⟨⟨kI.of (LC ▸ Lib.laidMet.reads h (.tail _ (.tail _ (.tail _ (.tail _ (.tail _ (.tail _ (.tail _ (.tail _ (.tail _ (.tail _ (.head _)))))))))))) (FU ▸ Lib.laidMet.reads h (.tail _ (.tail _ (.tail _ (.head _))))),aBs h.tail.tail,⟨⟨_,_,e1⟩,⟨_,_,e2⟩⟩,hs⟩,hd,hst,hl⟩
theorem QQ (os : Os) (args : Array Value) : laidMetH prog [("math/bits.deBruijn32tab", Rows.laid_math_bits_deBruijn32tab), ("math/bits.deBruijn64tab", Rows.laid_math_bits_deBruijn64tab), ("internal/strconv.uint64pow10", Rows.laid_internal_strconv_uint64pow10), ("unicode/utf8.acceptRanges", Rows.laid_unicode_utf8_acceptRanges), ("keyevent/primitive.layouts", Rows.laid_keyevent_primitive_layouts), ("strconv.ErrRange", Rows.laid_strconv_ErrRange), ("strconv.ErrSyntax", Rows.laid_strconv_ErrSyntax), ("keyevent/hash.roundConstants", Rows.laid_keyevent_hash_roundConstants), ("keyevent/hash.startSums", Rows.laid_keyevent_hash_startSums), ("keyevent/pack.scales", Rows.laid_keyevent_pack_scales), ("unicode/utf8.first", Rows.laid_unicode_utf8_first)] ((World.laidAll prog os [("math/bits.deBruijn32tab", Rows.laid_math_bits_deBruijn32tab), ("math/bits.deBruijn64tab", Rows.laid_math_bits_deBruijn64tab), ("internal/strconv.uint64pow10", Rows.laid_internal_strconv_uint64pow10), ("unicode/utf8.acceptRanges", Rows.laid_unicode_utf8_acceptRanges), ("keyevent/primitive.layouts", Rows.laid_keyevent_primitive_layouts), ("strconv.ErrRange", Rows.laid_strconv_ErrRange), ("strconv.ErrSyntax", Rows.laid_strconv_ErrSyntax), ("keyevent/hash.roundConstants", Rows.laid_keyevent_hash_roundConstants), ("keyevent/hash.startSums", Rows.laid_keyevent_hash_startSums), ("keyevent/pack.scales", Rows.laid_keyevent_pack_scales), ("unicode/utf8.first", Rows.laid_unicode_utf8_first)]).forCall (fun _ _ => 0) ⟨#[], args, []⟩).memory := by
 rw [MakeChecks.laidMetH_plain _ _ _ (by kernel_rfl)]
 exact laidMet_laidAll _ (by kernel_rfl) (by kernel_rfl)
end Go.Proofs.YtncdpanfefnjlaaGreatDoor