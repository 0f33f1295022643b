/- The kit's Node and Map, whatever the depth. -/
import Derived.Test.YtcklddldejejcaaGreatDoorJrhas
import Derived.Test.YtcklddldejejcaaGreatDoorNnode
set_option linter.unusedVariables false
set_option linter.unusedSimpArgs false
set_option maxHeartbeats 1600000
set_option maxRecDepth 100000
namespace Go.Proofs.YtcklddldejejcaaGreatDoor
theorem knode_any (B g:Nat):∀n:Nat,1≤n→n<100→∀w:World,DiceAt B w g→Calls Tryz.prog 20 #[.pointer (some ⟨g,0,none⟩),.int .i64 (n:Int)] w fun e w'=>SomeNode n w e w'∧w.grownBy w' (some g)∧DiceAt B w' g
 | 0,h,_,_,_=>absurd h (by decide)
 | n+1,h1,h2,w,hd=>knode_step B g (n+1) w h1 h2 hd fun h wx hx=>by
  have:=knode_any B g n (by omega) (by omega) wx hx
  rw [show ((n+1:Nat):Int) - 1=(n:Int) by omega,Nat.add_sub_cancel]
  exact this
theorem kmap_litn (B g n:Nat) (z:Int) (hz:(n:Int)=z) (h1:2≤n) (h2:n<100) (w:World) (hd:DiceAt B w g):Calls Tryz.prog 11 #[.pointer (some ⟨g,0,none⟩),.int .i64 z] w fun e w'=>SomeMapN n w e w'∧w.grownBy w' (some g)∧DiceAt B w' g:=
 hz ▸ kmap_any B g n w h1 h2 hd fun wx hx=>by
  have:=knode_any B g (n - 1) (by omega) (by omega) wx hx
  rw [show ((n - 1:Nat):Int)=(n:Int) - 1 by omega] at this
  exact this
theorem kmap_litk (B g n:Nat) (z:Int) (hz:(n:Int)=z) (h1:2≤n) (h2:n<100) (w:World) (hd:DiceAt B w g):Calls Tryz.prog 11 #[.pointer (some ⟨g,0,none⟩),.int .i64 z] w fun e w'=>SomeMapK n w e w'∧w.grownBy w' (some g)∧DiceAt B w' g:=(kmap_litn B g n z hz h1 h2 w hd).mono fun e w' h=>⟨h.1.k,h.2⟩
end Go.Proofs.YtcklddldejejcaaGreatDoor
namespace Go.Proofs.YtcklddldejejcaaGreatDoor
open Go Go.ChangeShapes Go.WideShapes Go.ChangeAt Go.RowKit
def jsS (x:ND):ByteArray:=if validN 8 x then (if 65536<(writeN 8 x).length then ⟨#[]⟩ else ⟨(writeN 8 x).toArray⟩) else ⟨#[]⟩
def jsE (x:ND):Int:=if validN 8 x then (if 65536<(writeN 8 x).length then 3 else 0) else 1
theorem jse_bad {x:ND} (h:validN 8 x=false):jsS x=⟨#[]⟩∧jsE x=1:=by unfold jsS jsE;rw [h];exact ⟨rfl,rfl⟩
theorem jse_long {x:ND} (h:validN 8 x=true) (hl:65536<(writeN 8 x).length):jsS x=⟨#[]⟩∧jsE x=3:=by unfold jsS jsE;rw [h,if_pos rfl,if_pos rfl,if_pos hl,if_pos hl];exact ⟨rfl,rfl⟩
theorem jse_good {x:ND} (h:validN 8 x=true) (hl:¬65536<(writeN 8 x).length):jsS x=⟨(writeN 8 x).toArray⟩∧jsE x=0:=by unfold jsS jsE;rw [h,if_pos rfl,if_pos rfl,if_neg hl,if_neg hl];exact ⟨rfl,rfl⟩
theorem jse_size (x:ND):(jsS x).size≤65536:=by
 unfold jsS
 split
 ·split
  ·exact Nat.zero_le _
  ·rename_i h;rw [ba_size];omega
 ·exact Nat.zero_le _
def EncPost (x:ND) (w:World) (e:Ending) (w':World):Prop:=e=.returned (.tuple #[.string (jsS x),.int .i64 (jsE x)])∧Below w.heap.size w w'
theorem ITb.of {w w':World} {g:Nat} (h:Itab w) (hb:Below w.heap.size w w') (hg:w.heap.size≤g):ITb g w':=fun w'' h''=>Lib.tabBelow_of_tabIs h w'' (hb.trans (h''.mono hg))
theorem WSt.fresh {w:World} {m:Nat} (hm:m<w.heap.size):WStJ (w.heap.size+1) (w.alloc (.cells #[.slice none 0 0,.map (some m)] 201)) w.heap.size m []:=
 ⟨_,Hn _ _,World.ownsRow_nil _ _ _ _,Nat.lt_succ_self _,hm⟩
theorem WFr.below {TB:TypeId} {g C:Nat} {w w':World} (h:WFr TB g w w') (hC:C≤g):Below C w w':=h.1.mono hC
theorem jenc_any {D:Nat} {S:Nat→Prop} (cs:List Value) (x:ND) (w:World) (h:NodeIn D S w cs x) (hS:∀b,S b→b<w.heap.size) (hl:lowV D x) (hw:validN 8 x=true→numsB 8 x=true) (hT:Utab w) (hI:Itab w):Calls Tryz.prog 168 #[.agg cs.toArray] w (EncPost x w):=by
 obtain ⟨a1,l1,c1,a2,l2,c2,rfl⟩:=h.slices
 obtain ⟨ib,hib,hb0,hb1,hb2⟩:=info_parts Tryz.info5
 have b1:=(Br w.heap.size w).alloc (o:=.cells #[.int .i64 x.kind,.bool x.bool,.int .i64 x.num,.string x.text,.slice a1 l1 c1,.slice a2 l2 c2] 28) (Lr _)
 have ck:=six_of (Hn w (.cells #[.int .i64 x.kind,.bool x.bool,.int .i64 x.num,.string x.text,.slice a1 l1 c1,.slice a2 l2 c2] 28))
 have hwl:w.heap.size<(w.alloc (.cells #[.int .i64 x.kind,.bool x.bool,.int .i64 x.num,.string x.text,.slice a1 l1 c1,.slice a2 l2 c2] 28)).heap.size:=by simp
 obtain ⟨w1,hw1⟩:∃W,W=w.alloc (.cells #[.int .i64 x.kind,.bool x.bool,.int .i64 x.num,.string x.text,.slice a1 l1 c1,.slice a2 l2 c2] 28):=⟨_,rfl⟩
 rw [←hw1] at b1 ck hwl
 have V:=Hh (isvalidV_any _ x w1 (h.same fun b hb=>b1.block b (hS b hb)) (fun b hb=>Ll (hS b hb) b1.size) hl (hT.below b1))
 have B1:=Hh b1
 have CK:=Hh ck
 have HI:=Hh hI
 have HN:=Hh h
 have HS:=Hh hS
 have HW:=Hh hw
 have WL:=Hh hwl
 clear h hS hl hw hT hI b1 hwl hib
 cases hv:validN 8 x with
 | false=>
  rw [hv] at V
  obtain ⟨e1,e2⟩:=jse_bad hv
  have HE:=Hh (Ai e1 e2)
  clear hv e1 e2
  go_enter Tryz.func168,Tryz.ntmps168
  go_upto_region 1 with fail
  rw [←hw1]
  clear hw1
  go_wp2_with (go_at_call 38;(with_reducible refine (V.out).mono ?_);rintro e w2 ⟨rfl,hb2⟩)
  go_ret2
  exact ⟨by rw [HE.out.1,HE.out.2];rfl,B1.out.trans (hb2.mono B1.out.size)⟩
 | true=>
  rw [hv] at V
  have hnu:=HW.out hv
  have hwz:=writeN_same (e:=8) (d:=8) (Lr _) hv
  have HV:=Hh hv
  have HNU:=Hh hnu
  clear hv hnu hwz
  go_enter Tryz.func168,Tryz.ntmps168
  go_upto_region 1 with fail
  rw [←hw1]
  clear hw1
  go_upto_region 3 with ((with_reducible refine (V.out).mono ?_);rintro e w2 ⟨rfl,hb2⟩)
  have LE:=Hh (letters_any w2)
  have hB2:=B1.out.trans (hb2.mono B1.out.size)
  have HB2:=Hh hb2
  have hz2:w.heap.size<w2.heap.size:=Ll WL.out hb2.size
  have BB2:=Hh hB2
  clear ck hb2 hB2
  go_upto_region 4 with ((with_reducible refine (LE.out).mono ?_);rintro e w3 ⟨rfl,hlt3,hb3⟩)
  have hB3:=BB2.out.trans (hb3.mono BB2.out.size)
  have hz3:w2.heap.size<w3.heap.size:=hlt3.lt
  have b4:=(Br w3.heap.size w3).alloc (o:=.cells #[.slice none 0 0,.map (some w2.heap.size)] 201) (Lr _)
  have st4:=WSt.fresh (w:=w3) hz3
  have hz4:(w3.alloc (.cells #[.slice none 0 0,.map (some w2.heap.size)] 201)).heap.size=w3.heap.size+1:=by simp
  have hlt4:=hlt3.below b4
  have hB4:=hB3.trans (b4.mono hB3.size)
  have hb24:=hb3.trans (b4.mono hb3.size)
  have ck4:=(HB2.out.trans (hb24.mono HB2.out.size))
  have cc4:∀q v,w1.cell? ⟨w.heap.size,q,none⟩=some v→(w3.alloc (.cells #[.slice none 0 0,.map (some w2.heap.size)] 201)).cell? ⟨w.heap.size,q,none⟩=some v:=fun q v hq=>(ck4.cell (p:=⟨w.heap.size,q,none⟩) WL.out).trans hq
  have d0:=cc4 0 _ CK.out.1
  have d1:=cc4 1 _ CK.out.2.1
  have d2:=cc4 2 _ CK.out.2.2.1
  have d3:=cc4 3 _ CK.out.2.2.2.1
  have d4:=cc4 4 _ CK.out.2.2.2.2.1
  have d5:=cc4 5 _ CK.out.2.2.2.2.2
  clear cc4 ck4
  generalize w3.alloc (.cells #[.slice none 0 0,.map (some w2.heap.size)] 201)=w4 at b4 st4 hz4 hlt4 hB4 hb24 d0 d1 d2 d3 d4 d5 ⊢
  have N4:=Hh (nodew_any 8 (by decide) D S _ x w4 (w3.heap.size+1) w3.heap.size w2.heap.size [] st4 hlt4 (by omega) (Nat.zero_le _) (HN.out.same fun b hb=>hB4.block b (HS.out b hb)) (fun b hb=>by have:=HS.out b hb;omega) HV.out HNU.out (ITb.of HI.out hB4 (by omega)))
  have HB4:=Hh hB4
  have hwg:w.heap.size≤w3.heap.size:=by omega
  clear hb3 b4 st4 hlt3 hlt4 hB3 hB4 hb24 hz4
  go_upto_region 5 with ((with_reducible refine (N4.out).mono ?_);rintro e w5 ⟨rfl,l5,hst5,hout5,hlen5,hfr5⟩)
  clear d0 d1 d2 d3 d4 d5
  have EX:=Hh (wexc_any w5 hst5)
  have hfin:=HB4.out.trans (hfr5.below hwg)
  obtain ⟨v5,k1,k2,-,-⟩:=hst5
  have c5:w5.cell? ⟨w3.heap.size,0,none⟩=some v5:=cell_blk k1 rfl
  obtain ⟨ao,cap,rfl,-,-⟩:=wown_form k2
  have hcv:=conv_owns (P:=Tryz.prog) w5 73 9 5 (w3.heap.size+1) l5.length _ l5 k2 Tryz.underlying73 Tryz.underlying5 Tryz.underlying9
  have HFIN:=Hh hfin
  clear hfin hfr5 k1 k2 hlen5
  by_cases hov:65536<l5.length
  ·rw [decide_eq_true hov] at EX
   have hlong:=hout5.over hov
   obtain ⟨e1,e2⟩:=jse_long HV.out (by simpa using hlong)
   have HE:=Hh (Ai e1 e2)
   clear e1 e2 hlong hout5 hov
   go_wp2_with (go_at_call 194;(with_reducible refine (EX.out).mono ?_);rintro e w6 ⟨rfl,rfl⟩)
   go_ret2
   exact ⟨by rw [HE.out.1,HE.out.2];rfl,HFIN.out⟩
  ·rw [decide_eq_false hov] at EX
   have he:=hout5.fits hov
   have hnl:¬65536<(writeN 8 x).length:=by rw [he] at hov;simpa using hov
   obtain ⟨e1,e2⟩:=jse_good HV.out hnl
   have HE:=Hh (Ai e1 e2)
   have HEQ:=Hh he
   clear e1 e2 hnl hout5 hov he
   go_wp2_with (go_at_call 194;(with_reducible refine (EX.out).mono ?_);rintro e w6 ⟨rfl,rfl⟩)
   go_ret2
   exact ⟨by rw [HE.out.1,HE.out.2,HEQ.out];rfl,HFIN.out⟩
theorem rwrite_zero:RWriteAt 0:=by
 intro D S cs x w h hS hv
 cases hv
theorem rwrite_any:∀d,RWriteAt d
 | 0=>rwrite_zero
 | d+1=>rwrite_step (rwrite_any d)
theorem numsB_up:∀ {d e:Nat} {x:ND},d≤e→validN d x=true→numsB d x=true→numsB e x=true
 | 0,_,_,_,h,_=>by cases h
 | d+1,0,_,h,_,_=>by omega
 | d+1,e+1,x,hd,hv,hn=>by
  rw [validN_succ,Bool.and_eq_true,List.all_eq_true] at hv
  rw [numsB_succ,Bool.and_eq_true,List.all_eq_true] at hn ⊢
  exact ⟨hn.1,fun y hy=>numsB_up (by omega) (hv.2 y hy) (hn.2 y hy)⟩
theorem numsB_down:∀ {d e:Nat} {x:ND},d≤e→numsB e x=true→numsB d x=true
 | 0,_,_,_,_=>rfl
 | d+1,0,_,h,_=>by omega
 | d+1,e+1,x,hd,hn=>by
  rw [numsB_succ,Bool.and_eq_true,List.all_eq_true] at hn ⊢
  exact ⟨hn.1,fun y hy=>numsB_down (by omega) (hn.2 y hy)⟩
def contP (V:List UInt8→Option (ND × List UInt8)) (mp:Bool) (e:UInt8) (n:Nat) (ns:List ByteArray) (its:List ND) (t2:List UInt8):Option ((List ByteArray × List ND) × List UInt8):=match t2 with
 | []=>none
 | c::t3=>if c=e then some ((ns,its),t3) else if c ≠ 44∨256<its.length then none else itemsP V mp e n ns its t3
def valP (V:List UInt8→Option (ND × List UInt8)) (mp:Bool) (e:UInt8) (n:Nat) (ns:List ByteArray) (its:List ND) (t:List UInt8):Option ((List ByteArray × List ND) × List UInt8):=match V t with
 | none=>none
 | some (x,t2)=>contP V mp e n ns (its++[x]) t2
def itmP (V:List UInt8→Option (ND × List UInt8)) (mp:Bool) (e:UInt8) (n:Nat) (ns:List ByteArray) (its:List ND) (t:List UInt8):Option ((List ByteArray × List ND) × List UInt8):=match nameP mp ns t with
 | none=>none
 | some (ns',t1)=>valP V mp e n ns' its t1
theorem itemsP_body {V:List UInt8→Option (ND × List UInt8)} {mp:Bool} {e:UInt8} {n:Nat} {ns:List ByteArray} {its:List ND} {t:List UInt8} {R:(List ByteArray × List ND) × List UInt8} (h:itemsP V mp e n ns its t=some R) (hh:¬ (its=[]∧t.head?=some e)):∃m,itmP V mp e m ns its t=some R:=by
 cases n with
 | zero=>cases h
 | succ n=>
  rw [itemsP,if_neg hh] at h
  refine ⟨n,?_⟩
  unfold itmP valP contP
  rw [←h]
  cases nameP mp ns t with
  | none=>rfl
  | some y=>
   obtain ⟨a,b⟩:=y
   dsimp only
   cases V b with
   | none=>rfl
   | some z=>
    obtain ⟨x,t2⟩:=z
    dsimp only
    cases t2 with
    | nil=>rfl
    | cons c t3=>dsimp only;rw [Lg,List.length_singleton]
theorem itemsP_done {V:List UInt8→Option (ND × List UInt8)} {mp:Bool} {e:UInt8} {n:Nat} {t:List UInt8} {R:(List ByteArray × List ND) × List UInt8} (h:itemsP V mp e n [] [] (e::t)=some R):R=(([],[]),t):=by
 cases n with
 | zero=>cases h
 | succ n=>
  rw [itemsP,if_pos ⟨rfl,rfl⟩] at h
  cases h;rfl
theorem contP_done {V:List UInt8→Option (ND × List UInt8)} {mp:Bool} {e:UInt8} {n:Nat} {ns:List ByteArray} {its:List ND} {t:List UInt8} {R:(List ByteArray × List ND) × List UInt8} (h:contP V mp e n ns its (e::t)=some R):R=((ns,its),t):=by
 have h2:contP V mp e n ns its (e::t)=some ((ns,its),t):=if_pos rfl
 rw [h2] at h
 cases h;rfl
theorem name_body {V:List UInt8→Option (ND × List UInt8)} {e:UInt8} {n:Nat} {ns:List ByteArray} {its:List ND} {t:List UInt8} {R:(List ByteArray × List ND) × List UInt8} (h:itmP V true e n ns its t=some R):∃s t1,NameIs t s t1∧valP V true e n (ns++[bA s]) its t1=some R:=by
 unfold itmP nameP at h
 rw [if_pos rfl] at h
 split at h
 ·cases h
 ·rename_i ns' t1 hn
  split at hn
  ·rename_i r
   split at hn
   ·rename_i o r' hq
    cases hn
    exact ⟨o,t1,⟨r,rfl,hq⟩,h⟩
   ·cases hn
  ·cases hn
theorem list_body {V:List UInt8→Option (ND × List UInt8)} {e:UInt8} {n:Nat} {ns:List ByteArray} {its:List ND} {t:List UInt8} {R:(List ByteArray × List ND) × List UInt8} (h:itmP V false e n ns its t=some R):valP V false e n ns its t=some R:=by
 unfold itmP nameP at h
 rw [if_neg (by decide)] at h
 exact h
def PItemsIs (d:Nat) (k:Int) (e:UInt8) (r:List UInt8) (y:ND) (t:List UInt8):Prop:=∃n0 ns its,itemsP (valueP d) (decide (k=5)) e n0 [] [] r=some ((ns,its),t)∧y=.mk k false 0 ⟨#[]⟩ ns its
theorem val_list {d:Nat} {q t:List UInt8} {y:ND} (h:valueP (d+1) (91::q)=some (y,t)):∃n0 ns its,itemsP (valueP d) (decide ((4:Int)=5)) 93 n0 [] [] q=some ((ns,its),t)∧y=.mk 4 false 0 ⟨#[]⟩ ns its:=by
 rw [valueP_other d 91 q (by decide) (by decide) (by decide),if_neg (by decide),if_pos rfl] at h
 cases hi:itemsP (valueP d) false 93 (q.length+1) [] [] q with
 | none=>rw [hi] at h;cases h
 | some z=>
  obtain ⟨⟨ns,its⟩,t'⟩:=z
  rw [hi] at h
  cases h
  exact ⟨q.length+1,ns,its,hi,rfl⟩
theorem val_map {d:Nat} {q t:List UInt8} {y:ND} (h:valueP (d+1) (123::q)=some (y,t)):∃n0 ns its,itemsP (valueP d) (decide ((5:Int)=5)) 125 n0 [] [] q=some ((ns,its),t)∧y=.mk 5 false 0 ⟨#[]⟩ ns its:=by
 rw [valueP_other d 123 q (by decide) (by decide) (by decide),if_neg (by decide),if_neg (by decide),if_pos rfl] at h
 cases hi:itemsP (valueP d) true 125 (q.length+1) [] [] q with
 | none=>rw [hi] at h;cases h
 | some z=>
  obtain ⟨⟨ns,its⟩,t'⟩:=z
  rw [hi] at h
  cases h
  exact ⟨q.length+1,ns,its,hi,rfl⟩
theorem val_text {d:Nat} {q t:List UInt8} {y:ND} (h:valueP (d+1) (34::q)=some (y,t)):∃s,quotedP q=some (s,t)∧y=.mk 3 false 0 (bA s) [] []:=by
 rw [valueP_other d 34 q (by decide) (by decide) (by decide),if_pos rfl] at h
 cases hi:quotedP q with
 | none=>rw [hi] at h;cases h
 | some z=>
  obtain ⟨s,t'⟩:=z
  rw [hi] at h
  cases h
  exact ⟨s,rfl,rfl⟩
theorem val_nil (d:Nat):valueP d []=none:=by
 cases d with
 | zero=>rfl
 | succ d=>unfold valueP;rw [if_pos rfl]
def DecIs (s:ByteArray) (x:ND) (er:Int):Prop:=(er=0∧validN 8 x=true∧numsB 8 x=true∧writeN 8 x=s.data.toList∧s.size≤65536)∨(er=4∧x=nd0∧∀y,validN 8 y=true→numsB 8 y=true→s.size≤65536→writeN 8 y ≠ s.data.toList)
def DecPost (s:ByteArray) (w:World) (e:Ending) (w':World):Prop:=∃ (cs:List Value) (x:ND) (er:Int),e=.returned (.tuple #[.agg cs.toArray,.int .i64 er])∧NodeIn 9 (fun b=>w.heap.size≤b∧b<w'.heap.size) w' cs x∧Below w.heap.size w w'∧DecIs s x er
theorem MapOk.mono {d d':Nat} {x:ND} (h:MapOk d x) (hd:d≤d'):MapOk d' x:={ h with items:=fun y hy=>validN_mono hd (h.items y hy) }
end Go.Proofs.YtcklddldejejcaaGreatDoor
namespace Go.Proofs.YtcklddldejejcaaGreatDoor
open Go.Lib
theorem sepL_sum:∀l:List (List UInt8),(sepL l).length≤(l.map fun a=>a.length+1).sum
 | []=>Nat.zero_le _
 | [a]=>by simp [sepL]
 | a::b::t=>by
  have:=sepL_sum (b::t)
  show (a++44::sepL (b::t)).length≤_
  rw [Lg,List.length_cons,List.map_cons,List.sum_cons]
  omega
theorem zip_sum {W:ND→List UInt8} {c:ND→Nat}:∀ (ns:List ByteArray) (its:List ND),(∀y,y ∈ its→(W y).length≤c y)→((List.zipWith (fun s y=>quoteL s.data.toList++58::W y) ns its).map fun a=>a.length+1).sum≤(ns.map fun s=>6 * s.size+8).sum+(its.map fun y=>c y+1).sum
 | [],_,_=>by simp
 | _::_,[],_=>by simp
 | s::ss,y::ys,h=>by
  have ih:=zip_sum ss ys (fun z hz=>h z (by simp [hz]))
  have h1:=quoteL_len s.data.toList
  have h2:s.data.toList.length=s.size:=by rw [Array.length_toList];rfl
  have h3:=h y (by simp)
  rw [List.zipWith_cons_cons,List.map_cons,List.sum_cons,List.map_cons,List.sum_cons,List.map_cons,List.sum_cons,Lg,List.length_cons]
  omega
theorem map_sum {W:ND→List UInt8} {c:ND→Nat}:∀ (its:List ND),(∀y,y ∈ its→(W y).length≤c y)→((its.map W).map fun a=>a.length+1).sum≤(its.map fun y=>c y+1).sum
 | [],_=>Lr _
 | y::ys,h=>by
  have ih:=map_sum ys (fun z hz=>h z (by simp [hz]))
  have h3:=h y (by simp)
  rw [List.map_cons,List.map_cons,List.sum_cons,List.map_cons,List.sum_cons]
  omega
theorem writeN_cost:∀ (d:Nat) (x:ND),validN d x=true→numsB d x=true→(writeN d x).length≤costN d x
 | 0,_,h,_=>by cases h
 | d+1,x,h,hn=>by
  obtain ⟨hi,hl,htx,hns⟩:=validN_parts h
  obtain ⟨hw,hni⟩:=numsB_parts hn
  have ih:∀y,y ∈ x.items→(writeN d y).length≤costN d y:=fun y hy=>writeN_cost d y (hi y hy) (hni y hy)
  have hts:x.text.data.toList.length=x.text.size:=by rw [Array.length_toList];rfl
  rw [costN_succ]
  rcases kinds h with e | e | e | e | e | ⟨e,hlen⟩
  ·rw [e];exact (show 4≤24 by decide)
  ·rw [e]
   cases x.bool
   ·exact (show 5≤24 by decide)
   ·exact (show 4≤24 by decide)
  ·rw [e]
   show (itoa x.num).length≤24+0+0+0
   unfold wideI at hw
   rw [Bool.and_eq_true,decide_eq_true_eq,decide_eq_true_eq] at hw
   have:=itoa_length_le x.num hw.1 hw.2
   omega
  ·rw [e]
   show (quoteL x.text.data.toList).length≤24+6 * x.text.size+0+0
   have:=quoteL_len x.text.data.toList
   omega
  ·rw [e,writeN_4]
   have h1:=sepL_sum (x.items.map (writeN d))
   have h2:=map_sum x.items ih
   rw [List.length_cons,Lg,List.length_singleton]
   show _≤24+0+0+(x.items.map fun y=>costN d y+1).sum
   omega
  ·rw [e,writeN_5]
   have h1:=sepL_sum (List.zipWith (fun s y=>quoteL s.data.toList++58::writeN d y) x.names x.items)
   have h2:=zip_sum (W:=writeN d) (c:=costN d) x.names x.items ih
   rw [List.length_cons,Lg,List.length_singleton]
   show _≤24+0+(x.names.map fun s=>6 * s.size+8).sum+(x.items.map fun y=>costN d y+1).sum
   omega
theorem kitMap_valid {d:Nat} {x:ND} (hd:1≤d) (h:MapOk (d - 1) x) (hi:∀y,y ∈ x.items→validW (d - 1) y=true):validW d x=true:=by
 obtain ⟨m,rfl⟩:∃m,d=m+1:=⟨d - 1,by omega⟩
 exact validW_mk ((mapOk_iff h.kind).2 h) (by rw [h.num];decide) hi
end Go.Proofs.YtcklddldejejcaaGreatDoor