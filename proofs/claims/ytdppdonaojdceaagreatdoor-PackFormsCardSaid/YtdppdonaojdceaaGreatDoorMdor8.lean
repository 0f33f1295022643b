/- The kit's nodes and the second serialisation. No program. Then: How long a node's bytes are at most; nodes that a law of cbor asks about. No program. -/
import Derived.Test.YtdppdonaojdceaaGreatDoorCpd
import Derived.Test.YtdppdonaojdceaaGreatDoorJdec
import Derived.Test.YtdppdonaojdceaaGreatDoorMdc
import GoSem.PinnedTables
import Derived.Lay
import Derived.KernelRfl
import Derived.LaidMore
set_option linter.unusedVariables false
set_option linter.unusedSimpArgs false
set_option maxHeartbeats 1600000
set_option maxRecDepth 100000
namespace Go.Proofs.YtdppdonaojdceaaGreatDoor
open Go.Lib
theorem cbnd_4:∀d,d≤4→bndN d≤65536:=by
 have:∀d:Fin 5,bndN d.1≤65536:=by decide
 exact fun d hd=>this ⟨d,by omega⟩
theorem cnumsB_up:∀ {d e:Nat} {x:ND},d≤e→validN d x=true→numsB d x=true→numsB e x=true
 | 0,_,_,_,h,_=>by cases h
 | d+1,0,_,h,_,_=>by omega
 | d+1,e+1,x,hd,hv,hn=>by
  rw [validN_succ,Bool.and_eq_true,List.all_eq_true] at hv
  rw [numsB_succ,Bool.and_eq_true,List.all_eq_true] at hn ⊢
  exact ⟨hn.1,fun y hy=>cnumsB_up (by omega) (hv.2 y hy) (hn.2 y hy)⟩
theorem clowV {d:Nat} {x:ND} (h:validN d x=true) (D:Nat):lowV D x:=lowV_of_lowN (lowN_of_valid d D x h)
structure KitC (x:ND):Prop where
 err:csE x=0
 txt:csS x=bC (writeC 8 x)
 len:(writeC 8 x).length≤65536
 valid:validN 8 x=true
 nums:numsB 8 x=true
theorem KitC.of {d:Nat} {x:ND} (hd:d≤4) (h:validW d x=true) (hc:costN d x≤bndN d):KitC x:=by
 have h8:validN 8 x=true:=validN_mono (by omega) (validW_valid h)
 have hn8:numsB 8 x=true:=cnumsB_up (by omega) (validW_valid h) (validW_nums h)
 have hl:(writeC 8 x).length≤65536:=by
  rw [writeC_same (e:=d) (by omega) (validW_valid h)]
  have:=writeC_cost d x (validW_valid h)
  have:=cbnd_4 d hd
  omega
 obtain ⟨e1,e2⟩:=cse_good h8 (show ¬65536<(writeC 8 x).length by omega)
 exact ⟨e2,e1,hl,h8,hn8⟩
theorem ckitMap_valid {d:Nat} {x:ND} (hd:1≤d) (h:MapOk (d - 1) x) (hi:∀y,y ∈ x.items→validW (d - 1) y=true):validW d x=true:=by
 obtain ⟨m,rfl⟩:∃m,d=m+1:=⟨d - 1,by omega⟩
 exact validW_mk ((mapOk_iff h.kind).2 h) (by rw [h.num];decide) hi
theorem KitC.ofMap {d:Nat} {x:ND} (h1:1≤d) (hd:d≤4) (h:MapOk (d - 1) x) (hi:∀y,y ∈ x.items→validK (d - 1) y=true) (hc:costN d x≤bndN d):KitC x:=
 KitC.of hd (ckitMap_valid h1 h fun y hy=>validK_w (hi y hy)) hc
end Go.Proofs.YtdppdonaojdceaaGreatDoor
namespace Go.Proofs.YtdppdonaojdceaaGreatDoor
open Go Go.ChangeShapes Go.WideShapes Go.ChangeAt Go.RowKit
structure Hel (TN:TypeId) (d:Nat) (wx:World) (b:Nat) (cs:List Value) (x:ND):Prop where
 blk:wx.heap[b]?=some (.cells cs.toArray TN (0,0))
 nod:NodeIn d (fun b=>b<wx.heap.size) wx cs x
theorem Hel.below {TN:TypeId} {d b:Nat} {wx wn:World} {cs:List Value} {x:ND} (h:Hel TN d wx b cs x) (hb:Below wx.heap.size wx wn):Hel TN d wn b cs x:=
 ⟨(hb.block b (lt_of_block h.blk)).trans h.blk,(h.nod.same fun b hb'=>hb.block b hb').mono fun b hb'=>Ll hb' hb.size⟩
end Go.Proofs.YtdppdonaojdceaaGreatDoor
namespace Go.Proofs.YtdppdonaojdceaaGreatDoor
open Go.Lib
theorem sepL_sum:∀l:List (List UInt8),(sepL l).length≤(l.map fun a=>a.length+1).sum
 | []=>Nat.zero_le _
 | [a]=>by simp [sepL]
 | a::b::t=>by
  have:=sepL_sum (b::t)
  show (a++44::sepL (b::t)).length≤_
  rw [Lg,List.length_cons,List.map_cons,List.sum_cons]
  omega
theorem zip_sum {W:ND→List UInt8} {c:ND→Nat}:∀ (ns:List ByteArray) (its:List ND),(∀y,y ∈ its→(W y).length≤c y)→((List.zipWith (fun s y=>quoteL s.data.toList++58::W y) ns its).map fun a=>a.length+1).sum≤(ns.map fun s=>6 * s.size+8).sum+(its.map fun y=>c y+1).sum
 | [],_,_=>by simp
 | _::_,[],_=>by simp
 | s::ss,y::ys,h=>by
  have ih:=zip_sum ss ys (fun z hz=>h z (by simp [hz]))
  have h1:=quoteL_len s.data.toList
  have h2:s.data.toList.length=s.size:=by rw [Array.length_toList];rfl
  have h3:=h y (by simp)
  rw [List.zipWith_cons_cons,List.map_cons,List.sum_cons,List.map_cons,List.sum_cons,List.map_cons,List.sum_cons,Lg,List.length_cons]
  omega
theorem map_sum {W:ND→List UInt8} {c:ND→Nat}:∀ (its:List ND),(∀y,y ∈ its→(W y).length≤c y)→((its.map W).map fun a=>a.length+1).sum≤(its.map fun y=>c y+1).sum
 | [],_=>Lr _
 | y::ys,h=>by
  have ih:=map_sum ys (fun z hz=>h z (by simp [hz]))
  have h3:=h y (by simp)
  rw [List.map_cons,List.map_cons,List.sum_cons,List.map_cons,List.sum_cons]
  omega
theorem writeN_cost:∀ (d:Nat) (x:ND),validN d x=true→numsB d x=true→(writeN d x).length≤costN d x
 | 0,_,h,_=>by cases h
 | d+1,x,h,hn=>by
  obtain ⟨hi,hl,htx,hns⟩:=validN_parts h
  obtain ⟨hw,hni⟩:=numsB_parts hn
  have ih:∀y,y ∈ x.items→(writeN d y).length≤costN d y:=fun y hy=>writeN_cost d y (hi y hy) (hni y hy)
  have hts:x.text.data.toList.length=x.text.size:=by rw [Array.length_toList];rfl
  rw [costN_succ]
  rcases kinds h with e | e | e | e | e | ⟨e,hlen⟩
  ·rw [e];exact (show 4≤24 by decide)
  ·rw [e]
   cases x.bool
   ·exact (show 5≤24 by decide)
   ·exact (show 4≤24 by decide)
  ·rw [e]
   show (itoa x.num).length≤24+0+0+0
   unfold wideI at hw
   rw [Bool.and_eq_true,decide_eq_true_eq,decide_eq_true_eq] at hw
   have:=itoa_length_le x.num hw.1 hw.2
   omega
  ·rw [e]
   show (quoteL x.text.data.toList).length≤24+6 * x.text.size+0+0
   have:=quoteL_len x.text.data.toList
   omega
  ·rw [e,writeN_4]
   have h1:=sepL_sum (x.items.map (writeN d))
   have h2:=map_sum x.items ih
   rw [List.length_cons,Lg,List.length_singleton]
   show _≤24+0+0+(x.items.map fun y=>costN d y+1).sum
   omega
  ·rw [e,writeN_5]
   have h1:=sepL_sum (List.zipWith (fun s y=>quoteL s.data.toList++58::writeN d y) x.names x.items)
   have h2:=zip_sum (W:=writeN d) (c:=costN d) x.names x.items ih
   rw [List.length_cons,Lg,List.length_singleton]
   show _≤24+0+(x.names.map fun s=>6 * s.size+8).sum+(x.items.map fun y=>costN d y+1).sum
   omega
theorem bndN_4:∀d,d≤4→bndN d≤65536:=by
 have:∀d:Fin 5,bndN d.1≤65536:=by decide
 exact fun d hd=>this ⟨d,by omega⟩
structure KitJ (x:ND):Prop where
 err:jsE x=0
 txt:jsS x=bA (writeN 8 x)
 len:(writeN 8 x).length≤65536
 valid:validN 8 x=true
 nums:numsB 8 x=true
theorem KitJ.of {d:Nat} {x:ND} (hd:d≤4) (h:validW d x=true) (hc:costN d x≤bndN d):KitJ x:=by
 have h8:validN 8 x=true:=validN_mono (by omega) (validW_valid h)
 have hn8:numsB 8 x=true:=numsB_up (by omega) (validW_valid h) (validW_nums h)
 have hl:(writeN 8 x).length≤65536:=by
  rw [writeN_same (e:=d) (by omega) (validW_valid h)]
  have:=writeN_cost d x (validW_valid h) (validW_nums h)
  have:=bndN_4 d hd
  omega
 obtain ⟨e1,e2⟩:=jse_good h8 (show ¬65536<(writeN 8 x).length by omega)
 exact ⟨e2,e1,hl,h8,hn8⟩
theorem kitMap_valid {d:Nat} {x:ND} (hd:1≤d) (h:MapOk (d - 1) x) (hi:∀y,y ∈ x.items→validW (d - 1) y=true):validW d x=true:=by
 obtain ⟨m,rfl⟩:∃m,d=m+1:=⟨d - 1,by omega⟩
 exact validW_mk ((mapOk_iff h.kind).2 h) (by rw [h.num];decide) hi
theorem KitJ.ofMap {d:Nat} {x:ND} (h1:1≤d) (hd:d≤4) (h:MapOk (d - 1) x) (hi:∀y,y ∈ x.items→validK (d - 1) y=true) (hc:costN d x≤bndN d):KitJ x:=
 KitJ.of hd (kitMap_valid h1 h fun y hy=>validK_w (hi y hy)) hc
structure KitM (x:ND):Prop where
 err:mpE x=0
 txt:mpS x=bC (writeP 8 x)
 len:(writeP 8 x).length≤65536
 valid:validN 8 x=true
 nums:numsB 8 x=true
theorem KitM.of {d:Nat} {x:ND} (hd:d≤4) (h:validW d x=true) (hc:costN d x≤bndN d):KitM x:=by
 have h8:validN 8 x=true:=validN_mono (by omega) (validW_valid h)
 have hn8:numsB 8 x=true:=cnumsB_up (by omega) (validW_valid h) (validW_nums h)
 have hl:(writeP 8 x).length≤65536:=by
  rw [writeP_same (e:=d) (by omega) (validW_valid h)]
  have:=writeP_cost d x (validW_valid h)
  have:=cbnd_4 d hd
  omega
 obtain ⟨e1,e2⟩:=mpse_good h8 (show ¬65536<(writeP 8 x).length by omega)
 exact ⟨e2,e1,hl,h8,hn8⟩
theorem KitM.ofMap {d:Nat} {x:ND} (h1:1≤d) (hd:d≤4) (h:MapOk (d - 1) x) (hi:∀y,y ∈ x.items→validK (d - 1) y=true) (hc:costN d x≤bndN d):KitM x:=
 KitM.of hd (ckitMap_valid h1 h fun y hy=>validK_w (hi y hy)) hc
theorem awkM1:mpS (.mk 2 false 128 ⟨#[]⟩ [] [])=⟨#[204,128]⟩∧mpE (.mk 2 false 128 ⟨#[]⟩ [] [])=0:=by
 obtain ⟨h1,h2⟩:=mpse_good (x:=.mk 2 false 128 ⟨#[]⟩ [] []) (by decide +kernel) (by decide +kernel)
 rw [h1,h2];exact ⟨rfl,rfl⟩
theorem awkM2:mpS (.mk 2 false (-33) ⟨#[]⟩ [] [])=⟨#[208,223]⟩∧mpE (.mk 2 false (-33) ⟨#[]⟩ [] [])=0:=by
 obtain ⟨h1,h2⟩:=mpse_good (x:=.mk 2 false (-33) ⟨#[]⟩ [] []) (by decide +kernel) (by decide +kernel)
 rw [h1,h2];exact ⟨rfl,rfl⟩
end Go.Proofs.YtdppdonaojdceaaGreatDoor
namespace Go.Proofs.YtdppdonaojdceaaGreatDoor
open Go Go.ChangeShapes Go.WideShapes Go.ChangeAt Go.RowKit
theorem awake8_any (w:World) (hT:Ptab w):Calls Tryz.prog 6 #[] w fun e w'=>e=.returned (.bool true)∧Below w.heap.size w w':=by
 have E1:=Hh (mpenc_any [.int .i64 2,.bool false,.int .i64 128,.string ⟨#[]⟩,.slice none 0 0,.slice none 0 0] (.mk 2 false 128 ⟨#[]⟩ [] []) w (node_leaf (fun b=>b<w.heap.size) w 2 false 128 ⟨#[]⟩ (by decide)) (fun b h=>h) (clowV (d:=8) (by decide +kernel) 1) (fun _=>by decide +kernel) hT)
 have E2:=Hh (fun (wx:World) (hb:Below w.heap.size w wx)=>mpenc_any [.int .i64 2,.bool false,.int .i64 (-33),.string ⟨#[]⟩,.slice none 0 0,.slice none 0 0] (.mk 2 false (-33) ⟨#[]⟩ [] []) wx (node_leaf (fun b=>b<wx.heap.size) wx 2 false (-33) ⟨#[]⟩ (by decide)) (fun b h=>h) (clowV (d:=8) (by decide +kernel) 1) (fun _=>by decide +kernel) (hT.below hb))
 unfold MEncPost at E1 E2
 rw [awkM1.1,awkM1.2] at E1
 rw [awkM2.1,awkM2.2] at E2
 have es1:(ByteArray.toList { data:=#[204,128] } == ByteArray.toList { data:=#[204,128] })=true:=beq_self_eq_true _
 have es2:(ByteArray.toList { data:=#[208,223] } == ByteArray.toList { data:=#[208,223] })=true:=beq_self_eq_true _
 go_enter Tryz.func6,Tryz.ntmps6
 go_upto_region 2 with ((with_reducible refine (E1.out).mono ?_);rintro e w1 ⟨rfl,hb1⟩)
 go_wp2_with (go_at_call 18;(with_reducible refine (E2.out _ hb1).mono ?_);rintro e w2 ⟨rfl,hb2⟩)
 go_ret
 exact ⟨rfl,hb1.trans (hb2.mono hb1.size)⟩
end Go.Proofs.YtdppdonaojdceaaGreatDoor
namespace Go.Proofs.YtdppdonaojdceaaGreatDoor
open Go Go.RowKit Go.Shelf Go.Lib
def scI (i:Nat):DataW Unit:=if (scR i).widths.length=0 then .nil else .slice ((scR i).widths.map fun z=>.lit (.int .i64 z)) []
def scD:List (DataW Unit):=(List.range 7).map fun i=>.agg [.lit (.int .i64 (scR i).kind),.lit (.int .i64 (scR i).least),.lit (.int .i64 (scR i).count),.lit (.int .u8 (scR i).first),.lit (.int .u8 (scR i).wide),scI i]
theorem laid_isC:(Rows.laid_keyevent_pack_scales:DataW Unit)=.agg scD:=by kernel_rfl
theorem mcells_scl:Tryz.prog.cellsOf 155=6:=by kernel_rfl
theorem mcells_int:Tryz.prog.cellsOf 3=1:=by kernel_rfl
theorem mcells_u8:Tryz.prog.cellsOf 5=1:=by kernel_rfl
theorem mcells_ints:Tryz.prog.cellsOf 22=1:=by kernel_rfl
theorem msix_list {α:Type} {l:List α} (h:l.length=6):∃a b c d e f,l=[a,b,c,d,e,f]:=by
 match l,h with
 | [a,b,c,d,e,f],_=>exact ⟨a,b,c,d,e,f,rfl⟩
theorem mints_of_reads {W:World} {fuel:Nat} {v:Value} {l:List Int} {p:List MemPlace} (h:DataW.trod (fun _=>()) Tryz.prog W 0 (fun _=>true) false fuel 22 [v]=some (.slice (l.map fun z=>(.lit (.int .i64 z):DataW Unit)) [],p)) (hl:0<l.length):IntsAt W.heap.size W v l:=by
 obtain ⟨a,cap,hv,hle,hall⟩:=open_row Tryz.underlying22 mcells_int h
 rw [List.length_map] at hv hle
 cases hv
 have hc:∀i,i<l.length→W.cell? (a.add i)=some (.int .i64 (l.getD i 0)):=by
  intro i hi
  obtain ⟨v,n,q,hcell,htr⟩:=hall i (.lit (.int .i64 (l.getD i 0))) (by rw [List.getElem?_map,List.getElem?_eq_getElem hi];simp [List.getD,List.getElem?_eq_getElem hi])
  obtain ⟨z,e1,f1,_⟩:=DataW.trod_int Tryz.underlying3 htr
  cases e1
  simp only [Prod.mk.injEq,DataW.lit.injEq,Lit.int.injEq,true_and] at f1
  rw [hcell,←f1.1]
 have hc0:=hc 0 hl
 obtain ⟨b,off,spot⟩:=a
 have hspot:spot=none:=by simpa [Addr.add] using World.cell?_spot hc0
 subst hspot
 refine ⟨_,cap,rfl,hle,fun i hi=>?_⟩
 have h1:=hc i hi
 rw [Addr.add_lit] at h1
 exact ⟨b,off,rfl,cell_lt h1,h1⟩
theorem mnil_of_reads {W:World} {fuel:Nat} {v:Value} {p:List MemPlace} (h:DataW.trod (fun _=>()) Tryz.prog W 0 (fun _=>true) false fuel 22 [v]=some (.nil,p)):v=.slice none 0 0:=by
 rcases DataW.trod_slice Tryz.underlying22 h with ⟨h1,-⟩ | ⟨a,len,cap,elems,rest,n,_,_,hx,_⟩
 ·exact (List.cons.inj h1).1
 ·simp at hx
theorem mint_one {W:World} {fuel:Nat} {q:IntKind} {t:TypeId} {c:Value} {z:Int} {p:List MemPlace} (ht:Tryz.prog.underlying t=some (.int q)) (h:DataW.trod (fun _=>()) Tryz.prog W 0 (fun _=>true) false fuel t [c]=some ((.lit (.int q z):DataW Unit),p)):c=.int q z:=by
 obtain ⟨z',e1,f1,_⟩:=DataW.trod_int ht h
 cases e1
 simp only [Prod.mk.injEq,DataW.lit.injEq,Lit.int.injEq,true_and] at f1
 rw [←f1.1]
theorem scl_row {W:World} {fuel:Nat} {cs:List Value} {r:ScR} {d:DataW Unit} {p:List MemPlace}
 (h:DataW.trod (fun _=>()) Tryz.prog W 0 (fun _=>true) false fuel 155 cs=some (.agg [.lit (.int .i64 r.kind),.lit (.int .i64 r.least),.lit (.int .i64 r.count),.lit (.int .u8 r.first),.lit (.int .u8 r.wide),d],p)) :
 ∃v n q,cs=[.int .i64 r.kind,.int .i64 r.least,.int .i64 r.count,.int .u8 r.first,.int .u8 r.wide,v]∧DataW.trod (fun _=>()) Tryz.prog W 0 (fun _=>true) false n 22 [v]=some (d,q):=by
 obtain ⟨xs,n,hfu,hx,hlen,hxl,hall⟩:=DataW.trod_struct Tryz.underlying155 h
 rw [mcells_scl] at hlen
 obtain ⟨c0,c1,c2,c3,c4,c5,rfl⟩:=msix_list hlen
 obtain ⟨y0,y1,y2,y3,y4,y5,rfl⟩:=msix_list (show xs.length=6 from hxl)
 simp only [List.map_cons,List.map_nil,Prod.mk.injEq,DataW.agg.injEq,List.cons.injEq,and_true] at hx
 obtain ⟨⟨e0,e1,e2,e3,e4,e5⟩,-⟩:=hx
 have t0:DataW.trod (fun _=>()) Tryz.prog W 0 (fun _=>true) false n 3 (([c0,c1,c2,c3,c4,c5].drop 0).take (Tryz.prog.cellsOf 3))=some y0:=hall 0 _ rfl
 have t1:DataW.trod (fun _=>()) Tryz.prog W 0 (fun _=>true) false n 3 (([c0,c1,c2,c3,c4,c5].drop 1).take (Tryz.prog.cellsOf 3))=some y1:=hall 1 _ rfl
 have t2:DataW.trod (fun _=>()) Tryz.prog W 0 (fun _=>true) false n 3 (([c0,c1,c2,c3,c4,c5].drop 2).take (Tryz.prog.cellsOf 3))=some y2:=hall 2 _ rfl
 have t3:DataW.trod (fun _=>()) Tryz.prog W 0 (fun _=>true) false n 5 (([c0,c1,c2,c3,c4,c5].drop 3).take (Tryz.prog.cellsOf 5))=some y3:=hall 3 _ rfl
 have t4:DataW.trod (fun _=>()) Tryz.prog W 0 (fun _=>true) false n 5 (([c0,c1,c2,c3,c4,c5].drop 4).take (Tryz.prog.cellsOf 5))=some y4:=hall 4 _ rfl
 have t5:DataW.trod (fun _=>()) Tryz.prog W 0 (fun _=>true) false n 22 (([c0,c1,c2,c3,c4,c5].drop 5).take (Tryz.prog.cellsOf 22))=some y5:=hall 5 _ rfl
 rw [mcells_int] at t0 t1 t2
 rw [mcells_u8] at t3 t4
 rw [mcells_ints] at t5
 obtain ⟨d0,p0⟩:=y0
 obtain ⟨d1,p1⟩:=y1
 obtain ⟨d2,p2⟩:=y2
 obtain ⟨d3,p3⟩:=y3
 obtain ⟨d4,p4⟩:=y4
 obtain ⟨d5,p5⟩:=y5
 dsimp only at e0 e1 e2 e3 e4 e5
 subst e0 e1 e2 e3 e4 e5
 have f0:=mint_one Tryz.underlying3 (show DataW.trod (fun _=>()) Tryz.prog W 0 (fun _=>true) false n 3 [c0]=_ from t0)
 have f1:=mint_one Tryz.underlying3 (show DataW.trod (fun _=>()) Tryz.prog W 0 (fun _=>true) false n 3 [c1]=_ from t1)
 have f2:=mint_one Tryz.underlying3 (show DataW.trod (fun _=>()) Tryz.prog W 0 (fun _=>true) false n 3 [c2]=_ from t2)
 have f3:=mint_one Tryz.underlying5 (show DataW.trod (fun _=>()) Tryz.prog W 0 (fun _=>true) false n 5 [c3]=_ from t3)
 have f4:=mint_one Tryz.underlying5 (show DataW.trod (fun _=>()) Tryz.prog W 0 (fun _=>true) false n 5 [c4]=_ from t4)
 exact ⟨c5,n,p5,by rw [f0,f1,f2,f3,f4],t5⟩
theorem scAll_at (v:Nat→Value) (i q:Nat) (hi:i<7) (hq:q<6):(scAll v)[i * 6+q]?=(scC i (v i))[q]?:=by
 obtain rfl | rfl | rfl | rfl | rfl | rfl | rfl:i=0∨i=1∨i=2∨i=3∨i=4∨i=5∨i=6:=by omega
 all_goals
  obtain rfl | rfl | rfl | rfl | rfl | rfl:q=0∨q=1∨q=2∨q=3∨q=4∨q=5:=by omega
  all_goals rfl
theorem scl_of_reads {W : World} {cs : Array Value} {fuel : Nat} {p : List MemPlace} (hv : W.var? Tryz.prog "keyevent/pack.scales" = some cs) (h : DataW.trod (fun _ => ()) Tryz.prog W 0 (fun _ => true) false fuel 156 cs.toList = some (Rows.laid_keyevent_pack_scales, p)) : Scl W := by
 rw [laid_isC] at h
 obtain ⟨xs,m,rfl,hx,hl,hxl,hall⟩:=DataW.trod_array Tryz.underlying156 h
 have hcc:∀j,W.cell? ⟨2,j,none⟩=cs[j]?:=fun j=>World.var?_cell (g:=2) (by kernel_rfl) hv j
 have key:∀i,i<7→∃v n q,(cs.toList.drop (i * 6)).take 6=[.int .i64 (scR i).kind,.int .i64 (scR i).least,.int .i64 (scR i).count,.int .u8 (scR i).first,.int .u8 (scR i).wide,v]∧DataW.trod (fun _=>()) Tryz.prog W 0 (fun _=>true) false n 22 [v]=some (scI i,q):=by
  intro i hi
  have hi':=hall i hi
  rw [mcells_scl] at hi'
  have hxs:xs.map (·.1)=scD:=by
   have:=congrArg Prod.fst hx
   simpa using this.symm
  obtain ⟨b,hb⟩:∃b,xs[i]?=some b:=⟨xs[i]'(by omega),List.getElem?_eq_getElem (by omega)⟩
  rw [hb] at hi'
  have hb1:b.1=.agg [.lit (.int .i64 (scR i).kind),.lit (.int .i64 (scR i).least),.lit (.int .i64 (scR i).count),.lit (.int .u8 (scR i).first),.lit (.int .u8 (scR i).wide),scI i]:=by
   have:=congrArg (·[i]?) hxs
   simp only [List.getElem?_map,hb,Option.map_some] at this
   simp only [scD,List.getElem?_map,List.getElem?_range hi,Option.map_some,Option.some.injEq] at this
   exact this
  obtain ⟨d,q⟩:=b
  simp only at hb1
  subst hb1
  exact scl_row hi'
 have hcell:∀i,i<7→∀q,q<6→cs[i * 6+q]?=((cs.toList.drop (i * 6)).take 6)[q]?:=fun i hi q hq=>by
  rw [List.getElem?_take,if_pos hq,List.getElem?_drop];simp
 have key2:∀i,i<7→∃n q,DataW.trod (fun _=>()) Tryz.prog W 0 (fun _=>true) false n 22 [cs[i * 6+5]?.getD (.slice none 0 0)]=some (scI i,q)∧∀q,q<6→cs[i * 6+q]?=(scC i (cs[i * 6+5]?.getD (.slice none 0 0)))[q]?:=by
  intro i hi
  obtain ⟨v,n,p',h1,h2⟩:=key i hi
  have h5:=hcell i hi 5 (by omega)
  rw [h1] at h5
  have h5:cs[i * 6+5]?=some v:=h5
  rw [h5]
  refine ⟨n,p',h2,fun q hq=>?_⟩
  rw [hcell i hi q hq,h1]
  rfl
 refine ⟨fun i=>cs[i * 6+5]?.getD (.slice none 0 0),?_,Lr _,fun j u hu=>?_,fun i hi=>?_⟩
 ·obtain ⟨n,q,h1,h2⟩:=key2 0 (by omega)
  have:=h2 0 (by omega)
  rw [←hcc] at this
  exact cell_lt this
 ·have hj:j<42:=lt_of_some hu
  rw [hcc,←hu]
  obtain ⟨n,q,h1,h2⟩:=key2 (j / 6) (by omega)
  have:=h2 (j % 6) (by omega)
  rw [←scAll_at (fun i=>cs[i * 6+5]?.getD (.slice none 0 0)) (j / 6) (j % 6) (by omega) (by omega)] at this
  rw [show j / 6 * 6+j % 6=j by omega] at this
  exact this
 ·obtain ⟨n,q,h1,-⟩:=key2 i hi
  show IntsAt W.heap.size W (cs[i * 6+5]?.getD _) _
  unfold scI at h1
  by_cases hz:(scR i).widths.length=0
  ·rw [if_pos hz] at h1
   rw [mnil_of_reads h1,List.length_eq_zero_iff.1 hz]
   exact ⟨none,0,rfl,Lr _,fun j hj=>absurd hj (Nat.not_lt_zero _)⟩
  ·rw [if_neg hz] at h1
   exact mints_of_reads h1 (by omega)
end Go.Proofs.YtdppdonaojdceaaGreatDoor
namespace Go.Proofs.YtdppdonaojdceaaGreatDoor
open Go Go.ChangeShapes Go.WideShapes Go.ChangeAt Go.RowKit
def foS (k:Int) (x:ND):ByteArray:=if k=1 then jsS x else if k=2 then csS x else if k=3 then mpS x else ⟨#[]⟩
def foE (k:Int) (x:ND):Int:=if k=1 then jsE x else if k=2 then csE x else if k=3 then mpE x else 2
def FoIs (k:Int) (s:ByteArray) (x:ND) (er:Int):Prop:=(k=1∧DecIs s x er)∨(k=2∧CDecIs s x er)∨(k=3∧MDecIs s x er)∨((k<1∨3<k)∧x=nd0∧er=2)
structure Ftab (w:World):Prop where
 u:Utab w
 i:Itab w
 e:EVars w
 s:Scl w
theorem Ftab.below {w w':World} (h:Ftab w) (hb:Below w.heap.size w w'):Ftab w':=⟨h.u.below hb,h.i.below hb,h.e.below hb,h.s.to hb⟩
theorem Ftab.p {w:World} (h:Ftab w):Ptab w:=⟨h.u,h.s⟩
theorem fo_split (k:Int):k=1∨k=2∨k=3∨(k<1∨3<k):=by omega
theorem foS_none {k:Int} (x:ND) (h:k<1∨3<k):foS k x=⟨#[]⟩∧foE k x=2:=by
 unfold foS foE
 exact ⟨by rw [if_neg (by omega),if_neg (by omega),if_neg (by omega)],by rw [if_neg (by omega),if_neg (by omega),if_neg (by omega)]⟩
theorem encas_any {D:Nat} {S:Nat→Prop} (k:Int) (cs:List Value) (x:ND) (w:World) (h:NodeIn D S w cs x) (hS:∀b,S b→b<w.heap.size) (hl:lowV D x) (hw:validN 8 x=true→numsB 8 x=true) (hT:Ftab w):Calls Tryz.prog 9 #[.int .i64 k,.agg cs.toArray] w (EncW (foS k x) (foE k x) w):=by
 have h':∀wx,Below w.heap.size w wx→NodeIn D S wx cs x:=fun wx hb=>h.same fun b q=>hb.block b (hS b q)
 have hS':∀wx,Below w.heap.size w wx→∀b,S b→b<wx.heap.size:=fun wx hb b q=>Ll (hS b q) hb.size
 rcases fo_split k with rfl | rfl | rfl | hk
 ·exact encas_at 1 _ _ _ cs x w _ _ h (.inl rfl) ⟨rfl,rfl⟩ fun wx hb=>jenc_any cs x wx (h' wx hb) (hS' wx hb) hl hw (hT.below hb).u (hT.below hb).i
 ·exact encas_at 2 _ _ _ cs x w _ _ h (.inr (.inl rfl)) ⟨rfl,rfl⟩ fun wx hb=>cenc_any cs x wx (h' wx hb) (hS' wx hb) hl hw (hT.below hb).u
 ·exact encas_at 3 _ _ _ cs x w _ _ h (.inr (.inr rfl)) ⟨rfl,rfl⟩ fun wx hb=>mpenc_any cs x wx (h' wx hb) (hS' wx hb) hl hw (hT.below hb).p
 ·rw [(foS_none x hk).1,(foS_none x hk).2]
  exact encas_no k cs x w h hk
theorem decas_any (k:Int) (s:ByteArray) (w:World) (hT:Ftab w):Calls Tryz.prog 13 #[.int .i64 k,.string s] w (DecW (FoIs k s) w):=by
 rcases fo_split k with rfl | rfl | rfl | hk
 ·refine decas_at 1 _ _ _ s w _ (.inl rfl) ⟨rfl,rfl⟩ fun wx hb=>(jdec_any s wx (hT.below hb).u (hT.below hb).i (hT.below hb).e).mono ?_
  rintro e w' ⟨cs,x,er,h1,h2,h3,h4⟩
  exact ⟨cs,x,er,h1,h2,h3,.inl ⟨rfl,h4⟩⟩
 ·refine decas_at 2 _ _ _ s w _ (.inr (.inl rfl)) ⟨rfl,rfl⟩ fun wx hb=>(cdec_any s wx (hT.below hb).u).mono ?_
  rintro e w' ⟨cs,x,er,h1,h2,h3,h4⟩
  exact ⟨cs,x,er,h1,h2,h3,.inr (.inl ⟨rfl,h4⟩)⟩
 ·refine decas_at 3 _ _ _ s w _ (.inr (.inr rfl)) ⟨rfl,rfl⟩ fun wx hb=>(mpdec_any s wx (hT.below hb).p).mono ?_
  rintro e w' ⟨cs,x,er,h1,h2,h3,h4⟩
  exact ⟨cs,x,er,h1,h2,h3,.inr (.inr (.inl ⟨rfl,h4⟩))⟩
 ·exact decas_no k s w _ hk (.inr (.inr (.inr ⟨hk,rfl,rfl⟩)))
structure KitF (x:ND):Prop where
 j:KitJ x
 c:KitC x
 m:KitM x
theorem KitF.valid {x:ND} (h:KitF x):validN 8 x=true:=h.j.valid
theorem KitF.nums {x:ND} (h:KitF x):numsB 8 x=true:=h.j.nums
theorem KitF.ofMap {d:Nat} {x:ND} (h1:1≤d) (hd:d≤4) (h:MapOk (d - 1) x) (hi:∀y,y ∈ x.items→validK (d - 1) y=true) (hc:costN d x≤bndN d):KitF x:=⟨KitJ.ofMap h1 hd h hi hc,KitC.ofMap h1 hd h hi hc,KitM.ofMap h1 hd h hi hc⟩
end Go.Proofs.YtdppdonaojdceaaGreatDoor
namespace Go.Proofs.YtdppdonaojdceaaGreatDoor
open Go Go.RowKit Go.Shelf Go.Lib
theorem jt8_of_laid {w : World} (h : laidMetH Tryz.prog [("math/bits.deBruijn32tab", Rows.laid_math_bits_deBruijn32tab), ("math/bits.deBruijn64tab", Rows.laid_math_bits_deBruijn64tab), ("internal/strconv.uint64pow10", Rows.laid_internal_strconv_uint64pow10), ("unicode/utf8.acceptRanges", Rows.laid_unicode_utf8_acceptRanges), ("strconv.ErrRange", Rows.laid_strconv_ErrRange), ("strconv.ErrSyntax", Rows.laid_strconv_ErrSyntax), ("keyevent/pack.scales", Rows.laid_keyevent_pack_scales), ("unicode/utf8.first", Rows.laid_unicode_utf8_first)] w) : Ftab w := by
 rw [MakeChecks.laidMetH_plain _ _ _ (by kernel_rfl)] at h
 obtain ⟨a,sa,hva,-,-,-⟩:=laid_sentinel h.tail.tail.tail.tail (g:=5) (ti:=163) (tp:=212) (te:=214) (ts:=9) (by kernel_rfl) (by kernel_rfl) Tryz.underlying163 row_err Tryz.underlying212 Tryz.underlying214 rfl rfl Tryz.underlying9 (by kernel_rfl) (by kernel_rfl)
 obtain ⟨b,sb,hvb,-,-,-⟩:=laid_sentinel h.tail.tail.tail.tail.tail (g:=4) (ti:=163) (tp:=212) (te:=214) (ts:=9) (by kernel_rfl) (by kernel_rfl) Tryz.underlying163 row_err Tryz.underlying212 Tryz.underlying214 rfl rfl Tryz.underlying9 (by kernel_rfl) (by kernel_rfl)
 have e1:w.cell? ⟨4,0,none⟩=some (.iface 212 (.pointer (some b))):=by
  have:=World.var?_cell (g:=4) (by kernel_rfl) hvb 0
  simpa using this
 have e2:w.cell? ⟨5,0,none⟩=some (.iface 212 (.pointer (some a))):=by
  have:=World.var?_cell (g:=5) (by kernel_rfl) hva 0
  simpa using this
 have hs:Scl w:=by
  obtain ⟨g',t',cs,fuel,p,hg',ht',hvar,hd⟩:=Lib.laidMet.reads h (.tail _ (.tail _ (.tail _ (.tail _ (.tail _ (.tail _ (.head _)))))))
  have e1 : Tryz.prog.globalNamed "keyevent/pack.scales" = some 2 := by kernel_rfl
  obtain rfl:=Option.some.inj (e1.symm.trans hg')
  have e2:(Tryz.prog.globals[2]?).map (·.type)=some 156:=by kernel_rfl
  obtain rfl:=Option.some.inj (e2.symm.trans ht')
  exact scl_of_reads hvar hd
 exact ⟨Utab.of (jlaid_first ▸ Lib.laidMet.reads h (.tail _ (.tail _ (.tail _ (.tail _ (.tail _ (.tail _ (.tail _ (.head _))))))))) (jlaid_accept ▸ Lib.laidMet.reads h (.tail _ (.tail _ (.tail _ (.head _))))),jitab_of h.tail.tail,⟨⟨_,_,e1⟩,⟨_,_,e2⟩⟩,hs⟩
theorem door_met8 (os : Os) (args : Array Value) : laidMetH Tryz.prog [("math/bits.deBruijn32tab", Rows.laid_math_bits_deBruijn32tab), ("math/bits.deBruijn64tab", Rows.laid_math_bits_deBruijn64tab), ("internal/strconv.uint64pow10", Rows.laid_internal_strconv_uint64pow10), ("unicode/utf8.acceptRanges", Rows.laid_unicode_utf8_acceptRanges), ("strconv.ErrRange", Rows.laid_strconv_ErrRange), ("strconv.ErrSyntax", Rows.laid_strconv_ErrSyntax), ("keyevent/pack.scales", Rows.laid_keyevent_pack_scales), ("unicode/utf8.first", Rows.laid_unicode_utf8_first)] ((World.laidAll Tryz.prog os [("math/bits.deBruijn32tab", Rows.laid_math_bits_deBruijn32tab), ("math/bits.deBruijn64tab", Rows.laid_math_bits_deBruijn64tab), ("internal/strconv.uint64pow10", Rows.laid_internal_strconv_uint64pow10), ("unicode/utf8.acceptRanges", Rows.laid_unicode_utf8_acceptRanges), ("strconv.ErrRange", Rows.laid_strconv_ErrRange), ("strconv.ErrSyntax", Rows.laid_strconv_ErrSyntax), ("keyevent/pack.scales", Rows.laid_keyevent_pack_scales), ("unicode/utf8.first", Rows.laid_unicode_utf8_first)]).forCall (fun _ _ => 0) ⟨#[], args, []⟩).memory := by
 rw [MakeChecks.laidMetH_plain _ _ _ (by kernel_rfl)]
 exact laidMet_laidAll _ (by kernel_rfl) (by kernel_rfl)
end Go.Proofs.YtdppdonaojdceaaGreatDoor