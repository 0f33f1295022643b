/- What a word or a number is, as data: the strict reader's word is found by the parser. -/
import Derived.Test.YtdppdonaojdceaaGreatDoorJawk
import Derived.Test.YtdppdonaojdceaaGreatDoorJpar
set_option linter.unusedVariables false
set_option linter.unusedSimpArgs false
set_option maxHeartbeats 3200000
set_option maxRecDepth 100000
namespace Go.Proofs.YtdppdonaojdceaaGreatDoor
open Go.Lib
def ends3:List UInt8:=[44,93,125]
def endR (t:List UInt8):Prop:=∀c,t.head?=some c→ends3.contains c=true
theorem upTo_app {l t:List UInt8} (hl:∀c,c ∈ l→ends3.contains c=false) (ht:endR t):upTo ends3 (l++t)=l∧from' ends3 (l++t)=t:=by
 have h:upTo ends3 t=[]∧from' ends3 t=t:=by
  cases t with
  | nil=>exact ⟨rfl,rfl⟩
  | cons c r=>
   have:=ht c rfl
   unfold upTo from'
   rw [List.takeWhile_cons,List.dropWhile_cons,this]
   exact ⟨rfl,rfl⟩
 unfold upTo from' at h ⊢
 rw [List.takeWhile_append_of_pos (fun c hc=>by rw [hl c hc];rfl),List.dropWhile_append_of_pos (fun c hc=>by rw [hl c hc];rfl),h.1,h.2,List.append_nil]
 exact ⟨rfl,rfl⟩
theorem parse_digs:∀ (ds:List UInt8) (acc k:Nat),(∀c,c ∈ ds→isDig c=true)→acc<10 ^ k→k+ds.length≤19→parseUint10 acc ds=.ok (ds.foldl (fun a c=>a * 10+(c.toNat - 48)) acc)
 | [],acc,k,_,_,_=>rfl
 | c::ds,acc,k,hd,ha,hk=>by
  have hc:=isDig_ne (hd c (by simp))
  simp only [List.length_cons] at hk
  have h18:acc<10 ^ 18:=Ll ha (Nat.pow_le_pow_right (by decide) (by omega))
  have hn:acc * 10+(c.toNat - 48)<10 ^ (k+1):=by rw [Nat.pow_succ];omega
  rw [parseUint10,if_pos hc,if_neg (by omega),if_neg (by omega)]
  rw [parse_digs ds _ (k+1) (fun x hx=>hd x (by simp [hx])) hn (by omega)]
  rfl
theorem parse_dec {ds:List UInt8} (hd:∀c,c ∈ ds→isDig c=true) (h0:ds ≠ []) (hl:ds.length≤19):parseMag ds=.ok (decVal ds):=by
 unfold parseMag decVal
 rw [if_neg h0,parse_digs ds 0 0 hd (by decide) (by omega)]
theorem dig_free {c:UInt8} (h:isDig c=true):ends3.contains c=false:=by
 have:=isDig_ne h
 have h1:c ≠ 44:=fun e=>by subst e;revert this;decide
 have h2:c ≠ 93:=fun e=>by subst e;revert this;decide
 have h3:c ≠ 125:=fun e=>by subst e;revert this;decide
 simp [ends3,h1,h2,h3]
theorem word_no {c:UInt8} {l:List UInt8} (h:c=45∨isDig c=true):wordZ (c::l)=none:=by
 have h1:c ≠ 116∧c ≠ 102∧c ≠ 110:=by
  rcases h with rfl | h
  ·decide
  ·have:=isDig_ne h
   refine ⟨?_,?_,?_⟩ <;> (intro e;subst e;revert this;decide)
 unfold wordZ
 rw [if_neg (by intro e;cases e;exact h1.1 rfl),if_neg (by intro e;cases e;exact h1.2.1 rfl),if_neg (by intro e;cases e;exact h1.2.2 rfl)]
def BareIs (r:List UInt8) (y:ND) (t:List UInt8):Prop:=from' ends3 r=t∧(wordZ (upTo ends3 r)=some y∨(wordZ (upTo ends3 r)=none∧∃u:Int,atoiAll (upTo ends3 r)=.ok u∧y=.mk 2 false u ⟨#[]⟩ [] []))
theorem takeWhile_all:∀ (l:List UInt8),∀c,c ∈ l.takeWhile isDig→isDig c=true
 | [],c,h=>by simp at h
 | b::l,c,h=>by
  rw [List.takeWhile_cons] at h
  cases hb:isDig b with
  | true=>
   rw [hb] at h
   rcases List.mem_cons.1 h with rfl | h
   ·exact hb
   ·exact takeWhile_all l c h
  | false=>rw [hb] at h;simp at h
theorem digs_bare {neg:Bool} {q t:List UInt8} {y:ND} (h:digsP neg q=some (y,t)) (ht:endR t):BareIs (if neg then 45::q else q) y t:=by
 unfold digsP at h
 split at h
 ·cases h
 ·rename_i h1
  split at h
  ·cases h
  ·rename_i h2
   cases h
   obtain ⟨ds,hds⟩:∃ds,ds=q.takeWhile isDig:=⟨_,rfl⟩
   obtain ⟨tt,htt⟩:∃tt,tt=q.dropWhile isDig:=⟨_,rfl⟩
   have hq:q=ds++tt:=by rw [hds,htt,List.takeWhile_append_dropWhile]
   rw [←hds] at h1 h2 ⊢
   rw [←htt] at ht ⊢
   have hall:∀c,c ∈ ds→isDig c=true:=by rw [hds];exact takeWhile_all q
   have h0:ds ≠ []:=fun e=>h1 (.inl (by rw [e];rfl))
   have hl:ds.length≤19:=by omega
   have hpm:=parse_dec hall h0 hl
   obtain ⟨c,ds',hcd⟩:∃c ds',ds=c::ds':=by
    cases ds with
    | nil=>exact absurd rfl h0
    | cons c ds'=>exact ⟨c,ds',rfl⟩
   have hcdig:=hall c (by rw [hcd];simp)
   cases neg with
   | true=>
    have e:(if true=true then 45::q else q)=(45::ds)++tt:=by rw [if_pos rfl,hq];rfl
    rw [e]
    obtain ⟨u1,u2⟩:=upTo_app (l:=45::ds) (t:=tt) (fun c hc=>by
     rcases List.mem_cons.1 hc with rfl | hc
     ·rfl
     ·exact dig_free (hall c hc)) ht
    refine ⟨u2,.inr ⟨by rw [u1];exact word_no (.inl rfl),-(decVal ds:Int),?_,by rw [if_pos rfl]⟩⟩
    rw [u1,atoiAll_minus,hpm]
    unfold signed
    simp only
    rw [if_neg (by omega)]
   | false=>
    have e:(if false=true then 45::q else q)=ds++tt:=by rw [if_neg (by decide),hq]
    rw [e]
    obtain ⟨u1,u2⟩:=upTo_app (l:=ds) (t:=tt) (fun c hc=>dig_free (hall c hc)) ht
    have hcn:=isDig_ne hcdig
    refine ⟨u2,.inr ⟨by rw [u1,hcd];exact word_no (.inr hcdig),(decVal ds:Int),?_,by rw [if_neg (by decide)]⟩⟩
    rw [u1,hcd,atoiAll_plain c ds' (by omega) (by omega),←hcd,hpm]
    unfold signless
    simp only
    have h3:¬9223372036854775807<decVal ds:=fun h=>h2 (.inl ⟨rfl,h⟩)
    rw [if_neg (by omega)]
theorem bare_val {d:Nat} {c:UInt8} {r:List UInt8} {y:ND} {t:List UInt8} (h:valueP (d+1) (c::r)=some (y,t)) (h1:c ≠ 34) (h2:c ≠ 91) (h3:c ≠ 123) (ht:endR t):BareIs (c::r) y t:=by
 rw [valueP_cons,if_neg h1,if_neg h2,if_neg h3] at h
 split at h
 ·rename_i hp
  have hr:=prefix_split (r:=c::r) (p:=nullB) hp
  cases h
  obtain ⟨u1,u2⟩:=upTo_app (l:=nullB) (t:=(c::r).drop 4) (by decide) ht
  rw [show (c::r).drop nullB.length=(c::r).drop 4 from rfl] at hr
  rw [←hr] at u1 u2
  exact ⟨u2,.inl (by rw [u1];rfl)⟩
 ·split at h
  ·rename_i hp
   have hr:=prefix_split (r:=c::r) (p:=trueB) hp
   cases h
   obtain ⟨u1,u2⟩:=upTo_app (l:=trueB) (t:=(c::r).drop 4) (by decide) ht
   rw [show (c::r).drop trueB.length=(c::r).drop 4 from rfl] at hr
   rw [←hr] at u1 u2
   exact ⟨u2,.inl (by rw [u1];rfl)⟩
  ·split at h
   ·rename_i hp
    have hr:=prefix_split (r:=c::r) (p:=falseB) hp
    cases h
    obtain ⟨u1,u2⟩:=upTo_app (l:=falseB) (t:=(c::r).drop 5) (by decide) ht
    rw [show (c::r).drop falseB.length=(c::r).drop 5 from rfl] at hr
    rw [←hr] at u1 u2
    exact ⟨u2,.inl (by rw [u1];rfl)⟩
   ·unfold numberP at h
    split at h
    ·rename_i hc
     have hc:c=45:=by simpa using hc
     subst hc
     exact digs_bare (neg:=true) h ht
    ·exact digs_bare (neg:=false) h ht
end Go.Proofs.YtdppdonaojdceaaGreatDoor
namespace Go.Proofs.YtdppdonaojdceaaGreatDoor
open Go Go.ChangeShapes Go.WideShapes Go.ChangeAt Go.RowKit
theorem word_leaf {l:List UInt8} {x:ND} (h:wordZ l=some x):x=.mk x.kind x.bool 0 ⟨#[]⟩ [] []:=by
 unfold wordZ at h
 split at h
 ·cases h;rfl
 ·split at h
  ·cases h;rfl
  ·split at h
   ·cases h;rfl
   ·cases h
def RPost (V:ND→List UInt8→Prop) (d:Nat) (g mw mc:Nat) (r:List UInt8) (w:World) (e:Ending) (w':World):Prop:=∃ (cs:List Value) (x:ND) (ok:Bool) (r':List UInt8),e=.returned (.tuple #[.agg cs.toArray,.bool ok])∧NodeIn (d+1) (fun b=>w.heap.size≤b∧b<w'.heap.size) w' cs x∧PrS w' g mw mc r'∧w.grownBy w' (some g)∧r'.length≤r.length∧(lowV (d+1) x∧numsB (d+1) x=true)∧∀y t,V y t→ok=true∧x=y∧r'=t
theorem leaf_res {V:ND→List UInt8→Prop} {d g mw mc:Nat} {r r':List UInt8} {w wx:World} {T:TypeId} (k:Int) (b:Bool) (z:Int) (t:ByteArray) (ok:Bool) (hp:PrS wx g mw mc r') (hg:w.grownBy wx (some g)) (hgw:g<w.heap.size) (hl:r'.length≤r.length) (ht:t.size≤maxLen - 2) (hz:wideI z=true)
 (hV:∀y t',V y t'→ok=true∧(.mk k b z t [] [])=y∧r'=t') :
 RPost V d g mw mc r w (.returned (.tuple #[.agg #[.int .i64 k,.bool b,.int .i64 z,.string t,.slice none 0 0,.slice none 0 0],.bool ok])) (set6 wx w.heap.size (.int .i64 k) (.bool b) (.int .i64 z) (.string t) (.slice none 0 0) (.slice none 0 0)):=by
 have hgs:=grown_set6 wx w.heap.size (.int .i64 k) (.bool b) (.int .i64 z) (.string t) (.slice none 0 0) (.slice none 0 0)
 exact ⟨[.int .i64 k,.bool b,.int .i64 z,.string t,.slice none 0 0,.slice none 0 0],_,ok,r',rfl,(node_leaf _ _ k b z t ht).deeper (by omega),hp.kept hgs hgw,grown_new hg hgs (Lr _),hl,⟨⟨by simp [ND.items],fun y hy=>by simp [ND.items] at hy⟩,by unfold numsB;show (wideI z && _)=true;rw [hz];rfl⟩,hV⟩
theorem bare_any {g mw mc:Nat} {r:List UInt8} (w:World) (h:PrS w g mw mc r) (hr:r.length≤100000):Calls Tryz.prog 101 #[.pointer (some ⟨g,0,none⟩)] w (RPost (fun y t=>BareIs r y t) 0 g mw mc r w):=by
 have hlt:=h.lt
 have bA':=(Br w.heap.size w).alloc (o:=.cells #[.int .i64 0,.bool false,.int .i64 0,.string ⟨#[]⟩,.slice none 0 0,.slice none 0 0] 30) (Lr _)
 have h0:=h.below bA'
 have hr0:=Hn w (.cells #[.int .i64 0,.bool false,.int .i64 0,.string ⟨#[]⟩,.slice none 0 0,.slice none 0 0] 30)
 have hg0:=galloc w (.cells #[.int .i64 0,.bool false,.int .i64 0,.string ⟨#[]⟩,.slice none 0 0,.slice none 0 0] 30) (some g)
 have U:Hid (∀wx:World,PrS wx g mw mc r→Calls Tryz.prog 122 #[.pointer (some ⟨g,0,none⟩),.string ⟨#[44,93,125]⟩] wx (PPost g mw mc wx (.string (bA (upTo ends3 r))) (from' ends3 r))):=Hh fun wx hx=>until_any ⟨#[44,93,125]⟩ wx hx (by decide) (by decide) (by omega) (by
  intro j b hj
  have hj:([44,93,125]:List UInt8)[j]?=some b:=hj
  match j,hj with
  | 0,hj=>cases hj;decide
  | 1,hj=>cases hj;decide
  | 2,hj=>cases hj;decide
  | j+3,hj=>simp at hj)
 have hul:=upTo_len ends3 r
 have hbi:∀y t,BareIs r y t→from' ends3 r=t∧(wordZ (upTo ends3 r)=some y∨(wordZ (upTo ends3 r)=none∧∃u:Int,Lib.atoiAll (upTo ends3 r)=.ok u∧y=.mk 2 false u ⟨#[]⟩ [] [])):=fun y t h=>h
 generalize BareIs r=BI at hbi ⊢
 generalize upTo ends3 r=u at U hul hbi
 generalize from' ends3 r=f at U hul hbi
 have HBI:=Hh hbi
 clear h bA' hbi
 go_enter Tryz.func101,Tryz.ntmps101
 go_upto_region 1 with fail
 generalize w.alloc (.cells #[.int .i64 0,.bool false,.int .i64 0,.string ⟨#[]⟩,.slice none 0 0,.slice none 0 0] 30)=w0 at h0 hr0 hg0 ⊢
 go_upto_region 2 with ((with_reducible refine (U.out _ h0).mono ?_);rintro e w1 ⟨rfl,hp1,hg1⟩)
 have hr1:=keepG hg1 (by omega) hr0
 have hg01:=gtrans hg0 hg1
 have hlook:=hp1.2.1.look (s:=bA u) (by rw [bA_size];unfold maxLen;omega)
 rw [bA_data] at hlook
 have cm:w1.cell? ⟨g,1,none⟩=some (.map (some mw)):=cell_blk hp1.1 rfl
 have HP1:=Hh (Ai hp1 hg01)
 have HR1:=Hh hr1
 have hfl:f.length≤r.length:=by omega
 have hul2:u.length≤r.length:=by omega
 clear h0 hr0 hg0 hg1 hp1 hg01 hr1 U hul
 cases hw:wordZ u with
 | some x=>
  rw [hw] at hlook
  have hx:=word_leaf hw
  have hV:∀y t',BI y t'→true=true∧(.mk x.kind x.bool 0 ⟨#[]⟩ [] [])=y∧f=t':=fun y t' hb=>by
   obtain ⟨e1,e2⟩:=HBI.out y t' hb
   rw [hw] at e2
   rcases e2 with e2 | ⟨e2,-⟩
   ·cases e2;exact ⟨rfl,hx.symm,e1⟩
   ·cases e2
  have HV:=Hh hV
  clear hV hx hw HBI
  simp only [Option.getD_some,Option.isSome_some,leafV] at hlook
  generalize x.kind=k at HV hlook
  generalize x.bool=b at HV hlook
  have bN:=(Br w1.heap.size w1).alloc (o:=.cells #[.int .i64 k,.bool b,.int .i64 0,.string ⟨#[]⟩,.slice none 0 0,.slice none 0 0] 30) (Lr _)
  have hpN:=HP1.out.1.below bN
  have hgN:=gtrans HP1.out.2 (galloc w1 (.cells #[.int .i64 k,.bool b,.int .i64 0,.string ⟨#[]⟩,.slice none 0 0,.slice none 0 0] 30) (some g))
  have hrN:(w1.alloc (.cells #[.int .i64 k,.bool b,.int .i64 0,.string ⟨#[]⟩,.slice none 0 0,.slice none 0 0] 30)).heap[w.heap.size]?=_:=(bN.block _ (lt_of_block HR1.out)).trans HR1.out
  have hnN:=Hn w1 (.cells #[.int .i64 k,.bool b,.int .i64 0,.string ⟨#[]⟩,.slice none 0 0,.slice none 0 0] 30)
  obtain ⟨W2,hW2⟩:∃W,W=w1.alloc (.cells #[.int .i64 k,.bool b,.int .i64 0,.string ⟨#[]⟩,.slice none 0 0,.slice none 0 0] 30):=⟨_,rfl⟩
  have hne:¬w.heap.size=w1.heap.size:=by have:=lt_of_block HR1.out;omega
  rw [←hW2] at hpN hgN hrN hnN
  clear bN
  go_upto_region 3 with fail
  rw [←hW2]
  clear hW2 hlook cm
  have f1:=free_six hrN
  have c1:=six_of hrN
  have c2:=six_of hnN
  have HRN:=Hh hrN
  have HPN:=Hh (Ai hpN hgN)
  clear hrN hnN hpN hgN
  go_wp2
  refine ret_node (v:=.bool true) HRN.out Tryz.results101 rfl rfl rfl ?_
  exact leaf_res (T:=0) k b 0 ⟨#[]⟩ true HPN.out.1 HPN.out.2 hlt hfl (by decide) (by decide) (fun y t' h=>⟨rfl,(HV.out y t' h).2⟩)
 | none=>
  rw [hw] at hlook
  simp only [Option.getD_none,Option.isSome_none,leafV,nd0,ND.kind,ND.bool] at hlook
  have hV:∀ (v:Int) (ok:Bool) (hh:∀n,Lib.atoiAll u=.ok n→v=n∧ok=true),∀y t',BI y t'→ok=true∧(.mk 2 false v ⟨#[]⟩ [] [])=y∧f=t':=fun v ok hh y t' hb=>by
   obtain ⟨e1,e2⟩:=HBI.out y t' hb
   rw [hw] at e2
   rcases e2 with e2 | ⟨-,n,e2,rfl⟩
   ·cases e2
   ·obtain ⟨rfl,h2⟩:=hh n e2;exact ⟨h2,rfl,e1⟩
  have HV:=Hh hV
  clear hV hw HBI
  have bN:=(Br w1.heap.size w1).alloc (o:=.cells #[.int .i64 0,.bool false,.int .i64 0,.string ⟨#[]⟩,.slice none 0 0,.slice none 0 0] 30) (Lr _)
  have hpN:=HP1.out.1.below bN
  have hgN:=gtrans HP1.out.2 (galloc w1 (.cells #[.int .i64 0,.bool false,.int .i64 0,.string ⟨#[]⟩,.slice none 0 0,.slice none 0 0] 30) (some g))
  have hrN:(w1.alloc (.cells #[.int .i64 0,.bool false,.int .i64 0,.string ⟨#[]⟩,.slice none 0 0,.slice none 0 0] 30)).heap[w.heap.size]?=_:=(bN.block _ (lt_of_block HR1.out)).trans HR1.out
  obtain ⟨W2,hW2⟩:∃W,W=w1.alloc (.cells #[.int .i64 0,.bool false,.int .i64 0,.string ⟨#[]⟩,.slice none 0 0,.slice none 0 0] 30):=⟨_,rfl⟩
  rw [←hW2] at hpN hgN hrN
  clear bN
  have A:=Hh (atoi_any (bA u) W2 (by rw [bA_size];omega) hpN.2.2.2.2.1)
  go_upto_region 3 with fail
  rw [←hW2]
  clear hW2 hlook cm
  have HRN:=Hh hrN
  have HPN:=Hh (Ai hpN hgN)
  clear hrN hpN hgN
  go_upto_region 6 with ((with_reducible refine (A.out).mono ?_);rintro e w3 ⟨v,ev,rfl,hwv,hev,hat,hb3⟩)
  have hp3:=HPN.out.1.below hb3
  have hg3:=gtrans HPN.out.2 (grown_of_below hb3 (Lr _) _)
  have hr3:=(hb3.block _ (lt_of_block HRN.out)).trans HRN.out
  rw [bA_data] at hat
  have HWV:=Hh hwv
  have bd:=(Br w3.heap.size w3).drew
  have hp4:=hp3.below bd
  have hg4:=gtrans hg3 (grown_of_below bd (Lr _) _)
  have hr4:w3.drew.heap[w.heap.size]?=_:=(bd.block _ (lt_of_block hr3)).trans hr3
  clear hb3 HPN HRN hp3 hg3 hr3 hwv bd A
  obtain ⟨ok,hok⟩:∃ok:Bool,(ev=.nilIface∧ok=true)∨((∃t p,ev=.iface t p)∧ok=false):=by
   rcases hev with h | h
   ·exact ⟨true,.inl ⟨h,rfl⟩⟩
   ·exact ⟨false,.inr ⟨h,rfl⟩⟩
  have HV3:=Hh (HV.out v ok fun n hn=>⟨(hat n hn).1,by
   rcases hok with h | ⟨⟨t,p,h⟩,-⟩
   ·exact h.2
   ·have:=(hat n hn).2;rw [h] at this;cases this⟩)
  clear hat hev HV
  rcases hok with ⟨rfl,rfl⟩ | ⟨⟨te,pe,rfl⟩,rfl⟩
  all_goals
   refine wp_region_plan (fun w'=>True) [] (.take 0 (.take 2 (.take 3 (.ask 1 false (.ask 4 false (.take 5 .stop) .stop) .stop)))) (by kernel_rfl) (by kernel_rfl) (fun _ d _ _ _ h=>by cases d <;> exact h) trivial ?_
   generalize w3.drew=w4 at hp4 hg4 hr4 ⊢
   refine take_any _ ?_ rfl rfl ?_ (fun K hK=>?_);rotate_left;(intro w0;go_simp;(try rfl));(go_simp;refine hK _ ?_;clear hK K)
   refine take_any _ ?_ rfl rfl ?_ (fun K hK=>?_);rotate_left;(intro w0;go_simp;(try rfl));(go_simp;refine hK _ ?_;clear hK K)
   refine take_any _ ?_ rfl rfl ?_ (fun K hK=>?_);rotate_left;(intro w0;go_simp;(try rfl));(go_simp;refine hK _ ?_;clear hK K)
   refine ask_late _ rfl trivial ?_
   go_wp2_with (go_at_call 106;(with_reducible refine (nnum_any v w4).mono ?_);rintro e w5 ⟨rfl,hb5⟩)
   refine Seg.mk ?_
   have hr5:=(hb5.block _ (lt_of_block hr4)).trans hr4
   have hp5:=hp4.below hb5
   have hg5:=gtrans hg4 (grown_of_below hb5 (Lr _) _)
   have f5:=free_six hr5
   have c5:=six_of hr5
   have HR5:=Hh hr5
   have HP5:=Hh (Ai hp5 hg5)
   clear hr4 hp4 hg4 hb5 hr5 hp5 hg5
   refine ask_late _ rfl trivial ?_
   go_wp2_with fail
   refine Seg.mk ?_
   refine take_any _ ?_ rfl rfl ?_ (fun K hK=>?_);rotate_left;(intro w0;go_simp;(try rfl));(go_simp;refine hK _ ?_;clear hK K)
   unfold wpPlan
   go_wp2_with fail
  ·refine ret_node (v:=.bool true) HR5.out Tryz.results101 rfl rfl rfl ?_
   exact leaf_res (T:=0) 2 false v ⟨#[]⟩ true HP5.out.1 HP5.out.2 hlt hfl (by decide) HWV.out (fun y t' h=>⟨rfl,(HV3.out y t' h).2⟩)
  ·refine ret_node (v:=.bool false) HR5.out Tryz.results101 rfl rfl rfl ?_
   exact leaf_res (T:=0) 2 false v ⟨#[]⟩ false HP5.out.1 HP5.out.2 hlt hfl (by decide) HWV.out (fun y t' h=>by have:=HV3.out y t' h;simp at this)
def NameIs (r s t:List UInt8):Prop:=∃q,r=34::q∧quotedP q=some (s,58::t)
def NamePost (g mw mc:Nat) (r:List UInt8) (w:World) (e:Ending) (w':World):Prop:=∃ (s:List UInt8) (ok:Bool) (r':List UInt8),e=.returned (.tuple #[.string (bA s),.bool ok])∧PrS w' g mw mc r'∧w.grownBy w' (some g)∧s.length≤r.length∧r'.length≤r.length∧∀x t,NameIs r x t→ok=true∧s=x∧r'=t
theorem name_any {g mw mc:Nat} {r:List UInt8} (w:World) (h:PrS w g mw mc r) (hr:r.length≤100000):Calls Tryz.prog 121 #[.pointer (some ⟨g,0,none⟩)] w (NamePost g mw mc r w):=by
 have S:=skip_any ⟨#[34]⟩ w h
 rw [show (⟨#[34]⟩:ByteArray).data.toList=[34] from rfl] at S
 cases hp:Lib.hasPrefix r [34] with
 | false=>
  rw [hp,trim_false hp] at S
  have SS:Hid (Calls Tryz.prog _ _ w (PPost g mw mc w (.bool false) r)):=S
  have HP:=Hh hp
  clear S h hp
  go_enter Tryz.func121,Tryz.ntmps121
  go_wp2_with (go_at_call 98;(with_reducible refine (SS.out).mono ?_);rintro e w1 ⟨rfl,hp1,hg1⟩)
  go_ret2
  exact ⟨[],false,r,rfl,hp1,hg1,Nat.zero_le _,Lr _,fun x t ⟨q,e,_⟩=>by
   have:=HP.out
   rw [e,has34] at this
   cases this⟩
 | true=>
  rw [hp,trim_true hp] at S
  have hrq0:=prefix_split hp
  obtain ⟨q,hq⟩:∃q,q=r.drop 1:=⟨_,rfl⟩
  have hrq:r=34::q:=by rw [hq];exact hrq0
  clear hrq0
  have SS:Hid (Calls Tryz.prog 98 #[.pointer (some ⟨g,0,none⟩),.string ⟨#[34]⟩] w (PPost g mw mc w (.bool true) q)):=by rw [hq];exact S
  have hql:q.length+1=r.length:=by rw [hrq];rfl
  have Q:=Hh (fun (wx:World) (hx:PrS wx g mw mc q)=>pquoted_any wx hx (by omega))
  have HRQ:=Hh hrq
  clear S h hp hq hrq
  go_enter Tryz.func121,Tryz.ntmps121
  go_upto_region 4 with (first
   | (go_at_call 98;(with_reducible refine (SS.out).mono ?_);rintro e w1 ⟨rfl,hp1,hg1⟩)
   | (go_at_call 100;(with_reducible refine (Q.out _ hp1).mono ?_);rintro e w2 ⟨s,ok,r',rfl,hp2,hg2,hl2,hq2⟩))
  have HQ2:=Hh hq2
  clear hq2
  have S2:=skip_any ⟨#[58]⟩ w2 hp2
  rw [show (⟨#[58]⟩:ByteArray).data.toList=[58] from rfl] at S2
  have S3:Hid (Calls Tryz.prog 98 #[.pointer (some ⟨g,0,none⟩),.string ⟨#[58]⟩] w2 (PPost g mw mc w2 (.bool (Lib.hasPrefix r' [58])) (Lib.trimPrefix r' [58]))):=S2
  have hfin:∀x t,NameIs r x t→ok=true∧s=x∧r'=58::t:=fun x t ⟨q',e1,e2⟩=>by
   rw [HRQ.out] at e1
   cases e1
   exact HQ2.out x _ e2
  have HF:=Hh hfin
  clear S2 hfin HQ2
  cases ok with
  | false=>
   go_wp2
   go_ret2
   exact ⟨s,false,r',rfl,hp2,gtrans hg1 hg2,by omega,by omega,fun x t hx=>by have:=(HF.out x t hx).1;cases this⟩
  | true=>
   have htl:(Lib.trimPrefix r' [58]).length≤r'.length:=by
    unfold Lib.trimPrefix
    split
    ·rw [List.length_drop];omega
    ·exact Lr _
   go_wp2_with (go_at_call 98;(with_reducible refine (S3.out).mono ?_);rintro e w3 ⟨rfl,hp3,hg3⟩)
   go_ret2
   exact ⟨s,_,_,rfl,hp3,gtrans hg1 (gtrans hg2 hg3),by omega,by omega,fun x t hx=>by
    obtain ⟨-,e1,e2⟩:=HF.out x t hx
    subst e2
    exact ⟨by rw [has34];rfl,e1,trim1 58 t⟩⟩
end Go.Proofs.YtdppdonaojdceaaGreatDoor