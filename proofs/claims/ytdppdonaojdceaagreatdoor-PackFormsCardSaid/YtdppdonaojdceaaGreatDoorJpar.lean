/- The parser: escaped, quoted, name, bare. -/
import Derived.Test.YtdppdonaojdceaaGreatDoorJcur
set_option linter.unusedVariables false
set_option linter.unusedSimpArgs false
set_option maxHeartbeats 3200000
set_option maxRecDepth 100000
namespace Go.Proofs.YtdppdonaojdceaaGreatDoor
open Go Go.ChangeShapes Go.WideShapes Go.ChangeAt Go.RowKit
theorem prefix_split {p r:List UInt8} (h:Lib.hasPrefix r p=true):r=p++r.drop p.length:=by
 unfold Lib.hasPrefix at h
 obtain ⟨t,rfl⟩:=List.isPrefixOf_iff_prefix.1 h
 simp
theorem trim_true {p r:List UInt8} (h:Lib.hasPrefix r p=true):Lib.trimPrefix r p=r.drop p.length:=by unfold Lib.trimPrefix;rw [if_pos h]
theorem trim_false {p r:List UInt8} (h:Lib.hasPrefix r p=false):Lib.trimPrefix r p=r:=by unfold Lib.trimPrefix;rw [if_neg (by rw [h];decide)]
theorem esc_hex {r:List UInt8} (h:Lib.hasPrefix r [117,48,48]=true) {x:UInt8} {t:List UInt8} (he:escP r=some (x,t)):hex2 ((r.drop 3).take 2)=some x.toNat∧(r.drop 3).drop 2=t:=by
 have hr:=prefix_split h
 obtain ⟨q,hq⟩:∃q,q=r.drop 3:=⟨_,rfl⟩
 change r=[117,48,48]++r.drop 3 at hr
 rw [←hq] at hr ⊢
 rw [hr] at he
 match q,he with
 | [],he=>
  have:escP [117,48,48]=none:=rfl
  rw [show ([117,48,48]:List UInt8)++[]=[117,48,48] from rfl,this] at he
  cases he
 | [a],he=>
  have:escP [117,48,48,a]=none:=rfl
  rw [show ([117,48,48]:List UInt8)++[a]=[117,48,48,a] from rfl,this] at he
  cases he
 | a::b::t',he=>
  have e:escP ([117,48,48]++a::b::t')=match hexV a,hexV b with
   | some x,some y=>some (16 * x+y,t')
   | _,_=>none:=rfl
  rw [e] at he
  cases hx:hexV a with
  | none=>rw [hx] at he;cases he
  | some x'=>
   cases hy:hexV b with
   | none=>rw [hx,hy] at he;cases he
   | some y'=>
    rw [hx,hy] at he
    cases he
    refine ⟨?_,rfl⟩
    show (match hexV a,hexV b with | some x,some y=>some (16 * x.toNat+y.toNat) | _,_=>none)=_
    rw [hx,hy]
    have h1:=(dVal_hex hx).2.2
    have h2:=(dVal_hex hy).2.2
    show some (16 * x'.toNat+y'.toNat)=some (16 * x'+y').toNat
    rw [UInt8.toNat_add,UInt8.toNat_mul]
    show some (16 * x'.toNat+y'.toNat)=some ((16 * x'.toNat % 256+y'.toNat) % 256)
    congr 1
    omega
theorem esc_letters {r:List UInt8} (h:Lib.hasPrefix r [117,48,48]=false) {x:UInt8} {t:List UInt8} (he:escP r=some (x,t)):charL (r.take 1)=some x∧r.drop 1=t:=by
 unfold escP at he
 split at he
 ·exact absurd h (by simp [Lib.hasPrefix])
 ·rename_i c r' _
  cases hc:ctlV c with
  | none=>rw [hc] at he;cases he
  | some d=>
   rw [hc] at he
   cases he
   exact ⟨hc,rfl⟩
 ·cases he
def EscPost (g mw mc:Nat) (r:List UInt8) (w:World) (e:Ending) (w':World):Prop:=∃ (c:Nat) (ok:Bool) (r':List UInt8),e=.returned (.tuple #[.int .u8 (c:Int),.bool ok])∧c<256∧PrS w' g mw mc r'∧w.grownBy w' (some g)∧r'.length≤r.length∧∀x t,escP r=some (x,t)→ok=true∧c=x.toNat∧r'=t
theorem escaped_any {g mw mc:Nat} {r:List UInt8} (w:World) (h:PrS w g mw mc r) (hr:r.length≤1000000):Calls Tryz.prog 123 #[.pointer (some ⟨g,0,none⟩)] w (EscPost g mw mc r w):=by
 have S:=skip_any ⟨#[117,48,48]⟩ w h
 rw [show (⟨#[117,48,48]⟩:ByteArray).data.toList=[117,48,48] from rfl] at S
 cases hp:Lib.hasPrefix r [117,48,48] with
 | true=>
  rw [hp,trim_true hp] at S
  have SS:Hid (Calls Tryz.prog _ _ w (PPost g mw mc w (.bool true) (r.drop 3))):=S
  have HX:=Hh (fun x t he=>esc_hex (x:=x) (t:=t) hp he)
  have hl3:(r.drop 3).length≤r.length:=by rw [List.length_drop];omega
  clear S hp h
  obtain ⟨q,hq⟩:∃q,q=r.drop 3:=⟨_,rfl⟩
  rw [←hq] at SS HX hl3
  clear hq
  go_enter Tryz.func123,Tryz.ntmps123
  go_upto_region 2 with ((with_reducible refine (SS.out).mono ?_);rintro e w1 ⟨rfl,hp1,hg1⟩)
  have T:Hid (Calls Tryz.prog 138 #[.pointer (some ⟨g,0,none⟩),.int .i64 2] w1 (PPost g mw mc w1 (.string (bA (q.take 2))) (q.drop 2))):=take_any' 2 w1 hp1 (by decide) (by omega)
  have G1:=Hh hg1
  clear hg1 hp1 SS
  go_wp2_with (first
   | (go_at_call 138;(with_reducible refine (T.out).mono ?_);rintro e w2 ⟨rfl,hp2,hg2⟩;(have PU:=Hh (pu16_any (bA (q.take 2)) w2 (by rw [bA_size,List.length_take];omega) hp2.2.2.2.2.1)))
   | (go_at_call 139;(with_reducible refine (PU.out).mono ?_);rintro e w3 ⟨v,ev,rfl,hv,hev,hh,hb⟩;go_loud ((have wv:IntKind.u8.wrap (v:Int)=(v:Int):=by rw [IntKind.wrap_u8];omega);(have HH:=Hh hh);clear hh)))
  have HP:=Hh (Ai hp2 (gtrans G1.out hg2))
  clear hp2 hg2 G1 T PU
  have hfin:∀ (n:Nat) (ok:Bool),(ev=.nilIface→ok=true)→EscPost g mw mc r w (.returned (.tuple #[.int .u8 (v:Int),.bool ok])) (w3.drewN n):=by
   intro n ok hok
   have hb:=below_drewN hb n
   refine ⟨v,ok,q.drop 2,rfl,hv,HP.out.1.below hb,gtrans HP.out.2 (grown_of_below hb (Lr _) _),by rw [List.length_drop];omega,fun x t he=>?_⟩
   obtain ⟨e1,e2⟩:=HX.out x t he
   have:=HH.out x.toNat (by rw [bA_data];exact e1)
   exact ⟨hok this.2,this.1,e2⟩
  have HF:=Hh hfin
  clear hfin
  rcases hev with rfl | ⟨te,pe,rfl⟩
  ·go_wp2
   go_quiet (fail)
   go_wp2
   go_ret2
   exact HF.out _ _ (fun _=>rfl)
  ·go_wp2
   go_quiet (fail)
   go_wp2
   go_ret2
   exact HF.out _ _ (fun h=>by cases h)
 | false=>
  rw [hp,trim_false hp] at S
  have SS:Hid (Calls Tryz.prog _ _ w (PPost g mw mc w (.bool false) r)):=S
  have HX:=Hh (fun x t he=>esc_letters (x:=x) (t:=t) hp he)
  clear S hp h
  go_enter Tryz.func123,Tryz.ntmps123
  go_upto_region 4 with ((with_reducible refine (SS.out).mono ?_);rintro e w1 ⟨rfl,hp1,hg1⟩)
  have hpd:PrS w1.drew g mw mc r:=hp1.below ((Br _ _).drew)
  have hgd:w.grownBy w1.drew (some g):=gtrans hg1 (grown_of_below (Br _ _).drew (Lr _) _)
  have cc:w1.drew.cell? ⟨g,2,none⟩=some (.map (some mc)):=cell_blk hpd.1 rfl
  clear hp1 hg1 SS
  refine wp_region_plan (fun w'=>w'.cell? ⟨g,2,none⟩=some (.map (some mc))) [3] (.take 0 (.take 1 (.take 2 (.take 3 (.take 4 (.take 5 (.take 6 (.ask 7 true (.ask 8 false (.take 9 (.take 10 (.take 11 (.take 12 (.take 13 .stop))))) .stop) .stop)))))))) (by kernel_rfl) (by kernel_rfl) (fun _ d _ _ _ h=>by cases d <;> exact h) cc ?_
  generalize w1.drew=wd at hpd hgd cc ⊢
  refine take_any _ ?_ rfl rfl ?_ (fun K hK=>?_);rotate_left;(intro w0;go_simp;(try rfl));(go_simp;refine hK _ ?_;clear hK K)
  refine take_any _ ?_ rfl rfl ?_ (fun K hK=>?_);rotate_left;(intro w0;go_simp;(try rfl));(go_simp;refine hK _ ?_;clear hK K)
  refine take_any _ ?_ rfl rfl ?_ (fun K hK=>?_);rotate_left;(intro w0;go_simp;(try rfl));(go_simp;refine hK _ ?_;clear hK K)
  refine take_held _ ?_ rfl rfl (by decide) ?_ (fun K hK=>?_);rotate_left;(intro w0 hw0;go_simp;(try rfl));(go_simp;refine hK _ ?_;clear hK K)
  refine take_any _ ?_ rfl rfl ?_ (fun K hK=>?_);rotate_left;(intro w0;go_simp;(try rfl));(go_simp;refine hK _ ?_;clear hK K)
  refine take_any _ ?_ rfl rfl ?_ (fun K hK=>?_);rotate_left;(intro w0;go_simp;(try rfl));(go_simp;refine hK _ ?_;clear hK K)
  refine take_any _ ?_ rfl rfl ?_ (fun K hK=>?_);rotate_left;(intro w0;go_simp;(try rfl));(go_simp;refine hK _ ?_;clear hK K)
  have T:Hid (Calls Tryz.prog 138 #[.pointer (some ⟨g,0,none⟩),.int .i64 1] wd (PPost g mw mc wd (.string (bA (r.take 1))) (r.drop 1))):=take_any' 1 wd hpd (by decide) (by omega)
  refine ask_step _ rfl trivial ?_
  go_wp2_with (go_at_call 138;(with_reducible refine (T.out).mono ?_);rintro e w2 ⟨rfl,hp2,hg2⟩)
  refine Seg.mk ⟨cell_blk hp2.1 rfl,?_⟩
  obtain ⟨c,hc256,hlook,hcx⟩:=hp2.2.2.1.look (s:=bA (r.take 1)) (by rw [bA_size,List.length_take];unfold maxLen;omega)
  rw [bA_data] at hlook hcx
  generalize hok:(charL (r.take 1)).isSome=ok at hlook
  refine ask_late _ rfl trivial ?_
  go_wp2_with fail
  refine Seg.mk ?_
  iterate 5 (refine take_any _ ?_ rfl rfl ?_ (fun K hK=>?_);rotate_left;(intro w0;go_simp;(try rfl));(go_simp;refine hK _ ?_;clear hK K))
  have hpost:EscPost g mw mc r w (.returned (.tuple #[.int .u8 (c:Int),.bool ok])) w2:=by
   refine ⟨c,ok,r.drop 1,rfl,hc256,hp2,gtrans hgd hg2,by rw [List.length_drop];omega,fun x t he=>?_⟩
   obtain ⟨e1,e2⟩:=HX.out x t he
   exact ⟨by rw [←hok,e1];rfl,hcx x e1,e2⟩
  have HPO:=Hh hpost
  clear hpost hp2 hg2 hgd hcx hok hpd
  unfold wpPlan
  go_wp2_with fail
  go_ret2
  exact HPO.out
def ends2:List UInt8:=[34,92]
theorem from_head (ends:List UInt8):∀r:List UInt8,from' ends r=[]∨∃c q,from' ends r=c::q∧ends.contains c=true
 | []=>.inl rfl
 | b::l=>by
  unfold from'
  rw [List.dropWhile_cons]
  cases hb:ends.contains b with
  | true=>exact .inr ⟨b,l,by simp,hb⟩
  | false=>
   have:=from_head ends l
   unfold from' at this
   simpa using this
theorem quoted_until:∀ (r x t:List UInt8),quotedP r=some (x,t)→∃x',x=upTo ends2 r++x'∧quotedP (from' ends2 r)=some (x',t)
 | [],x,t,h=>by rw [quotedP_eq] at h;cases h
 | c::q,x,t,h=>by
  by_cases hc:ends2.contains c=true
  ·have e1:upTo ends2 (c::q)=[]:=by unfold upTo;rw [List.takeWhile_cons,hc];rfl
   have e2:from' ends2 (c::q)=c::q:=by unfold from';rw [List.dropWhile_cons,hc];rfl
   exact ⟨x,by rw [e1];rfl,by rw [e2];exact h⟩
  ·have hcf:ends2.contains c=false:=by simpa using hc
   have e1:upTo ends2 (c::q)=c::upTo ends2 q:=by unfold upTo;rw [List.takeWhile_cons,hcf];rfl
   have e2:from' ends2 (c::q)=from' ends2 q:=by unfold from';rw [List.dropWhile_cons,hcf];rfl
   have n1:c ≠ 34:=fun e=>by subst e;exact hc rfl
   have n2:c ≠ 92:=fun e=>by subst e;exact hc rfl
   rw [quotedP_eq,qStep_cons,if_neg n1,if_neg n2] at h
   replace h:(quotedP q).map (fun x=>(c::x.1,x.2))=some (x,t):=h
   cases hq:quotedP q with
   | none=>rw [hq] at h;cases h
   | some y=>
    rw [hq] at h
    obtain ⟨y1,y2⟩:=y
    cases h
    obtain ⟨x',h1,h2⟩:=quoted_until q y1 _ hq
    exact ⟨x',by rw [e1,h1];rfl,by rw [e2];exact h2⟩
theorem quoted_end (q x t:List UInt8) (h:quotedP (34::q)=some (x,t)):x=[]∧t=q:=by
 rw [quotedP_eq,qStep_cons,if_pos rfl] at h
 cases h;exact ⟨rfl,rfl⟩
theorem quoted_esc (q x t:List UInt8) (h:quotedP (92::q)=some (x,t)):∃c q' x',escP q=some (c,q')∧x=c::x'∧quotedP q'=some (x',t):=by
 rw [quotedP_eq,qStep_cons,if_neg (by decide),if_pos rfl] at h
 cases he:escP q with
 | none=>rw [he] at h;cases h
 | some y=>
  obtain ⟨c,q'⟩:=y
  rw [he] at h
  replace h:(quotedP q').map (fun x=>(c::x.1,x.2))=some (x,t):=h
  cases hq:quotedP q' with
  | none=>rw [hq] at h;cases h
  | some z=>
   obtain ⟨z1,z2⟩:=z
   rw [hq] at h
   cases h
   exact ⟨c,q',z1,rfl,rfl,hq⟩
theorem upTo_len (ends r:List UInt8):(upTo ends r).length+(from' ends r).length=r.length:=by rw [←Lg,upTo_from]
theorem has34 (c:UInt8) (q:List UInt8) (p:UInt8):Lib.hasPrefix (c::q) [p]=(p == c):=by unfold Lib.hasPrefix;rw [List.isPrefixOf_cons_cons,List.isPrefixOf_nil_left,Bool.and_true]
theorem trim1 (c:UInt8) (q:List UInt8):Lib.trimPrefix (c::q) [c]=q:=by rw [trim_true (by rw [has34];simp)];rfl
def restLen (w:World) (g:Nat):Nat:=match w.cell? ⟨g,0,none⟩ with
 | some (.string s)=>s.size
 | _=>0
theorem PrS.rest {w:World} {g mw mc:Nat} {r:List UInt8} (h:PrS w g mw mc r):restLen w g=r.length:=by
 unfold restLen
 rw [cell_blk h.1 rfl]
 exact bA_size r
theorem PrS.row {w w':World} {g mw mc:Nat} {r:List UInt8} {row:Option Nat} (h:PrS w g mw mc r) (hg:w.grownBy w' row) (hb:∀b,row=some b→g<b):PrS w' g mw mc r:=by
 cases row with
 | some b=>exact h.kept hg (hb b rfl)
 | none=>
  obtain ⟨h1,h2,h3,⟨h4,h5⟩,h6,h7,h8⟩:=h
  have hw:∀i,i<w.heap.size→w'.heap[i]?=w.heap[i]?:=fun i hi=>hg.block i hi (by intro e;cases e)
  refine ⟨(hw g (lt_of_block h1)).trans h1,h2.same (hw _ h2.lt),h3.same (hw _ h3.lt),⟨h4,h5⟩,?_,h7,h8⟩
  obtain ⟨⟨t,p,e1⟩,⟨t',p',e2⟩⟩:=h6
  have l1:4<w.heap.size:=cell_lt e1
  have l2:5<w.heap.size:=cell_lt e2
  refine ⟨⟨t,p,?_⟩,⟨t',p',?_⟩⟩
  ·rw [cell_same (hw _ l1)];exact e1
  ·rw [cell_same (hw _ l2)];exact e2
def QuoPost (g mw mc:Nat) (r:List UInt8) (w:World) (e:Ending) (w':World):Prop:=∃ (s:List UInt8) (ok:Bool) (r':List UInt8),e=.returned (.tuple #[.string (bA s),.bool ok])∧PrS w' g mw mc r'∧w.grownBy w' (some g)∧s.length+r'.length≤r.length∧∀x t,quotedP r=some (x,t)→ok=true∧s=x∧r'=t
theorem pquoted_any {g mw mc:Nat} {r:List UInt8} (w:World) (h:PrS w g mw mc r) (hr:r.length≤100000):Calls Tryz.prog 100 #[.pointer (some ⟨g,0,none⟩)] w (QuoPost g mw mc r w):=by
 obtain ⟨ib,hib,hb0,hb1,hb2⟩:=info_parts Tryz.info5
 have hub:=Tryz.underlying56
 have hust:=Tryz.underlying9
 have HIB:=Hh hib
 have hlt:=h.lt
 have HST:=Hh h
 clear h hib
 go_enter Tryz.func100,Tryz.ntmps100
 go_upto_region 2 with fail
 go_loopw [4] (fun v wr=>∃ (l rr:List UInt8),PrS wr g mw mc rr∧wr.ownsRow w.heap.size 5 1 v l.length (bytesV l)∧w.grownBy wr (some g)∧l.length+rr.length≤r.length∧w.heap.size≤wr.heap.size∧∀x t,quotedP r=some (x,t)→∃x',x=l++x'∧quotedP rr=some (x',t)) (fun _ wr=>restLen wr g)
 case atStart=>exact ⟨[],r,HST.out,World.ownsRow_nil _ _ _ _,World.grownBy.refl _ _,by simp,Lr _,fun x t hx=>⟨x,rfl,hx⟩⟩
 case round=>
  clear HST
  obtain ⟨l,rr,hst,hown,hg,hlen,hsz,hq⟩:=hrel
  have hrl:=hst.rest
  obtain ⟨ao,cap,rfl,-,-⟩:=wown_form hown
  have U:Hid (Calls Tryz.prog 122 #[.pointer (some ⟨g,0,none⟩),.string ⟨#[34,92]⟩] wr (PPost g mw mc wr (.string (bA (upTo ends2 rr))) (from' ends2 rr))):=until_any ⟨#[34,92]⟩ wr hst (by decide) (by decide) (by omega) (by
   intro j b hj
   have hj:([34,92]:List UInt8)[j]?=some b:=hj
   match j,hj with
   | 0,hj=>cases hj;decide
   | 1,hj=>cases hj;decide
   | j+2,hj=>simp at hj)
  have hul:=upTo_len ends2 rr
  have hq2:∀x t,quotedP r=some (x,t)→∃x',x=(l++upTo ends2 rr)++x'∧quotedP (from' ends2 rr)=some (x',t):=fun x t hx=>by
   obtain ⟨x',h1,h2⟩:=hq x t hx
   obtain ⟨x'',h3,h4⟩:=quoted_until rr x' t h2
   exact ⟨x'',by rw [h1,h3,List.append_assoc],h4⟩
  have hfh:=from_head ends2 rr
  generalize upTo ends2 rr=u at U hul hq2
  generalize from' ends2 rr=f at U hul hq2 hfh
  have hus:(bA u).size=u.length:=bA_size u
  have HUS:=Hh hus
  have HO:=Hh hown
  have HG:=Hh hg
  have HQ:=Hh hq2
  have HFH:=Hh hfh
  clear hown hg hq hq2 hfh hus
  go_upto_region 3 with (first
   | (go_at_call 122;(with_reducible refine (U.out).mono ?_);rintro e w1 ⟨rfl,hp1,hg1⟩;(have HO1:=Hh (owns_grown HO.out hg1 hlt));(have hs1:=hg1.size))
   | (at_builtin;refine Lib.wpList_append_own_string _ rfl (.tmp 7) (.tmp 11) 56 9 rfl w.heap.size 5 ib hub hust HIB.out hb0 hb1 hb2 _ l.length _ rfl HO1.out (bA u) rfl (by unfold maxLen;rw [HUS.out];omega) (by rw [HUS.out];omega) (by omega) ?_;intro v' w8 hown8 hgr8 hnil8;obtain ⟨ao8,cap8,rfl,-,-⟩:=wown_form hown8;clear hnil8))
  have hp8:PrS w8 g mw mc f:=hp1.row hgr8 (fun b e=>by have:=(HO1.out.lt b e).1;omega)
  have hg8:w.grownBy w8 (some g):=grown_own (gtrans HG.out hg1) HO1.out hgr8 (Lr _)
  have hsz8:w.heap.size≤w8.heap.size:=hg8.size
  obtain ⟨l2,hl2⟩:∃l2,l2=l++u:=⟨_,rfl⟩
  have hl2n:l2.length=l.length+(bA u).size:=by rw [hl2,HUS.out,Lg]
  have hown2:w8.ownsRow w.heap.size 5 1 (.slice ao8 (l.length+(bA u).size) cap8) l2.length (bytesV l2):=by
   rw [hl2n,hl2,bytesV_append]
   have e:bytesV u=Lib.strCells (bA u):=by show _=bytesV (bA u).data.toList;rw [bA_data]
   rw [e];exact hown8
  rw [←hl2n] at hown2
  rw [←hl2n]
  have hq3:=HQ.out
  rw [←hl2] at hq3
  have hlen2:l2.length+f.length≤r.length:=by rw [hl2,Lg];omega
  have hlf:f.length≤rr.length:=by omega
  have HQ3:=Hh hq3
  have HRL:=Hh hrl
  clear hown8 hgr8 hl2 hl2n hq3 HQ HG HO HO1 hg1 hp1 hrl hul hlen
  rcases HFH.out with rfl | ⟨c,q,rfl,hc⟩
  ·have S1:Hid (Calls Tryz.prog 98 #[.pointer (some ⟨g,0,none⟩),.string ⟨#[34]⟩] w8 (PPost g mw mc w8 (.bool false) [])):=skip_any ⟨#[34]⟩ w8 hp8
   have S2:Hid (∀wx:World,PrS wx g mw mc []→Calls Tryz.prog 98 #[.pointer (some ⟨g,0,none⟩),.string ⟨#[92]⟩] wx (PPost g mw mc wx (.bool false) [])):=Hh fun wx hx=>skip_any ⟨#[92]⟩ wx hx
   clear hp8
   go_wp2_with (first
    | (go_at_call 98;(with_reducible refine (S1.out).mono ?_);rintro e w9 ⟨rfl,hp9,hg9⟩)
    | (go_at_call 98;(with_reducible refine (S2.out _ hp9).mono ?_);rintro e wa ⟨rfl,hpa,hga⟩))
   go_ret2
   exact ⟨[],false,[],rfl,hpa,gtrans hg8 (gtrans hg9 hga),by simp,fun x t hx=>by
    obtain ⟨x',-,h⟩:=HQ3.out x t hx
    rw [quotedP_eq] at h;cases h⟩
  ·by_cases h34:c=34
   ·subst h34
    have S1:Hid (Calls Tryz.prog 98 #[.pointer (some ⟨g,0,none⟩),.string ⟨#[34]⟩] w8 (PPost g mw mc w8 (.bool true) q)):=by
     have:=skip_any ⟨#[34]⟩ w8 hp8
     rw [show (⟨#[34]⟩:ByteArray).data.toList=[34] from rfl,has34,trim1] at this
     exact this
    have HOW:=Hh hown2
    clear hp8 hown2
    go_upto_region 4 with ((with_reducible refine (S1.out).mono ?_);rintro e w9 ⟨rfl,hp9,hg9⟩)
    have hcv:=conv_owns (P:=Tryz.prog) w9 56 9 5 w.heap.size l2.length _ l2 (owns_grown HOW.out hg9 hlt) Tryz.underlying56 Tryz.underlying5 Tryz.underlying9
    go_wp2
    go_ret2
    exact ⟨l2,true,q,rfl,hp9,gtrans hg8 hg9,by simp at hlen2;omega,fun x t hx=>by
     obtain ⟨x',h1,h2⟩:=HQ3.out x t hx
     obtain ⟨rfl,rfl⟩:=quoted_end q x' t h2
     exact ⟨rfl,by rw [h1,List.append_nil],rfl⟩⟩
   ·have h92:c=92:=by
     have:c ∈ ends2:=by simpa using hc
     simp only [ends2,List.mem_cons,List.not_mem_nil,or_false] at this
     exact this.resolve_left h34
    subst h92
    have S1:Hid (Calls Tryz.prog 98 #[.pointer (some ⟨g,0,none⟩),.string ⟨#[34]⟩] w8 (PPost g mw mc w8 (.bool false) (92::q))):=skip_any ⟨#[34]⟩ w8 hp8
    have S2:Hid (∀wx:World,PrS wx g mw mc (92::q)→Calls Tryz.prog 98 #[.pointer (some ⟨g,0,none⟩),.string ⟨#[92]⟩] wx (PPost g mw mc wx (.bool true) q)):=Hh fun wx hx=>by
     have:=skip_any ⟨#[92]⟩ wx hx
     rw [show (⟨#[92]⟩:ByteArray).data.toList=[92] from rfl,has34,trim1] at this
     exact this
    have hlq:q.length+1≤rr.length:=by simpa using hlf
    have hlen3:l2.length+(q.length+1)≤r.length:=by simpa using hlen2
    have E:=Hh (fun (wx:World) (hx:PrS wx g mw mc q)=>escaped_any wx hx (by omega))
    have HOW:=Hh hown2
    clear hp8 hown2 hlf hlen2
    go_upto_region 8 with (first
     | (go_at_call 98;(with_reducible refine (S1.out).mono ?_);rintro e w9 ⟨rfl,hp9,hg9⟩)
     | (go_at_call 98;(with_reducible refine (S2.out _ hp9).mono ?_);rintro e wa ⟨rfl,hpa,hga⟩)
     | (go_at_call 123;(with_reducible refine (E.out _ hpa).mono ?_);rintro e wb ⟨cn,ok,q',rfl,hcn,hpb,hgb,hlb,hesc⟩))
    have HE:=Hh hesc
    clear hesc S1 S2 E
    cases ok with
    | false=>
     go_wp2
     go_ret2
     exact ⟨[],false,q',rfl,hpb,gtrans hg8 (gtrans hg9 (gtrans hga hgb)),by simp;omega,fun x t hx=>by
      obtain ⟨x',-,h2⟩:=HQ3.out x t hx
      obtain ⟨c0,q0,x'',e1,-,-⟩:=quoted_esc q x' t h2
      have:=(HE.out c0 q0 e1).1
      cases this⟩
    | true=>
     obtain ⟨cb,rfl⟩:∃cb:UInt8,cb.toNat=cn:=⟨UInt8.ofNat cn,by rw [UInt8.toNat_ofNat'];omega⟩
     have hownB:=owns_grown (owns_grown (owns_grown HOW.out hg9 hlt) hga hlt) hgb hlt
     have hgB:=gtrans hg8 (gtrans hg9 (gtrans hga hgb))
     have hszB:w.heap.size≤wb.heap.size:=hgB.size
     have K2A:=Hh (hownB.alloc (.cells #[.int .u8 (cb.toNat:Int)] 5))
     have hpC:=hpb.below ((Br wb.heap.size wb).alloc (o:=.cells #[.int .u8 (cb.toNat:Int)] 5) (Lr _))
     have hgC:=gtrans hgB (galloc wb (.cells #[.int .u8 (cb.toNat:Int)] 5) (some g))
     have hza:w.heap.size≤(wb.alloc (.cells #[.int .u8 (cb.toNat:Int)] 5)).heap.size:=hgC.size
     have CN:=Hh (cells_new wb #[.int .u8 (cb.toNat:Int)] 5 [.int .u8 (cb.toNat:Int)] rfl)
     have HPC:=Hh (Ai hpC hgC)
     clear hpC hgC hgB hownB hpb hg8 hg9 hga hgb hp9 hpa HOW
     go_wp2_with (refine wpList_append_lies _ rfl (.tmp 31) (.tmp 33) 56 rfl w.heap.size 5 ib (.int .u8 0) 1 1 hub HIB.out hb0 hb1 hb2 rfl (by decide) _ l2.length _ rfl K2A.out ⟨wb.heap.size,0,none⟩ 1 1 [.int .u8 (cb.toNat:Int)] rfl rfl CN.out (by intro z hz;simp only [List.mem_cons,List.not_mem_nil,or_false] at hz;rcases hz with rfl;rfl) (by decide) (by unfold maxLen;omega) (by omega) hza _ rfl ?_;intro gg cc8 wd hownD hgrD hatD hltD)
     have hpD:PrS wd g mw mc q':=HPC.out.1.row hgrD (fun b e=>by have:=(K2A.out.lt b e).1;omega)
     have hgD:w.grownBy wd (some g):=grown_own HPC.out.2 K2A.out hgrD (Lr _)
     go_roundw
     case rel=>
      refine ⟨l2++[cb],q',hpD,?_,hgD,by rw [Lg];show l2.length+1+q'.length≤r.length;omega,hgD.size,fun x t hx=>?_⟩
      ·rw [Lg,bytesV_append];exact hownD
      ·obtain ⟨x',h1,h2⟩:=HQ3.out x t hx
       obtain ⟨c0,q0,x'',e1,e2,e3⟩:=quoted_esc q x' t h2
       obtain ⟨-,e4,e5⟩:=HE.out c0 q0 e1
       have e6:=UInt8.toNat_inj.1 e4
       subst e6 e5
       exact ⟨x'',by rw [h1,e2];simp,e3⟩
     case measure=>rw [hpD.rest,HRL.out];omega
end Go.Proofs.YtdppdonaojdceaaGreatDoor