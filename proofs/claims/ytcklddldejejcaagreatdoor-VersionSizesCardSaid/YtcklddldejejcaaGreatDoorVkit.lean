/- Labels of a map as data: all of them get one item. No program. -/
import Derived.Test.YtcklddldejejcaaGreatDoorRows
import Derived.Test.YtcklddldejejcaaGreatDoorProg
import Derived.Test.YtcklddldejejcaaGreatDoorVgt
import Derived.Test.YtcklddldejejcaaGreatDoorVps
import Derived.WalkSpells
import Derived.Deep.DeepCutAuto
import Derived.Deep.MidRow
import Derived.StillTailTactics
import Derived.WalkKit
import Derived.ProofKit
import Derived.OpenShut
import Derived.WalkLawsBesides
import Derived.Outline
import Derived.Lib.Hide
import Derived.BigRegion
import Derived.Shelf.Strings.Builder1
import Derived.Shelf.Strings.Builder2
import Derived.Shelf.Spec.BuilderWrite
import Derived.Deep.AppendLies
import Derived.BigQuiet
import Derived.Deep.QuietTactic
set_option linter.unusedVariables false
set_option linter.unusedSimpArgs false
set_option maxHeartbeats 6400000
set_option maxRecDepth 100000
namespace Go.Proofs.YtcklddldejejcaaGreatDoor
open Go
instance memDec (s:ByteArray) (l:List ByteArray):Decidable (s ∈ l):=decidable_of_iff _ (inB_iff s l)
end Go.Proofs.YtcklddldejejcaaGreatDoor
namespace Go.Proofs.YtcklddldejejcaaGreatDoor
open Go Go.Maps Go.ChangeShapes Go.WideShapes Go.ChangeAt Go.RowKit
theorem find_hit {l:List UInt8} {j:Nat} {v:VD} (hj:j≤24) (hl:j+17≤l.length) (hf:findV l 25 0=findV l (25 - j) j) (hp:parseV ((l.drop j).take 17)=some v):findV l 25 0=some (v,j):=by
 rw [hf,show 25 - j=(24 - j)+1 by omega,findV,if_pos hl,hp]
theorem find_next {l:List UInt8} {j:Nat} (hj:j≤24) (hl:j+17≤l.length) (hf:findV l 25 0=findV l (25 - j) j) (hp:parseV ((l.drop j).take 17)=none):findV l 25 0=findV l (25 - (j+1)) (j+1):=by
 rw [hf,show 25 - j=(24 - j)+1 by omega,findV,if_pos hl,hp,show 25 - (j+1)=24 - j by omega]
theorem find_end {l:List UInt8} {j:Nat} (h:j=25∨l.length<j+17) (hf:findV l 25 0=findV l (25 - j) j):findV l 25 0=none:=by
 rw [hf]
 rcases Nat.lt_or_ge j 25 with h1 | h1
 ·rw [show 25 - j=(24 - j)+1 by omega,findV,if_neg (by omega)]
 ·rw [show 25 - j=0 by omega];rfl
theorem fd_none {l:List UInt8} (h:findV l 25 0=none):fdV l=v0∧fdP l=0∧fdE l=10:=by
 unfold fdV fdP fdE;rw [h];exact ⟨rfl,rfl,rfl⟩
theorem fd_some {l:List UInt8} {v:VD} {j:Nat} (h:findV l 25 0=some (v,j)):fdV l=v∧fdP l=(j:Int)∧fdE l=0:=by
 unfold fdV fdP fdE;rw [h];exact ⟨rfl,rfl,rfl⟩
theorem pv_cases (l:List UInt8):(∃v,parseV l=some v∧pvV l=v∧pvE l=0)∨(parseV l=none∧pvV l=v0∧pvE l=10):=by
 unfold pvV pvE
 cases parseV l with
 | none=>exact .inr ⟨rfl,rfl,rfl⟩
 | some v=>exact .inl ⟨v,rfl,rfl,rfl⟩
def FiPost (s:ByteArray) (w:World) (e:Ending) (w':World):Prop:=e=.returned (.tuple #[.agg (vcs (fdV s.data.toList)),.int .i64 (fdP s.data.toList),.int .i64 (fdE s.data.toList)])∧Below w.heap.size w w'
theorem ret_vers3 {f:Func} {Q:Ending→World→Prop} {a:Act} {w:World} {g c s s2:Nat} {x0 x1 x2 x3 x4 v v2 y0 y1 y2 y3 y4:Value} (h:w.heap[g]?=some (.cells #[y0,y1,y2,y3,y4] 37 (0,0))) (hres:f.results=#[.cell c 37,.tmp s,.tmp s2]) (hc:a.tmps.getD c undef=.pointer (some ⟨g,0,none⟩)) (hs:a.tmps.getD s undef=v) (hs2:a.tmps.getD s2 undef=v2) (hd:a.defers=[])
 (hQ:Q (.returned (.tuple #[.agg #[x0,x1,x2,x3,x4],v,v2])) (set5 w g x0 x1 x2 x3 x4)):bodyPost Tryz.prog f Q .ret a (set5 w g x0 x1 x2 x3 x4):=by
 refine bodyPost_ret (v:=.tuple #[.agg #[x0,x1,x2,x3,x4],v,v2]) ?_ hd hQ
 obtain ⟨q0,q1,q2,q3,q4⟩:=five_of (five_put h x0 x1 x2 x3 x4)
 obtain ⟨tm,df⟩:=a
 simp only [Array.getD_eq_getD_getElem?] at hc hs hs2
 simp [results,hres,go_sem,hc,hs,hs2,q0,q1,q2,q3,q4]
theorem vfind_any (s:ByteArray) (w:World) (hs:s.size≤1000000) (hT:DB w) (hE:VErr w):Calls Tryz.prog 15 #[.string s] w (FiPost s w):=by
 have hl:s.data.toList.length=s.size:=by rw [Array.length_toList];rfl
 have PA:Hid (∀ (t:ByteArray) (wx:World),Below w.heap.size w wx→Calls Tryz.prog 42 #[.string t] wx (PsPost t wx)):=Hh fun t wx hb=>vparse_any t wx (hT.below hb) (hE.below hb)
 have HL:=Hh hl
 clear hT hE hl
 go_enter Tryz.func15,Tryz.ntmps15
 go_upto_region 1 with fail
 generalize ae:w.alloc _=w1
 obtain ⟨b0,k0⟩:=Al ae
 clear ae
 have HW:Hid (PW w w1):=Hh ⟨k0,b0⟩
 clear b0 k0
 go_upto_region 2 with fail
 obtain ⟨M,hM⟩:∃M:Int,M=min 24 ((s.size:Int) - 17)+1:=⟨_,rfl⟩
 rw [←hM]
 have HM:Hid (M≤25∧(∀j:Nat,(j:Int)<M→j≤24∧j+17≤s.size)∧∀j:Nat,¬ (j:Int)<M→j=0∨(j:Int)≤M→j=25∨s.size<j+17):=Hh ⟨by omega,fun j h=>by omega,fun j h k=>by omega⟩
 have hM25:M≤25:=HM.out.1
 clear hM
 go_loopw [5,6,7,13] (fun _ _ _ vc wr=>∃j:Nat,vc=.int .i64 (j:Int)∧(j=0∨(j:Int)≤M)∧Hid (findV s.data.toList 25 0=findV s.data.toList (25 - j) j)∧PW w wr) (fun _ _ _ vc _=>26 - (intOf vc).toNat)
 case atStart=>exact ⟨0,rfl,.inl rfl,Hh rfl,HW.out⟩
 case round=>
  obtain ⟨j,rfl,hjM,hfd,hW⟩:=hrel
  by_cases hj:(j:Int)<M
  ·obtain ⟨h24,h17⟩:=HM.out.2.1 j hj
   have HJ:=Hh (Ai h24 h17)
   have hsl:(j:Int)+17≤(s.size:Int):=by omega
   have hj0:(0:Int)≤(j:Int):=by omega
   have hj25:(j:Int)<25:=by omega
   have P1:Hid (Calls Tryz.prog 42 #[.string (s.extract j (j+17))] wr (PsPost (s.extract j (j+17)) wr)):=Hh (PA.out _ wr hW.2)
   unfold PsPost at P1
   have el:(s.extract j (j+17)).data.toList=(s.data.toList.drop j).take 17:=by rw [vext_list,show j+17 - j=17 by omega]
   rw [el] at P1
   have HP:=Hh (pv_cases ((s.data.toList.drop j).take 17))
   generalize pvE ((s.data.toList.drop j).take 17)=E at P1 HP
   generalize pvV ((s.data.toList.drop j).take 17)=V at P1 HP
   unfold vcs at P1
   have HW2:=Hh hW
   clear el hW h24 h17
   go_upto_region 5 with ((with_reducible refine (P1.out).mono ?_);rintro e w2 ⟨rfl,hb2⟩)
   have HW3:=Hh (HW2.out.step hb2)
   generalize ae:w2.alloc _=w4
   obtain ⟨b4,k4⟩:=Al ae
   clear ae
   have hW4:=HW3.out.step b4
   have c4:=five_of k4
   have f4:=free_five hW4.1
   have d4:=five_of hW4.1
   have HW4:=Hh hW4
   have hg4:w.heap.size<w2.heap.size:=lt_of_block HW3.out.1
   generalize w2.heap.size=g4 at c4 hg4 ⊢
   clear hb2 HW2 HW3 b4 k4 hW4 P1 hg4
   rcases HP.out with ⟨v,hv,rfl,rfl⟩ | ⟨hv,rfl,rfl⟩
   ·have HF:=Hh (fd_some (find_hit HJ.out.1 (by rw [HL.out];exact HJ.out.2) hfd.out hv))
    clear HP hv hfd
    go_wp2
    refine ret_vers3 (x0:=.string V.p) (x1:=.int .i64 V.a) (x2:=.int .i64 V.b) (x3:=.int .i64 V.f) (x4:=.int .i64 V.z) (v:=.int .i64 (j:Int)) (v2:=.int .i64 0) HW4.out.1 rfl rfl rfl rfl rfl ?_
    exact ⟨by rw [HF.out.1,HF.out.2.1,HF.out.2.2];rfl,HW4.out.2.grown (grown_set5 _ _ _ _ _ _ _) HW4.out.2.size (fun k hk=>by cases hk;exact Lr _)⟩
   ·have HF:=Hh (find_next HJ.out.1 (by rw [HL.out];exact HJ.out.2) hfd.out hv)
    have hjM2:(j:Int)+1≤M:=by omega
    clear HP hv hfd
    go_wp2
    go_roundw
    case rel=>exact ⟨j+1,by go_num,.inr (by omega),HF,HW4.out⟩
    case measure=>simp [intOf];omega
  ·have HF:=Hh (fd_none (find_end (by have:=HM.out.2.2 j hj hjM;rw [HL.out];exact this) hfd.out))
   have f4:=free_five hW.1
   have d4:=five_of hW.1
   have HW4:=Hh hW
   clear hfd hW hjM
   go_wp2
   refine ret_vers3 (x0:=.string ⟨#[]⟩) (x1:=.int .i64 0) (x2:=.int .i64 0) (x3:=.int .i64 0) (x4:=.int .i64 0) (v:=.int .i64 0) (v2:=.int .i64 10) HW4.out.1 rfl rfl rfl rfl rfl ?_
   exact ⟨by rw [HF.out.1,HF.out.2.1,HF.out.2.2];rfl,HW4.out.2.grown (grown_set5 _ _ _ _ _ _ _) HW4.out.2.size (fun k hk=>by cases hk;exact Lr _)⟩
end Go.Proofs.YtcklddldejejcaaGreatDoor
namespace Go.Proofs.YtcklddldejejcaaGreatDoor
open Go
theorem cap_drop {l:List UInt8} {j:Nat} {c:UInt8} (hc:l[j]?=some c) (hn:c.toNat<65∨90<c.toNat):parseV ((l.drop j).take 17)=none:=by
 refine parse_cap (cap_no (i:=0) (c:=c) ?_ (by omega))
 rw [List.getElem?_take,if_pos (by decide),List.getElem?_take,if_pos (by decide),List.getElem?_drop]
 exact hc
theorem find_at {pre rest:List UInt8} {v:VD} (hv:validV v=true) (hp:pre.length≤24) (hn:∀c,c ∈ pre→c.toNat<65∨90<c.toNat):findV (pre++(textV v++rest)) 25 0=some (v,pre.length):=by
 have hl:(pre++(textV v++rest)).length=pre.length+(17+rest.length):=by rw [Lg,Lg,textV_length hv]
 have h:=findV_skip (pre++(textV v++rest)) pre.length (25 - pre.length) 0 (fun j _ hj=>by
  have hj':j<pre.length:=by omega
  exact cap_drop (c:=pre[j]) (by rw [List.getElem?_append_left hj',List.getElem?_eq_getElem hj']) (hn _ (List.getElem_mem hj'))) (by omega)
 rw [show pre.length+(25 - pre.length)=25 by omega] at h
 rw [h,show 25 - pre.length=(24 - pre.length)+1 by omega,findV,if_pos (by omega),Nat.zero_add,List.drop_left,List.take_append_of_le_length (by rw [textV_length hv];exact Lr _),List.take_of_length_le (by rw [textV_length hv];exact Lr _),parse_text hv]
theorem zip_back {α β:Type}:∀L:List (α × β),(L.map (·.1)).zip (L.map (·.2))=L
 | []=>rfl
 | (a,b)::L=>by simpa using zip_back L
theorem keep_with (n:ND) (t:ByteArray):keepL (withV n t).names (withV n t).items=keepL n.names n.items:=by
 have e:keepL (withV n t).names (withV n t).items=List.filter (fun q=>decide (q.1 ≠ sV)) ((sV,tN t)::((keepL n.names n.items).map (·.1)).zip ((keepL n.names n.items).map (·.2))):=rfl
 rw [e,zip_back,List.filter_cons_of_neg (by simp)]
 unfold keepL
 rw [List.filter_filter]
 simp
theorem with_with (n:ND) (t u:ByteArray):withV (withV n t) u=withV n u:=by
 have h:=keep_with n t
 have e:withV (withV n t) u=.mk 5 false 0 ⟨#[]⟩ (sV::(keepL (withV n t).names (withV n t).items).map (·.1)) (tN u::(keepL (withV n t).names (withV n t).items).map (·.2)):=rfl
 rw [e,h]
 rfl
theorem fit_again (n:ND) (p:ByteArray) (k:Int):vfZ (fitN n p k) p k=vfZ n p k∧fitN (fitN n p k) p k=fitN n p k:=by
 have e1:vfZ (fitN n p k) p k=vfZ n p k:=by
  have:withV (fitN n p k) (fitT p k 0)=withV n (fitT p k 0):=with_with n _ _
  unfold vfZ
  rw [this]
 refine ⟨e1,?_⟩
 have e2:fitN (fitN n p k) p k=withV (fitN n p k) (fitT p k (vfZ (fitN n p k) p k)):=rfl
 rw [e2,e1]
 exact with_with n _ _
structure Fitted (n:ND) (p:ByteArray) (k:Int):Prop where
 e1:fitE n p k=0
 kit:FoK k (fitN n p k)
 draft:FoK k (withV n (fitT p k 0))
 ok:FitOk (fitN n p k)
 e2:fitE (fitN n p k) p k=0
 again:fitN (fitN n p k) p k=fitN n p k
 size:((foS k (fitN n p k)).size:Int)=vfZ n p k
 val:validV ⟨p,1,0,k,vfZ n p k⟩=true
 cost:costN 8 (fitN n p k)≤65000
theorem fitted {n:ND} {p:ByteArray} {k:Int} (hw:validW 8 n=true) (hc:costN 8 n≤64800) (h5:n.kind=5) (hl:n.items.length≤255) (hv:validV ⟨p,1,0,k,0⟩=true):Fitted n p k:=by
 have h8:=validW_valid hw
 have F:FitOk n:=⟨validW_nums hw,by omega⟩
 have hk:=keep_length n.names n.items
 have hkl:(keepL n.names n.items).length+1≤256:=by omega
 have hm:MapOk 7 n:=(mapOk_iff h5).1 h8
 have c0:=withV_cost (q:=6) hm.len hv
 have v0:validN 8 (withV n (fitT p k 0))=true:=(mapOk_iff rfl).2 (withV_ok hm (by decide) (vt_textOk hv) hkl)
 have hk13:1≤k∧k≤3:=by have:=(validV_parts hv).2.1;simp only at this;omega
 have D0:FoK k (withV n (fitT p k 0)):=⟨hk13.1,hk13.2,v0,withV_nums F.1,by have:=wrL_cost (k:=k) v0 (withV_nums F.1);have c0':costN 8 (withV n (fitT p k 0))≤costN 8 n+141:=c0;omega⟩
 rcases fit_cases n p k (fun _ _=>F.1) with ⟨f1,-⟩ | ⟨-,f2,-⟩ | ⟨er,f3,-,-,-,-,f4,-⟩ | ⟨-,-,-,-,f5,f6,f7,f8,f9⟩
 ·rw [hv] at f1;cases f1
 ·exact absurd ⟨h5,h8⟩ f2
 ·rw [D0.err.1] at f4
  rcases f3 with ⟨-,rfl⟩ | ⟨-,rfl⟩ <;> cases f4
 ·refine ⟨f9,f7,f5,⟨withV_nums F.1,?_⟩,?_,(fit_again n p k).2,by rw [f8];rfl,f6,?_⟩
  ·have c1:=withV_cost (q:=6) hm.len f6
   exact Nat.le_trans (show costN 8 (fitN n p k)≤costN 8 n+141 from c1) (by omega)
  ·have e:fitE (fitN n p k) p k=if validV ⟨p,1,0,k,0⟩ then (if (fitN n p k).kind=5∧validN 8 (fitN n p k)=true then foE k (withV (fitN n p k) (fitT p k 0)) else 1) else 2:=rfl
   rw [e,hv,if_pos rfl,if_pos ⟨rfl,f7.valid⟩,show withV (fitN n p k) (fitT p k 0)=withV n (fitT p k 0) from with_with n _ _]
   exact f5.err.1
  ·have c1:=withV_cost (q:=6) hm.len f6
   exact Nat.le_trans (show costN 8 (fitN n p k)≤costN 8 n+141 from c1) (by omega)
theorem Fitted.find {n:ND} {p:ByteArray} {k:Int} (h:Fitted n p k) (hl:n.items.length≤14):∃hd r:List UInt8,hd.length≤6∧(foS k (fitN n p k)).data.toList=hd++(textV ⟨p,1,0,k,vfZ n p k⟩++r)∧findV (foS k (fitN n p k)).data.toList 25 0=some (⟨p,1,0,k,vfZ n p k⟩,hd.length):=by
 have hk:=keep_length n.names n.items
 obtain ⟨hd,r,hn,h6,hf⟩:=withV_fo k n (by omega)
 have e':(foS k (fitN n p k)).data.toList=hd++(textV ⟨p,1,0,k,vfZ n p k⟩++r):=by rw [h.kit.err.2];exact hf _ h.val
 refine ⟨hd,r,h6,e',?_⟩
 rw [e']
 exact find_at h.val (by omega) (hn (by omega))
theorem fit_get {n:ND} {p:ByteArray} {k:Int} {j:Nat} {s:ByteArray} {y:ND} (h1:n.names[j]?=some s) (h2:n.items[j]?=some y):∃ (i:Nat) (z:ND),(fitN n p k).names[i]?=some s∧(fitN n p k).items[i]?=some z∧(s ≠ sV→z=y):=by
 by_cases hs:s=sV
 ·exact ⟨0,tN (fitT p k (vfZ n p k)),by rw [hs];rfl,rfl,fun h=>absurd hs h⟩
 ·have hm:(s,y) ∈ keepL n.names n.items:=by
   refine List.mem_filter.2 ⟨List.mem_of_getElem? (i:=j) ?_,decide_eq_true hs⟩
   rw [List.getElem?_zip_eq_some]
   exact ⟨h1,h2⟩
  obtain ⟨q,hq⟩:=List.getElem?_of_mem hm
  refine ⟨q+1,y,?_,?_,fun _=>rfl⟩
  ·show (sV::(keepL n.names n.items).map (·.1))[q+1]?=some s
   rw [List.getElem?_cons_succ,List.getElem?_map,hq];rfl
  ·show (tN (fitT p k (vfZ n p k))::(keepL n.names n.items).map (·.2))[q+1]?=some y
   rw [List.getElem?_cons_succ,List.getElem?_map,hq];rfl
theorem Fitted.map {n:ND} {p:ByteArray} {k:Int} (h:Fitted n p k):MapOk 7 (fitN n p k):=(mapOk_iff rfl).1 h.kit.valid
theorem FoK.read {k:Int} {x n:ND} {er:Int} (h:FoK k x) (hd:FoIs k (foS k x) n er):er=0∧n=x:=by
 have e:=h.err.2
 have hs:(foS k x).size≤65536:=by rw [h.size];exact h.len
 have w:∀y:ND,validN 8 y=true→numsB 8 y=true→validW 8 y=true:=fun y a b=>by unfold validW;rw [a,b];rfl
 have hx:=w x h.valid h.nums
 have v1:=h.valid;have v2:=h.nums;have v3:=h.k1;have v4:=h.k3
 generalize foS k x=s at *
 rcases hd with ⟨rfl,g⟩ | ⟨rfl,g⟩ | ⟨rfl,g⟩ | ⟨g,-⟩
 ·rcases g with ⟨rfl,h1,h2,h3,-⟩ | ⟨-,-,h4⟩
  ·exact ⟨rfl,writeN_inj (d:=8) (w n h1 h2) hx (h3.trans e)⟩
  ·exact absurd e.symm (h4 x v1 v2 hs)
 ·rcases g with ⟨rfl,h1,h2,h3,-⟩ | ⟨-,-,h4⟩
  ·exact ⟨rfl,writeC_inj (d:=8) (w n h1 h2) hx (h3.trans e)⟩
  ·exact absurd e.symm (h4 x v1 v2 hs)
 ·rcases g with ⟨rfl,h1,h2,h3,-⟩ | ⟨-,-,h4⟩
  ·exact ⟨rfl,writeP_inj (d:=8) (w n h1 h2) hx (h3.trans e)⟩
  ·exact absurd e.symm (h4 x v1 v2 hs)
 ·omega
end Go.Proofs.YtcklddldejejcaaGreatDoor
namespace Go.Proofs.YtcklddldejejcaaGreatDoor
open Go Go.ChangeShapes Go.WideShapes Go.ChangeAt Go.RowKit
def NodePost (d:Nat) (X:ND) (s:ByteArray) (w:World) (e:Ending) (w':World):Prop:=∃cs:List Value,e=.returned (.tuple #[.agg cs.toArray,.string s,.int .i64 0])∧NodeIn d (fun b=>w.heap.size≤b∧b<w'.heap.size) w' cs X∧Below w.heap.size w w'
structure NB (w:World) (g d:Nat) (X:ND) (a:Option Addr) (l c:Nat) (b:Option Addr) (m n:Nat):Prop where
 blk:w.heap[g]?=some (.cells #[.int .i64 X.kind,.bool X.bool,.int .i64 X.num,.string X.text,.slice a l c,.slice b m n] 28 (0,0))
 nod:NodeIn d (fun i=>i<w.heap.size) w [.int .i64 X.kind,.bool X.bool,.int .i64 X.num,.string X.text,.slice a l c,.slice b m n] X
section
variable {w w':World} {g d:Nat} {X:ND} {a b:Option Addr} {l c m n:Nat}
theorem NB.below (h:NB w g d X a l c b m n) (hb:Below w.heap.size w w'):NB w' g d X a l c b m n:=
 ⟨(hb.block _ (lt_of_block h.blk)).trans h.blk,(h.nod.same fun i q=>hb.block i q).mono fun i q=>Ll q hb.size⟩
theorem NB.new {S:Nat→Prop} (hx:NodeIn d S w [.int .i64 X.kind,.bool X.bool,.int .i64 X.num,.string X.text,.slice a l c,.slice b m n] X) (hS:∀i,S i→i<w.heap.size):NB (w.alloc (.cells #[.int .i64 X.kind,.bool X.bool,.int .i64 X.num,.string X.text,.slice a l c,.slice b m n] 28)) w.heap.size d X a l c b m n:=by
 have b4:=(Br w.heap.size w).alloc (o:=.cells #[.int .i64 X.kind,.bool X.bool,.int .i64 X.num,.string X.text,.slice a l c,.slice b m n] 28) (Lr _)
 exact ⟨Hn w _,(hx.same fun i q=>b4.block i (hS i q)).mono fun i q=>Ll (hS i q) b4.size⟩
theorem NB.six (h:NB w g d X a l c b m n):w.cell? ⟨g,0,none⟩=some (.int .i64 X.kind)∧w.cell? ⟨g,1,none⟩=some (.bool X.bool)∧w.cell? ⟨g,2,none⟩=some (.int .i64 X.num)∧w.cell? ⟨g,3,none⟩=some (.string X.text)∧w.cell? ⟨g,4,none⟩=some (.slice a l c)∧w.cell? ⟨g,5,none⟩=some (.slice b m n):=six_of h.blk
theorem alloc_below (w:World) (o:Obj):Below w.heap.size w (w.alloc o):=(Br w.heap.size w).alloc (Lr _) o
end
def sKERI:ByteArray:=⟨#[75,69,82,73]⟩
theorem keri_val {k:Int} (h1:1≤k) (h3:k≤3):validV ⟨sKERI,1,0,k,0⟩=true:=by
 rcases (by omega:k=1∨k=2∨k=3) with rfl | rfl | rfl <;> decide +kernel
end Go.Proofs.YtcklddldejejcaaGreatDoor
namespace Go.Proofs.YtcklddldejejcaaGreatDoor
open Go Go.Maps Go.ChangeShapes Go.WideShapes Go.ChangeAt Go.RowKit
theorem awkV:vtS ⟨⟨#[75,69,82,73]⟩,1,0,1,251⟩=⟨#[75,69,82,73,49,48,74,83,79,78,48,48,48,48,102,98,95]⟩∧vtE ⟨⟨#[75,69,82,73]⟩,1,0,1,251⟩=0:=by decide +kernel
theorem awake9_any (w:World) (hT:DB w):Calls Tryz.prog 10 #[] w fun e w'=>e=.returned (.bool true)∧Below w.heap.size w w':=by
 have TX:Hid (Calls Tryz.prog 35 #[.agg #[.string ⟨#[75,69,82,73]⟩,.int .i64 1,.int .i64 0,.int .i64 1,.int .i64 251]] w (TxPostV ⟨⟨#[75,69,82,73]⟩,1,0,1,251⟩ w)):=Hh (vertext_any ⟨⟨#[75,69,82,73]⟩,1,0,1,251⟩ w ⟨by unfold wI;decide,by unfold wI;decide,by unfold wI;decide,by unfold wI;decide⟩ hT)
 unfold TxPostV at TX
 rw [awkV.1,awkV.2] at TX
 go_enter Tryz.func10,Tryz.ntmps10
 go_wp2_with (go_at_call 35;(with_reducible refine (TX.out).mono ?_);rintro e w1 ⟨rfl,hb⟩)
 go_ret
 exact ⟨rfl,hb⟩
end Go.Proofs.YtcklddldejejcaaGreatDoor