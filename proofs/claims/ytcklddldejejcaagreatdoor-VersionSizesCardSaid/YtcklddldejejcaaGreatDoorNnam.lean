/- Which texts may stand in a node; what is valid UTF-8 stays so under more valid text. No program. -/
import Derived.Test.YtcklddldejejcaaGreatDoorNshape
import Derived.Lib.ValidLaws
set_option linter.unusedVariables false
set_option linter.unusedSimpArgs false
set_option maxHeartbeats 1600000
set_option maxRecDepth 100000
namespace Go.Proofs.YtcklddldejejcaaGreatDoor
open Go.Lib
theorem checkN_more {n n' b1 b2 b3 c1 c2 c3 sz lo hi k:Nat} (h:checkN n b1 b2 b3 sz lo hi=some k) (hn:n≤n') (h1:1<k→c1=b1) (h2:2<k→c2=b2) (h3:3<k→c3=b3):checkN n' c1 c2 c3 sz lo hi=some k∧k≤n∧2≤k:=by
 unfold checkN at h ⊢
 split at h
 ·split at h
  ·cases h
  ·cases h
   rename_i e1 e2
   have:=h1 (by decide)
   rw [if_pos e1,if_neg (by omega)]
   exact ⟨rfl,by omega,by omega⟩
 ·split at h
  ·split at h
   ·cases h
   ·cases h
    rename_i e0 e1 e2
    have:=h1 (by decide)
    have:=h2 (by decide)
    rw [if_neg e0,if_pos e1,if_neg (by omega)]
    exact ⟨rfl,by omega,by omega⟩
  ·split at h
   ·split at h
    ·cases h
    ·cases h
     rename_i e0 e1 e2 e3
     have:=h1 (by decide)
     have:=h2 (by decide)
     have:=h3 (by decide)
     rw [if_neg e0,if_neg e1,if_pos e2,if_neg (by omega)]
     exact ⟨rfl,by omega,by omega⟩
   ·cases h
theorem validD_app:∀ (n:Nat) (l m:List UInt8),l.length≤n→validD l=true→validD (l++m)=validD m
 | n,[],m,_,_=>rfl
 | 0,b::t,m,hn,_=>by simp at hn
 | n+1,b::t,m,hn,h=>by
  by_cases hb:b.toNat<128
  ·rw [validD_cons b t hb] at h
   show validD (b::(t++m))=_
   rw [validD_cons b _ hb]
   exact validD_app n t m (by simpa using hn) h
  ·have e:=validD_lead (b::t) (by simp) (by show 128≤b.toNat;omega)
   rw [h] at e
   split at e
   ·cases e
   ·rename_i k hk
    have hg:∀i,i<(b::t).length→((b::t)++m).getD i 0=(b::t).getD i 0:=fun i hi=>by
     simp only [List.getD_eq_getElem?_getD];rw [List.getElem?_append_left hi]
    have hkn:k≤(b::t).length:=(checkN_more hk (Lr _) (fun _=>rfl) (fun _=>rfl) (fun _=>rfl)).2.1
    obtain ⟨q1,q2,q3⟩:=checkN_more (n':=((b::t)++m).length) hk (by simp) (c1:=(((b::t)++m).getD 1 0).toNat) (c2:=(((b::t)++m).getD 2 0).toNat) (c3:=(((b::t)++m).getD 3 0).toNat) (fun hk=>by rw [hg 1 (by omega)]) (fun hk=>by rw [hg 2 (by omega)]) (fun hk=>by rw [hg 3 (by omega)])
    have e2:=validD_lead ((b::t)++m) (by simp) (by show 128≤b.toNat;omega)
    rw [hg 0 (by simp)] at e2
    rw [q1] at e2
    rw [e2]
    show validD (((b::t)++m).drop k)=_
    rw [List.drop_append_of_le_length q2]
    exact validD_app n _ m (by rw [List.length_drop];omega) e.symm
theorem valid_app {s t:ByteArray} (hs:validD s.data.toList=true) (ht:validD t.data.toList=true):validD (s++t).data.toList=true:=by
 have e:(s++t).data.toList=s.data.toList++t.data.toList:=by simp
 rw [e,validD_app _ _ _ (Lr _) hs];exact ht
def textOk (s:ByteArray):Bool:=decide (s.size≤65536) && validD s.data.toList
end Go.Proofs.YtcklddldejejcaaGreatDoor
namespace Go.Proofs.YtcklddldejejcaaGreatDoor
def flatOk (x:ND):Bool:=
 decide (0≤x.kind) && decide (x.kind≤5) && (!x.bool || decide (x.kind=1)) && (decide (x.num=0) || decide (x.kind=2)) && (decide (x.text=⟨#[]⟩) || decide (x.kind=3)) &&
 (decide (x.items.length=0) || decide (4≤x.kind)) && (decide (x.names.length=0) || decide (x.kind=5)) && textOk x.text && decide (x.items.length≤256) && (decide (x.kind ≠ 5) || decide (x.names.length=x.items.length)) &&
 x.names.all textOk && decide x.names.Nodup
def validN:Nat→ND→Bool
 | 0,_=>false
 | d+1,x=>flatOk x && x.items.all (validN d)
theorem validN_succ (d:Nat) (x:ND):validN (d+1) x=(flatOk x && x.items.all (validN d)):=rfl
theorem validN_mono:∀ {d d':Nat} {x:ND},d≤d'→validN d x=true→validN d' x=true
 | 0,_,_,_,h=>by cases h
 | d+1,0,_,hd,_=>by omega
 | d+1,d'+1,x,hd,h=>by
  rw [validN_succ,Bool.and_eq_true,List.all_eq_true] at h ⊢
  exact ⟨h.1,fun y hy=>validN_mono (by omega) (h.2 y hy)⟩
structure MapOk (d:Nat) (x:ND):Prop where
 kind:x.kind=5
 bool:x.bool=false
 num:x.num=0
 text:x.text=⟨#[]⟩
 len:x.names.length=x.items.length
 most:x.items.length≤256
 texts:∀s,s ∈ x.names→textOk s=true
 nodup:x.names.Nodup
 items:∀y,y ∈ x.items→validN d y=true
theorem mapOk_iff {d:Nat} {x:ND} (hk:x.kind=5):validN (d+1) x=true↔MapOk d x:=by
 have ht:textOk ⟨#[]⟩=true:=by decide
 rw [validN_succ]
 unfold flatOk
 simp only [Bool.and_eq_true,List.all_eq_true,hk]
 constructor
 ·rintro ⟨⟨⟨⟨⟨⟨⟨⟨⟨⟨⟨⟨-,-⟩,h1⟩,h2⟩,h3⟩,-⟩,-⟩,-⟩,h4⟩,h5⟩,h6⟩,h7⟩,h8⟩
  refine ⟨hk,?_,?_,?_,?_,?_,h6,by simpa using h7,h8⟩
  ·simpa using h1
  ·simpa using h2
  ·simpa using h3
  ·simpa using h5
  ·simpa using h4
 ·intro h
  refine ⟨⟨⟨⟨⟨⟨⟨⟨⟨⟨⟨⟨by decide,by decide⟩,?_⟩,?_⟩,?_⟩,?_⟩,?_⟩,?_⟩,?_⟩,?_⟩,h.texts⟩,by simpa using h.nodup⟩,h.items⟩
  ·simp [h.bool]
  ·simp [h.num]
  ·simp [h.text]
  ·simp
  ·simp
  ·rw [h.text];exact ht
  ·simpa using h.most
  ·simp [h.len]
def wideI (z:Int):Bool:=decide (-9223372036854775808≤z) && decide (z≤9223372036854775807)
def numsB:Nat→ND→Bool
 | 0,_=>true
 | d+1,x=>wideI x.num && x.items.all (numsB d)
def validW (d:Nat) (x:ND):Bool:=validN d x && numsB d x
theorem validW_valid {d:Nat} {x:ND} (h:validW d x=true):validN d x=true:=by unfold validW at h;rw [Bool.and_eq_true] at h;exact h.1
theorem validW_nums {d:Nat} {x:ND} (h:validW d x=true):numsB d x=true:=by unfold validW at h;rw [Bool.and_eq_true] at h;exact h.2
theorem validW_mk {d:Nat} {x:ND} (h:validN (d+1) x=true) (hw:wideI x.num=true) (hi:∀y,y ∈ x.items→validW d y=true):validW (d+1) x=true:=by
 unfold validW numsB
 rw [h,hw,Bool.true_and,Bool.true_and,List.all_eq_true]
 exact fun y hy=>validW_nums (hi y hy)
theorem numsB_succ (d:Nat) (x:ND):numsB (d+1) x=(wideI x.num && x.items.all (numsB d)):=rfl
def costN:Nat→ND→Nat
 | 0,_=>0
 | d+1,x=>24+6 * x.text.size+(x.names.map fun s=>6 * s.size+8).sum+(x.items.map fun y=>costN d y+1).sum
theorem costN_succ (d:Nat) (x:ND):costN (d+1) x=24+6 * x.text.size+(x.names.map fun s=>6 * s.size+8).sum+(x.items.map fun y=>costN d y+1).sum:=rfl
def bndN:Nat→Nat
 | 0=>259
 | d+1=>1047+3 * bndN d
theorem bndN_succ (d:Nat):bndN (d+1)=1047+3 * bndN d:=rfl
theorem bndN_1:∀ {d:Nat},1≤d→1824≤bndN d
 | 1,_=>by decide
 | d+2,_=>by have:=bndN_1 (d:=d+1) (by omega);rw [bndN_succ];omega
theorem sum_le {α:Type} {f:α→Nat} {c:Nat}:∀ {l:List α},(∀y,y ∈ l→f y≤c)→(l.map f).sum≤c * l.length
 | [],_=>Lr _
 | a::t,h=>by
  have h1:=sum_le (f:=f) (c:=c) (l:=t) fun y hy=>h y (by simp [hy])
  have h2:=h a (by simp)
  rw [List.map_cons,List.sum_cons,List.length_cons,Nat.mul_add]
  omega
theorem costN_same:∀ {e d:Nat} {x:ND},e≤d→validN e x=true→costN d x=costN e x
 | 0,_,_,_,h=>by cases h
 | e+1,0,_,h,_=>by omega
 | e+1,d+1,x,hd,h=>by
  rw [validN_succ,Bool.and_eq_true,List.all_eq_true] at h
  rw [costN_succ,costN_succ,List.map_congr_left (g:=fun y=>costN e y+1) fun y hy=>by rw [costN_same (by omega) (h.2 y hy)]]
def validK (d:Nat) (x:ND):Bool:=validW d x && decide (costN d x≤bndN d)
theorem validK_w {d:Nat} {x:ND} (h:validK d x=true):validW d x=true:=by unfold validK at h;rw [Bool.and_eq_true] at h;exact h.1
theorem validK_valid {d:Nat} {x:ND} (h:validK d x=true):validN d x=true:=validW_valid (validK_w h)
theorem validK_cost {d:Nat} {x:ND} (h:validK d x=true):costN d x≤bndN d:=by unfold validK at h;rw [Bool.and_eq_true] at h;exact of_decide_eq_true h.2
theorem validK_mk {d:Nat} {x:ND} (h:validW d x=true) (hc:costN d x≤bndN d):validK d x=true:=by unfold validK;rw [h,decide_eq_true hc];rfl
def costs (d:Nat) (its:List ND):Nat:=(its.map fun y=>costN d y+1).sum
theorem costs_few {d:Nat} {its:List ND} (h:∀y,y ∈ its→validK d y=true) (hl:its.length≤3):costs d its≤3 * (bndN d+1):=by
 have:=sum_le (f:=fun y=>costN d y+1) (c:=bndN d+1) (l:=its) fun y hy=>Nat.succ_le_succ (validK_cost (h y hy))
 exact Nat.le_trans this (by rw [Nat.mul_comm];exact Nat.mul_le_mul_right _ hl)
theorem costs_push (d:Nat) (its:List ND) (y:ND):costs d (its++[y])=costs d its+(costN d y+1):=by unfold costs;rw [List.map_append,List.sum_append];rfl
end Go.Proofs.YtcklddldejejcaaGreatDoor
namespace Go.Proofs.YtcklddldejejcaaGreatDoor
open Go.ChangeShapes Go.WideShapes Go.ChangeAt Go.RowKit
theorem word_any (B g b cap:Nat) (n:Nat) (ns:List ByteArray) (w:World) (h1:1≤n) (hn:n<2 ^ 62) (hl:ns.length=n) (hc:∀j s,ns[j]?=some s→w.cell? ⟨b,j,none⟩=some (.string s)) (hb:b ≠ g) (hd:DiceAt B w g) :
 Calls Tryz.prog 21 #[.pointer (some ⟨g,0,none⟩),.slice (some ⟨b,0,none⟩) n cap] w fun e w'=>(∃s,s ∈ ns∧e=.returned (.string s))∧w.grownBy w' (some g)∧DiceAt B w' g:=by
 have N:=Hh (fun (wx:World) (hx:DiceAt B wx g)=>next_any B g n wx h1 hn hx)
 go_enter Tryz.func21,Tryz.ntmps21
 have CC:=Hh hc
 clear hc
 go_wp2_with (go_at_call 36;(with_reducible refine (N.out _ hd).mono ?_);rintro e w1 ⟨⟨k,hk,rfl⟩,hg1,hd1⟩;go_loud ((have hk1:k<ns.length:=by omega);(have hk2:(k:Int)<(n:Int):=by omega);(have hk3:(0:Int)≤(k:Int):=by omega);(have hm:ns[k] ∈ ns:=List.getElem_mem hk1);(have hcell:w1.cell? ⟨b,k,none⟩=some (.string ns[k]):=hg1.cell (CC.out k _ (List.getElem?_eq_getElem hk1)) (by intro e;have:=Option.some.inj e;dsimp only at this;omega));generalize ns[k]=s at hcell hm))
 go_ret
 exact ⟨⟨s,hm,rfl⟩,hg1,hd1⟩
theorem cells_lit {w:World} {b:Nat} {T:TypeId} {cs:Array Value} (vs:List Value) (h:w.heap[b]?=some (.cells cs T (0,0))) (e:cs=vs.toArray):∀j v,vs[j]?=some v→w.cell? ⟨b,j,none⟩=some v:=by
 intro j v hj
 subst e
 simp [World.cell?,h,hj]
theorem cells_lits {w:World} {b:Nat} {T:TypeId} {cs:Array Value} (ns:List ByteArray) (h:w.heap[b]?=some (.cells cs T (0,0))) (e:cs=(ns.map Value.string).toArray):∀j s,ns[j]?=some s→w.cell? ⟨b,j,none⟩=some (.string s):=
 fun j s hj=>cells_lit _ h e j _ (by rw [List.getElem?_map,hj];rfl)
def SomeText (e:Ending):Prop:=∃s:ByteArray,textOk s=true∧s.size≤300∧e=.returned (.string s)
def kTexts:List ByteArray:=[⟨#[]⟩,⟨#[97]⟩,⟨#[66,111,110,110]⟩,⟨#[97,32,34,113,117,111,116,101,100,34,32,92,32,116,101,120,116]⟩,⟨#[108,105,110,101,10,97,110,100,9,116,97,98,1,31,127]⟩,⟨#[195,164,226,130,172,240,159,152,128]⟩,⟨#[75,69,82,73,49,48,74,83,79,78,48,48,48,48,50,97,95]⟩]
theorem kTexts_ok:∀s,s ∈ kTexts→s.size≤20∧Lib.validD s.data.toList=true:=by decide +kernel
def kLens:List Int:=[23,24,31,32,255,256]
theorem kLens_ok:∀j,j<6→∃z:Int,kLens[j]?=some z∧z≤256:=by
 intro j hj
 obtain rfl | rfl | rfl | rfl | rfl | rfl:j=0∨j=1∨j=2∨j=3∨j=4∨j=5:=by omega
 all_goals exact ⟨_,rfl,by decide⟩
theorem ktext_any (B g:Nat) (w:World) (hd:DiceAt B w g) :
 Calls Tryz.prog 47 #[.pointer (some ⟨g,0,none⟩)] w fun e w'=>SomeText e∧w.grownBy w' (some g)∧DiceAt B w' g:=by
 have N10:=Hh (fun (wx:World) (hx:DiceAt B wx g)=>next_lit B g 10 10 rfl wx (by decide) (by decide) hx)
 have N6:=Hh (fun (wx:World) (hx:DiceAt B wx g)=>next_lit B g 6 6 rfl wx (by decide) (by decide) hx)
 have hgw:=hd.lt
 obtain ⟨b0,hb0⟩:∃b0,b0=Obj.cells (kTexts.map Value.string).toArray 9 (0,0):=⟨_,rfl⟩
 have WD:=Hh (word_any B g w.heap.size 7 7 kTexts (w.alloc (.cells (kTexts.map Value.string).toArray 9)) (by decide) (by decide) rfl (cells_lits kTexts (Hn _ _) rfl) (by omega) (hd.go ((Br w.heap.size w).alloc (Lr _) _)))
 have q0:=galloc w (.cells (kTexts.map Value.string).toArray 9) (some g)
 clear hd hb0
 go_enter Tryz.func47,Tryz.ntmps47
 go_upto_if 7 with (first
  | (go_at_call 21;refine (WD.out).mono ?_;rintro e w1 ⟨⟨s0,hs0,rfl⟩,hg1,hd1⟩)
  | (go_at_call 36;(with_reducible refine (N10.out _ hd1).mono ?_);rintro e w2 ⟨⟨k,hk,rfl⟩,hg2,hd2⟩))
 all_goals have hs:=kTexts_ok s0 hs0
 all_goals have q2:=gtrans (gtrans q0 hg1) hg2
 rotate_left
 ·go_ret
  exact ⟨⟨s0,by unfold textOk;rw [hs.2,decide_eq_true (show s0.size≤65536 by omega)];rfl,by omega,rfl⟩,q2,hd2⟩
 ·have HQ:=Hh q2
  have HD:=Hh hd2
  clear q2 hd2 hg1 hg2 hd1 q0 WD N10
  generalize Value.bool ((k:Int) == 1)=vb
  go_loopw [3] (fun v wr=>∃s:ByteArray,Lib.validD s.data.toList=true∧s.size≤256∧v=.string s∧w.grownBy wr (some g)∧DiceAt B wr g) (fun v _=>300 - strSize v)
  case atStart=>exact ⟨s0,hs.2,by omega,rfl,HQ.out,HD.out⟩
  case round=>
   clear HQ HD hs hs0
   obtain ⟨s,hv,hz,rfl,hq,hdi⟩:=hrel
   have hcat:¬9223372036854775807<s.size+1:=by omega
   have hb0:(wr.alloc (.cells #[.int .i64 23,.int .i64 24,.int .i64 31,.int .i64 32,.int .i64 255,.int .i64 256] 3)).heap[wr.heap.size]?=some (.cells #[.int .i64 23,.int .i64 24,.int .i64 31,.int .i64 32,.int .i64 255,.int .i64 256] 3 (0,0)):=Hn _ _
   have hgr:=hdi.lt
   have hdA:=hdi.go ((Br wr.heap.size wr).alloc (o:=.cells #[.int .i64 23,.int .i64 24,.int .i64 31,.int .i64 32,.int .i64 255,.int .i64 256] 3) (Lr _))
   have hqA:=gtrans hq (galloc wr (.cells #[.int .i64 23,.int .i64 24,.int .i64 31,.int .i64 32,.int .i64 255,.int .i64 256] 3) (some g))
   go_upto_if 17 with ((with_reducible refine (N6.out _ hdA).mono ?_);rintro e w3 ⟨⟨k3,hk3,rfl⟩,hg3,hd3⟩;go_loud ((have hb3:=keepG hg3 (by omega) hb0);(obtain ⟨z,hz1,hz2⟩:=kLens_ok k3 hk3);(have hi1:(k3:Int)<6:=by omega);(have hi2:(0:Int)≤(k3:Int):=by omega);(have hcell:w3.cell? ⟨wr.heap.size,k3,none⟩=some (.int .i64 z):=cells_lit (kLens.map fun z=>.int .i64 z) hb3 rfl k3 _ (by rw [List.getElem?_map,hz1];rfl))))
   have hq3:=gtrans hqA hg3
   by_cases hlt:(s.size:Int)<z
   ·go_wp2
    go_roundw
    case rel=>exact ⟨s++{ data:=#[120] },valid_app hv (by decide),by rw [ByteArray.size_append];show s.size+1≤_;omega,rfl,hq3,hd3⟩
    case measure=>
     show 300 - (s++{ data:=#[120] }).size<300 - s.size
     rw [ByteArray.size_append]
     show 300 - (s.size+1)<_
     omega
   ·go_wp2
    go_ret
    exact ⟨⟨s,by unfold textOk;rw [hv,decide_eq_true (show s.size≤65536 by omega)];rfl,by omega,rfl⟩,hq3,hd3⟩
end Go.Proofs.YtcklddldejejcaaGreatDoor
namespace Go.Proofs.YtcklddldejejcaaGreatDoor
open Go.RowKit
structure NSt (TN TS:TypeId) (d:Nat) (w wx:World) (g nb C:Nat) (k:Int) (vn vi:Value) (ns:List ByteArray) (A:List NC):Prop where
 res:wx.heap[w.heap.size]?=some (.cells #[.int .i64 0,.bool false,.int .i64 0,.string ⟨#[]⟩,.slice none 0 0,.slice none 0 0] TN (0,0))
 nod:wx.heap[nb]?=some (.cells #[.int .i64 k,.bool false,.int .i64 0,.string ⟨#[]⟩,vn,vi] TN (0,0))
 lo:g<w.heap.size∧w.heap.size<nb∧nb<C∧C≤wx.heap.size
 names:SRow TS C wx vn ns
 items:NRow TN d C vn.ownBlock wx vi A
 gro:w.grownBy wx (some g)
section
variable {TN TS:TypeId} {d:Nat} {w wx wn:World} {g nb C:Nat} {k:Int} {vn vi:Value} {ns:List ByteArray} {A:List NC}
theorem NSt.grown (h:NSt TN TS d w wx g nb C k vn vi ns A) (hg:wx.grownBy wn (some g)):NSt TN TS d w wn g nb C k vn vi ns A:=by
 obtain ⟨l1,l2,l3,l4⟩:=h.lo
 refine ⟨keepG hg (by omega) h.res,keepG hg (by omega) h.nod,⟨l1,l2,l3,Nat.le_trans l4 hg.size⟩,h.names.kept hg ?_,h.items.kept hg (fun r e=>by cases e;exact .inl (by omega)) (.inl rfl),gtrans h.gro hg⟩
 cases e:vn.ownBlock with
 | none=>exact .inl rfl
 | some b=>exact .inr (fun e'=>by cases e';have:=(h.names.1.lt _ e).1;omega)
theorem NSt.below (h:NSt TN TS d w wx g nb C k vn vi ns A) (hb:Below wx.heap.size wx wn):NSt TN TS d w wn g nb C k vn vi ns A:=h.grown (grown_of_below hb (Lr _) _)
theorem NSt.apart (h:NSt TN TS d w wx g nb C k vn vi ns A) {row:Option Nat} (hr:row=vn.ownBlock∨row=vi.ownBlock) (hg:wx.grownBy wn row) (j:Nat) (hj:j<C):wn.heap[j]?=wx.heap[j]?:=by
 obtain ⟨l1,l2,l3,l4⟩:=h.lo
 refine hg.block j (by omega) fun e=>?_
 rcases hr with rfl | rfl
 ·have:=(h.names.1.lt j e.symm).1;omega
 ·have:=(h.items.1.lt j e.symm).1;omega
theorem NSt.gro2 (h:NSt TN TS d w wx g nb C k vn vi ns A) {row:Option Nat} (hr:row=vn.ownBlock∨row=vi.ownBlock) (hg:wx.grownBy wn row):w.grownBy wn (some g):=by
 obtain ⟨l1,l2,l3,l4⟩:=h.lo
 exact ⟨hg.os.trans h.gro.os,hg.tape.trans h.gro.tape,hg.output.trans h.gro.output,Nat.le_trans h.gro.size hg.size,fun i hi hne=>(h.apart hr hg i (by omega)).trans (h.gro.block i hi hne)⟩
theorem NSt.name {vn':Value} {s:ByteArray} (h:NSt TN TS d w wx g nb C k vn vi ns A) (hown:wn.ownsRow C TS 1 vn' (ns.length+1) (ns.map Value.string++[.string s])) (hg:wx.grownBy wn vn.ownBlock) (hat:vn'.ownBlock=vn.ownBlock∨∀b,vn'.ownBlock=some b→wx.heap.size≤b) (hs:s.size≤maxLen - 2) :
 NSt TN TS d w (wn.setCell ⟨nb,4,none⟩ vn') g nb C k vn' vi (ns++[s]) A:=by
 obtain ⟨l1,l2,l3,l4⟩:=h.lo
 have hne:∀i,i ≠ nb→(wn.setCell ⟨nb,4,none⟩ vn').heap[i]?=wn.heap[i]?:=fun i hi=>heap_setCell_other wn ⟨nb,4,none⟩ i _ hi
 have hsz:(wn.setCell ⟨nb,4,none⟩ vn').heap.size=wn.heap.size:=by simp
 have hgs:=grown_set wn nb 4 vn'
 refine ⟨(hne _ (by omega)).trans ((h.apart (.inl rfl) hg _ (by omega)).trans h.res),six_set4 ((h.apart (.inl rfl) hg nb l3).trans h.nod) vn',⟨l1,l2,l3,by rw [hsz];exact Nat.le_trans l4 hg.size⟩,?_,?_,?_⟩
 ·exact (h.names.push hown hs).kept hgs (by
   cases e:vn'.ownBlock with
   | none=>exact .inl rfl
   | some b=>exact .inr (fun e'=>by cases e';have:=(hown.lt _ e).1;omega))
 ·have h1:NRow TN d C vn'.ownBlock wn vi A:=h.items.kept hg (fun r e=>.inr e) hat
  exact h1.kept hgs (fun r e=>by cases e;exact .inl l3) (.inl rfl)
 ·have h2:=h.gro2 (.inl rfl) hg
  exact ⟨h2.os,h2.tape,h2.output,by rw [hsz];exact h2.size,fun i hi hn=>(hne i (by omega)).trans (h2.block i hi hn)⟩
theorem NSt.item {vi':Value} {cs:List Value} {x:ND} (h:NSt TN TS d w wx g nb C k vn vi ns A) (hown:wn.ownsRow C TN 6 vi' (A.length+1) (nCells A++cs)) (hg:wx.grownBy wn vi.ownBlock) (hat:vi'.ownBlock=vi.ownBlock∨∀b,vi'.ownBlock=some b→wx.heap.size≤b)
 (hp:NodeIn d (fun b=>C≤b∧b<wx.heap.size∧vi.ownBlock ≠ some b∧vn.ownBlock ≠ some b) wx cs x) :
 NSt TN TS d w (wn.setCell ⟨nb,5,none⟩ vi') g nb C k vn vi' ns (A++[(cs,x)]):=by
 obtain ⟨l1,l2,l3,l4⟩:=h.lo
 have hne:∀i,i ≠ nb→(wn.setCell ⟨nb,5,none⟩ vi').heap[i]?=wn.heap[i]?:=fun i hi=>heap_setCell_other wn ⟨nb,5,none⟩ i _ hi
 have hsz:(wn.setCell ⟨nb,5,none⟩ vi').heap.size=wn.heap.size:=by simp
 have hgs:=grown_set wn nb 5 vi'
 refine ⟨(hne _ (by omega)).trans ((h.apart (.inr rfl) hg _ (by omega)).trans h.res),six_set5 ((h.apart (.inr rfl) hg nb l3).trans h.nod) vi',⟨l1,l2,l3,by rw [hsz];exact Nat.le_trans l4 hg.size⟩,?_,?_,?_⟩
 ·refine (h.names.kept hg ?_).kept hgs ?_
  ·cases e:vn.ownBlock with
   | none=>exact .inl rfl
   | some b=>exact .inr (fun e'=>h.items.2.1 b e e'.symm)
  ·cases e:vn.ownBlock with
   | none=>exact .inl rfl
   | some b=>exact .inr (fun e'=>by cases e';have:=(h.names.1.lt _ e).1;omega)
 ·exact (h.items.push hown hg hat (fun b e=>(h.names.1.lt b e).2) hp).kept hgs (fun r e=>by cases e;exact .inl l3) (.inl rfl)
 ·have h2:=h.gro2 (.inr rfl) hg
  exact ⟨h2.os,h2.tape,h2.output,by rw [hsz];exact h2.size,fun i hi hn=>(hne i (by omega)).trans (h2.block i hi hn)⟩
theorem NSt.dice {B:Nat} (h:NSt TN TS d w wx g nb C k vn vi ns A) {row:Option Nat} (hr:row=vn.ownBlock∨row=vi.ownBlock) (hd:DiceAt B wx g) (hg:wx.grownBy wn row) (o:Nat) (v:Value):DiceAt B (wn.setCell ⟨nb,o,none⟩ v) g:=by
 obtain ⟨l1,l2,l3,l4⟩:=h.lo
 exact DiceAt.setNew (hd.same fun j hj=>h.apart hr hg j (by omega)) (by omega) _ _
theorem NSt.begin (hres:wx.heap[w.heap.size]?=some (.cells #[.int .i64 0,.bool false,.int .i64 0,.string ⟨#[]⟩,.slice none 0 0,.slice none 0 0] TN (0,0))) (hnod:wx.heap[nb]?=some (.cells #[.int .i64 k,.bool false,.int .i64 0,.string ⟨#[]⟩,.slice none 0 0,.slice none 0 0] TN (0,0)))
 (l1:g<w.heap.size) (l2:w.heap.size<nb) (hg:w.grownBy wx (some g)):NSt TN TS d w wx g nb wx.heap.size k (.slice none 0 0) (.slice none 0 0) [] []:=
 ⟨hres,hnod,⟨l1,l2,lt_of_block hnod,Lr _⟩,SRow.nil _ _ _,NRow.nil _ _ _ _ _,hg⟩
theorem NSt.node (h:NSt TN TS d w wx g nb C k vn vi ns A):NodeIn (d+1) (fun b=>w.heap.size<b∧b<wx.heap.size) wx [.int .i64 k,.bool false,.int .i64 0,.string ⟨#[]⟩,vn,vi] (.mk k false 0 ⟨#[]⟩ ns (nodesOf A)):=by
 obtain ⟨l1,l2,l3,l4⟩:=h.lo
 exact ⟨vn,vi,rfl,(show (0:Nat)≤maxLen - 2 from Nat.zero_le _),h.names.strs.mono fun b hb=>⟨by omega,hb.2⟩,h.items.nodes.mono (fun b hb=>⟨by omega,hb.2⟩) fun cs x q=>q.mono fun b hb=>⟨by omega,hb.2⟩⟩
end
theorem NodeIn.one {d:Nat} {S:Nat→Prop} {w:World} {cs:List Value} {x:ND} (h:NodeIn d S w cs x):∀u ∈ cs,u.oneCell'=true:=by
 cases d with
 | zero=>exact h.elim
 | succ d=>
  obtain ⟨va,vb,rfl,_,⟨a1,c1,rfl,_⟩,⟨a2,c2,rfl,_⟩⟩:=h
  intro u hu
  simp only [List.mem_cons,List.not_mem_nil,or_false] at hu
  rcases hu with rfl | rfl | rfl | rfl | rfl | rfl <;> rfl
theorem NSt.fresh {TN TS:TypeId} {d:Nat} {w wx w6 w7:World} {g nb C:Nat} {k:Int} {vn vi:Value} {ns:List ByteArray} {A:List NC} {cs:List Value} {x:ND}
 (h:NSt TN TS d w wx g nb C k vn vi ns A) (hx:NodeIn d (fun b=>wx.heap.size≤b∧b<w6.heap.size) w6 cs x) (hg:Below w6.heap.size w6 w7) :
 NodeIn d (fun b=>C≤b∧b<w7.heap.size∧vi.ownBlock ≠ some b∧vn.ownBlock ≠ some b) w7 cs x:=by
 obtain ⟨l1,l2,l3,l4⟩:=h.lo
 refine (hx.same (w':=w7) fun b hb=>hg.block b hb.2).mono fun b hb=>⟨by omega,Ll hb.2 hg.size,fun e=>?_,fun e=>?_⟩
 ·have:=(h.items.1.lt b e).2;omega
 ·have:=(h.names.1.lt b e).2;omega
theorem own_at {v:Value} {gg m cc H:Nat} (h:v.ownBlock=some gg∨gg=H):(Value.slice (some ⟨gg,0,none⟩) m cc).ownBlock=v.ownBlock∨∀b,(Value.slice (some ⟨gg,0,none⟩) m cc).ownBlock=some b→H≤b:=by
 rcases h with h | h
 ·exact .inl h.symm
 ·exact .inr fun b hb=>by
   have:gg=b:=by simpa [Value.ownBlock] using hb
   omega
theorem own_lt {w:World} {C e size n:Nat} {v:Value} {xs:List Value} (h:w.ownsRow C e size v n xs) {b:Nat} (hb:w.heap.size≤b):v.ownBlock ≠ some b:=fun e'=>by have:=(h.lt b e').2;omega
def SomeNode (d:Nat) (w:World) (e:Ending) (w':World):Prop:=
 ∃cs x,e=.returned (.agg cs.toArray)∧NodeIn d (fun b=>w.heap.size≤b∧b<w'.heap.size) w' cs x∧validK d x=true
theorem NSt.viForm {TN TS:TypeId} {d:Nat} {w wx:World} {g nb C:Nat} {k:Int} {vn vi:Value} {ns:List ByteArray} {A:List NC} (h:NSt TN TS d w wx g nb C k vn vi ns A):∃ai ci,vi=.slice ai A.length ci:=by
 obtain ⟨a,c,e,_⟩:=h.items.nodes
 exact ⟨a,c,by rw [e,nodesOf,List.length_map]⟩
theorem NSt.vnForm {TN TS:TypeId} {d:Nat} {w wx:World} {g nb C:Nat} {k:Int} {vn vi:Value} {ns:List ByteArray} {A:List NC} (h:NSt TN TS d w wx g nb C k vn vi ns A):∃an cn,vn=.slice an ns.length cn:=by
 obtain ⟨a,c,e,_⟩:=h.names.strs
 exact ⟨a,c,e⟩
def lenAt (w:World) (b o:Nat):Nat:=match w.cell? ⟨b,o,none⟩ with
 | some (.slice _ l _)=>l
 | _=>0
theorem NSt.len {TN TS:TypeId} {d:Nat} {w wx:World} {g nb C:Nat} {k:Int} {vn vi:Value} {ns:List ByteArray} {A:List NC} (h:NSt TN TS d w wx g nb C k vn vi ns A):lenAt wx nb 5=A.length:=by
 obtain ⟨ai,ci,rfl⟩:=h.viForm
 unfold lenAt
 rw [(six_of h.nod).2.2.2.2.2]
theorem NSt.done {TN TS:TypeId} {d:Nat} {w wx:World} {g nb C:Nat} {k:Int} {vn vi:Value} {ns:List ByteArray} {A:List NC} (h:NSt TN TS d w wx g nb C k vn vi ns A) :
 NodeIn (d+1) (fun b=>w.heap.size≤b∧b<(set6 wx w.heap.size (.int .i64 k) (.bool false) (.int .i64 0) (.string ⟨#[]⟩) vn vi).heap.size) (set6 wx w.heap.size (.int .i64 k) (.bool false) (.int .i64 0) (.string ⟨#[]⟩) vn vi) [.int .i64 k,.bool false,.int .i64 0,.string ⟨#[]⟩,vn,vi] (.mk k false 0 ⟨#[]⟩ ns (nodesOf A))
 ∧ w.grownBy (set6 wx w.heap.size (.int .i64 k) (.bool false) (.int .i64 0) (.string ⟨#[]⟩) vn vi) (some g)∧∀B,DiceAt B wx g→DiceAt B (set6 wx w.heap.size (.int .i64 k) (.bool false) (.int .i64 0) (.string ⟨#[]⟩) vn vi) g:=by
 obtain ⟨l1,l2,l3,l4⟩:=h.lo
 have hgs:=grown_set6 wx w.heap.size (.int .i64 k) (.bool false) (.int .i64 0) (.string ⟨#[]⟩) vn vi
 refine ⟨?_,?_,fun B hd=>?_⟩
 ·exact (h.node.same fun b hb=>hgs.block b hb.2 (by intro e;have:=Option.some.inj e;omega)).mono fun b hb=>⟨by omega,Ll hb.2 hgs.size⟩
 ·have:=h.gro
  exact ⟨hgs.os.trans this.os,hgs.tape.trans this.tape,hgs.output.trans this.output,Nat.le_trans this.size hgs.size,fun i hi hn=>(hgs.block i (Ll hi this.size) (by intro e;have:=Option.some.inj e;omega)).trans (this.block i hi hn)⟩
 ·exact hd.same fun q hq=>hgs.block q (by omega) (by intro e;have:=Option.some.inj e;omega)
theorem leaf_done {n B g:Nat} {w wx:World} (hn:1≤n) (hg:g<w.heap.size) (hgr:w.grownBy wx (some g)) (hd:DiceAt B wx g) (k:Int) (b:Bool) (z:Int) (t:ByteArray) (ht:t.size≤maxLen - 2) (hv:validK n (.mk k b z t [] [])=true) :
 SomeNode n w (.returned (.agg #[.int .i64 k,.bool b,.int .i64 z,.string t,.slice none 0 0,.slice none 0 0])) (set6 wx w.heap.size (.int .i64 k) (.bool b) (.int .i64 z) (.string t) (.slice none 0 0) (.slice none 0 0))
 ∧ w.grownBy (set6 wx w.heap.size (.int .i64 k) (.bool b) (.int .i64 z) (.string t) (.slice none 0 0) (.slice none 0 0)) (some g)∧DiceAt B (set6 wx w.heap.size (.int .i64 k) (.bool b) (.int .i64 z) (.string t) (.slice none 0 0) (.slice none 0 0)) g:=by
 have hgs:=grown_set6 wx w.heap.size (.int .i64 k) (.bool b) (.int .i64 z) (.string t) (.slice none 0 0) (.slice none 0 0)
 refine ⟨⟨[.int .i64 k,.bool b,.int .i64 z,.string t,.slice none 0 0,.slice none 0 0],_,rfl,(node_leaf _ _ k b z t ht).deeper hn,hv⟩,?_,?_⟩
 ·exact ⟨hgs.os.trans hgr.os,hgs.tape.trans hgr.tape,hgs.output.trans hgr.output,Nat.le_trans hgr.size hgs.size,fun i hi hn=>(hgs.block i (Ll hi hgr.size) (by intro e;have:=Option.some.inj e;omega)).trans (hgr.block i hi hn)⟩
 ·exact hd.same fun q hq=>hgs.block q (by have:=hd.lt;omega) (by intro e;have:=Option.some.inj e;omega)
def SomeMapK (d:Nat) (w:World) (e:Ending) (w':World):Prop:=
 ∃cs x,e=.returned (.agg cs.toArray)∧NodeIn d (fun b=>w.heap.size≤b∧b<w'.heap.size) w' cs x∧MapOk (d - 1) x∧x.items.length≤3∧(∀y,y ∈ x.items→validK (d - 1) y=true)∧costN d x≤bndN d
def mNames:List ByteArray:=[⟨#[97]⟩,⟨#[98]⟩,⟨#[118]⟩,⟨#[100]⟩]
def SomeMapN (d:Nat) (w:World) (e:Ending) (w':World):Prop:=
 ∃cs x,e=.returned (.agg cs.toArray)∧NodeIn d (fun b=>w.heap.size≤b∧b<w'.heap.size) w' cs x∧MapOk (d - 1) x∧x.items.length≤3∧(∀y,y ∈ x.items→validK (d - 1) y=true)∧costN d x≤bndN d∧∀s,s ∈ x.names→s ∈ mNames
theorem SomeMapN.k {d:Nat} {w w':World} {e:Ending} (h:SomeMapN d w e w'):SomeMapK d w e w':=by
 obtain ⟨cs,x,h1,h2,h3,h4,h5,h6,-⟩:=h
 exact ⟨cs,x,h1,h2,h3,h4,h5,h6⟩
end Go.Proofs.YtcklddldejejcaaGreatDoor
namespace Go.Proofs.YtcklddldejejcaaGreatDoor
def nmW:List ByteArray:=[⟨#[97]⟩,⟨#[98]⟩,⟨#[118]⟩,⟨#[100]⟩,⟨#[]⟩]
theorem nmW_ok:∀s,s ∈ nmW→s.size≤1∧Lib.validD s.data.toList=true:=by decide +kernel
def twoD (i:Nat):List UInt8:=[UInt8.ofNat (48+i % 10),UInt8.ofNat (48+i / 10)]
def NameOf (i:Nat) (s:ByteArray):Prop:=∃u ∈ nmW,s=u++⟨(twoD i).toArray⟩
theorem twoD_ok:∀i,i<100→Lib.validD (twoD i)=true:=by
 have:∀i:Fin 100,Lib.validD (twoD i.1)=true:=by decide +kernel
 exact fun i hi=>this ⟨i,hi⟩
theorem twoD_ne {i j:Nat} (hi:i<100) (hj:j<100) (h:twoD i=twoD j):i=j:=by
 simp only [twoD,List.cons.injEq,and_true] at h
 obtain ⟨h1,h2⟩:=h
 have e1:=congrArg UInt8.toNat h1
 have e2:=congrArg UInt8.toNat h2
 simp only [UInt8.toNat_ofNat'] at e1 e2
 omega
theorem name_ok {i:Nat} {s:ByteArray} (hi:i<100) (h:NameOf i s):textOk s=true∧s.size≤3:=by
 obtain ⟨u,hu,rfl⟩:=h
 obtain ⟨h1,h2⟩:=nmW_ok u hu
 have hs:(u++(⟨(twoD i).toArray⟩:ByteArray)).size≤3:=by
  rw [ByteArray.size_append]
  show u.size+2≤3
  omega
 refine ⟨?_,hs⟩
 unfold textOk
 rw [valid_app h2 (twoD_ok i hi),decide_eq_true (show (u++(⟨(twoD i).toArray⟩:ByteArray)).size≤65536 by omega)]
 rfl
theorem name_ne {i j:Nat} {s:ByteArray} (hi:i<100) (hj:j<100) (h:NameOf i s) (k:NameOf j s):i=j:=by
 obtain ⟨u,hu,rfl⟩:=h
 obtain ⟨v,hv,e⟩:=k
 have e':=congrArg (fun x:ByteArray=>x.data.toList) e
 simp only [ByteArray.toList_data_append] at e'
 exact twoD_ne hi hj (List.append_inj_right' e' rfl)
def NamesOf (ns:List ByteArray):Prop:=∀i s,ns[i]?=some s→NameOf i s
theorem NamesOf.push {ns:List ByteArray} {s:ByteArray} (h:NamesOf ns) (hs:NameOf ns.length s):NamesOf (ns++[s]):=by
 intro i t ht
 rcases Nat.lt_or_ge i ns.length with hi | hi
 ·rw [List.getElem?_append_left hi] at ht;exact h i t ht
 ·rw [List.getElem?_append_right hi] at ht
  have:i - ns.length=0:=by
   rcases Nat.eq_zero_or_pos (i - ns.length) with h0 | h0
   ·exact h0
   ·rw [List.getElem?_eq_none (by simp;omega)] at ht;cases ht
  rw [this] at ht
  obtain rfl:s=t:=by simpa using ht
  obtain rfl:i=ns.length:=by omega
  exact hs
theorem NamesOf.nodup {ns:List ByteArray} (h:NamesOf ns) (hl:ns.length≤100):ns.Nodup:=by
 rw [List.nodup_iff_pairwise_ne,List.pairwise_iff_getElem]
 intro i j hi hj hij e
 have:=name_ne (by omega) (by omega) (h i _ (List.getElem?_eq_getElem hi)) (h j _ (by rw [List.getElem?_eq_getElem hj,e]))
 omega
theorem NamesOf.texts {ns:List ByteArray} (h:NamesOf ns) (hl:ns.length≤100):∀s,s ∈ ns→textOk s=true:=by
 intro s hs
 obtain ⟨i,hi,rfl⟩:=List.getElem_of_mem hs
 exact (name_ok (by omega) (h i _ (List.getElem?_eq_getElem hi))).1
theorem built_valid0 {n:Nat} {k:Int} {ns:List ByteArray} {its:List ND} (hn:1≤n) (hk:k=4∧ns=[]∨k=5∧ns.length=its.length∧NamesOf ns) (hl:its.length≤50) (hv:∀y,y ∈ its→validN (n - 1) y=true):validN n (.mk k false 0 ⟨#[]⟩ ns its)=true:=by
 obtain ⟨m,rfl⟩:∃m,n=m+1:=⟨n - 1,by omega⟩
 rw [Nat.add_sub_cancel] at hv
 have ht:textOk ⟨#[]⟩=true:=by decide
 rcases hk with ⟨rfl,rfl⟩ | ⟨rfl,h1,h2⟩
 ·rw [validN_succ,Bool.and_eq_true,List.all_eq_true]
  refine ⟨?_,hv⟩
  unfold flatOk
  simp [ND.kind,ND.bool,ND.num,ND.text,ND.items,ND.names,ht]
  exact decide_eq_true (by omega)
 ·rw [mapOk_iff rfl]
  exact ⟨rfl,rfl,rfl,rfl,h1,by show its.length≤256;omega,h2.texts (by omega),h2.nodup (by omega),hv⟩
theorem leaf_valid {n:Nat} (hn:1≤n) (k:Int) (b:Bool) (z:Int) (t:ByteArray) (h:flatOk (.mk k b z t [] [])=true) (hw:wideI z=true) (ht:t.size≤300):validK n (.mk k b z t [] [])=true:=by
 obtain ⟨m,rfl⟩:∃m,n=m+1:=⟨n - 1,by omega⟩
 refine validK_mk (validW_mk ?_ hw (fun y hy=>by cases hy)) ?_
 ·rw [validN_succ,h]
  rfl
 ·have:=bndN_1 hn
  rw [costN_succ]
  show 24+6 * t.size+0+0≤_
  omega
theorem built_valid {n:Nat} {k:Int} {ns:List ByteArray} {its:List ND} (hn:1≤n) (hk:k=4∧ns=[]∨k=5∧ns.length=its.length∧NamesOf ns) (hl:its.length≤20) (hv:∀y,y ∈ its→validK (n - 1) y=true) (hc:costs (n - 1) its≤3 * (bndN (n - 1)+1)+25 * its.length):validK n (.mk k false 0 ⟨#[]⟩ ns its)=true:=by
 have h:=built_valid0 hn hk (by omega) (fun y hy=>validK_valid (hv y hy))
 obtain ⟨m,rfl⟩:∃m,n=m+1:=⟨n - 1,by omega⟩
 refine validK_mk (validW_mk h (show wideI 0=true by decide) fun y hy=>validK_w (hv y hy)) ?_
 rw [Nat.add_sub_cancel] at hc
 have hns:(ns.map fun s=>6 * s.size+8).sum≤520:=by
  rcases hk with ⟨-,rfl⟩ | ⟨-,h1,h2⟩
  ·exact Nat.zero_le _
  ·refine Nat.le_trans (sum_le (c:=26) fun s hs=>?_) (by omega)
   obtain ⟨i,hi,rfl⟩:=List.getElem_of_mem hs
   have:=(name_ok (by omega) (h2 i _ (List.getElem?_eq_getElem hi))).2
   omega
 unfold costs at hc
 rw [costN_succ,bndN_succ]
 show 24+6 * 0+(ns.map fun s=>6 * s.size+8).sum+(its.map fun y=>costN m y+1).sum≤_
 omega
theorem wideI_of {z:Int} (h0:-9223372036854775808≤z) (h1:z≤9223372036854775807):wideI z=true:=by
 unfold wideI;rw [decide_eq_true h0,decide_eq_true h1];rfl
end Go.Proofs.YtcklddldejejcaaGreatDoor