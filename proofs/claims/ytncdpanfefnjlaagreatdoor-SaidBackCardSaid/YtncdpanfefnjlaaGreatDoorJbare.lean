import Derived.Test.YtncdpanfefnjlaaGreatDoorJr5
set_option linter.unusedVariables false
set_option linter.unusedSimpArgs false
set_option maxHeartbeats 3200000
set_option maxRecDepth 100000
namespace Go.Proofs.YtncdpanfefnjlaaGreatDoor
open Go.Proofs.Tryz
open Go Go.ChangeShapes Go.WideShapes Go.ChangeAt Go.RowKit
theorem dW {p r:Ub} (h:Lib.hasPrefix r p=true):r=p++r.drop p.length:=by
 unfold Lib.hasPrefix at h;obtain ⟨t,rfl⟩:=List.isPrefixOf_iff_prefix.1 h;simp
theorem iM {p r:Ub} (h:Lib.hasPrefix r p=true):Lib.trimPrefix r p=r.drop p.length:=by unfold Lib.trimPrefix;rw [Am h]
theorem fF {p r:Ub} (h:Lib.hasPrefix r p=false):Lib.trimPrefix r p=r:=by unfold Lib.trimPrefix;rw [Af (by rw [h];decide)]
theorem aGk {r:Ub} (h:Lib.hasPrefix r [117,48,48]=true) {x:UInt8} {t:Ub} (he:pP r=some (x,t)):QB ((r.drop 3).take 2)=some x.toNat∧(r.drop 3).drop 2=t:=by
 have hr:=dW h;obtain ⟨q,hq⟩:∃q,q=r.drop 3:=⟨_,rfl⟩
 change r=[117,48,48]++r.drop 3 at hr
 rw [←hq] at hr ⊢;rw [hr] at he
 match q,he with
 | [],he=>
  have:pP [117,48,48]=none:=rfl;rw [show ([117,48,48]:Ub)++[]=[117,48,48] from rfl,this] at he
  cases he
 | [a],he=>
  have:pP [117,48,48,a]=none:=rfl;rw [show ([117,48,48]:Ub)++[a]=[117,48,48,a] from rfl,this] at he
  cases he
 | a::b::t',he=>
  have e:pP ([117,48,48]++a::b::t')=match kT a,kT b with
   | some x,some y=>some (16 * x+y,t')
   | _,_=>none:=rfl
  rw [e] at he;cases hx:kT a with
  | none=>rw [hx] at he;cases he
  | some x'=>
   cases hy:kT b with
   | none=>rw [hx,hy] at he;cases he
   | some y'=>
    rw [hx,hy] at he;cases he;refine ⟨?_,rfl⟩
    show (match kT a,kT b with | some x,some y=>some (16 * x.toNat+y.toNat) | _,_=>none)=_
    rw [hx,hy];have h1:=(oS hx).2.2;have h2:=(oS hy).2.2
    show some (16 * x'.toNat+y'.toNat)=some (16 * x'+y').toNat
    rw [UInt8.toNat_add,UInt8.toNat_mul]
    show some (16 * x'.toNat+y'.toNat)=some ((16 * x'.toNat % 256+y'.toNat) % 256)
    congr 1
    omega
theorem LR {r:Ub} (h:Lib.hasPrefix r [117,48,48]=false) {x:UInt8} {t:Ub} (he:pP r=some (x,t)):nO (r.take 1)=some x∧r.drop 1=t:=by
 unfold pP at he
 split at he
 ·exact absurd h (by simp [Lib.hasPrefix])
 ·rename_i c r' _
  cases hc:uO c with
  | none=>rw [hc] at he;cases he
  | some d=>
   rw [hc] at he;cases he;exact ⟨hc,rfl⟩
 ·cases he
def GZ (g mw mc:Nat) (r:Ub) (w:World) (e:Ending) (w':World):Prop:=∃ (c:Nat) (ok:Bool) (r':Ub),e=.returned (.tuple #[.int .u8 (c:Int),.bool ok])∧c<256∧PrS w' g mw mc r'∧w.grownBy w' (some g)∧r'.length≤r.length∧∀x t,pP r=some (x,t)→ok=true∧c=x.toNat∧r'=t
theorem LQ {g mw mc:Nat} {r:Ub} (w:World) (h:PrS w g mw mc r) (hr:r.length≤1000000):Calls prog 192 #[.pointer (some ⟨g,0,none⟩)] w (GZ g mw mc r w):=by
 have S:=dK ⟨#[117,48,48]⟩ w h;rw [show (⟨#[117,48,48]⟩:Bt).data.toList=[117,48,48] from rfl] at S
 cases hp:Lib.hasPrefix r [117,48,48] with
 | true=>
  rw [hp,iM hp] at S;have SS:Hid (Calls prog _ _ w (eT g mw mc w (.bool true) (r.drop 3))):=S;have HX:=Hh (fun x t he=>aGk (x:=x) (t:=t) hp he)
  have hl3:(r.drop 3).length≤r.length:=by rw [Cb];omega
  clear S hp h;obtain ⟨q,hq⟩:∃q,q=r.drop 3:=⟨_,rfl⟩;rw [←hq] at SS HX hl3;clear hq
  go_enter func192,ntmps192
  go_upto_region 2 with ((with_reducible refine (SS.o).mono ?_);rintro e w1 ⟨rfl,hp1,hg1⟩)
  have T:Hid (Calls prog 205 #[.pointer (some ⟨g,0,none⟩),Iz 2] w1 (eT g mw mc w1 (.string (bA (q.take 2))) (q.drop 2))):=tQ 2 w1 hp1 (by decide) (by omega)
  have G1:=Hh hg1;clear hg1 hp1 SS
  go_wp2_with (first
   | (go_at_call 205;(with_reducible refine (T.o).mono ?_);rintro e w2 ⟨rfl,hp2,hg2⟩;(have PU:=Hh (aAe (bA (q.take 2)) w2 (by rw [jF,Ba];omega) hp2.2.2.2.2.1)))
   | (go_at_call 206;(with_reducible refine (PU.o).mono ?_);rintro e w3 ⟨v,ev,rfl,hv,hev,hh,hb⟩;go_loud ((have wv:IntKind.u8.wrap (v:Int)=(v:Int):=by rw [Dd];omega);(have HH:=Hh hh);clear hh)))
  have HP:=Hh (Ai hp2 (aH G1.o hg2));clear hp2 hg2 G1 T PU;have hfin:∀ (n:Nat) (ok:Bool),(ev=.nilIface→ok=true)→GZ g mw mc r w (.returned (.tuple #[.int .u8 (v:Int),.bool ok])) (w3.drewN n):=by
   intro n ok hok;have hb:=wG hb n;refine ⟨v,ok,q.drop 2,rfl,hv,HP.o.1.below hb,aH HP.o.2 (aK hb (Lr _) _),by rw [Cb];omega,fun x t he=>?_⟩
   obtain ⟨e1,e2⟩:=HX.o x t he;have:=HH.o x.toNat (by rw [nI];exact e1)
   exact ⟨hok this.2,this.1,e2⟩
  have HF:=Hh hfin;clear hfin;rcases hev with rfl | ⟨te,pe,rfl⟩
  ·go_wp2
   go_quiet (fail)
   go_wp2
   go_ret2
   exact HF.o _ _ (fun _=>rfl)
  ·go_wp2
   go_quiet (fail)
   go_wp2
   go_ret2
   exact HF.o _ _ (fun h=>by cases h)
 | false=>
  rw [hp,fF hp] at S;have SS:Hid (Calls prog _ _ w (eT g mw mc w (.bool false) r)):=S;have HX:=Hh (fun x t he=>LR (x:=x) (t:=t) hp he)
  clear S hp h
  go_enter func192,ntmps192
  go_upto_region 4 with ((with_reducible refine (SS.o).mono ?_);rintro e w1 ⟨rfl,hp1,hg1⟩)
  have hpd:PrS w1.drew g mw mc r:=hp1.below ((Br _ _).drew);have hgd:w.grownBy w1.drew (some g):=aH hg1 (aK (Br _ _).drew (Lr _) _);have cc:w1.drew.cell? ⟨g,2,none⟩=some (.map (some mc)):=aL hpd.1 rfl;clear hp1 hg1 SS;refine aJ (fun w'=>w'.cell? ⟨g,2,none⟩=some (.map (some mc))) [3] (.take 0 (.take 1 (.take 2 (.take 3 (.take 4 (.take 5 (.take 6 (.ask 7 true (.ask 8 false (.take 9 (.take 10 (.take 11 (.take 12 (.take 13 .stop))))) .stop) .stop)))))))) (by kernel_rfl) (by kernel_rfl) (fun _ d _ _ _ h=>by cases d <;> exact h) cc ?_
  generalize w1.drew=wd at hpd hgd cc ⊢
  iterate 3 (refine aG _ ?_ rfl rfl ?_ (fun K hK=>?_);rotate_left;(intro w0;go_simp;(try rfl));(go_simp;refine hK _ ?_;clear hK K))
  refine aN _ ?_ rfl rfl (by decide) ?_ (fun K hK=>?_);rotate_left;(intro w0 hw0;go_simp;(try rfl));(go_simp;refine hK _ ?_;clear hK K)
  iterate 3 (refine aG _ ?_ rfl rfl ?_ (fun K hK=>?_);rotate_left;(intro w0;go_simp;(try rfl));(go_simp;refine hK _ ?_;clear hK K))
  have T:Hid (Calls prog 205 #[.pointer (some ⟨g,0,none⟩),Iz 1] wd (eT g mw mc wd (.string (bA (r.take 1))) (r.drop 1))):=tQ 1 wd hpd (by decide) (by omega)
  refine aI _ rfl trivial ?_
  go_wp2_with (go_at_call 205;(with_reducible refine (T.o).mono ?_);rintro e w2 ⟨rfl,hp2,hg2⟩)
  refine Seg.mk ⟨aL hp2.1 rfl,?_⟩;obtain ⟨c,hc256,hlook,hcx⟩:=hp2.2.2.1.look (s:=bA (r.take 1)) (by rw [jF,Ba];unfold maxLen;omega)
  rw [nI] at hlook hcx;generalize hok:(nO (r.take 1)).isSome=ok at hlook;refine aF _ rfl trivial ?_
  go_wp2_with fail
  refine Seg.mk ?_
  iterate 5 (refine aG _ ?_ rfl rfl ?_ (fun K hK=>?_);rotate_left;(intro w0;go_simp;(try rfl));(go_simp;refine hK _ ?_;clear hK K))
  have hpost:GZ g mw mc r w (.returned (.tuple #[.int .u8 (c:Int),.bool ok])) w2:=by
   refine ⟨c,ok,r.drop 1,rfl,hc256,hp2,aH hgd hg2,by rw [Cb];omega,fun x t he=>?_⟩
   obtain ⟨e1,e2⟩:=HX.o x t he;exact ⟨by rw [←hok,e1];rfl,hcx x e1,e2⟩
  have HPO:=Hh hpost;clear hpost hp2 hg2 hgd hcx hok hpd;unfold cN
  go_wp2_with fail
  go_ret2
  exact HPO.o
def iP:Ub:=[34,92]
theorem DO (ends:Ub):∀r:Ub,fO ends r=[]∨∃c q,fO ends r=c::q∧ends.contains c=true
 | []=>.inl rfl
 | b::l=>by
  unfold fO
  rw [List.dropWhile_cons];cases hb:ends.contains b with
  | true=>exact .inr ⟨b,l,by simp,hb⟩
  | false=>
   have:=DO ends l;unfold fO at this
   simpa using this
theorem sB:∀ (r x t:Ub),cT r=some (x,t)→∃x',x=jZ iP r++x'∧cT (fO iP r)=some (x',t)
 | [],x,t,h=>by rw [iF] at h;cases h
 | c::q,x,t,h=>by
  by_cases hc:iP.contains c=true
  ·have e1:jZ iP (c::q)=[]:=by unfold jZ;rw [List.takeWhile_cons,hc];rfl
   have e2:fO iP (c::q)=c::q:=by unfold fO;rw [List.dropWhile_cons,hc];rfl
   exact ⟨x,by rw [e1];rfl,by rw [e2];exact h⟩
  ·have hcf:iP.contains c=false:=by simpa using hc
   have e1:jZ iP (c::q)=c::jZ iP q:=by unfold jZ;rw [List.takeWhile_cons,hcf];rfl
   have e2:fO iP (c::q)=fO iP q:=by unfold fO;rw [List.dropWhile_cons,hcf];rfl
   have n1:c ≠ 34:=fun e=>by subst e;exact hc rfl
   have n2:c ≠ 92:=fun e=>by subst e;exact hc rfl
   rw [iF,lK,Af n1,Af n2] at h
   replace h:(cT q).map (fun x=>(c::x.1,x.2))=some (x,t):=h
   cases hq:cT q with
   | none=>rw [hq] at h;cases h
   | some y=>
    rw [hq] at h;obtain ⟨y1,y2⟩:=y;cases h;obtain ⟨x',h1,h2⟩:=sB q y1 _ hq;exact ⟨x',by rw [e1,h1];rfl,by rw [e2];exact h2⟩
theorem OM (q x t:Ub) (h:cT (34::q)=some (x,t)):x=[]∧t=q:=by
 rw [iF,lK,Am rfl] at h;cases h;exact ⟨rfl,rfl⟩
theorem yO (q x t:Ub) (h:cT (92::q)=some (x,t)):∃c q' x',pP q=some (c,q')∧x=c::x'∧cT q'=some (x',t):=by
 rw [iF,lK,Af (by decide),Am rfl] at h
 cases he:pP q with
 | none=>rw [he] at h;cases h
 | some y=>
  obtain ⟨c,q'⟩:=y;rw [he] at h
  replace h:(cT q').map (fun x=>(c::x.1,x.2))=some (x,t):=h
  cases hq:cT q' with
  | none=>rw [hq] at h;cases h
  | some z=>
   obtain ⟨z1,z2⟩:=z;rw [hq] at h;cases h;exact ⟨c,q',z1,rfl,rfl,hq⟩
theorem JC (ends r:Ub):(jZ ends r).length+(fO ends r).length=r.length:=by rw [←Lg,UP]
theorem sP (c:UInt8) (q:Ub) (p:UInt8):Lib.hasPrefix (c::q) [p]=(p == c):=by unfold Lib.hasPrefix;rw [List.isPrefixOf_cons_cons,List.isPrefixOf_nil_left,Bool.and_true]
theorem ZO (c:UInt8) (q:Ub):Lib.trimPrefix (c::q) [c]=q:=by rw [iM (by rw [sP];simp)];rfl
def wU (w:World) (g:Nat):Nat:=match w.cell? ⟨g,0,none⟩ with
 | some (.string s)=>s.size
 | _=>0
theorem PrS.rest {w:World} {g mw mc:Nat} {r:Ub} (h:PrS w g mw mc r):wU w g=r.length:=by
 unfold wU;rw [aL h.1 rfl];exact jF r
theorem PrS.row {w w':World} {g mw mc:Nat} {r:Ub} {row:Option Nat} (h:PrS w g mw mc r) (hg:w.grownBy w' row) (hb:∀b,row=some b→g<b):PrS w' g mw mc r:=by
 cases row with
 | some b=>exact h.kept hg (hb b rfl)
 | none=>
  obtain ⟨h1,h2,h3,⟨h4,h5⟩,h6,h7,h8⟩:=h;have hw:∀i,i<w.heap.size→w'.heap[i]?=w.heap[i]?:=fun i hi=>hg.block i hi (by intro e;cases e)
  refine ⟨(hw g (Aa h1)).trans h1,h2.same (hw _ h2.lt),h3.same (hw _ h3.lt),⟨h4,h5⟩,?_,h7,h8⟩;obtain ⟨⟨t,p,e1⟩,⟨t',p',e2⟩⟩:=h6;have l1:6<w.heap.size:=cD e1;have l2:7<w.heap.size:=cD e2;refine ⟨⟨t,p,?_⟩,⟨t',p',?_⟩⟩
  ·rw [iR (hw _ l1)];exact e1
  ·rw [iR (hw _ l2)];exact e2
def aHd (g mw mc:Nat) (r:Ub) (w:World) (e:Ending) (w':World):Prop:=∃ (s:Ub) (ok:Bool) (r':Ub),e=.returned (.tuple #[.string (bA s),.bool ok])∧PrS w' g mw mc r'∧w.grownBy w' (some g)∧s.length+r'.length≤r.length∧∀x t,cT r=some (x,t)→ok=true∧s=x∧r'=t
theorem vP {g mw mc:Nat} {r:Ub} (w:World) (h:PrS w g mw mc r) (hr:r.length≤100000):Calls prog 165 #[.pointer (some ⟨g,0,none⟩)] w (aHd g mw mc r w):=by
 obtain ⟨ib,hib,hb0,hb1,hb2⟩:=info_parts qE;have hub:=underlying69;have hust:=underlying9;have HIB:=Hh hib;have hlt:=h.lt;have HST:=Hh h;clear h hib
 go_enter func165,ntmps165
 go_upto_region 2 with fail
 go_loopw [4] (fun v wr=>∃ (l rr:Ub),PrS wr g mw mc rr∧wr.ownsRow w.heap.size 5 1 v l.length (aS l)∧w.grownBy wr (some g)∧l.length+rr.length≤r.length∧w.heap.size≤wr.heap.size∧∀x t,cT r=some (x,t)→∃x',x=l++x'∧cT rr=some (x',t)) (fun _ wr=>wU wr g)
 case atStart=>exact ⟨[],r,HST.o,Dr _ _ _ _,World.grownBy.refl _ _,by simp,Lr _,fun x t hx=>⟨x,rfl,hx⟩⟩
 case round=>
  clear HST;obtain ⟨l,rr,hst,hown,hg,hlen,hsz,hq⟩:=hrel;have hrl:=hst.rest;obtain ⟨ao,cap,rfl,-,-⟩:=dI hown;have U:Hid (Calls prog 191 #[.pointer (some ⟨g,0,none⟩),.string ⟨#[34,92]⟩] wr (eT g mw mc wr (.string (bA (jZ iP rr))) (fO iP rr))):=BZ ⟨#[34,92]⟩ wr hst (by decide) (by decide) (by omega) (by
   intro j b hj;have hj:([34,92]:Ub)[j]?=some b:=hj
   match j,hj with
   | 0,hj=>cases hj;decide
   | 1,hj=>cases hj;decide
   | j+2,hj=>simp at hj)
  have hul:=JC iP rr;have hq2:∀x t,cT r=some (x,t)→∃x',x=(l++jZ iP rr)++x'∧cT (fO iP rr)=some (x',t):=fun x t hx=>by
   obtain ⟨x',h1,h2⟩:=hq x t hx;obtain ⟨x'',h3,h4⟩:=sB rr x' t h2;exact ⟨x'',by rw [h1,h3,Aj],h4⟩
  have hfh:=DO iP rr;generalize jZ iP rr=u at U hul hq2;generalize fO iP rr=f at U hul hq2 hfh
  have hus:(bA u).size=u.length:=jF u;have HUS:=Hh hus;have HO:=Hh hown;have HG:=Hh hg;have HQ:=Hh hq2;have HFH:=Hh hfh;clear hown hg hq hq2 hfh hus
  go_upto_region 3 with (first
   | (go_at_call 191;(with_reducible refine (U.o).mono ?_);rintro e w1 ⟨rfl,hp1,hg1⟩;(have HO1:=Hh (iG HO.o hg1 hlt));(have hs1:=hg1.size))
   | (at_builtin;refine Lib.wpList_append_own_string _ rfl (.tmp 7) (.tmp 11) 69 9 rfl w.heap.size 5 ib hub hust HIB.o hb0 hb1 hb2 _ l.length _ rfl HO1.o (bA u) rfl (by unfold maxLen;rw [HUS.o];omega) (by rw [HUS.o];omega) (by omega) ?_;intro v' w8 hown8 hgr8 hnil8;obtain ⟨ao8,cap8,rfl,-,-⟩:=dI hown8;clear hnil8))
  have hp8:PrS w8 g mw mc f:=hp1.row hgr8 (fun b e=>by have:=(HO1.o.lt b e).1;omega)
  have hg8:w.grownBy w8 (some g):=DN (aH HG.o hg1) HO1.o hgr8 (Lr _);have hsz8:w.heap.size≤w8.heap.size:=hg8.size;obtain ⟨l2,hl2⟩:∃l2,l2=l++u:=⟨_,rfl⟩;have hl2n:l2.length=l.length+(bA u).size:=by rw [hl2,HUS.o,Lg]
  have hown2:w8.ownsRow w.heap.size 5 1 (.slice ao8 (l.length+(bA u).size) cap8) l2.length (aS l2):=by
   rw [hl2n,hl2,cP];have e:aS u=Lib.strCells (bA u):=by show _=aS (bA u).data.toList;rw [nI]
   rw [e];exact hown8
  rw [←hl2n] at hown2;rw [←hl2n];have hq3:=HQ.o;rw [←hl2] at hq3;have hlen2:l2.length+f.length≤r.length:=by rw [hl2,Lg];omega
  have hlf:f.length≤rr.length:=by omega
  have HQ3:=Hh hq3;have HRL:=Hh hrl;clear hown8 hgr8 hl2 hl2n hq3 HQ HG HO HO1 hg1 hp1 hrl hul hlen;rcases HFH.o with rfl | ⟨c,q,rfl,hc⟩
  ·have S1:Hid (Calls prog 163 #[.pointer (some ⟨g,0,none⟩),.string ⟨#[34]⟩] w8 (eT g mw mc w8 (.bool false) [])):=dK ⟨#[34]⟩ w8 hp8
   have S2:Hid (∀wx:World,PrS wx g mw mc []→Calls prog 163 #[.pointer (some ⟨g,0,none⟩),.string ⟨#[92]⟩] wx (eT g mw mc wx (.bool false) [])):=Hh fun wx hx=>dK ⟨#[92]⟩ wx hx
   clear hp8
   go_wp2_with (first
    | (go_at_call 163;(with_reducible refine (S1.o).mono ?_);rintro e w9 ⟨rfl,hp9,hg9⟩)
    | (go_at_call 163;(with_reducible refine (S2.o _ hp9).mono ?_);rintro e wa ⟨rfl,hpa,hga⟩))
   go_ret2
   exact ⟨[],false,[],rfl,hpa,aH hg8 (aH hg9 hga),by simp,fun x t hx=>by
    obtain ⟨x',-,h⟩:=HQ3.o x t hx;rw [iF] at h;cases h⟩
  ·by_cases h34:c=34
   ·subst h34
    have S1:Hid (Calls prog 163 #[.pointer (some ⟨g,0,none⟩),.string ⟨#[34]⟩] w8 (eT g mw mc w8 (.bool true) q)):=by
     have:=dK ⟨#[34]⟩ w8 hp8;rw [show (⟨#[34]⟩:Bt).data.toList=[34] from rfl,sP,ZO] at this
     exact this
    have HOW:=Hh hown2;clear hp8 hown2
    go_upto_region 4 with ((with_reducible refine (S1.o).mono ?_);rintro e w9 ⟨rfl,hp9,hg9⟩)
    have hcv:=eX (P:=prog) w9 69 9 5 w.heap.size l2.length _ l2 (iG HOW.o hg9 hlt) underlying69 underlying5 underlying9
    go_wp2
    go_ret2
    exact ⟨l2,true,q,rfl,hp9,aH hg8 hg9,by simp at hlen2;omega,fun x t hx=>by
     obtain ⟨x',h1,h2⟩:=HQ3.o x t hx;obtain ⟨rfl,rfl⟩:=OM q x' t h2;exact ⟨rfl,by rw [h1,Bu],rfl⟩⟩
   ·have h92:c=92:=by
     have:c ∈ iP:=by simpa using hc
     simp only [iP,Bz,Ck,or_false] at this;exact this.resolve_left h34
    subst h92;have S1:Hid (Calls prog 163 #[.pointer (some ⟨g,0,none⟩),.string ⟨#[34]⟩] w8 (eT g mw mc w8 (.bool false) (92::q))):=dK ⟨#[34]⟩ w8 hp8;have S2:Hid (∀wx:World,PrS wx g mw mc (92::q)→Calls prog 163 #[.pointer (some ⟨g,0,none⟩),.string ⟨#[92]⟩] wx (eT g mw mc wx (.bool true) q)):=Hh fun wx hx=>by
     have:=dK ⟨#[92]⟩ wx hx;rw [show (⟨#[92]⟩:Bt).data.toList=[92] from rfl,sP,ZO] at this
     exact this
    have hlq:q.length+1≤rr.length:=by simpa using hlf
    have hlen3:l2.length+(q.length+1)≤r.length:=by simpa using hlen2
    have E:=Hh (fun (wx:World) (hx:PrS wx g mw mc q)=>LQ wx hx (by omega))
    have HOW:=Hh hown2;clear hp8 hown2 hlf hlen2
    go_upto_region 8 with (first
     | (go_at_call 163;(with_reducible refine (S1.o).mono ?_);rintro e w9 ⟨rfl,hp9,hg9⟩)
     | (go_at_call 163;(with_reducible refine (S2.o _ hp9).mono ?_);rintro e wa ⟨rfl,hpa,hga⟩)
     | (go_at_call 192;(with_reducible refine (E.o _ hpa).mono ?_);rintro e wb ⟨cn,ok,q',rfl,hcn,hpb,hgb,hlb,hesc⟩))
    have HE:=Hh hesc;clear hesc S1 S2 E;cases ok with
    | false=>
     go_wp2
     go_ret2
     exact ⟨[],false,q',rfl,hpb,aH hg8 (aH hg9 (aH hga hgb)),by simp;omega,fun x t hx=>by
      obtain ⟨x',-,h2⟩:=HQ3.o x t hx;obtain ⟨c0,q0,x'',e1,-,-⟩:=yO q x' t h2;have:=(HE.o c0 q0 e1).1;cases this⟩
    | true=>
     obtain ⟨cb,rfl⟩:∃cb:UInt8,cb.toNat=cn:=⟨UInt8.ofNat cn,by rw [Be];omega⟩
     have hownB:=iG (iG (iG HOW.o hg9 hlt) hga hlt) hgb hlt;have hgB:=aH hg8 (aH hg9 (aH hga hgb));have hszB:w.heap.size≤wb.heap.size:=hgB.size;have K2A:=Hh (hownB.alloc (.cells #[.int .u8 (cb.toNat:Int)] 5));have hpC:=hpb.below ((Br wb.heap.size wb).alloc (o:=.cells #[.int .u8 (cb.toNat:Int)] 5) (Lr _));have hgC:=aH hgB (dP wb (.cells #[.int .u8 (cb.toNat:Int)] 5) (some g));have hza:w.heap.size≤(wb.alloc (.cells #[.int .u8 (cb.toNat:Int)] 5)).heap.size:=hgC.size;have CN:=Hh (gC wb #[.int .u8 (cb.toNat:Int)] 5 [.int .u8 (cb.toNat:Int)] rfl);have HPC:=Hh (Ai hpC hgC);clear hpC hgC hgB hownB hpb hg8 hg9 hga hgb hp9 hpa HOW
     go_wp2_with (refine Bk _ rfl (.tmp 31) (.tmp 33) 69 rfl w.heap.size 5 ib (.int .u8 0) 1 1 hub HIB.o hb0 hb1 hb2 rfl (by decide) _ l2.length _ rfl K2A.o ⟨wb.heap.size,0,none⟩ 1 1 [.int .u8 (cb.toNat:Int)] rfl rfl CN.o (by intro z hz;simp only [Bz,Ck,or_false] at hz;rcases hz with rfl;rfl) (by decide) (by unfold maxLen;omega) (by omega) hza _ rfl ?_;intro gg cc8 wd hownD hgrD hatD hltD)
     have hpD:PrS wd g mw mc q':=HPC.o.1.row hgrD (fun b e=>by have:=(K2A.o.lt b e).1;omega)
     have hgD:w.grownBy wd (some g):=DN HPC.o.2 K2A.o hgrD (Lr _)
     go_roundw
     case rel=>
      refine ⟨l2++[cb],q',hpD,?_,hgD,by rw [Lg];show l2.length+1+q'.length≤r.length;omega,hgD.size,fun x t hx=>?_⟩
      ·rw [Lg,cP];exact hownD
      ·obtain ⟨x',h1,h2⟩:=HQ3.o x t hx
       obtain ⟨c0,q0,x'',e1,e2,e3⟩:=yO q x' t h2;obtain ⟨-,e4,e5⟩:=HE.o c0 q0 e1;have e6:=UInt8.toNat_inj.1 e4;subst e6 e5;exact ⟨x'',by rw [h1,e2];simp,e3⟩
     case measure=>rw [hpD.rest,HRL.o];omega
end Go.Proofs.YtncdpanfefnjlaaGreatDoor
namespace Go.Proofs.YtncdpanfefnjlaaGreatDoor
open Go.Proofs.Tryz
open Go.Lib
def gN:Ub:=[44,93,125]
def uM (t:Ub):Prop:=∀c,t.head?=some c→gN.contains c=true
theorem nX {l t:Ub} (hl:∀c,c ∈ l→gN.contains c=false) (ht:uM t):jZ gN (l++t)=l∧fO gN (l++t)=t:=by
 have h:jZ gN t=[]∧fO gN t=t:=by
  cases t with
  | nil=>exact ⟨rfl,rfl⟩
  | cons c r=>
   have:=ht c rfl;unfold jZ fO
   rw [List.takeWhile_cons,List.dropWhile_cons,this];exact ⟨rfl,rfl⟩
 unfold jZ fO at h ⊢
 rw [List.takeWhile_append_of_pos (fun c hc=>by rw [hl c hc];rfl),List.dropWhile_append_of_pos (fun c hc=>by rw [hl c hc];rfl),h.1,h.2,Bu]
 exact ⟨rfl,rfl⟩
theorem yY:∀ (ds:Ub) (acc k:Nat),(∀c,c ∈ ds→eI c=true)→acc<10 ^ k→k+ds.length≤19→parseUint10 acc ds=.ok (ds.foldl (fun a c=>a * 10+(c.toNat - 48)) acc)
 | [],acc,k,_,_,_=>rfl
 | c::ds,acc,k,hd,ha,hk=>by
  have hc:=oM (hd c (by simp))
  simp only [Ag] at hk;have h18:acc<10 ^ 18:=Ll ha (Cf (by decide) (by omega))
  have hn:acc * 10+(c.toNat - 48)<10 ^ (k+1):=by rw [Dt];omega
  rw [parseUint10,Am hc,Af (by omega),Af (by omega)]
  rw [yY ds _ (k+1) (fun x hx=>hd x (by simp [hx])) hn (by omega)]
  rfl
theorem VK {ds:Ub} (hd:∀c,c ∈ ds→eI c=true) (h0:ds ≠ []) (hl:ds.length≤19):parseMag ds=.ok (jR ds):=by
 unfold parseMag jR;rw [Af h0,yY ds 0 0 hd (by decide) (by omega)]
theorem LX {c:UInt8} (h:eI c=true):gN.contains c=false:=by
 have:=oM h;have h1:c ≠ 44:=fun e=>by subst e;revert this;decide
 have h2:c ≠ 93:=fun e=>by subst e;revert this;decide
 have h3:c ≠ 125:=fun e=>by subst e;revert this;decide
 simp [gN,h1,h2,h3]
theorem RT {c:UInt8} {l:Ub} (h:c=45∨eI c=true):iT (c::l)=none:=by
 have h1:c ≠ 116∧c ≠ 102∧c ≠ 110:=by
  rcases h with rfl | h
  ·decide
  ·have:=oM h
   refine ⟨?_,?_,?_⟩ <;> (intro e;subst e;revert this;decide)
 unfold iT;rw [Af (by intro e;cases e;exact h1.1 rfl),Af (by intro e;cases e;exact h1.2.1 rfl),Af (by intro e;cases e;exact h1.2.2 rfl)]
def uY (r:Ub) (y:ND) (t:Ub):Prop:=fO gN r=t∧(iT (jZ gN r)=some y∨(iT (jZ gN r)=none∧∃u:Int,atoiAll (jZ gN r)=.ok u∧y=.mk 2 false u ⟨#[]⟩ [] []))
theorem pU:∀ (l:Ub),∀c,c ∈ l.takeWhile eI→eI c=true
 | [],c,h=>by simp at h
 | b::l,c,h=>by
  rw [List.takeWhile_cons] at h;cases hb:eI b with
  | true=>
   rw [hb] at h;rcases Bz.1 h with rfl | h
   ·exact hb
   ·exact pU l c h
  | false=>rw [hb] at h;simp at h
theorem DT {neg:Bool} {q t:Ub} {y:ND} (h:zZ neg q=some (y,t)) (ht:uM t):uY (if neg then 45::q else q) y t:=by
 unfold zZ at h
 split at h
 ·cases h
 ·rename_i h1
  split at h
  ·cases h
  ·rename_i h2
   cases h;obtain ⟨ds,hds⟩:∃ds,ds=q.takeWhile eI:=⟨_,rfl⟩;obtain ⟨tt,htt⟩:∃tt,tt=q.dropWhile eI:=⟨_,rfl⟩;have hq:q=ds++tt:=by rw [hds,htt,List.takeWhile_append_dropWhile]
   rw [←hds] at h1 h2 ⊢;rw [←htt] at ht ⊢;have hall:∀c,c ∈ ds→eI c=true:=by rw [hds];exact pU q
   have h0:ds ≠ []:=fun e=>h1 (.inl (by rw [e];rfl))
   have hl:ds.length≤19:=by omega
   have hpm:=VK hall h0 hl;obtain ⟨c,ds',hcd⟩:∃c ds',ds=c::ds':=by
    cases ds with
    | nil=>exact absurd rfl h0
    | cons c ds'=>exact ⟨c,ds',rfl⟩
   have hcdig:=hall c (by rw [hcd];simp)
   cases neg with
   | true=>
    have e:(if true=true then 45::q else q)=(45::ds)++tt:=by rw [Am rfl,hq];rfl
    rw [e];obtain ⟨u1,u2⟩:=nX (l:=45::ds) (t:=tt) (fun c hc=>by
     rcases Bz.1 hc with rfl | hc
     ·rfl
     ·exact LX (hall c hc)) ht
    refine ⟨u2,.inr ⟨by rw [u1];exact RT (.inl rfl),-(jR ds:Int),?_,by rw [Am rfl]⟩⟩
    rw [u1,atoiAll_minus,hpm];unfold signed;simp only;rw [Af (by omega)]
   | false=>
    have e:(if false=true then 45::q else q)=ds++tt:=by rw [Af (by decide),hq]
    rw [e];obtain ⟨u1,u2⟩:=nX (l:=ds) (t:=tt) (fun c hc=>LX (hall c hc)) ht
    have hcn:=oM hcdig;refine ⟨u2,.inr ⟨by rw [u1,hcd];exact RT (.inr hcdig),(jR ds:Int),?_,by rw [Af (by decide)]⟩⟩
    rw [u1,hcd,atoiAll_plain c ds' (by omega) (by omega),←hcd,hpm]
    unfold signless;simp only;have h3:¬9223372036854775807<jR ds:=fun h=>h2 (.inl ⟨rfl,h⟩)
    rw [Af (by omega)]
theorem aDo {d:Nat} {c:UInt8} {r:Ub} {y:ND} {t:Ub} (h:bR (d+1) (c::r)=some (y,t)) (h1:c ≠ 34) (h2:c ≠ 91) (h3:c ≠ 123) (ht:uM t):uY (c::r) y t:=by
 rw [vH,Af h1,Af h2,Af h3] at h
 split at h
 ·rename_i hp
  have hr:=dW (r:=c::r) (p:=vR) hp;cases h;obtain ⟨u1,u2⟩:=nX (l:=vR) (t:=(c::r).drop 4) (by decide) ht
  rw [show (c::r).drop vR.length=(c::r).drop 4 from rfl] at hr
  rw [←hr] at u1 u2;exact ⟨u2,.inl (by rw [u1];rfl)⟩
 ·split at h
  ·rename_i hp
   have hr:=dW (r:=c::r) (p:=rT) hp;cases h;obtain ⟨u1,u2⟩:=nX (l:=rT) (t:=(c::r).drop 4) (by decide) ht
   rw [show (c::r).drop rT.length=(c::r).drop 4 from rfl] at hr
   rw [←hr] at u1 u2;exact ⟨u2,.inl (by rw [u1];rfl)⟩
  ·split at h
   ·rename_i hp
    have hr:=dW (r:=c::r) (p:=mD) hp;cases h;obtain ⟨u1,u2⟩:=nX (l:=mD) (t:=(c::r).drop 5) (by decide) ht
    rw [show (c::r).drop mD.length=(c::r).drop 5 from rfl] at hr
    rw [←hr] at u1 u2;exact ⟨u2,.inl (by rw [u1];rfl)⟩
   ·unfold pH at h
    split at h
    ·rename_i hc
     have hc:c=45:=by simpa using hc
     subst hc;exact DT (neg:=true) h ht
    ·exact DT (neg:=false) h ht
end Go.Proofs.YtncdpanfefnjlaaGreatDoor
namespace Go.Proofs.YtncdpanfefnjlaaGreatDoor
open Go.Proofs.Tryz
open Go Go.ChangeShapes Go.WideShapes Go.ChangeAt Go.RowKit
theorem UF {l:Ub} {x:ND} (h:iT l=some x):x=.mk x.kind x.bool 0 ⟨#[]⟩ [] []:=by
 unfold iT at h
 split at h
 ·cases h;rfl
 ·split at h
  ·cases h;rfl
  ·split at h
   ·cases h;rfl
   ·cases h
def wK (V:ND→Ub→Prop) (d:Nat) (g mw mc:Nat) (r:Ub) (w:World) (e:Ending) (w':World):Prop:=∃ (cs:Vl) (x:ND) (ok:Bool) (r':Ub),e=.returned (.tuple #[.agg cs.toArray,.bool ok])∧aC (d+1) (fun b=>w.heap.size≤b∧b<w'.heap.size) w' cs x∧PrS w' g mw mc r'∧w.grownBy w' (some g)∧r'.length≤r.length∧(jN (d+1) x∧aO (d+1) x=true)∧∀y t,V y t→ok=true∧x=y∧r'=t
theorem iZ {V:ND→Ub→Prop} {d g mw mc:Nat} {r r':Ub} {w wx:World} {T:TypeId} (k:Int) (b:Bool) (z:Int) (t:Bt) (ok:Bool) (hp:PrS wx g mw mc r') (hg:w.grownBy wx (some g)) (hgw:g<w.heap.size) (hl:r'.length≤r.length) (ht:t.size≤maxLen - 2) (hz:dD z=true)
 (hV:∀y t',V y t'→ok=true∧(.mk k b z t [] [])=y∧r'=t') :
 wK V d g mw mc r w (.returned (.tuple #[.agg #[Iz k,.bool b,Iz z,.string t,Sn,Sn],.bool ok])) (dE wx w.heap.size (Iz k) (.bool b) (Iz z) (.string t) (Sn) (Sn)):=by
 have hgs:=aM wx w.heap.size (Iz k) (.bool b) (Iz z) (.string t) (Sn) (Sn);exact ⟨[Iz k,.bool b,Iz z,.string t,Sn,Sn],_,ok,r',rfl,(cC _ _ k b z t ht).deeper (by omega),hp.kept hgs hgw,gB hg hgs (Lr _),hl,⟨⟨by simp [ND.items],fun y hy=>by simp [ND.items] at hy⟩,by unfold aO;show (dD z && _)=true;rw [hz];rfl⟩,hV⟩
theorem aDp {g mw mc:Nat} {r:Ub} (w:World) (h:PrS w g mw mc r) (hr:r.length≤100000):Calls prog 166 #[.pointer (some ⟨g,0,none⟩)] w (wK (fun y t=>uY r y t) 0 g mw mc r w):=by
 have hlt:=h.lt;have bA':=(Br w.heap.size w).alloc (o:=.cells Z6 28) (Lr _);have h0:=h.below bA';have hr0:=Hn w (.cells Z6 28);have hg0:=dP w (.cells Z6 28) (some g);have U:Hid (∀wx:World,PrS wx g mw mc r→Calls prog 191 #[.pointer (some ⟨g,0,none⟩),.string ⟨#[44,93,125]⟩] wx (eT g mw mc wx (.string (bA (jZ gN r))) (fO gN r))):=Hh fun wx hx=>BZ ⟨#[44,93,125]⟩ wx hx (by decide) (by decide) (by omega) (by
  intro j b hj;have hj:([44,93,125]:Ub)[j]?=some b:=hj
  match j,hj with
  | 0,hj=>cases hj;decide
  | 1,hj=>cases hj;decide
  | 2,hj=>cases hj;decide
  | j+3,hj=>simp at hj)
 have hul:=JC gN r;have hbi:∀y t,uY r y t→fO gN r=t∧(iT (jZ gN r)=some y∨(iT (jZ gN r)=none∧∃u:Int,Lib.atoiAll (jZ gN r)=.ok u∧y=.mk 2 false u ⟨#[]⟩ [] [])):=fun y t h=>h
 generalize uY r=BI at hbi ⊢;generalize jZ gN r=u at U hul hbi;generalize fO gN r=f at U hul hbi
 have HBI:=Hh hbi;clear h bA' hbi
 go_enter func166,ntmps166
 go_upto_region 1 with fail
 generalize w.alloc (.cells Z6 28)=w0 at h0 hr0 hg0 ⊢
 go_upto_region 2 with ((with_reducible refine (U.o _ h0).mono ?_);rintro e w1 ⟨rfl,hp1,hg1⟩)
 have hr1:=cM hg1 (by omega) hr0
 have hg01:=aH hg0 hg1;have hlook:=hp1.2.1.look (s:=bA u) (by rw [jF];unfold maxLen;omega)
 rw [nI] at hlook;have cm:w1.cell? ⟨g,1,none⟩=some (.map (some mw)):=aL hp1.1 rfl;have HP1:=Hh (Ai hp1 hg01);have HR1:=Hh hr1;have hfl:f.length≤r.length:=by omega
 have hul2:u.length≤r.length:=by omega
 clear h0 hr0 hg0 hg1 hp1 hg01 hr1 U hul;cases hw:iT u with
 | some x=>
  rw [hw] at hlook;have hx:=UF hw;have hV:∀y t',BI y t'→true=true∧(.mk x.kind x.bool 0 ⟨#[]⟩ [] [])=y∧f=t':=fun y t' hb=>by
   obtain ⟨e1,e2⟩:=HBI.o y t' hb;rw [hw] at e2;rcases e2 with e2 | ⟨e2,-⟩
   ·cases e2;exact ⟨rfl,hx.symm,e1⟩
   ·cases e2
  have HV:=Hh hV;clear hV hx hw HBI;simp only [Option.getD_some,Option.isSome_some,fL] at hlook;generalize x.kind=k at HV hlook;generalize x.bool=b at HV hlook;have bN:=(Br w1.heap.size w1).alloc (o:=.cells #[Iz k,.bool b,Iz 0,.string ⟨#[]⟩,Sn,Sn] 28) (Lr _);have hpN:=HP1.o.1.below bN;have hgN:=aH HP1.o.2 (dP w1 (.cells #[Iz k,.bool b,Iz 0,.string ⟨#[]⟩,Sn,Sn] 28) (some g));have hrN:(w1.alloc (.cells #[Iz k,.bool b,Iz 0,.string ⟨#[]⟩,Sn,Sn] 28)).heap[w.heap.size]?=_:=(bN.block _ (Aa HR1.o)).trans HR1.o;have hnN:=Hn w1 (.cells #[Iz k,.bool b,Iz 0,.string ⟨#[]⟩,Sn,Sn] 28);obtain ⟨W2,hW2⟩:∃W,W=w1.alloc (.cells #[Iz k,.bool b,Iz 0,.string ⟨#[]⟩,Sn,Sn] 28):=⟨_,rfl⟩;have hne:¬w.heap.size=w1.heap.size:=by have:=Aa HR1.o;omega
  rw [←hW2] at hpN hgN hrN hnN;clear bN
  go_upto_region 3 with fail
  rw [←hW2];clear hW2 hlook cm;have f1:=aD hrN;have c1:=aA hrN;have c2:=aA hnN;have HRN:=Hh hrN;have HPN:=Hh (Ai hpN hgN);clear hrN hnN hpN hgN
  go_wp2
  refine aP (v:=.bool true) HRN.o results166 rfl rfl rfl ?_;exact iZ (T:=0) k b 0 ⟨#[]⟩ true HPN.o.1 HPN.o.2 hlt hfl (by decide) (by decide) (fun y t' h=>⟨rfl,(HV.o y t' h).2⟩)
 | none=>
  rw [hw] at hlook;simp only [Option.getD_none,Option.isSome_none,fL,nd0,ND.kind,ND.bool] at hlook;have hV:∀ (v:Int) (ok:Bool) (hh:∀n,Lib.atoiAll u=.ok n→v=n∧ok=true),∀y t',BI y t'→ok=true∧(.mk 2 false v ⟨#[]⟩ [] [])=y∧f=t':=fun v ok hh y t' hb=>by
   obtain ⟨e1,e2⟩:=HBI.o y t' hb;rw [hw] at e2;rcases e2 with e2 | ⟨-,n,e2,rfl⟩
   ·cases e2
   ·obtain ⟨rfl,h2⟩:=hh n e2;exact ⟨h2,rfl,e1⟩
  have HV:=Hh hV;clear hV hw HBI;have bN:=(Br w1.heap.size w1).alloc (o:=.cells Z6 28) (Lr _);have hpN:=HP1.o.1.below bN;have hgN:=aH HP1.o.2 (dP w1 (.cells Z6 28) (some g));have hrN:(w1.alloc (.cells Z6 28)).heap[w.heap.size]?=_:=(bN.block _ (Aa HR1.o)).trans HR1.o;obtain ⟨W2,hW2⟩:∃W,W=w1.alloc (.cells Z6 28):=⟨_,rfl⟩;rw [←hW2] at hpN hgN hrN;clear bN;have A:=Hh (aDt (bA u) W2 (by rw [jF];omega) hpN.2.2.2.2.1)
  go_upto_region 3 with fail
  rw [←hW2];clear hW2 hlook cm;have HRN:=Hh hrN;have HPN:=Hh (Ai hpN hgN);clear hrN hpN hgN
  go_upto_region 6 with ((with_reducible refine (A.o).mono ?_);rintro e w3 ⟨v,ev,rfl,hwv,hev,hat,hb3⟩)
  have hp3:=HPN.o.1.below hb3;have hg3:=aH HPN.o.2 (aK hb3 (Lr _) _);have hr3:=(hb3.block _ (Aa HRN.o)).trans HRN.o;rw [nI] at hat;have HWV:=Hh hwv;have bd:=(Br w3.heap.size w3).drew;have hp4:=hp3.below bd;have hg4:=aH hg3 (aK bd (Lr _) _);have hr4:w3.drew.heap[w.heap.size]?=_:=(bd.block _ (Aa hr3)).trans hr3;clear hb3 HPN HRN hp3 hg3 hr3 hwv bd A;obtain ⟨ok,hok⟩:∃ok:Bool,(ev=.nilIface∧ok=true)∨((∃t p,ev=.iface t p)∧ok=false):=by
   rcases hev with h | h
   ·exact ⟨true,.inl ⟨h,rfl⟩⟩
   ·exact ⟨false,.inr ⟨h,rfl⟩⟩
  have HV3:=Hh (HV.o v ok fun n hn=>⟨(hat n hn).1,by
   rcases hok with h | ⟨⟨t,p,h⟩,-⟩
   ·exact h.2
   ·have:=(hat n hn).2;rw [h] at this;cases this⟩)
  clear hat hev HV;rcases hok with ⟨rfl,rfl⟩ | ⟨⟨te,pe,rfl⟩,rfl⟩
  all_goals
   refine aJ (fun w'=>True) [] (.take 0 (.take 2 (.take 3 (.ask 1 false (.ask 4 false (.take 5 .stop) .stop) .stop)))) (by kernel_rfl) (by kernel_rfl) (fun _ d _ _ _ h=>by cases d <;> exact h) trivial ?_
   generalize w3.drew=w4 at hp4 hg4 hr4 ⊢
   iterate 3 (refine aG _ ?_ rfl rfl ?_ (fun K hK=>?_);rotate_left;(intro w0;go_simp;(try rfl));(go_simp;refine hK _ ?_;clear hK K))
   refine aF _ rfl trivial ?_
   go_wp2_with (go_at_call 171;(with_reducible refine (sL v w4).mono ?_);rintro e w5 ⟨rfl,hb5⟩)
   refine Seg.mk ?_;have hr5:=(hb5.block _ (Aa hr4)).trans hr4;have hp5:=hp4.below hb5;have hg5:=aH hg4 (aK hb5 (Lr _) _);have f5:=aD hr5;have c5:=aA hr5;have HR5:=Hh hr5;have HP5:=Hh (Ai hp5 hg5);clear hr4 hp4 hg4 hb5 hr5 hp5 hg5;refine aF _ rfl trivial ?_
   go_wp2_with fail
   refine Seg.mk ?_;refine aG _ ?_ rfl rfl ?_ (fun K hK=>?_);rotate_left;(intro w0;go_simp;(try rfl));(go_simp;refine hK _ ?_;clear hK K)
   unfold cN
   go_wp2_with fail
  ·refine aP (v:=.bool true) HR5.o results166 rfl rfl rfl ?_
   exact iZ (T:=0) 2 false v ⟨#[]⟩ true HP5.o.1 HP5.o.2 hlt hfl (by decide) HWV.o (fun y t' h=>⟨rfl,(HV3.o y t' h).2⟩)
  ·refine aP (v:=.bool false) HR5.o results166 rfl rfl rfl ?_
   exact iZ (T:=0) 2 false v ⟨#[]⟩ false HP5.o.1 HP5.o.2 hlt hfl (by decide) HWV.o (fun y t' h=>by have:=HV3.o y t' h;simp at this)
def RN (r s t:Ub):Prop:=∃q,r=34::q∧cT q=some (s,58::t)
def aEc (g mw mc:Nat) (r:Ub) (w:World) (e:Ending) (w':World):Prop:=∃ (s:Ub) (ok:Bool) (r':Ub),e=.returned (.tuple #[.string (bA s),.bool ok])∧PrS w' g mw mc r'∧w.grownBy w' (some g)∧s.length≤r.length∧r'.length≤r.length∧∀x t,RN r x t→ok=true∧s=x∧r'=t
theorem aAs {g mw mc:Nat} {r:Ub} (w:World) (h:PrS w g mw mc r) (hr:r.length≤100000):Calls prog 190 #[.pointer (some ⟨g,0,none⟩)] w (aEc g mw mc r w):=by
 have S:=dK ⟨#[34]⟩ w h;rw [show (⟨#[34]⟩:Bt).data.toList=[34] from rfl] at S
 cases hp:Lib.hasPrefix r [34] with
 | false=>
  rw [hp,fF hp] at S;have SS:Hid (Calls prog _ _ w (eT g mw mc w (.bool false) r)):=S;have HP:=Hh hp;clear S h hp
  go_enter func190,ntmps190
  go_wp2_with (go_at_call 163;(with_reducible refine (SS.o).mono ?_);rintro e w1 ⟨rfl,hp1,hg1⟩)
  go_ret2
  exact ⟨[],false,r,rfl,hp1,hg1,Ax _,Lr _,fun x t ⟨q,e,_⟩=>by
   have:=HP.o;rw [e,sP] at this;cases this⟩
 | true=>
  rw [hp,iM hp] at S;have hrq0:=dW hp;obtain ⟨q,hq⟩:∃q,q=r.drop 1:=⟨_,rfl⟩;have hrq:r=34::q:=by rw [hq];exact hrq0
  clear hrq0;have SS:Hid (Calls prog 163 #[.pointer (some ⟨g,0,none⟩),.string ⟨#[34]⟩] w (eT g mw mc w (.bool true) q)):=by rw [hq];exact S
  have hql:q.length+1=r.length:=by rw [hrq];rfl
  have Q:=Hh (fun (wx:World) (hx:PrS wx g mw mc q)=>vP wx hx (by omega))
  have HRQ:=Hh hrq;clear S h hp hq hrq
  go_enter func190,ntmps190
  go_upto_region 4 with (first
   | (go_at_call 163;(with_reducible refine (SS.o).mono ?_);rintro e w1 ⟨rfl,hp1,hg1⟩)
   | (go_at_call 165;(with_reducible refine (Q.o _ hp1).mono ?_);rintro e w2 ⟨s,ok,r',rfl,hp2,hg2,hl2,hq2⟩))
  have HQ2:=Hh hq2;clear hq2;have S2:=dK ⟨#[58]⟩ w2 hp2;rw [show (⟨#[58]⟩:Bt).data.toList=[58] from rfl] at S2
  have S3:Hid (Calls prog 163 #[.pointer (some ⟨g,0,none⟩),.string ⟨#[58]⟩] w2 (eT g mw mc w2 (.bool (Lib.hasPrefix r' [58])) (Lib.trimPrefix r' [58]))):=S2;have hfin:∀x t,RN r x t→ok=true∧s=x∧r'=58::t:=fun x t ⟨q',e1,e2⟩=>by
   rw [HRQ.o] at e1;cases e1;exact HQ2.o x _ e2
  have HF:=Hh hfin;clear S2 hfin HQ2;cases ok with
  | false=>
   go_wp2
   go_ret2
   exact ⟨s,false,r',rfl,hp2,aH hg1 hg2,by omega,by omega,fun x t hx=>by have:=(HF.o x t hx).1;cases this⟩
  | true=>
   have htl:(Lib.trimPrefix r' [58]).length≤r'.length:=by
    unfold Lib.trimPrefix
    split
    ·rw [Cb];omega
    ·exact Lr _
   go_wp2_with (go_at_call 163;(with_reducible refine (S3.o).mono ?_);rintro e w3 ⟨rfl,hp3,hg3⟩)
   go_ret2
   exact ⟨s,_,_,rfl,hp3,aH hg1 (aH hg2 hg3),by omega,by omega,fun x t hx=>by
    obtain ⟨-,e1,e2⟩:=HF.o x t hx;subst e2;exact ⟨by rw [sP];rfl,e1,ZO 58 t⟩⟩
end Go.Proofs.YtncdpanfefnjlaaGreatDoor