import Derived.Test.YtncdpanfefnjlaaGreatDoorVwi
set_option linter.unusedVariables false
set_option linter.unusedSimpArgs false
namespace Go.Proofs.YtncdpanfefnjlaaGreatDoor
open Go.Proofs.Tryz
open Go
instance memDec (s:Bt) (l:List Bt):Decidable (s ∈ l):=decidable_of_iff _ (pJ s l)
abbrev AL:=List (Bt × ND)
def bK (L:AL):List Bt:=L.map (·.1)
def mkA (L:AL):ND:=.mk 5 false 0 ⟨#[]⟩ (bK L) (L.map (·.2))
def dN (n:ND):AL:=n.names.zip n.items
def yS (L:AL) (s:Bt) (y:ND):AL:=if s ∈ bK L then L.map (fun q=>if q.1=s then (s,y) else q) else L++[(s,y)]
def dR (ls:List Bt) (y:ND) (q:Bt × ND):Bt × ND:=if q.1 ∈ ls then (q.1,y) else q
def nQ (L:AL) (l:Bt):AL:=if l ∈ bK L then L else L++[(l,nd0)]
def eW (L:AL) (ls:List Bt):AL:=ls.foldl nQ L
def lY (L:AL) (ls:List Bt) (y:ND):AL:=(eW L ls).map (dR ls y)
def bQ (n:ND) (ls:List Bt) (t:Bt):ND:=ls.foldl (fun m l=>yQ m l (tN t)) n
theorem iV (ls:List Bt) (y:ND) (q:Bt × ND):(dR ls y q).1=q.1:=by unfold dR;split <;> rfl
theorem LA (L:AL) (ls:List Bt) (y:ND):bK (L.map (dR ls y))=bK L:=by
 unfold bK;rw [Dc];exact Cr fun q _=>iV ls y q
theorem mK (L M:AL):bK (L++M)=bK L++bK M:=Dx
theorem aCu (L:AL) (a b:List Bt):eW L (a++b)=eW (eW L a) b:=List.foldl_append
theorem zL (L:AL) (ls:List Bt) (y:ND):bK (lY L ls y)=bK (eW L ls):=LA _ _ _
theorem ZT (L:AL) (y:ND):L.map (dR [] y)=L:=by
 rw [Cr (g:=id) fun q _=>by unfold dR;rw [Af (by simp)];rfl,List.map_id]
theorem VG (L:AL) (done:List Bt) (l:Bt) (y:ND):yS ((eW L done).map (dR done y)) l y=(eW L (done++[l])).map (dR (done++[l]) y):=by
 rw [aCu]
 show _=(nQ (eW L done) l).map _
 unfold yS nQ;rw [LA];have key:∀q:Bt × ND,q.1 ≠ l→dR (done++[l]) y q=dR done y q:=fun q hq=>by
  unfold dR
  by_cases h:q.1 ∈ done
  ·rw [Am h,Am (by simp [h])]
  ·rw [Af h,Af (by simp [h,hq])]
 split
 ·rw [Dc]
  refine Cr fun q _=>?_
  show (if (dR done y q).1=l then (l,y) else dR done y q)=_
  rw [iV]
  by_cases h:q.1=l
  ·rw [Am h];unfold dR;rw [Am (by simp [h]),h]
  ·rw [Af h,key q h]
 ·rename_i hn
  rw [Dx]
  congr 1
  ·refine Cr fun q hq=>(key q fun e=>hn ?_).symm
   rw [←e];exact List.mem_map_of_mem hq
  ·show _=[dR (done++[l]) y (l,nd0)]
   unfold dR;rw [Am (by simp)]
theorem DP (L:AL) (y:ND):∀ (ls done:List Bt),ls.foldl (fun M l=>yS M l y) ((eW L done).map (dR done y))=(eW L (done++ls)).map (dR (done++ls) y)
 | [],done=>by rw [Bu];rfl
 | l::ls,done=>by
  rw [List.foldl_cons,VG,DP L y ls (done++[l]),Aj]
  rfl
theorem CJ (L:AL) (ls:List Bt) (y:ND):ls.foldl (fun M l=>yS M l y) L=lY L ls y:=by
 have h:=DP L y ls [];rw [ZT,Dm] at h;exact h
theorem QL {L:AL} {l:Bt} (h:(bK L).Nodup):(bK (nQ L l)).Nodup:=by
 unfold nQ
 split
 ·exact h
 ·rename_i hn
  rw [mK,List.nodup_append];refine ⟨h,by simp [bK],fun a ha b hb e=>?_⟩
  rw [show bK [(l,nd0)]=[l] from rfl,At] at hb
  exact hn (hb ▸ e ▸ ha)
theorem rB:∀ {ls:List Bt} {L:AL},(bK L).Nodup→(bK (eW L ls)).Nodup
 | [],_,h=>h
 | l::ls,L,h=>rB (ls:=ls) (L:=nQ L l) (QL h)
theorem aCs (L:AL) (l:Bt):∃r:AL,nQ L l=L++r∧r.length≤1∧∀q,q ∈ r→q=(l,nd0):=by
 unfold nQ
 split
 ·exact ⟨[],by simp,by simp,by simp⟩
 ·exact ⟨[(l,nd0)],rfl,Lr _,fun q hq=>At.1 hq⟩
theorem kF:∀ (ls:List Bt) (L:AL),∃r:AL,eW L ls=L++r∧r.length≤ls.length∧∀q,q ∈ r→q.1 ∈ ls∧q.2=nd0
 | [],L=>⟨[],(Bu L).symm,Lr _,by simp⟩
 | l::ls,L=>by
  obtain ⟨r1,e1,h1,m1⟩:=aCs L l;obtain ⟨r2,e2,h2,m2⟩:=kF ls (nQ L l);refine ⟨r1++r2,?_,by rw [Lg,Ag];omega,fun q hq=>?_⟩
  ·show eW (nQ L l) ls=_
   rw [e2,e1,Aj]
  ·rcases Bb.1 hq with hq | hq
   ·rw [m1 q hq];exact ⟨by simp,rfl⟩
   ·exact ⟨List.mem_cons_of_mem _ (m2 q hq).1,(m2 q hq).2⟩
theorem aCt (L:AL) (l:Bt):l ∈ bK (nQ L l):=by
 unfold nQ
 split
 ·assumption
 ·rw [mK];simp [bK]
theorem oQ:∀ {ls:List Bt} {L:AL} {l:Bt},l ∈ ls→l ∈ bK (eW L ls)
 | a::ls,L,l,h=>by
  rcases Bz.1 h with rfl | h
  ·obtain ⟨r,e,-,-⟩:=kF ls (nQ L l)
   show l ∈ bK (eW (nQ L l) ls)
   rw [e,mK];exact List.mem_append_left _ (aCt L l)
  ·exact oQ (ls:=ls) (L:=nQ L a) h
theorem xB:∀ {ls:List Bt} {L:AL},(∀l,l ∈ ls→l ∈ bK L)→eW L ls=L
 | [],_,_=>rfl
 | l::ls,L,h=>by
  have e:nQ L l=L:=by unfold nQ;rw [Am (h l (by simp))]
  show eW (nQ L l) ls=L
  rw [e];exact xB fun m hm=>h m (by simp [hm])
def fI (L:AL):AL:=L.filter fun q=>decide (q.1 ≠ sV)
theorem uC {L:AL} {l:Bt} (h:l ≠ sV):l ∈ bK (fI L)↔l ∈ bK L:=by
 unfold bK fI
 constructor
 ·intro hm
  obtain ⟨q,hq,rfl⟩:=Bl.1 hm;exact List.mem_map_of_mem (List.mem_filter.1 hq).1
 ·intro hm
  obtain ⟨q,hq,rfl⟩:=Bl.1 hm;exact List.mem_map_of_mem (List.mem_filter.2 ⟨hq,An h⟩)
theorem xF:∀L:AL,(bK L).zip (L.map (·.2))=L
 | []=>rfl
 | (a,b)::L=>by simpa [bK] using xF L
theorem aIi (L:AL):dN (mkA L)=L:=xF L
theorem FJ {d:Nat} {n:ND} (h:cH d n):n=mkA (dN n):=by
 obtain ⟨k,b,z,t,ns,its⟩:=n;have h1:=h.kind;have h2:=h.bool;have h3:=h.num;have h4:=h.text;have h5:=h.len;simp only [ND.kind,ND.bool,ND.num,ND.text,ND.names,ND.items] at h1 h2 h3 h4 h5;subst h1 h2 h3 h4;unfold mkA dN bK;rw [show (ND.mk 5 false 0 ⟨#[]⟩ ns its).names=ns from rfl,show (ND.mk 5 false 0 ⟨#[]⟩ ns its).items=its from rfl,List.map_fst_zip (by omega),List.map_snd_zip (by omega)]
theorem sN {d:Nat} {n:ND} (h:cH d n):bK (dN n)=n.names:=by
 unfold bK dN;exact List.map_fst_zip (by rw [h.len];exact Lr _)
theorem SI {L:AL} {s:Bt} {y:ND} (h:(bK L).Nodup):yQ (mkA L) s y=mkA (yS L s y):=by
 unfold yQ;rw [show (mkA L).names=bK L from rfl]
 cases hf:(bK L).findIdx? (fun t=>decide (t=s)) with
 | none=>
  have hn:=nE hf
  show ND.mk 5 false 0 ⟨#[]⟩ (bK L++[s]) (L.map (·.2)++[y])=_
  unfold yS;rw [Af hn];unfold mkA;rw [mK,Dx]
  rfl
 | some i=>
  have hi:=(fD hf).1;have hm:s ∈ bK L:=Aq hi
  show ND.mk 5 false 0 ⟨#[]⟩ (bK L) ((L.map (·.2)).set i y)=_
  unfold yS;rw [Am hm];unfold mkA;have e1:bK (L.map (fun q=>if q.1=s then (s,y) else q))=bK L:=by
   unfold bK;rw [Dc];refine Cr fun q _=>?_
   show (if q.1=s then (s,y) else q).1=q.1
   split <;> simp_all
  rw [e1]
  congr 1
  refine List.ext_getElem? fun j=>?_
  rw [Dc,Bc,List.getElem?_set];have hil:i<L.length:=by
   have:=(List.getElem?_eq_some_iff.1 hi).1
   simpa [bK] using this
  cases hj:L[j]? with
  | none=>
   have:i ≠ j:=fun e=>by subst e;rw [Ac hil] at hj;cases hj
   rw [Af this,Bc,hj]
   rfl
  | some q=>
   have hk:(bK L)[j]?=some q.1:=by unfold bK;rw [Bc,hj];rfl
   by_cases e:i=j
   ·subst e
    rw [hi] at hk;rw [Am rfl,Am (by simpa using hil)]
    show some y=some (if q.1=s then (s,y) else q).2
    rw [Am (Ab hk).symm]
   ·have hne:q.1 ≠ s:=fun g=>by
     rw [g] at hk;have a1:=lP h hi;have a2:=lP h hk;rw [a1] at a2;exact e (Ab a2)
    rw [Af e,Bc,hj]
    show some q.2=some (if q.1=s then (s,y) else q).2
    rw [Af hne]
theorem OO {L:AL} {s:Bt} {y:ND} (h:(bK L).Nodup):(bK (yS L s y)).Nodup:=by
 have e:yS L s y=lY L [s] y:=CJ L [s] y;rw [e,zL];exact rB h
theorem SB (t:Bt):∀ {ls:List Bt} {L:AL},(bK L).Nodup→bQ (mkA L) ls t=mkA (ls.foldl (fun M l=>yS M l (tN t)) L)
 | [],_,_=>rfl
 | l::ls,L,h=>by
  show bQ (yQ (mkA L) l (tN t)) ls t=_
  rw [SI h];exact SB t (OO h)
theorem rW {t:Bt} {ls:List Bt} {L:AL} (h:(bK L).Nodup):bQ (mkA L) ls t=mkA (lY L ls (tN t)):=by
 rw [SB t h,CJ]
theorem fB {d:Nat} {n:ND} {t:Bt} {ls:List Bt} (h:cH d n):bQ n ls t=mkA (lY (dN n) ls (tN t)):=by
 conv=>lhs;rw [FJ h]
 exact rW (by rw [sN h];exact h.nodup)
theorem rN (L:AL) (t:Bt):bI (mkA L) t=mkA ((sV,tN t)::fI L):=by
 unfold bI cK;rw [show (mkA L).names.zip (mkA L).items=L from aIi L]
 rfl
theorem VW (L:AL):fI (fI L)=fI L:=by unfold fI;rw [List.filter_filter];simp
theorem OZ (t:ND) (L:AL):fI ((sV,t)::fI L)=fI L:=by
 have:fI ((sV,t)::fI L)=fI (fI L):=by
  unfold fI;rw [List.filter_cons_of_neg (by simp)]
 rw [this,VW]
theorem zK {d:Nat} {L:AL}:cH d (mkA L)↔(bK L).Nodup∧L.length≤256∧(∀s,s ∈ bK L→aV s=true)∧∀q,q ∈ L→aB d q.2=true:=by
 constructor
 ·intro h
  refine ⟨h.nodup,?_,h.texts,fun q hq=>h.items _ (List.mem_map_of_mem hq)⟩
  have:=h.most
  rwa [show (mkA L).items.length=L.length from Bi ..] at this
 ·rintro ⟨h1,h2,h3,h4⟩
  refine ⟨rfl,rfl,rfl,rfl,by show (bK L).length=(L.map (·.2)).length;simp [bK],by show (L.map (·.2)).length≤_;rwa [Bi],h3,h1,fun y hy=>?_⟩
  obtain ⟨q,hq,rfl⟩:=Bl.1 hy;exact h4 q hq
theorem ZP {d:Nat} {t:Bt} (h:aV t=true):aB (d+1) (tN t)=true:=by
 rw [cQ]
 show (eQ (tN t) && true)=true
 rw [Bool.and_true];unfold eQ tN;simp [ND.kind,ND.bool,ND.num,ND.text,ND.names,ND.items,h]
theorem EP {d:Nat} {L:AL} {ls:List Bt} {t:Bt} (h:cH (d+1) (mkA L)) (ht:aV t=true):cH (d+1) (mkA (lY L ls (tN t)))↔(eW L ls).length≤256∧∀l,l ∈ ls→aV l=true:=by
 obtain ⟨h1,h2,h3,h4⟩:=zK.1 h;obtain ⟨r,e,-,hr⟩:=kF ls L;rw [zK,zL];have hlen:(lY L ls (tN t)).length=(eW L ls).length:=by unfold lY;rw [Bi]
 constructor
 ·rintro ⟨-,g2,g3,-⟩
  exact ⟨by rwa [hlen] at g2,fun l hl=>g3 l (oQ hl)⟩
 ·rintro ⟨g1,g2⟩
  refine ⟨rB h1,by rwa [hlen],fun s hs=>?_,fun q hq=>?_⟩
  ·rw [e,mK] at hs
   rcases Bb.1 hs with hs | hs
   ·exact h3 s hs
   ·obtain ⟨q,hq,rfl⟩:=Bl.1 hs
    exact g2 _ (hr q hq).1
  ·obtain ⟨q',hq',rfl⟩:=Bl.1 hq
   unfold dR
   split
   ·exact ZP ht
   ·rename_i hn
    rw [e] at hq';rcases Bb.1 hq' with hq' | hq'
    ·exact h4 q' hq'
    ·exact absurd (hr q' hq').1 hn
end Go.Proofs.YtncdpanfefnjlaaGreatDoor
namespace Go.Proofs.YtncdpanfefnjlaaGreatDoor
open Go.Proofs.Tryz
open Go Go.Maps Go.ChangeShapes Go.WideShapes Go.ChangeAt Go.RowKit
def pDr:List Bt→DataW Unit
 | []=>.map []
 | s::r=>(pDr r).put (.string s.data.toList) (.lit (.int .i64 r.length))
def pD (ns:List Bt):DataW Unit:=pDr ns.reverse
theorem aFm (ns:List Bt) (s:Bt):pD (ns++[s])=(pD ns).put (.string s.data.toList) (.lit (.int .i64 ns.length)):=by
 unfold pD;rw [List.reverse_append]
 show (pDr ns.reverse).put _ (.lit (.int .i64 (ns.reverse.length:Nat)))=_
 rw [List.length_reverse]
theorem DA:∀r,IsMap (pDr r)
 | []=>isMap_empty
 | _::r=>(DA r).put _ _
theorem aAh (l:Bt):∀r:List Bt,(l ∈ r∧Maps.has (pDr r) (.string l.data.toList)=true∧∃i:Nat,r.reverse[i]?=some l∧∀z,(pDr r).atKey (.string l.data.toList) z=.lit (.int .i64 i))∨(l ∉ r∧Maps.has (pDr r) (.string l.data.toList)=false∧∀z,(pDr r).atKey (.string l.data.toList) z=z)
 | []=>.inr ⟨by simp,rfl,fun z=>rfl⟩
 | s::r=>by
  have hm:=DA r;have e1:Maps.has (pDr (s::r)) (.string l.data.toList)=(decide (l.data.toList=s.data.toList) || Maps.has (pDr r) (.string l.data.toList)):=oD hm _ _ _;have e2:∀z,(pDr (s::r)).atKey (.string l.data.toList) z=if l.data.toList=s.data.toList then .lit (.int .i64 r.length) else (pDr r).atKey (.string l.data.toList) z:=fun z=>sF hm _ _ _ _
  by_cases h:l=s
  ·subst h
   refine .inl ⟨by simp,by rw [e1,An rfl];rfl,r.length,?_,fun z=>by rw [e2,Am rfl]⟩
   rw [List.reverse_cons,Dl (by rw [List.length_reverse];exact Lr _),List.length_reverse,Nat.sub_self]
   rfl
  ·have hne:l.data.toList ≠ s.data.toList:=fun e=>h (Cp (Ce.1 e))
   rcases aAh l r with ⟨h1,h2,i,h3,h4⟩ | ⟨h1,h2,h3⟩
   ·refine .inl ⟨by simp [h1],by rw [e1,h2];simp,i,?_,fun z=>by rw [e2,Af hne,h4]⟩
    rw [List.reverse_cons,Cq (dH h3)];exact h3
   ·exact .inr ⟨by simp [h1,h],by rw [e1,h2,Ap hne];rfl,fun z=>by rw [e2,Af hne,h3]⟩
theorem aJo (l:Bt) (ns:List Bt):(l ∈ ns∧Maps.has (pD ns) (.string l.data.toList)=true∧∃i:Nat,ns[i]?=some l∧∀z,(pD ns).atKey (.string l.data.toList) z=.lit (.int .i64 i))∨(l ∉ ns∧Maps.has (pD ns) (.string l.data.toList)=false∧∀z,(pD ns).atKey (.string l.data.toList) z=z):=by
 have h:=aAh l ns.reverse;rw [List.reverse_reverse] at h
 simpa [pD] using h
structure TxS (P:Program) (TN TS TI:TypeId) (d B:Nat) (S:Nat→Prop) (w1 wx:World) (gb gm:Nat) (vn vi:Value) (ns:List Bt) (A:List NC) (ms:List Bt):Prop where
 nod:wx.heap[gb]?=some (.cells #[Iz 5,.bool false,Iz 0,.string ⟨#[]⟩,vn,vi] TN (0,0))
 lo:B≤gb
 names:jH TS B wx vn ns
 items:wx.ownsRow B TN 6 vi A.length (cF A)
 s1:vn.ownBlock ≠ some gb
 s2:vi.ownBlock ≠ some gb
 s3:∀b,vn.ownBlock=some b→vi.ownBlock ≠ some b
 map:wx.ownsMap P TS (plainElem (H:=Unit) P TI) gm ms.length (pD ms)
 m0:B≤gm∧gm ≠ gb
 m1:vn.ownBlock ≠ some gm
 m2:vi.ownBlock ≠ some gm
 old:∀y,y ∈ A→aC d S w1 y.1 y.2
 low:∀b,S b→b<B
 bel:Below B w1 wx
section
variable {P:Program} {TN TS TI:TypeId} {d B:Nat} {S:Nat→Prop} {w1 wx wn:World} {gb gm:Nat} {vn vi:Value} {ns:List Bt} {A:List NC} {ms:List Bt}
theorem fE {B:Nat} {w1 wx wn:World} {row:Option Nat} (hb:Below B w1 wx) (hB:B≤w1.heap.size) (hg:wx.grownBy wn row) (hr:∀b,row=some b→B≤b):Below B w1 wn:=
 ⟨hg.os.trans hb.os,hg.tape.trans hb.tape,hg.output.trans hb.output,Ae hb.size hg.size,fun i hi=>(hg.block i (Ll hi (Ae hB hb.size)) (fun e=>by have:=hr i e.symm;omega)).trans (hb.block i hi)⟩
theorem TxS.below (h:TxS P TN TS TI d B S w1 wx gb gm vn vi ns A ms) (hb:Below wx.heap.size wx wn):TxS P TN TS TI d B S w1 wn gb gm vn vi ns A ms:=by
 have hk:∀ {b:Nat} {o:Obj},wx.heap[b]?=some o→wn.heap[b]?=some o:=fun h=>(hb.block _ (Aa h)).trans h
 exact ⟨hk h.nod,h.lo,h.names.below hb,fG h.items hb,h.s1,h.s2,h.s3,Cs h.map (row:=none) ⟨hb.os,hb.tape,hb.output,hb.size,fun i hi _=>hb.block i hi⟩ (by simp),h.m0,h.m1,h.m2,h.old,h.low,h.bel.trans (hb.mono (by have:=h.lo;have:=Aa h.nod;omega))⟩
theorem TxS.forms (h:TxS P TN TS TI d B S w1 wx gb gm vn vi ns A ms):(∃an cn,vn=.slice an ns.length cn)∧∃ai ci,vi=.slice ai A.length ci:=by
 constructor
 ·obtain ⟨a,c,e,_⟩:=h.names.strs;exact ⟨a,c,e⟩
 ·rcases h.items.2 with ⟨rfl,h0⟩ | ⟨g,cap,cur,rfl,_⟩
  ·exact ⟨none,0,by rw [h0]⟩
  ·exact ⟨_,cap,rfl⟩
theorem TxS.node (h:TxS P TN TS TI d B S w1 wx gb gm vn vi ns A ms):aC (d+1) (fun b=>b<wx.heap.size∧(B≤b∨S b)) wx [Iz 5,.bool false,Iz 0,.string ⟨#[]⟩,vn,vi] (.mk 5 false 0 ⟨#[]⟩ ns (aE A)):=by
 have hB:B≤wx.heap.size:=by have:=h.lo;have:=Aa h.nod;omega
 refine ⟨vn,vi,rfl,Ax _,h.names.strs.mono fun b hb=>⟨hb.2,.inl hb.1⟩,?_⟩
 have hl:(aE A).length=A.length:=by simp [aE]
 have h6:∀y,y ∈ A→y.1.length=6:=fun y hy=>(h.old y hy).len
 have h1:=h.items;rcases h1.2 with ⟨rfl,hA0⟩ | ⟨g,cap,cur,rfl,hb,hg,hnc,hcm,hcs,hcu⟩
 ·have hn:A=[]:=Au.1 hA0
  subst hn;exact cB.nil _ _ _
 ·refine ⟨_,cap,by rw [show (ND.mk 5 false 0 ⟨#[]⟩ ns (aE A)).items=aE A from rfl,hl],by rw [show (ND.mk 5 false 0 ⟨#[]⟩ ns (aE A)).items=aE A from rfl,hl];exact hnc,hcm,fun j x hj=>?_⟩
  have hj2:(aE A)[j]?=some x:=hj;have hj':j<A.length:=by have:=dH hj2;omega
  have e:A[j]?=some (A[j].1,A[j].2):=by rw [Ac hj']
  have hx:x=A[j].2:=by
   rw [aE,Bc,e] at hj2;exact (Ab hj2).symm
  subst hx;refine ⟨g,0,A[j].1,rfl,⟨Aa hg,.inl hb⟩,fun f u hu=>?_,((h.old _ (Do hj')).same fun b hb=>h.bel.block b (h.low b hb)).mono fun b hb=>⟨Ll (h.low b hb) hB,.inr hb⟩⟩
  have:=h1.cells (g:=g) rfl _ _ (jL h6 e f u hu);rw [Bn,←Nat.add_assoc] at this;exact this
theorem TxS.putm {s:Bt} (h:TxS P TN TS TI d B S w1 wx gb gm vn vi ns A ms) (hB:B≤w1.heap.size) (hown:wn.ownsMap P TS (plainElem (H:=Unit) P TI) gm (ms.length+1) ((pD ms).put (.string s.data.toList) (.lit (.int .i64 ms.length)))) (hg:wx.grownBy wn (some gm)):TxS P TN TS TI d B S w1 wn gb gm vn vi ns A (ms++[s]):=by
 refine ⟨(hg.block gb (Aa h.nod) (fun e=>h.m0.2 (Ab e).symm)).trans h.nod,h.lo,h.names.kept hg (.inr h.m1),h.items.kept hg (.inr h.m2),h.s1,h.s2,h.s3,?_,h.m0,h.m1,h.m2,h.old,h.low,fE h.bel hB hg fun b e=>by have:=Ab e;have:=h.m0.1;omega⟩
 rw [Lg,aFm];exact hown
theorem TxS.name {vn':Value} {s:Bt} (h:TxS P TN TS TI d B S w1 wx gb gm vn vi ns A ms) (hB:B≤w1.heap.size) (hown:wn.ownsRow B TS 1 vn' (ns.length+1) (ns.map Value.string++[.string s])) (hg:wx.grownBy wn vn.ownBlock) (hat:vn'.ownBlock=vn.ownBlock∨∀b,vn'.ownBlock=some b→wx.heap.size≤b) (hs:s.size≤maxLen - 2) :
 TxS P TN TS TI d B S w1 (wn.setCell ⟨gb,4,none⟩ vn') gb gm vn' vi (ns++[s]) A ms:=by
 have hgb:=Aa h.nod;have hgm:=World.ownsMap.lt h.map;have hgs:=aR wn gb 4 vn';have hn:∀c,c<wx.heap.size→vn.ownBlock ≠ some c→vn'.ownBlock ≠ some c:=fun c hc h0 e=>by
  rcases hat with ha | ha
  ·rw [ha] at e;exact h0 e
  ·have:=ha c e;omega
 refine ⟨lI ((hg.block gb hgb (fun e=>h.s1 e.symm)).trans h.nod) vn',h.lo,(h.names.push hown hs).kept hgs (.inr (hn gb hgb h.s1)),?_,hn gb hgb h.s1,h.s2,?_,Cs (Cs h.map hg (fun e=>h.m1 e.symm)) hgs (fun e=>h.m0.2 (Ab e)),h.m0,hn gm hgm h.m1,h.m2,h.old,h.low,fE (fE h.bel hB hg fun b e=>(h.names.1.lt b e).1) hB hgs fun b e=>by have:=Ab (show some gb=some b from e);have:=h.lo;omega⟩
 ·refine (h.items.kept hg ?_).kept hgs (.inr fun e=>h.s2 e)
  cases e2:vi.ownBlock with
  | none=>exact .inl rfl
  | some b2=>exact .inr fun e3=>h.s3 b2 e3.symm e2
 ·intro b hb e
  exact hn b (h.items.lt b e).2 (fun e2=>h.s3 b e2 e) hb
theorem TxS.item {vi':Value} {cs:Vl} {y:ND} (h:TxS P TN TS TI d B S w1 wx gb gm vn vi ns A ms) (hB:B≤w1.heap.size) (hown:wn.ownsRow B TN 6 vi' (A.length+1) (cF A++cs)) (hg:wx.grownBy wn vi.ownBlock) (hat:vi'.ownBlock=vi.ownBlock∨∀b,vi'.ownBlock=some b→wx.heap.size≤b) (hy:aC d S w1 cs y) :
 TxS P TN TS TI d B S w1 (wn.setCell ⟨gb,5,none⟩ vi') gb gm vn vi' ns (A++[(cs,y)]) ms:=by
 have hgb:=Aa h.nod;have hgm:=World.ownsMap.lt h.map;have hgs:=aR wn gb 5 vi';have hn:∀c,c<wx.heap.size→vi.ownBlock ≠ some c→vi'.ownBlock ≠ some c:=fun c hc h0 e=>by
  rcases hat with ha | ha
  ·rw [ha] at e;exact h0 e
  ·have:=ha c e;omega
 refine ⟨kD ((hg.block gb hgb (fun e=>h.s2 e.symm)).trans h.nod) vi',h.lo,?_,?_,h.s1,hn gb hgb h.s2,?_,Cs (Cs h.map hg (fun e=>h.m2 e.symm)) hgs (fun e=>h.m0.2 (Ab e)),h.m0,h.m1,hn gm hgm h.m2,?_,h.low,fE (fE h.bel hB hg fun b e=>(h.items.lt b e).1) hB hgs fun b e=>by have:=Ab (show some gb=some b from e);have:=h.lo;omega⟩
 ·refine (h.names.kept hg ?_).kept hgs (.inr fun e=>h.s1 e)
  cases e2:vn.ownBlock with
  | none=>exact .inl rfl
  | some b2=>exact .inr fun e3=>h.s3 b2 e2 e3.symm
 ·refine World.ownsRow.kept ?_ hgs (.inr (hn gb hgb h.s2))
  rw [Lg,jV]
  simpa [cF] using hown
 ·intro b hb e
  exact hn b (h.names.1.lt b hb).2 (fun e2=>h.s3 b hb e2) e
 ·intro z hz
  rcases Bb.1 hz with hz | hz
  ·exact h.old z hz
  ·cases At.1 hz;exact hy
theorem TxS.set {g cap i:Nat} {a b c dd e f:Value} {y:ND} (h:TxS P TN TS TI d B S w1 wx gb gm vn (.slice (some ⟨g,0,none⟩) A.length cap) ns A ms) (hB:B≤w1.heap.size) (hi:i<A.length) (hy:aC d S w1 [a,b,c,dd,e,f] y) :
 TxS P TN TS TI d B S w1 ((((((wx.setCell ⟨g,i * 6,none⟩ a).setCell ⟨g,i * 6+1,none⟩ b).setCell ⟨g,i * 6+2,none⟩ c).setCell ⟨g,i * 6+3,none⟩ dd).setCell ⟨g,i * 6+4,none⟩ e).setCell ⟨g,i * 6+5,none⟩ f) gb gm vn (.slice (some ⟨g,0,none⟩) A.length cap) ns (A.set i ([a,b,c,dd,e,f],y)) ms:=by
 have hg:=yC wx g (i * 6) a b c dd e f;have hrow:=JZ h.items i a b c dd e f;have h6:∀y,y ∈ A→y.1.length=6:=fun y hy=>(h.old y hy).len
 rw [qT A i a b c dd e f y h6 hi] at hrow;have hgl:=(h.items.lt g rfl);have hgne:g ≠ gb:=fun e=>h.s2 (by rw [e];rfl)
 refine ⟨(hg.block gb (Aa h.nod) (fun e=>hgne (Ab e).symm)).trans h.nod,h.lo,h.names.kept hg ?_,by rw [List.length_set];exact hrow,h.s1,h.s2,h.s3,Cs h.map hg (fun e=>h.m2 (by rw [e];rfl)),h.m0,h.m1,h.m2,?_,h.low,fE h.bel hB hg fun b e=>by have:=Ab e;omega⟩
 ·cases e2:vn.ownBlock with
  | none=>exact .inl rfl
  | some b2=>exact .inr fun e3=>h.s3 b2 e2 (show (Value.slice (some ⟨g,0,none⟩) A.length cap).ownBlock=some b2 from e3.symm)
 ·intro z hz
  rcases List.mem_or_eq_of_mem_set hz with hz | rfl
  ·exact h.old z hz
  ·exact hy
end
end Go.Proofs.YtncdpanfefnjlaaGreatDoor