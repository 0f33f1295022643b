import Derived.Test.YtncdpanfefnjlaaGreatDoorHashe
import Derived.Test.YtncdpanfefnjlaaGreatDoorVsz
set_option linter.unusedVariables false
set_option linter.unusedSimpArgs false
set_option maxRecDepth 100000
set_option maxHeartbeats 800000
namespace Go.Proofs.YtncdpanfefnjlaaGreatDoor
open Go.Proofs.Tryz
open Go
instance memDec (s:Bt) (l:List Bt):Decidable (s ∈ l):=decidable_of_iff _ (qG s l)
abbrev AL:=List (Bt × ND)
def bU (L:AL):List Bt:=L.map (·.1)
def mkA (L:AL):ND:=.mk 5 false 0 ⟨#[]⟩ (bU L) (L.map (·.2))
def dR (n:ND):AL:=n.names.zip n.items
def AC (L:AL) (s:Bt) (y:ND):AL:=if s ∈ bU L then L.map (fun q=>if q.1=s then (s,y) else q) else L++[(s,y)]
def eL (ls:List Bt) (y:ND) (q:Bt × ND):Bt × ND:=if q.1 ∈ ls then (q.1,y) else q
def oH (L:AL) (l:Bt):AL:=if l ∈ bU L then L else L++[(l,nd0)]
def fN (L:AL) (ls:List Bt):AL:=ls.foldl oH L
def mN (L:AL) (ls:List Bt) (y:ND):AL:=(fN L ls).map (eL ls y)
def bL (n:ND) (ls:List Bt) (t:Bt):ND:=ls.foldl (fun m l=>AA m l (tN t)) n
theorem kP (ls:List Bt) (y:ND) (q:Bt × ND):(eL ls y q).1=q.1:=by unfold eL;split <;> rfl
theorem MR (L:AL) (ls:List Bt) (y:ND):bU (L.map (eL ls y))=bU L:=by
 unfold bU;rw [Di];exact Ct fun q _=>kP ls y q
theorem mY (L M:AL):bU (L++M)=bU L++bU M:=Ef
theorem aEk (L:AL) (a b:List Bt):fN L (a++b)=fN (fN L a) b:=List.foldl_append
theorem AV (L:AL) (ls:List Bt) (y:ND):bU (mN L ls y)=bU (fN L ls):=MR _ _ _
theorem aBk (L:AL) (y:ND):L.map (eL [] y)=L:=by
 rw [Ct (g:=id) fun q _=>by unfold eL;rw [Ae (by simp)];rfl,List.map_id]
theorem XI (L:AL) (done:List Bt) (l:Bt) (y:ND):AC ((fN L done).map (eL done y)) l y=(fN L (done++[l])).map (eL (done++[l]) y):=by
 rw [aEk]
 show _=(oH (fN L done) l).map _
 unfold AC oH;rw [MR];have a:∀q:Bt × ND,q.1 ≠ l→eL (done++[l]) y q=eL done y q:=fun q b=>by
  unfold eL
  by_cases h:q.1 ∈ done
  ·rw [Am h,Am (by simp [h])]
  ·rw [Ae h,Ae (by simp [h,b])]
 split
 ·rw [Di]
  refine Ct fun q _=>?_
  show (if (eL done y q).1=l then (l,y) else eL done y q)=_
  rw [kP]
  by_cases h:q.1=l
  ·rw [Am h];unfold eL;rw [Am (by simp [h]),h]
  ·rw [Ae h,a q h]
 ·rename_i hn
  rw [Ef]
  congr 1
  ·refine Ct fun q b=>(a q fun e=>hn ?_).symm
   rw [←e];exact List.mem_map_of_mem b
  ·show _=[eL (done++[l]) y (l,nd0)]
   unfold eL;rw [Am (by simp)]
theorem FJ (L:AL) (y:ND):∀ (ls done:List Bt),ls.foldl (fun M l=>AC M l y) ((fN L done).map (eL done y))=(fN L (done++ls)).map (eL (done++ls) y)
 | [],done=>by rw [By];rfl
 | l::ls,done=>by
  rw [List.foldl_cons,XI,FJ L y ls (done++[l]),Aj]
  rfl
theorem ED (L:AL) (ls:List Bt) (y:ND):ls.foldl (fun M l=>AC M l y) L=mN L ls y:=by
 have h:=FJ L y ls [];rw [aBk,Ds] at h;exact h
theorem SI {L:AL} {l:Bt} (h:(bU L).Nodup):(bU (oH L l)).Nodup:=by
 unfold oH
 split
 ·exact h
 ·rename_i hn
  rw [mY,List.nodup_append];refine ⟨h,by simp [bU],fun a d b c e=>?_⟩
  rw [show bU [(l,nd0)]=[l] from rfl,At] at c
  exact hn (c ▸ e ▸ d)
theorem rY:∀ {ls:List Bt} {L:AL},(bU L).Nodup→(bU (fN L ls)).Nodup
 | [],_,h=>h
 | l::ls,L,h=>rY (ls:=ls) (L:=oH L l) (SI h)
theorem aEi (L:AL) (l:Bt):∃r:AL,oH L l=L++r∧r.length≤1∧∀q,q ∈ r→q=(l,nd0):=by
 unfold oH
 split
 ·exact ⟨[],by simp,by simp,by simp⟩
 ·exact ⟨[(l,nd0)],rfl,Lr _,fun q a=>At.1 a⟩
theorem kT:∀ (ls:List Bt) (L:AL),∃r:AL,fN L ls=L++r∧r.length≤ls.length∧∀q,q ∈ r→q.1 ∈ ls∧q.2=nd0
 | [],L=>⟨[],(By L).symm,Lr _,by simp⟩
 | l::ls,L=>by
  obtain ⟨c,d,h,g⟩:=aEi L l;obtain ⟨f,e,i,b⟩:=kT ls (oH L l);refine ⟨c++f,?_,by rw [Lg,Ag];omega,fun q a=>?_⟩
  ·show fN (oH L l) ls=_
   rw [e,d,Aj]
  ·rcases Bg.1 a with a | a
   ·rw [g q a];exact ⟨by simp,rfl⟩
   ·exact ⟨List.mem_cons_of_mem _ (b q a).1,(b q a).2⟩
theorem aEj (L:AL) (l:Bt):l ∈ bU (oH L l):=by
 unfold oH
 split
 ·assumption
 ·rw [mY];simp [bU]
theorem pM:∀ {ls:List Bt} {L:AL} {l:Bt},l ∈ ls→l ∈ bU (fN L ls)
 | a::ls,L,l,h=>by
  rcases Bl.1 h with rfl | h
  ·obtain ⟨r,e,-,-⟩:=kT ls (oH L l)
   show l ∈ bU (fN (oH L l) ls)
   rw [e,mY];exact List.mem_append_left _ (aEj L l)
  ·exact pM (ls:=ls) (L:=oH L a) h
theorem yI:∀ {ls:List Bt} {L:AL},(∀l,l ∈ ls→l ∈ bU L)→fN L ls=L
 | [],_,_=>rfl
 | l::ls,L,h=>by
  have e:oH L l=L:=by unfold oH;rw [Am (h l (by simp))]
  show fN (oH L l) ls=L
  rw [e];exact yI fun m a=>h m (by simp [a])
def fW (L:AL):AL:=L.filter fun q=>decide (q.1 ≠ sV)
theorem vF {L:AL} {l:Bt} (h:l ≠ sV):l ∈ bU (fW L)↔l ∈ bU L:=by
 unfold bU fW
 constructor
 ·intro a
  obtain ⟨q,b,rfl⟩:=Bp.1 a;exact List.mem_map_of_mem (List.mem_filter.1 b).1
 ·intro a
  obtain ⟨q,b,rfl⟩:=Bp.1 a;exact List.mem_map_of_mem (List.mem_filter.2 ⟨b,Ap h⟩)
theorem yN:∀L:AL,(bU L).zip (L.map (·.2))=L
 | []=>rfl
 | (a,b)::L=>by simpa [bU] using yN L
theorem aJy (L:AL):dR (mkA L)=L:=yN L
theorem IA {d:Nat} {n:ND} (h:cO d n):n=mkA (dR n):=by
 obtain ⟨k,b,z,t,ns,its⟩:=n;have a:=h.kind;have e:=h.bool;have c:=h.num;have f:=h.text;have g:=h.len;simp only [ND.kind,ND.bool,ND.num,ND.text,ND.names,ND.items] at a e c f g;subst a e c f;unfold mkA dR bU;rw [show (ND.mk 5 false 0 ⟨#[]⟩ ns its).names=ns from rfl,show (ND.mk 5 false 0 ⟨#[]⟩ ns its).items=its from rfl,List.map_fst_zip (by omega),List.map_snd_zip (by omega)]
theorem tM {d:Nat} {n:ND} (h:cO d n):bU (dR n)=n.names:=by
 unfold bU dR;exact List.map_fst_zip (by rw [h.len];exact Lr _)
theorem UK {L:AL} {s:Bt} {y:ND} (h:(bU L).Nodup):AA (mkA L) s y=mkA (AC L s y):=by
 unfold AA;rw [show (mkA L).names=bU L from rfl]
 cases hf:(bU L).findIdx? (fun t=>decide (t=s)) with
 | none=>
  have k:=nU hf
  show ND.mk 5 false 0 ⟨#[]⟩ (bU L++[s]) (L.map (·.2)++[y])=_
  unfold AC;rw [Ae k];unfold mkA;rw [mY,Ef]
  rfl
 | some i=>
  have b:=(fM hf).1;have m:s ∈ bU L:=Ao b
  show ND.mk 5 false 0 ⟨#[]⟩ (bU L) ((L.map (·.2)).set i y)=_
  unfold AC;rw [Am m];unfold mkA;have l:bU (L.map (fun q=>if q.1=s then (s,y) else q))=bU L:=by
   unfold bU;rw [Di];refine Ct fun q _=>?_
   show (if q.1=s then (s,y) else q).1=q.1
   split <;> simp_all
  rw [l]
  congr 1
  refine List.ext_getElem? fun j=>?_
  rw [Di,Be,List.getElem?_set];have a:i<L.length:=by
   have:=(List.getElem?_eq_some_iff.1 b).1
   simpa [bU] using this
  cases hj:L[j]? with
  | none=>
   have:i ≠ j:=fun e=>by subst e;rw [Ac a] at hj;cases hj
   rw [Ae this,Be,hj]
   rfl
  | some q=>
   have c:(bU L)[j]?=some q.1:=by unfold bU;rw [Be,hj];rfl
   by_cases e:i=j
   ·subst e
    rw [b] at c;rw [Am rfl,Am (by simpa using a)]
    show some y=some (if q.1=s then (s,y) else q).2
    rw [Am (Ab c).symm]
   ·have d:q.1 ≠ s:=fun g=>by
     rw [g] at c;have n:=mD h b;have f:=mD h c;rw [n] at f;exact e (Ab f)
    rw [Ae e,Be,hj]
    show some q.2=some (if q.1=s then (s,y) else q).2
    rw [Ae d]
theorem QK {L:AL} {s:Bt} {y:ND} (h:(bU L).Nodup):(bU (AC L s y)).Nodup:=by
 have e:AC L s y=mN L [s] y:=ED L [s] y;rw [e,AV];exact rY h
theorem UF (t:Bt):∀ {ls:List Bt} {L:AL},(bU L).Nodup→bL (mkA L) ls t=mkA (ls.foldl (fun M l=>AC M l (tN t)) L)
 | [],_,_=>rfl
 | l::ls,L,h=>by
  show bL (AA (mkA L) l (tN t)) ls t=_
  rw [UK h];exact UF t (QK h)
theorem sW {t:Bt} {ls:List Bt} {L:AL} (h:(bU L).Nodup):bL (mkA L) ls t=mkA (mN L ls (tN t)):=by
 rw [UF t h,ED]
theorem fJ {d:Nat} {n:ND} {t:Bt} {ls:List Bt} (h:cO d n):bL n ls t=mkA (mN (dR n) ls (tN t)):=by
 conv=>lhs;rw [IA h]
 exact sW (by rw [tM h];exact h.nodup)
theorem sM (L:AL) (t:Bt):bJ (mkA L) t=mkA ((sV,tN t)::fW L):=by
 unfold bJ cN;rw [show (mkA L).names.zip (mkA L).items=L from aJy L]
 rfl
theorem XT (L:AL):fW (fW L)=fW L:=by unfold fW;rw [List.filter_filter];simp
theorem QV (t:ND) (L:AL):fW ((sV,t)::fW L)=fW L:=by
 have:fW ((sV,t)::fW L)=fW (fW L):=by
  unfold fW;rw [List.filter_cons_of_neg (by simp)]
 rw [this,XT]
theorem AU {d:Nat} {L:AL}:cO d (mkA L)↔(bU L).Nodup∧L.length≤256∧(∀s,s ∈ bU L→aZ s=true)∧∀q,q ∈ L→aC d q.2=true:=by
 constructor
 ·intro h
  refine ⟨h.nodup,?_,h.texts,fun q a=>h.items _ (List.mem_map_of_mem a)⟩
  have:=h.most
  rwa [show (mkA L).items.length=L.length from Bk ..] at this
 ·rintro ⟨b,g,c,e⟩
  refine ⟨rfl,rfl,rfl,rfl,by show (bU L).length=(L.map (·.2)).length;simp [bU],by show (L.map (·.2)).length≤_;rwa [Bk],c,b,fun y f=>?_⟩
  obtain ⟨q,a,rfl⟩:=Bp.1 f;exact e q a
theorem aBf {d:Nat} {t:Bt} (h:aZ t=true):aC (d+1) (tN t)=true:=by
 rw [cV]
 show (fC (tN t) && true)=true
 rw [Bool.and_true];unfold fC tN;simp [ND.kind,ND.bool,ND.num,ND.text,ND.names,ND.items,h]
theorem GN {d:Nat} {L:AL} {ls:List Bt} {t:Bt} (h:cO (d+1) (mkA L)) (p:aZ t=true):cO (d+1) (mkA (mN L ls (tN t)))↔(fN L ls).length≤256∧∀l,l ∈ ls→aZ l=true:=by
 obtain ⟨k,w,n,o⟩:=AU.1 h;obtain ⟨r,e,-,j⟩:=kT ls L;rw [AU,AV];have b:(mN L ls (tN t)).length=(fN L ls).length:=by unfold mN;rw [Bk]
 constructor
 ·rintro ⟨-,g,m,-⟩
  exact ⟨by rwa [b] at g,fun l u=>m l (pM u)⟩
 ·rintro ⟨v,g⟩
  refine ⟨rY k,by rwa [b],fun s c=>?_,fun q f=>?_⟩
  ·rw [e,mY] at c
   rcases Bg.1 c with c | c
   ·exact n s c
   ·obtain ⟨q,f,rfl⟩:=Bp.1 c
    exact g _ (j q f).1
  ·obtain ⟨i,a,rfl⟩:=Bp.1 f
   unfold eL
   split
   ·exact aBf p
   ·rename_i hn
    rw [e] at a;rcases Bg.1 a with a | a
    ·exact o i a
    ·exact absurd (j i a).1 hn
def aLi:Ub:=List.replicate 44 35
def fD:Bt:=⟨aLi.toArray⟩
def aJm (s:Bt):Bt:=⟨(rM s.data.toList).toArray⟩
def pN (s:Bt):Bt:=rB 1 (aJm s)
def fF (t:Bt):Prop:=t.size=44∧∀c,c ∈ t.data.toList→35≤c.toNat∧c.toNat≤122∧c.toNat ≠ 92
theorem lP:fF fD:=⟨rfl,fun c a=>by have:=List.eq_of_mem_replicate (show c ∈ List.replicate 44 35 from a);subst this;decide⟩
theorem DZ (s:Bt):(aJm s).size=32:=by show (rM s.data.toList).toArray.size=32;rw [Eb,oU]
theorem NS (s:Bt):(pN s).data.toList=zF 1 (rM s.data.toList):=by
 unfold pN rB;rw [Am ⟨by decide,DZ s⟩]
 rfl
theorem lQ (s:Bt):fF (pN s):=by
 have d:=NS s;have e:(pN s).size=44:=by
  rw [←aKa,d];exact GK 1 (by decide) (by decide) _ (oU _)
 refine ⟨e,fun c b=>?_⟩
 rw [d] at b;have h:uB (zF 1 (rM s.data.toList))=true:=by
  have a:uB (mF (List.replicate 1 0++rM s.data.toList))=true:=GB 11 _ (by rw [Lg,oU];rfl)
  have g:uB ((mF (List.replicate 1 0++rM s.data.toList)).drop 1)=true:=by
   unfold uB at a ⊢;rw [Ax] at a ⊢;exact fun x i=>a x (List.mem_of_mem_drop i)
  show uB ([69]++(mF (List.replicate 1 0++rM s.data.toList)).drop 1)=true
  rw [xO,g]
  decide
 unfold uB at h;rw [Ax] at h;have f:=Ci (h c b);have:∀k:Fin 256,aGk k.1 ≠ 0→35≤k.1∧k.1≤122∧k.1 ≠ 92:=by decide +kernel
 exact this ⟨c.toNat,c.toNat_lt⟩ f
theorem aEp (s:Bt):∃r,(pN s).data.toList=69::r:=⟨_,(NS s).trans rfl⟩
theorem tE {t:Bt} (h:fF t):aZ t=true:=by
 unfold aZ;have b:t.data.toList.length=t.size:=by rw [Ah];rfl
 rw [h.1,Lib.validD_ascii t.data.toList.length t.data.toList (fun c a=>by have:=h.2 c (List.mem_of_mem_take a);omega),List.drop_length]
 rfl
theorem nK {l:Ub} (h:∀c,c ∈ l→35≤c.toNat∧c.toNat≤122∧c.toNat ≠ 92):bE l=34::(l++[34]):=by
 have e:l.flatMap eN=l:=by
  induction l with
  | nil=>rfl
  | cons c t ih=>
   rw [Cl,ih fun c a=>h c (by simp [a])]
   have b:eN c=[c]:=by
    have:∀k:Fin 256,35≤k.1→k.1≤122→k.1 ≠ 92→eN (UInt8.ofNat k.1)=[UInt8.ofNat k.1]:=by decide +kernel
    have a:=h c (by simp)
    have:=this ⟨c.toNat,c.toNat_lt⟩ a.1 a.2.1 a.2.2
    rwa [show UInt8.ofNat c.toNat=c from Dp] at this
   rw [b];rfl
 unfold bE;rw [e]
def wrD (k:Int) (d:Nat) (x:ND):Ub:=if k=1 then aR d x else if k=2 then aU d x else aW d x
theorem XJ {a b:Bt} (d:fF a) (c:fF b) (k:Int):(wrD k 7 (tN a)).length=(wrD k 7 (tN b)).length:=by
 have e:a.data.toList.length=44:=by rw [Ah];exact d.1
 have lb:b.data.toList.length=44:=by rw [Ah];exact c.1
 unfold wrD
 split
 ·show (bE a.data.toList).length=(bE b.data.toList).length
  rw [nK d.2,nK c.2];simp only [Ag,Lg,e,lb]
 ·split
  ·show (cR 3 a.size++a.data.toList).length=(cR 3 b.size++b.data.toList).length
   rw [d.1,c.1,Lg,Lg,e,lb]
  ·show (cH (gU a.size) a.size++a.data.toList).length=(cH (gU b.size) b.size++b.data.toList).length
   rw [d.1,c.1,Lg,Lg,e,lb]
theorem gD {c d e f:Type} (F:d→e→f) (a:c→d) (b:c→e):∀L:List c,List.zipWith F (L.map a) (L.map b)=L.map fun q=>F (a q) (b q)
 | []=>rfl
 | q::L=>by rw [Bq,Bq,Bh,gD F a b L];rfl
theorem EG {a:Type} (f g:a→Ub):∀L:List a,(∀q,q ∈ L→(f q).length=(g q).length)→(dK (L.map f)).length=(dK (L.map g)).length
 | [],_=>rfl
 | [q],h=>h q (by simp)
 | q::r::L,h=>by
  have c:=EG f g (r::L) fun x b=>h x (by simp [b])
  have d:=h q (by simp)
  show (f q++44::dK ((r::L).map f)).length=(g q++44::dK ((r::L).map g)).length
  rw [Lg,Lg,Ag,Ag,c,d]
theorem BF {a:Type} (f g:a→Ub):∀L:List a,(∀q,q ∈ L→(f q).length=(g q).length)→(L.map f).flatten.length=(L.map g).flatten.length
 | [],_=>rfl
 | q::L,h=>by
  have c:=BF f g L fun x b=>h x (by simp [b])
  rw [Bq,Bq,Bv,Bv,Lg,Lg,c,h q (by simp)]
theorem aJh {k:Int} {B:AL} {f g:Bt × ND→Bt × ND} (c:∀q,(f q).1=q.1) (d:∀q,(g q).1=q.1) (h:∀q,q ∈ B→(wrD k 7 (f q).2).length=(wrD k 7 (g q).2).length):(wrL k (mkA (B.map f))).length=(wrL k (mkA (B.map g))).length:=by
 have a:∀f:Bt × ND→Bt × ND,(∀q,(f q).1=q.1)→mkA (B.map f)=.mk 5 false 0 ⟨#[]⟩ (B.map (·.1)) (B.map fun q=>(f q).2):=fun f c=>by
  unfold mkA bU;rw [Di,Di]
  congr 1
  exact Ct fun q _=>c q
 rw [a f c,a g d];clear a;unfold wrD at h;unfold wrL
 split
 ·rename_i hk
  simp only [hk,if_true] at h
  show (123::(dK (List.zipWith (fun s y=>bE s.data.toList++58::aR 7 y) (B.map (·.1)) (B.map fun q=>(f q).2))++[125])).length=(123::(dK (List.zipWith (fun s y=>bE s.data.toList++58::aR 7 y) (B.map (·.1)) (B.map fun q=>(g q).2))++[125])).length
  rw [gD,gD,Ag,Ag,Lg,Lg,EG (fun q=>bE q.1.data.toList++58::aR 7 (f q).2) (fun q=>bE q.1.data.toList++58::aR 7 (g q).2) B fun q b=>by simp only [Lg,Ag,h q b]]
 ·rename_i hk
  simp only [hk,if_false] at h
  split
  ·rename_i hk2
   simp only [hk2,if_true] at h
   show (cR 5 (B.map fun q=>(f q).2).length++(List.zipWith (fun s y=>fT s++aU 7 y) (B.map (·.1)) (B.map fun q=>(f q).2)).flatten).length=(cR 5 (B.map fun q=>(g q).2).length++(List.zipWith (fun s y=>fT s++aU 7 y) (B.map (·.1)) (B.map fun q=>(g q).2)).flatten).length
   rw [gD,gD,Bk,Bk,Lg,Lg,BF (fun q=>fT q.1++aU 7 (f q).2) (fun q=>fT q.1++aU 7 (g q).2) B fun q b=>by simp only [Lg,h q b]]
  ·rename_i hk2
   simp only [hk2,if_false] at h
   show (cH (kR (B.map fun q=>(f q).2).length) (B.map fun q=>(f q).2).length++(List.zipWith (fun s y=>eR s++aW 7 y) (B.map (·.1)) (B.map fun q=>(f q).2)).flatten).length=(cH (kR (B.map fun q=>(g q).2).length) (B.map fun q=>(g q).2).length++(List.zipWith (fun s y=>eR s++aW 7 y) (B.map (·.1)) (B.map fun q=>(g q).2)).flatten).length
   rw [gD,gD,Bk,Bk,Lg,Lg,BF (fun q=>eR q.1++aW 7 (f q).2) (fun q=>eR q.1++aW 7 (g q).2) B fun q b=>by simp only [Lg,h q b]]
theorem pB (L:AL) (ls:List Bt) (y:ND):fW (L.map (eL ls y))=(fW L).map (eL ls y):=by
 unfold fW;rw [List.filter_map]
 congr 1
 refine List.filter_congr fun q _=>?_
 show decide ((eL ls y q).1 ≠ sV)=_
 rw [kP]
theorem aAq {L:AL} {ls:List Bt} {a b t:Bt} (d:(bU L).Nodup) (g:fF a) (e:fF b) (f:sV ∉ ls) (k:Int):(wrL k (bJ (bL (mkA L) ls a) t)).length=(wrL k (bJ (bL (mkA L) ls b) t)).length:=by
 have c:∀a:Bt,bJ (bL (mkA L) ls a) t=mkA (((sV,tN t)::fW (fN L ls)).map (eL ls (tN a))):=fun a=>by
  rw [sW d,sM,mN,pB,Bq]
  congr 2
  unfold eL;rw [Ae f]
 rw [c a,c b];refine aJh (kP _ _) (kP _ _) fun q _=>?_
 unfold eL
 split
 ·exact XJ g e k
 ·rfl
theorem FL {n:ND} {ls:List Bt} {a b p:Bt} {k:Int} (h:cO 7 n) (z:fF a) (w:fF b) (P:sV ∉ ls) (G:aP 8 n=true):gA (bL n ls a) p k=gA (bL n ls b) p k∧(gA (bL n ls a) p k=0→vfZ (bL n ls a) p k=vfZ (bL n ls b) p k):=by
 have C:(bU (dR n)).Nodup:=by rw [tM h];exact h.nodup
 have K:n=mkA (dR n):=IA h;have B:cO 7 (mkA (dR n)):=by rw [←K];exact h
 have E:∀c,fF c→(aC 8 (bL n ls c)=true↔(fN (dR n) ls).length≤256∧∀l,l ∈ ls→aZ l=true):=fun c i=>by
  rw [fJ h,←GN B (tE i)];exact cK rfl
 have I:∀c,(bL n ls c).kind=5:=fun c=>by rw [fJ h];rfl
 cases hvv:aY ⟨p,1,0,k,0⟩ with
 | false=>
  have:∀c,gA (bL n ls c) p k=2:=fun c=>by unfold gA;rw [hvv];rfl
  rw [this a,this b];exact ⟨rfl,fun g=>by cases g⟩
 | true=>
  have j:1≤k∧k≤3:=by
   have:=(dF hvv).2.1;simp only at this;omega
  by_cases hval:(fN (dR n) ls).length≤256∧∀l,l ∈ ls→aZ l=true
  ·have x:∀c,fF c→gA (bL n ls c) p k=foE k (bJ (bL n ls c) (fL p k 0)):=fun c i=>by
    unfold gA;rw [hvv,Am rfl,Am ⟨I c,(E c i).2 hval⟩]
   have u:=fun t=>aAq (L:=dR n) (ls:=ls) (t:=t) C z w P k
   rw [←K] at u;have D:∀c,fF c→cO 7 (bL n ls c):=fun c i=>(cK (I c)).1 ((E c i).2 hval)
   have v:∀c,fF c→(cN (bL n ls c).names (bL n ls c).items).length=(fW (fN (dR n) ls)).length:=fun c i=>by
    have:=jK (bL n ls c) ⟨#[]⟩;rw [fJ h]
    show (fW ((bU _).zip (List.map _ _))).length=_
    rw [yN];unfold mN;rw [pB,Bk]
   have d:∀c,fF c→(aC 8 (bJ (bL n ls c) (fL p k 0))=true↔(fW (fN (dR n) ls)).length+1≤256):=fun c i=>by
    constructor
    ·intro g
     have:=DR g
     rwa [v c i] at this
    ·intro g
     exact (cK rfl).2 (yW (D c i) (by decide) (uQ hvv) (by rw [v c i];exact g))
   rw [x a z,x b w]
   by_cases A:(fW (fN (dR n) ls)).length+1≤256
   ·have s:=(d a z).2 A
    have o:=(d b w).2 A;have J:=u (fL p k 0)
    by_cases m:65536<(wrL k (bJ (bL n ls a) (fL p k 0))).length
    ·rw [IR j.1 j.2 s m,IR j.1 j.2 o (by rwa [J] at m)]
     exact ⟨rfl,fun g=>by cases g⟩
    ·have H:∀c,aP 8 (bL n ls c)=true:=fun c=>by
      rw [fJ h,cS,An,Ax];refine ⟨show dD 0=true by decide,fun y Q=>?_⟩
      obtain ⟨q,R,rfl⟩:=Bp.1 Q;obtain ⟨N,f,rfl⟩:=Bp.1 R;unfold eL
      split
      ·rw [cS];rfl
      ·rename_i hnl
       obtain ⟨r,e,-,O⟩:=kT ls (dR n);rw [e] at f;rcases Bg.1 f with f | f
       ·rw [cS,An,Ax] at G
        exact G.2 _ (List.of_mem_zip f).2
       ·exact absurd (O N f).1 hnl
     have M:FoK k (bJ (bL n ls a) (fL p k 0)):=⟨j.1,j.2,s,gT (H a),by omega⟩
     have F:FoK k (bJ (bL n ls b) (fL p k 0)):=⟨j.1,j.2,o,gT (H b),by omega⟩
     refine ⟨by rw [M.err.1,F.err.1],fun _=>?_⟩
     unfold vfZ;rw [M.size,F.size,J]
   ·have s:aC 8 (bJ (bL n ls a) (fL p k 0))=false:=by cases g:aC 8 (bJ (bL n ls a) (fL p k 0)) with | false=>rfl | true=>exact absurd ((d a z).1 g) A
    have o:aC 8 (bJ (bL n ls b) (fL p k 0))=false:=by cases g:aC 8 (bJ (bL n ls b) (fL p k 0)) with | false=>rfl | true=>exact absurd ((d b w).1 g) A
    rw [SH j.1 j.2 s,SH j.1 j.2 o];exact ⟨rfl,fun g=>by cases g⟩
  ·have:∀c,fF c→gA (bL n ls c) p k=1:=fun c i=>by
    unfold gA;rw [hvv,Am rfl,Ae fun g=>hval ((E c i).1 g.2)]
   rw [this a z,this b w];exact ⟨rfl,fun g=>by cases g⟩
def spE (n:ND) (ls:List Bt) (p:Bt) (k:Int):Int:=if ls=[]∨sV ∈ ls∨aY ⟨p,1,0,k,0⟩=false then 2 else if n.kind=5∧aC 8 n=true then gA (bL n ls fD) p k else 1
def spD (n:ND) (ls:List Bt) (p:Bt) (k:Int):Bt:=pN (mK (bL n ls fD) p k)
def spM (n:ND) (ls:List Bt) (p:Bt) (k:Int):ND:=bL n ls (spD n ls p k)
def spX (n:ND) (ls:List Bt) (p:Bt) (k:Int):ND:=if spE n ls p k=0 then bI (spM n ls p k) p k else nd0
def spS (n:ND) (ls:List Bt) (p:Bt) (k:Int):Bt:=if spE n ls p k=0 then foS k (bI (spM n ls p k) p k) else ⟨#[]⟩
theorem sU (n:ND) (ls:List Bt) (p:Bt) (k:Int) (c:aC 8 n=true→aP 8 n=true):((ls=[]∨sV ∈ ls∨aY ⟨p,1,0,k,0⟩=false)∧spE n ls p k=2)∨(ls ≠ []∧sV ∉ ls∧aY ⟨p,1,0,k,0⟩=true∧¬ (n.kind=5∧aC 8 n=true)∧spE n ls p k=1)
 ∨ (ls ≠ []∧sV ∉ ls∧aY ⟨p,1,0,k,0⟩=true∧cO 7 n∧aP 8 n=true∧spE n ls p k=gA (bL n ls fD) p k∧gA (spM n ls p k) p k=gA (bL n ls fD) p k):=by
 by_cases h:ls=[]∨sV ∈ ls∨aY ⟨p,1,0,k,0⟩=false
 ·exact .inl ⟨h,by unfold spE;rw [Am h]⟩
 ·have d:ls ≠ []:=fun e=>h (.inl e)
  have b:sV ∉ ls:=fun e=>h (.inr (.inl e))
  have f:aY ⟨p,1,0,k,0⟩=true:=by cases e:aY ⟨p,1,0,k,0⟩ with | true=>rfl | false=>exact absurd (.inr (.inr e)) h
  by_cases a:n.kind=5∧aC 8 n=true
  ·have g:cO 7 n:=(cK a.1).1 a.2
   exact .inr (.inr ⟨d,b,f,g,c a.2,by unfold spE;rw [Ae h,Am a],(FL g (lQ _) lP b (c a.2)).1⟩)
  ·exact .inr (.inl ⟨d,b,f,a,by unfold spE;rw [Ae h,Ae a]⟩)
end Go.Proofs.YtncdpanfefnjlaaGreatDoor
namespace Go.Proofs.YtncdpanfefnjlaaGreatDoor
open Go.Proofs.Tryz
open Go Go.ChangeShapes Go.WideShapes Go.ChangeAt Go.RowKit
theorem aHr {ns:List Bt} {s:Bt}:(s ∈ ns∧∃i:Nat,DF ns s=(i:Int)∧ns[i]?=some s)∨(s ∉ ns∧DF ns s=-1):=by
 unfold DF;cases h:ns.findIdx? (fun t=>decide (t=s)) with
 | some i=>exact .inl ⟨Ao (fM h).1,i,rfl,(fM h).1⟩
 | none=>exact .inr ⟨nU h,rfl⟩
theorem WX {S:Nat→Prop} (v:Value) (ns:List Bt) (s:Bt) (w:World) (h:bH S w v ns):Calls prog 21 #[v,.string s] w fun e w'=>e=.returned (.bool (decide (s ∈ ns)))∧w=w':=by
 have c:=Hh (AY v ns s w h);clear h;rcases aHr (ns:=ns) (s:=s) with ⟨a,i,b,-⟩ | ⟨a,b⟩
 ·rw [b] at c
  rw [Ap a];have f:(0:Int)≤(i:Int):=by omega
  clear a b
  go_enter func21,ntmps21
  go_wp2_with (go_at_call 42;(with_reducible refine (c.o).mono ?_);rintro e d ⟨rfl,rfl⟩)
  go_ret
  exact ⟨rfl,rfl⟩
 ·rw [b] at c
  rw [Ar a];clear a b
  go_enter func21,ntmps21
  go_wp2_with (go_at_call 42;(with_reducible refine (c.o).mono ?_);rintro e d ⟨rfl,rfl⟩)
  go_ret
  exact ⟨rfl,rfl⟩
theorem SB (p:Bt) (k:Int) (c:wI k) (w:World):Calls prog 22 #[.string p,Iz k] w fun e w'=>e=.returned (.bool (aY ⟨p,1,0,k,0⟩))∧Below w.heap.size w w':=by
 have a:Hid (Calls prog 43 #[.agg #[.string p,Iz 1,Iz 0,Iz k,Iz 0]] w fun e w'=>e=.returned (.bool (aY ⟨p,1,0,k,0⟩))∧Below w.heap.size w w'):=Hh (rJ ⟨p,1,0,k,0⟩ w ⟨show wI 1 from by unfold wI;omega,show wI 0 from by unfold wI;omega,c,show wI 0 from by unfold wI;omega⟩)
 clear c;generalize aY ⟨p,1,0,k,0⟩=b at a ⊢
 go_enter func22,ntmps22
 go_wp2_with (go_at_call 43;(with_reducible refine (a.o).mono ?_);rintro e f ⟨rfl,d⟩)
 go_ret
 exact ⟨rfl,d⟩
theorem vQ (w:World) (d:Lay w):Calls prog 16 #[] w fun e w'=>e=.returned (.string fD)∧Below w.heap.size w w':=by
 have f:=Hh (OU 1 w d);rw [show EB 1=44 from rfl] at f
 have g:Hid (∀a:World,Calls prog 33 #[.string ⟨#[35]⟩,Iz 44] a fun e w'=>e=.returned (.string fD)∧Below a.heap.size a w'):=Hh (fun a=>by
  have:=Any.strings_Repeat KQ aAx ⟨#[35]⟩ 44 a (by omega) (by show 1 * 44≤_;omega)
  rw [show (⟨#[35]⟩:Bt).data.toList=[35] from rfl,show Lib.repeatL [35] 44=aLi from rfl] at this
  exact this)
 clear d
 go_enter func16,ntmps16
 go_wp2_with (first
  | (go_at_call 34;(with_reducible refine (f.o).mono ?_);rintro e i ⟨rfl,c⟩)
  | (go_at_call 33;(with_reducible refine (g.o _).mono ?_);rintro e h ⟨rfl,b⟩))
 go_ret
 exact ⟨rfl,c.trans (b.mono c.size)⟩
theorem BP (s:Bt) (w:World) (j:s.size≤1099511627776) (g:JI w) (i:Lay w):Calls prog 18 #[.string s] w fun e w'=>e=.returned (.string (pN s))∧Below w.heap.size w w':=by
 have h:=Hh (aGs s w j g);have c:Hid (∀a:World,Below w.heap.size w a→Calls prog 38 #[Iz 1,.string ⟨(rM s.data.toList).toArray⟩] a fun e w'=>e=.returned (.string (pN s))∧Below a.heap.size a w'):=Hh (fun a b=>VQ 1 (aJm s) a (by rw [DZ];decide) (i.go b))
 generalize (⟨(rM s.data.toList).toArray⟩:Bt)=q at h c;generalize pN s=d at c ⊢;clear j g i
 go_enter func18,ntmps18
 go_wp2_with (first
  | (go_at_call 39;(with_reducible refine (h.o).mono ?_);rintro e k ⟨rfl,b⟩)
  | (go_at_call 38;(with_reducible refine (c.o _ b).mono ?_);rintro e l ⟨rfl,f⟩))
 go_ret
 exact ⟨rfl,b.trans (f.mono b.size)⟩
theorem bH.cells {S:Nat→Prop} {w:World} {a:Addr} {l c:Nat} {ns:List Bt} (h:bH S w (.slice (some a) l c) ns):l=ns.length∧∀j u,(ns.map Value.string)[j]?=some u→w.cell? (a.add j)=some u:=by
 obtain ⟨n,d,e,o,p,k⟩:=h;cases e;refine ⟨rfl,fun j u f=>?_⟩
 rw [Be] at f;obtain ⟨s,g,rfl⟩:=Option.map_eq_some_iff.1 f;obtain ⟨b,i,e,-,m,-⟩:=k j s g;cases e;rw [Bs];exact m
theorem TA {S:Nat→Prop} (v:Value) (ns:List Bt) (w:World) (h:bH S w v ns) (X:ns.length≤1000000):Calls prog 48 #[v] w fun e w'=>∃B:Value,e=.returned B∧jS 9 w.heap.size w' B ns∧Below w.heap.size w w':=by
 obtain ⟨L,g,C,r,z⟩:=rD;have n:=underlying25;have Q:=Hh g;have d:Hid (∀s,s ∈ ns→s.size≤maxLen - 2):=Hh fun s N=>h.sizes s N
 clear g;obtain ⟨H,D,I,Y,T,A⟩:=id h;subst I;unfold maxLen at T;have Z:=fun (K:World)=>Lib.run_eql_slice_nil (P:=prog) K 25
 cases H with
 | none=>
  have U:ns=[]:=by
   cases ns with
   | nil=>rfl
   | cons x t=>obtain ⟨_,_,h,_⟩:=A 0 x rfl;cases h
  subst U;clear h A
  go_enter func48,ntmps48
  go_wp2
  go_ret
  exact ⟨_,rfl,⟨Dk _ _ _ _,d.o⟩,Br _ _⟩
 | some a=>
  obtain ⟨-,p⟩:=h.cells;have m:=(Br w.heap.size w).alloc (o:=.cells #[] 9) (Lr _);have F:=Ed (base:=w.heap.size) (size:=1) (e:=9) w #[] 0 (Lr _) (by decide) rfl
  have b:∀u ∈ ns.map Value.string,u.oneCell'=true:=by
   intro u M;obtain ⟨y,W,rfl⟩:=Bp.1 M
   rfl
  have f:∀j u,(ns.map Value.string)[j]?=some u→(w.alloc (.cells #[] 9)).cell? (a.add j)=some u:=fun j u E=>(m.cell (cD (p j u E))).trans (p j u E)
  have G:=Hh F;have q:=Hh f;have i:=Hh b;have O:=Hh m;have k:=m.size;clear h A p F b f m
  go_enter func48,ntmps48
  go_wp2_with ((refine wpList_append_own_at _ rfl (.tmp 5) (.tmp 6) 25 rfl w.heap.size 9 L (.string ⟨#[]⟩) 1 16 n Q.o C r z rfl (by decide) (.slice (some ⟨w.heap.size,0,none⟩) 0 0) 0 [] rfl G.o a ns.length D (ns.map Value.string) rfl (by rw [Bk,Nat.mul_one]) q.o i.o (by unfold maxLen;omega) (by omega) k ?_);intro B V l c J R)
  go_ret
  refine ⟨_,rfl,⟨?_,d.o⟩,?_⟩
  ·simpa using l
  ·exact iG O.o G.o c k
end Go.Proofs.YtncdpanfefnjlaaGreatDoor
namespace Go.Proofs.YtncdpanfefnjlaaGreatDoor
open Go.Proofs.Tryz
open Go Go.Maps Go.ChangeShapes Go.WideShapes Go.ChangeAt Go.RowKit
def pDr:List Bt→DataW Unit
 | []=>.map []
 | s::r=>(pDr r).put (.string s.data.toList) (.lit (.int .i64 r.length))
def pD (ns:List Bt):DataW Unit:=pDr ns.reverse
theorem aGz (ns:List Bt) (s:Bt):pD (ns++[s])=(pD ns).put (.string s.data.toList) (.lit (.int .i64 ns.length)):=by
 unfold pD;rw [List.reverse_append]
 show (pDr ns.reverse).put _ (.lit (.int .i64 (ns.reverse.length:Nat)))=_
 rw [List.length_reverse]
theorem ES:∀r,IsMap (pDr r)
 | []=>isMap_empty
 | _::r=>(ES r).put _ _
theorem aBz (l:Bt):∀r:List Bt,(l ∈ r∧Maps.has (pDr r) (.string l.data.toList)=true∧∃i:Nat,r.reverse[i]?=some l∧∀z,(pDr r).atKey (.string l.data.toList) z=.lit (.int .i64 i))∨(l ∉ r∧Maps.has (pDr r) (.string l.data.toList)=false∧∀z,(pDr r).atKey (.string l.data.toList) z=z)
 | []=>.inr ⟨by simp,rfl,fun z=>rfl⟩
 | s::r=>by
  have j:=ES r;have d:Maps.has (pDr (s::r)) (.string l.data.toList)=(decide (l.data.toList=s.data.toList) || Maps.has (pDr r) (.string l.data.toList)):=oY j _ _ _;have g:∀z,(pDr (s::r)).atKey (.string l.data.toList) z=if l.data.toList=s.data.toList then .lit (.int .i64 r.length) else (pDr r).atKey (.string l.data.toList) z:=fun z=>tD j _ _ _ _
  by_cases h:l=s
  ·subst h
   refine .inl ⟨by simp,by rw [d,Ap rfl];rfl,r.length,?_,fun z=>by rw [g,Am rfl]⟩
   rw [List.reverse_cons,Dr (by rw [List.length_reverse];exact Lr _),List.length_reverse,Nat.sub_self]
   rfl
  ·have a:l.data.toList ≠ s.data.toList:=fun e=>h (Cr (Cg.1 e))
   rcases aBz l r with ⟨c,f,i,b,k⟩ | ⟨c,f,b⟩
   ·refine .inl ⟨by simp [c],by rw [d,f];simp,i,?_,fun z=>by rw [g,Ae a,k]⟩
    rw [List.reverse_cons,Cs (dT b)];exact b
   ·exact .inr ⟨by simp [c,h],by rw [d,f,Ar a];rfl,fun z=>by rw [g,Ae a,b]⟩
theorem aLe (l:Bt) (ns:List Bt):(l ∈ ns∧Maps.has (pD ns) (.string l.data.toList)=true∧∃i:Nat,ns[i]?=some l∧∀z,(pD ns).atKey (.string l.data.toList) z=.lit (.int .i64 i))∨(l ∉ ns∧Maps.has (pD ns) (.string l.data.toList)=false∧∀z,(pD ns).atKey (.string l.data.toList) z=z):=by
 have h:=aBz l ns.reverse;rw [List.reverse_reverse] at h
 simpa [pD] using h
structure TxS (P:Program) (TN TS TI:TypeId) (d B:Nat) (S:Nat→Prop) (w1 wx:World) (gb gm:Nat) (vn vi:Value) (ns:List Bt) (A:List NC) (ms:List Bt):Prop where
 nod:wx.heap[gb]?=some (.cells #[Iz 5,.bool false,Iz 0,.string ⟨#[]⟩,vn,vi] TN (0,0))
 lo:B≤gb
 names:jS TS B wx vn ns
 items:wx.ownsRow B TN 6 vi A.length (cM A)
 s1:vn.ownBlock ≠ some gb
 s2:vi.ownBlock ≠ some gb
 s3:∀b,vn.ownBlock=some b→vi.ownBlock ≠ some b
 map:wx.ownsMap P TS (plainElem (H:=Unit) P TI) gm ms.length (pD ms)
 m0:B≤gm∧gm ≠ gb
 m1:vn.ownBlock ≠ some gm
 m2:vi.ownBlock ≠ some gm
 old:∀y,y ∈ A→aD d S w1 y.1 y.2
 low:∀b,S b→b<B
 bel:Below B w1 wx
section
variable {P:Program} {TN TS TI:TypeId} {d B:Nat} {S:Nat→Prop} {w1 wx wn:World} {gb gm:Nat} {vn vi:Value} {ns:List Bt} {A:List NC} {ms:List Bt}
theorem fO {B:Nat} {d h f:World} {row:Option Nat} (a:Below B d h) (j:B≤d.heap.size) (c:h.grownBy f row) (k:∀b,row=some b→B≤b):Below B d f:=
 ⟨c.os.trans a.os,c.tape.trans a.tape,c.output.trans a.output,Af a.size c.size,fun i g=>(c.block i (Ll g (Af j a.size)) (fun e=>by have:=k i e.symm;omega)).trans (a.block i g)⟩
theorem TxS.below (h:TxS P TN TS TI d B S w1 wx gb gm vn vi ns A ms) (a:Below wx.heap.size wx wn):TxS P TN TS TI d B S w1 wn gb gm vn vi ns A ms:=by
 have c:∀ {b:Nat} {o:Obj},wx.heap[b]?=some o→wn.heap[b]?=some o:=fun h=>(a.block _ (Aa h)).trans h
 exact ⟨c h.nod,h.lo,h.names.below a,fQ h.items a,h.s1,h.s2,h.s3,Cu h.map (row:=none) ⟨a.os,a.tape,a.output,a.size,fun i e _=>a.block i e⟩ (by simp),h.m0,h.m1,h.m2,h.old,h.low,h.bel.trans (a.mono (by have:=h.lo;have:=Aa h.nod;omega))⟩
theorem TxS.forms (h:TxS P TN TS TI d B S w1 wx gb gm vn vi ns A ms):(∃m i,vn=.slice m ns.length i)∧∃j f,vi=.slice j A.length f:=by
 constructor
 ·obtain ⟨a,c,e,_⟩:=h.names.strs;exact ⟨a,c,e⟩
 ·rcases h.items.2 with ⟨rfl,k⟩ | ⟨g,b,l,rfl,_⟩
  ·exact ⟨none,0,by rw [k]⟩
  ·exact ⟨_,b,rfl⟩
theorem TxS.node (h:TxS P TN TS TI d B S w1 wx gb gm vn vi ns A ms):aD (d+1) (fun b=>b<wx.heap.size∧(B≤b∨S b)) wx [Iz 5,.bool false,Iz 0,.string ⟨#[]⟩,vn,vi] (.mk 5 false 0 ⟨#[]⟩ ns (aG A)):=by
 have r:B≤wx.heap.size:=by have:=h.lo;have:=Aa h.nod;omega
 refine ⟨vn,vi,rfl,Av _,h.names.strs.mono fun b a=>⟨a.2,.inl a.1⟩,?_⟩
 have p:(aG A).length=A.length:=by simp [aG]
 have t:∀y,y ∈ A→y.1.length=6:=fun y F=>(h.old y F).len
 have o:=h.items;rcases o.2 with ⟨rfl,m⟩ | ⟨g,n,w,rfl,a,s,k,l,v,D⟩
 ·have q:A=[]:=Aw.1 m
  subst q;exact cE.nil _ _ _
 ·refine ⟨_,n,by rw [show (ND.mk 5 false 0 ⟨#[]⟩ ns (aG A)).items=aG A from rfl,p],by rw [show (ND.mk 5 false 0 ⟨#[]⟩ ns (aG A)).items=aG A from rfl,p];exact k,l,fun j x C=>?_⟩
  have c:(aG A)[j]?=some x:=C;have i:j<A.length:=by have:=dT c;omega
  have e:A[j]?=some (A[j].1,A[j].2):=by rw [Ac i]
  have E:x=A[j].2:=by
   rw [aG,Be,e] at c;exact (Ab c).symm
  subst E;refine ⟨g,0,A[j].1,rfl,⟨Aa s,.inl a⟩,fun f u z=>?_,((h.old _ (Du i)).same fun b a=>h.bel.block b (h.low b a)).mono fun b a=>⟨Ll (h.low b a) r,.inr a⟩⟩
  have:=o.cells (g:=g) rfl _ _ (jX t e f u z);rw [Bs,←Nat.add_assoc] at this;exact this
theorem TxS.putm {s:Bt} (h:TxS P TN TS TI d B S w1 wx gb gm vn vi ns A ms) (f:B≤w1.heap.size) (a:wn.ownsMap P TS (plainElem (H:=Unit) P TI) gm (ms.length+1) ((pD ms).put (.string s.data.toList) (.lit (.int .i64 ms.length)))) (c:wx.grownBy wn (some gm)):TxS P TN TS TI d B S w1 wn gb gm vn vi ns A (ms++[s]):=by
 refine ⟨(c.block gb (Aa h.nod) (fun e=>h.m0.2 (Ab e).symm)).trans h.nod,h.lo,h.names.kept c (.inr h.m1),h.items.kept c (.inr h.m2),h.s1,h.s2,h.s3,?_,h.m0,h.m1,h.m2,h.old,h.low,fO h.bel f c fun b e=>by have:=Ab e;have:=h.m0.1;omega⟩
 rw [Lg,aGz];exact a
theorem TxS.name {a:Value} {s:Bt} (h:TxS P TN TS TI d B S w1 wx gb gm vn vi ns A ms) (p:B≤w1.heap.size) (i:wn.ownsRow B TS 1 a (ns.length+1) (ns.map Value.string++[.string s])) (k:wx.grownBy wn vn.ownBlock) (l:a.ownBlock=vn.ownBlock∨∀b,a.ownBlock=some b→wx.heap.size≤b) (t:s.size≤maxLen - 2) :
 TxS P TN TS TI d B S w1 (wn.setCell ⟨gb,4,none⟩ a) gb gm a vi (ns++[s]) A ms:=by
 have g:=Aa h.nod;have n:=World.ownsMap.lt h.map;have f:=aV wn gb 4 a;have j:∀c,c<wx.heap.size→vn.ownBlock ≠ some c→a.ownBlock ≠ some c:=fun c v r e=>by
  rcases l with o | o
  ·rw [o] at e;exact r e
  ·have:=o c e;omega
 refine ⟨lW ((k.block gb g (fun e=>h.s1 e.symm)).trans h.nod) a,h.lo,(h.names.push i t).kept f (.inr (j gb g h.s1)),?_,j gb g h.s1,h.s2,?_,Cu (Cu h.map k (fun e=>h.m1 e.symm)) f (fun e=>h.m0.2 (Ab e)),h.m0,j gm n h.m1,h.m2,h.old,h.low,fO (fO h.bel p k fun b e=>(h.names.1.lt b e).1) p f fun b e=>by have:=Ab (show some gb=some b from e);have:=h.lo;omega⟩
 ·refine (h.items.kept k ?_).kept f (.inr fun e=>h.s2 e)
  cases m:vi.ownBlock with
  | none=>exact .inl rfl
  | some b2=>exact .inr fun u=>h.s3 b2 u.symm m
 ·intro b q e
  exact j b (h.items.lt b e).2 (fun m=>h.s3 b m e) q
theorem TxS.item {a:Value} {m:Vl} {y:ND} (h:TxS P TN TS TI d B S w1 wx gb gm vn vi ns A ms) (r:B≤w1.heap.size) (j:wn.ownsRow B TN 6 a (A.length+1) (cM A++m)) (l:wx.grownBy wn vi.ownBlock) (n:a.ownBlock=vi.ownBlock∨∀b,a.ownBlock=some b→wx.heap.size≤b) (v:aD d S w1 m y) :
 TxS P TN TS TI d B S w1 (wn.setCell ⟨gb,5,none⟩ a) gb gm vn a ns (A++[(m,y)]) ms:=by
 have g:=Aa h.nod;have o:=World.ownsMap.lt h.map;have f:=aV wn gb 5 a;have k:∀c,c<wx.heap.size→vi.ownBlock ≠ some c→a.ownBlock ≠ some c:=fun c w u e=>by
  rcases n with q | q
  ·rw [q] at e;exact u e
  ·have:=q c e;omega
 refine ⟨kO ((l.block gb g (fun e=>h.s2 e.symm)).trans h.nod) a,h.lo,?_,?_,h.s1,k gb g h.s2,?_,Cu (Cu h.map l (fun e=>h.m2 e.symm)) f (fun e=>h.m0.2 (Ab e)),h.m0,h.m1,k gm o h.m2,?_,h.low,fO (fO h.bel r l fun b e=>(h.items.lt b e).1) r f fun b e=>by have:=Ab (show some gb=some b from e);have:=h.lo;omega⟩
 ·refine (h.names.kept l ?_).kept f (.inr fun e=>h.s1 e)
  cases p:vn.ownBlock with
  | none=>exact .inl rfl
  | some b2=>exact .inr fun t=>h.s3 b2 p t.symm
 ·refine World.ownsRow.kept ?_ f (.inr (k gb g h.s2))
  rw [Lg,kJ]
  simpa [cM] using j
 ·intro b s e
  exact k b (h.names.1.lt b s).2 (fun p=>h.s3 b s p) e
 ·intro z i
  rcases Bg.1 i with i | i
  ·exact h.old z i
  ·cases At.1 i;exact v
theorem TxS.set {g k i:Nat} {a b c l e f:Value} {y:ND} (h:TxS P TN TS TI d B S w1 wx gb gm vn (.slice (some ⟨g,0,none⟩) A.length k) ns A ms) (q:B≤w1.heap.size) (t:i<A.length) (p:aD d S w1 [a,b,c,l,e,f] y) :
 TxS P TN TS TI d B S w1 ((((((wx.setCell ⟨g,i * 6,none⟩ a).setCell ⟨g,i * 6+1,none⟩ b).setCell ⟨g,i * 6+2,none⟩ c).setCell ⟨g,i * 6+3,none⟩ l).setCell ⟨g,i * 6+4,none⟩ e).setCell ⟨g,i * 6+5,none⟩ f) gb gm vn (.slice (some ⟨g,0,none⟩) A.length k) ns (A.set i ([a,b,c,l,e,f],y)) ms:=by
 have n:=zI wx g (i * 6) a b c l e f;have j:=LX h.items i a b c l e f;have s:∀y,y ∈ A→y.1.length=6:=fun y p=>(h.old y p).len
 rw [rS A i a b c l e f y s t] at j;have r:=(h.items.lt g rfl);have m:g ≠ gb:=fun e=>h.s2 (by rw [e];rfl)
 refine ⟨(n.block gb (Aa h.nod) (fun e=>m (Ab e).symm)).trans h.nod,h.lo,h.names.kept n ?_,by rw [List.length_set];exact j,h.s1,h.s2,h.s3,Cu h.map n (fun e=>h.m2 (by rw [e];rfl)),h.m0,h.m1,h.m2,?_,h.low,fO h.bel q n fun b e=>by have:=Ab e;omega⟩
 ·cases e2:vn.ownBlock with
  | none=>exact .inl rfl
  | some b2=>exact .inr fun u=>h.s3 b2 e2 (show (Value.slice (some ⟨g,0,none⟩) A.length k).ownBlock=some b2 from u.symm)
 ·intro z o
  rcases List.mem_or_eq_of_mem_set o with o | rfl
  ·exact h.old z o
  ·exact p
end
end Go.Proofs.YtncdpanfefnjlaaGreatDoor