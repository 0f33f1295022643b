/- Fit as data: the map with the text of its version in front. No program. -/
import Derived.Test.YtcklddldejejcaaGreatDoorVdoz
set_option linter.unusedVariables false
set_option linter.unusedSimpArgs false
namespace Go.Proofs.YtcklddldejejcaaGreatDoor
open Go
def sV:ByteArray:=⟨#[118]⟩
def tN (t:ByteArray):ND:=.mk 3 false 0 t [] []
def keepL (ns:List ByteArray) (its:List ND):List (ByteArray × ND):=(ns.zip its).filter fun q=>decide (q.1 ≠ sV)
def withV (n:ND) (t:ByteArray):ND:=.mk 5 false 0 ⟨#[]⟩ (sV::(keepL n.names n.items).map (·.1)) (tN t::(keepL n.names n.items).map (·.2))
def fitT (p:ByteArray) (k z:Int):ByteArray:=vtS ⟨p,1,0,k,z⟩
def vfZ (n:ND) (p:ByteArray) (k:Int):Int:=((foS k (withV n (fitT p k 0))).size:Nat)
def fitN (n:ND) (p:ByteArray) (k:Int):ND:=withV n (fitT p k (vfZ n p k))
def fitE (n:ND) (p:ByteArray) (k:Int):Int:=if validV ⟨p,1,0,k,0⟩ then (if n.kind=5∧validN 8 n=true then foE k (withV n (fitT p k 0)) else 1) else 2
def fitX (n:ND) (p:ByteArray) (k:Int):ND:=if fitE n p k=0 then fitN n p k else nd0
def fitS (n:ND) (p:ByteArray) (k:Int):ByteArray:=if fitE n p k=0 then foS k (fitN n p k) else ⟨#[]⟩
theorem keep_length (ns:List ByteArray) (its:List ND):(keepL ns its).length≤its.length:=by
 have h1:(keepL ns its).length≤(ns.zip its).length:=List.length_filter_le _ _
 rw [List.length_zip] at h1
 omega
theorem keep_mem {ns:List ByteArray} {its:List ND} {q:ByteArray × ND} (h:q ∈ keepL ns its):q.1 ∈ ns∧q.2 ∈ its∧q.1 ≠ sV:=by
 obtain ⟨h1,h2⟩:=List.mem_filter.1 h
 have:=List.of_mem_zip h1
 exact ⟨this.1,this.2,of_decide_eq_true h2⟩
theorem zip_fst_sub {α β:Type}:∀ (l:List α) (m:List β),((l.zip m).map (·.1)).Sublist l
 | [],_=>by simp
 | a::l,[]=>by simp
 | a::l,b::m=>by simpa using zip_fst_sub l m
theorem keep_nodup {ns:List ByteArray} {its:List ND} (h:ns.Nodup):((keepL ns its).map (·.1)).Nodup:=by
 have hs:((keepL ns its).map (·.1)).Sublist ((ns.zip its).map (·.1)):=(List.filter_sublist).map _
 exact hs.nodup ((zip_fst_sub ns its).nodup h)
theorem keep_fst (n:ND) (t:ByteArray):(withV n t).names.length=(keepL n.names n.items).length+1∧(withV n t).items.length=(keepL n.names n.items).length+1:=by
 unfold withV ND.names ND.items
 simp
theorem withV_ok {d:Nat} {n:ND} {t:ByteArray} (h:MapOk d n) (hd:1≤d) (ht:textOk t=true) (hl:(keepL n.names n.items).length+1≤256):MapOk d (withV n t):=by
 refine ⟨rfl,rfl,rfl,rfl,?_,?_,?_,?_,?_⟩
 ·rw [(keep_fst n t).1,(keep_fst n t).2]
 ·rw [(keep_fst n t).2];exact hl
 ·intro s hs
  rcases List.mem_cons.1 hs with rfl | hs
  ·decide
  ·obtain ⟨q,hq,rfl⟩:=List.mem_map.1 hs
   exact h.texts _ (keep_mem hq).1
 ·refine List.nodup_cons.2 ⟨fun hm=>?_,keep_nodup h.nodup⟩
  obtain ⟨q,hq,e⟩:=List.mem_map.1 hm
  exact (keep_mem hq).2.2 e
 ·intro y hy
  rcases List.mem_cons.1 hy with rfl | hy
  ·obtain ⟨m,rfl⟩:∃m,d=m+1:=⟨d - 1,by omega⟩
   rw [validN_succ]
   show (flatOk (tN t) && true)=true
   rw [Bool.and_true]
   unfold flatOk tN
   simp [ND.kind,ND.bool,ND.num,ND.text,ND.names,ND.items,ht]
  ·obtain ⟨q,hq,rfl⟩:=List.mem_map.1 hy
   exact h.items _ (keep_mem hq).2.1
theorem withV_len {n:ND} {t:ByteArray} (h:validN 8 (withV n t)=true):(keepL n.names n.items).length+1≤256:=by
 have:=((mapOk_iff (d:=7) rfl).1 h).most
 rwa [(keep_fst n t).2] at this
theorem vt_ok {v:VD} (h:validV v=true):(vtS v).data.toList=textV v∧(vtS v).size=17∧∀c,c ∈ textV v→48≤c.toNat∧c.toNat≤122∧c.toNat ≠ 92:=by
 have e:vtS v=⟨(textV v).toArray⟩:=by unfold vtS;rw [if_pos h]
 refine ⟨by rw [e],by rw [e];show (textV v).toArray.size=17;rw [List.size_toArray];exact textV_length h,fun c hc=>?_⟩
 obtain ⟨h1,h2,h3,h4,h5⟩:=validV_parts h
 have hx:∀k n c,c ∈ vhL k n→48≤c.toNat∧c.toNat≤102∧c.toNat ≠ 92:=by
  intro k
  induction k with
  | zero=>intro n c hc;cases hc
  | succ k ih=>
   intro n c hc
   rw [vhL] at hc
   rcases List.mem_append.1 hc with hc | hc
   ·exact ih _ _ hc
   ·cases List.mem_singleton.1 hc
    have:∀n:Fin 16,48≤(vhC n.1).toNat∧(vhC n.1).toNat≤102∧(vhC n.1).toNat ≠ 92:=by decide
    exact this ⟨n % 16,Nat.mod_lt _ (by decide)⟩
 unfold textV at hc
 simp only [List.mem_append] at hc
 rcases hc with hc | hc | hc | hc | hc | hc
 ·unfold validV capL at h
  simp only [Bool.and_eq_true,List.all_eq_true,decide_eq_true_eq] at h
  have:=h.1.1.1.1.2 c hc
  omega
 ·have:=hx _ _ _ hc;omega
 ·have:=hx _ _ _ hc;omega
 ·rcases h2 with h2 | h2 | h2 <;> rw [h2] at hc <;> revert c <;> decide
 ·have:=hx _ _ _ hc;omega
 ·cases List.mem_singleton.1 hc;decide
theorem vt_textOk {v:VD} (h:validV v=true):textOk (vtS v)=true:=by
 obtain ⟨h1,h2,h3⟩:=vt_ok h
 unfold textOk
 rw [h2,h1,Lib.validD_ascii (textV v).length (textV v) (fun c hc=>by have:=h3 c (List.mem_of_mem_take hc);omega),List.drop_length]
 rfl
theorem quote_plain {l:List UInt8} (h:∀c,c ∈ l→48≤c.toNat∧c.toNat≤122∧c.toNat ≠ 92):quoteL l=34::(l++[34]):=by
 have e:l.flatMap jEsc=l:=by
  induction l with
  | nil=>rfl
  | cons c t ih=>
   rw [List.flatMap_cons,ih fun c hc=>h c (by simp [hc])]
   have hj:jEsc c=[c]:=by
    have:∀k:Fin 256,48≤k.1→k.1≤122→k.1 ≠ 92→jEsc (UInt8.ofNat k.1)=[UInt8.ofNat k.1]:=by decide +kernel
    have hc:=h c (by simp)
    have:=this ⟨c.toNat,c.toNat_lt⟩ hc.1 hc.2.1 hc.2.2
    rwa [show UInt8.ofNat c.toNat=c from UInt8.ofNat_toNat] at this
   rw [hj];rfl
 unfold quoteL
 rw [e]
theorem sepL_pre (a:List UInt8) (l:List (List UInt8)):∃r,∀a:List UInt8,sepL (a::l)=a++r:=by
 cases l with
 | nil=>exact ⟨[],fun a=>(List.append_nil a).symm⟩
 | cons b t=>exact ⟨44::sepL (b::t),fun a=>rfl⟩
theorem withV_json (n:ND):∃r,∀v,validV v=true→writeN 8 (withV n (vtS v))=[123,34,118,34,58,34]++(textV v++r):=by
 obtain ⟨r,hr⟩:=sepL_pre [] (List.zipWith (fun s y=>quoteL s.data.toList++58::writeN 7 y) ((keepL n.names n.items).map (·.1)) ((keepL n.names n.items).map (·.2)))
 refine ⟨34::(r++[125]),fun v hv=>?_⟩
 obtain ⟨h1,h2,h3⟩:=vt_ok hv
 have e:writeN 8 (withV n (vtS v))=123::(sepL ((quoteL sV.data.toList++58::writeN 7 (tN (vtS v)))::List.zipWith (fun s y=>quoteL s.data.toList++58::writeN 7 y) ((keepL n.names n.items).map (·.1)) ((keepL n.names n.items).map (·.2)))++[125]):=rfl
 have e2:writeN 7 (tN (vtS v))=quoteL (vtS v).data.toList:=rfl
 rw [e,hr,e2,h1,quote_plain h3,show quoteL sV.data.toList=[34,118,34] from rfl]
 simp
theorem withV_cbor (n:ND) (hl:(keepL n.names n.items).length+1≤256):∃h r,((keepL n.names n.items).length+1<16→∀c,c ∈ h→c.toNat<65∨90<c.toNat)∧h.length≤6∧∀v,validV v=true→writeC 8 (withV n (vtS v))=h++(textV v++r):=by
 refine ⟨headL 5 ((keepL n.names n.items).length+1)++[97,118,113],(List.zipWith (fun s y=>cText s++writeC 7 y) ((keepL n.names n.items).map (·.1)) ((keepL n.names n.items).map (·.2))).flatten,?_,?_,fun v hv=>?_⟩
 ·intro h c hc
  have e:headL 5 ((keepL n.names n.items).length+1)=[UInt8.ofNat (32 * 5+((keepL n.names n.items).length+1))]:=by
   unfold headL headV headK
   rw [if_pos (by omega),if_pos (by omega)];rfl
  rw [e] at hc
  rcases List.mem_append.1 hc with hc | hc
  ·cases List.mem_singleton.1 hc
   rw [UInt8.toNat_ofNat',Nat.mod_eq_of_lt (by omega)]
   exact .inr (by omega)
  ·have:∀c,c ∈ ([97,118,113]:List UInt8)→90<c.toNat:=by decide
   exact .inr (this c hc)
 ·rw [Lg,headL_length]
  have:headK ((keepL n.names n.items).length+1)≤2:=by unfold headK;(repeat' split) <;> omega
  show _+1+3≤6
  omega
 ·obtain ⟨h1,h2,h3⟩:=vt_ok hv
  have e:writeC 8 (withV n (vtS v))=headL 5 (withV n (vtS v)).items.length++(((cText sV++writeC 7 (tN (vtS v)))::List.zipWith (fun s y=>cText s++writeC 7 y) ((keepL n.names n.items).map (·.1)) ((keepL n.names n.items).map (·.2))).flatten):=rfl
  have e2:writeC 7 (tN (vtS v))=headL 3 (vtS v).size++(vtS v).data.toList:=rfl
  rw [e,(keep_fst n (vtS v)).2,List.flatten_cons,e2,h1,h2,show cText sV=[97,118] from rfl,show headL 3 17=[113] from rfl]
  simp
theorem withV_pack (n:ND) (hl:(keepL n.names n.items).length+1≤256):∃h r,((keepL n.names n.items).length+1<16→∀c,c ∈ h→c.toNat<65∨90<c.toNat)∧h.length≤6∧∀v,validV v=true→writeP 8 (withV n (vtS v))=h++(textV v++r):=by
 refine ⟨headP (mapH ((keepL n.names n.items).length+1)) ((keepL n.names n.items).length+1)++[161,118,177],(List.zipWith (fun s y=>pText s++writeP 7 y) ((keepL n.names n.items).map (·.1)) ((keepL n.names n.items).map (·.2))).flatten,?_,?_,fun v hv=>?_⟩
 ·intro h c hc
  have e:headP (mapH ((keepL n.names n.items).length+1)) ((keepL n.names n.items).length+1)=[UInt8.ofNat (128+((keepL n.names n.items).length+1))]:=by
   unfold headP mapH
   rw [if_pos h];rfl
  rw [e] at hc
  rcases List.mem_append.1 hc with hc | hc
  ·cases List.mem_singleton.1 hc
   rw [UInt8.toNat_ofNat',Nat.mod_eq_of_lt (by omega)]
   exact .inr (by omega)
  ·have:∀c,c ∈ ([161,118,177]:List UInt8)→90<c.toNat:=by decide
   exact .inr (this c hc)
 ·unfold headP
  rw [Lg,List.length_cons,bigL_length]
  have:(mapH ((keepL n.names n.items).length+1)).2≤2:=by unfold mapH;split <;> first | exact Nat.zero_le _ | decide
  show _+1+3≤6
  omega
 ·obtain ⟨h1,h2,h3⟩:=vt_ok hv
  have e:writeP 8 (withV n (vtS v))=headP (mapH (withV n (vtS v)).items.length) (withV n (vtS v)).items.length++(((pText sV++writeP 7 (tN (vtS v)))::List.zipWith (fun s y=>pText s++writeP 7 y) ((keepL n.names n.items).map (·.1)) ((keepL n.names n.items).map (·.2))).flatten):=rfl
  have e2:writeP 7 (tN (vtS v))=headP (txtH (vtS v).size) (vtS v).size++(vtS v).data.toList:=rfl
  rw [e,(keep_fst n (vtS v)).2,List.flatten_cons,e2,h1,h2,show pText sV=[161,118] from rfl,show headP (txtH 17) 17=[177] from rfl]
  simp
def wrL (k:Int) (x:ND):List UInt8:=if k=1 then writeN 8 x else if k=2 then writeC 8 x else writeP 8 x
structure FoK (k:Int) (x:ND):Prop where
 k1:1≤k
 k3:k≤3
 valid:validN 8 x=true
 nums:numsB 8 x=true
 len:(wrL k x).length≤65536
theorem FoK.err {k:Int} {x:ND} (h:FoK k x):foE k x=0∧(foS k x).data.toList=wrL k x:=by
 obtain ⟨k1,k3,hv,hn,hl⟩:=h
 rcases (by omega:k=1∨k=2∨k=3) with rfl | rfl | rfl
 ·obtain ⟨a,b⟩:=jse_good hv (Nat.not_lt.2 hl)
  exact ⟨b,by show (jsS x).data.toList=_;rw [a];rfl⟩
 ·obtain ⟨a,b⟩:=cse_good hv (Nat.not_lt.2 hl)
  exact ⟨b,by show (csS x).data.toList=_;rw [a,bC_data];rfl⟩
 ·obtain ⟨a,b⟩:=mpse_good hv (Nat.not_lt.2 hl)
  exact ⟨b,by show (mpS x).data.toList=_;rw [a,bC_data];rfl⟩
theorem FoK.size {k:Int} {x:ND} (h:FoK k x):(foS k x).size=(wrL k x).length:=by rw [←h.err.2,Array.length_toList];rfl
theorem fo_bad {k:Int} {x:ND} (h1:1≤k) (h3:k≤3) (h:validN 8 x=false):foE k x=1:=by
 rcases (by omega:k=1∨k=2∨k=3) with rfl | rfl | rfl
 ·exact (jse_bad h).2
 ·exact (cse_bad h).2
 ·exact (mpse_bad h).2
theorem fo_long {k:Int} {x:ND} (h1:1≤k) (h3:k≤3) (h:validN 8 x=true) (hl:65536<(wrL k x).length):foE k x=3:=by
 rcases (by omega:k=1∨k=2∨k=3) with rfl | rfl | rfl
 ·exact (jse_long h hl).2
 ·exact (cse_long h hl).2
 ·exact (mpse_long h hl).2
theorem wrL_cost {k:Int} {x:ND} (hv:validN 8 x=true) (hn:numsB 8 x=true):(wrL k x).length≤costN 8 x:=by
 unfold wrL
 split
 ·exact writeN_cost 8 x hv hn
 ·split
  ·exact writeC_cost 8 x hv
  ·exact writeP_cost 8 x hv
theorem withV_fo (k:Int) (n:ND) (hl:(keepL n.names n.items).length+1≤256):∃h r,((keepL n.names n.items).length+1<16→∀c,c ∈ h→c.toNat<65∨90<c.toNat)∧h.length≤6∧∀v,validV v=true→wrL k (withV n (vtS v))=h++(textV v++r):=by
 unfold wrL
 split
 ·obtain ⟨r,hr⟩:=withV_json n
  exact ⟨[123,34,118,34,58,34],r,fun _=>by decide,by decide,hr⟩
 ·split
  ·exact withV_cbor n hl
  ·exact withV_pack n hl
theorem sum_filter {α:Type} (p:α→Bool) (f:α→Nat):∀l:List α,((l.filter p).map f).sum≤(l.map f).sum
 | []=>Lr _
 | a::t=>by
  have:=sum_filter p f t
  rw [List.filter_cons]
  split
  ·rw [List.map_cons,List.sum_cons,List.map_cons,List.sum_cons];omega
  ·rw [List.map_cons,List.sum_cons];omega
def FitOk (n:ND):Prop:=numsB 8 n=true∧costN 8 n≤1000000000
theorem withV_nums {n:ND} {t:ByteArray} {d:Nat} (h:numsB d n=true):numsB d (withV n t)=true:=by
 cases d with
 | zero=>rfl
 | succ d=>
  rw [numsB_succ,Bool.and_eq_true,List.all_eq_true] at h ⊢
  refine ⟨show wideI 0=true by decide,fun y hy=>?_⟩
  rcases List.mem_cons.1 hy with rfl | hy
  ·cases d with
   | zero=>rfl
   | succ d=>rw [numsB_succ];rfl
  ·obtain ⟨q',hq,rfl⟩:=List.mem_map.1 hy
   exact h.2 _ (keep_mem hq).2.1
theorem withV_cost {n:ND} {v:VD} {q:Nat} (hl:n.names.length=n.items.length) (hv:validV v=true):costN (q+2) (withV n (vtS v))≤costN (q+2) n+141:=by
 obtain ⟨h1,h2,h3⟩:=vt_ok hv
 have e:costN (q+2) (withV n (vtS v))=24+0+((6 * 1+8)+(((keepL n.names n.items).map (·.1)).map fun s=>6 * s.size+8).sum)+((costN (q+1) (tN (vtS v))+1)+(((keepL n.names n.items).map (·.2)).map fun y=>costN (q+1) y+1).sum):=rfl
 have e2:costN (q+1) (tN (vtS v))=24+6 * (vtS v).size+0+0:=rfl
 have e3:costN (q+2) n=_:=costN_succ (q+1) n
 have s1:=sum_filter (fun q:ByteArray × ND=>decide (q.1 ≠ sV)) (fun q=>6 * q.1.size+8) (n.names.zip n.items)
 have s2:=sum_filter (fun q:ByteArray × ND=>decide (q.1 ≠ sV)) (fun z=>costN (q+1) z.2+1) (n.names.zip n.items)
 have z1:(n.names.zip n.items).map (fun q=>6 * q.1.size+8)=n.names.map fun s=>6 * s.size+8:=by
  rw [show (fun q:ByteArray × ND=>6 * q.1.size+8)=(fun s:ByteArray=>6 * s.size+8) ∘ Prod.fst from rfl,←List.map_map,List.map_fst_zip (by rw [hl];exact Lr _)]
 have z2:(n.names.zip n.items).map (fun z=>costN (q+1) z.2+1)=n.items.map fun y=>costN (q+1) y+1:=by
  rw [show (fun z:ByteArray × ND=>costN (q+1) z.2+1)=(fun y:ND=>costN (q+1) y+1) ∘ Prod.snd from rfl,←List.map_map,List.map_snd_zip (by rw [hl];exact Lr _)]
 rw [z1] at s1
 rw [z2] at s2
 rw [List.map_map,List.map_map] at e
 have s1':((keepL n.names n.items).map ((fun s:ByteArray=>6 * s.size+8) ∘ fun q=>q.1)).sum≤(n.names.map fun s=>6 * s.size+8).sum:=s1
 have s2':((keepL n.names n.items).map ((fun y:ND=>costN (q+1) y+1) ∘ fun q=>q.2)).sum≤(n.items.map fun y=>costN (q+1) y+1).sum:=s2
 omega
theorem fit_valid {n:ND} {p:ByteArray} {k:Int} (hv:validV ⟨p,1,0,k,0⟩=true) {z:Int} (h0:0≤z) (h1:z≤65536):validV ⟨p,1,0,k,z⟩=true:=by
 unfold validV at hv ⊢
 simp only [Bool.and_eq_true] at hv ⊢
 refine ⟨hv.1,?_⟩
 unfold inR
 rw [decide_eq_true h0,decide_eq_true (by omega:z≤16777215)];rfl
theorem fo_size (k:Int) (x:ND):(foS k x).size≤65536:=by
 unfold foS
 (repeat' split)
 ·exact jse_size x
 ·exact cse_size x
 ·exact mpse_size x
 ·exact Nat.zero_le _
theorem fit_cases (n:ND) (p:ByteArray) (k:Int) (h:validN 8 n=true→n.kind=5→numsB 8 n=true) :
 (validV ⟨p,1,0,k,0⟩=false∧fitE n p k=2)∨(validV ⟨p,1,0,k,0⟩=true∧¬ (n.kind=5∧validN 8 n=true)∧fitE n p k=1)
 ∨ (∃er,(validN 8 (withV n (fitT p k 0))=false∧er=1∨validN 8 (withV n (fitT p k 0))=true∧er=3)∧validV ⟨p,1,0,k,0⟩=true∧n.kind=5∧validN 8 n=true∧numsB 8 n=true∧foE k (withV n (fitT p k 0))=er∧fitE n p k=er)
 ∨ (validV ⟨p,1,0,k,0⟩=true∧n.kind=5∧validN 8 n=true∧numsB 8 n=true∧FoK k (withV n (fitT p k 0))∧validV ⟨p,1,0,k,vfZ n p k⟩=true∧FoK k (fitN n p k)∧(foS k (fitN n p k)).size=(foS k (withV n (fitT p k 0))).size∧fitE n p k=0):=by
 cases hv:validV ⟨p,1,0,k,0⟩ with
 | false=>exact .inl ⟨rfl,by unfold fitE;rw [hv];rfl⟩
 | true=>
  refine .inr ?_
  have hk:1≤k∧k≤3:=by
   have:=(validV_parts hv).2.1
   simp only at this
   omega
  by_cases hn:n.kind=5∧validN 8 n=true
  ·refine .inr ?_
   have hE:fitE n p k=foE k (withV n (fitT p k 0)):=by unfold fitE;rw [hv,if_pos rfl,if_pos hn]
   have FO:=h hn.2 hn.1
   cases hd:validN 8 (withV n (fitT p k 0)) with
   | false=>
    have:=fo_bad hk.1 hk.2 hd
    exact .inl ⟨1,.inl ⟨rfl,rfl⟩,rfl,hn.1,hn.2,FO,this,hE.trans this⟩
   | true=>
    by_cases hln:65536<(wrL k (withV n (fitT p k 0))).length
    ·have:=fo_long hk.1 hk.2 hd hln
     exact .inl ⟨3,.inr ⟨rfl,rfl⟩,rfl,hn.1,hn.2,FO,this,hE.trans this⟩
    ·have hl:=withV_len hd
     have K0:FoK k (withV n (fitT p k 0)):=⟨hk.1,hk.2,hd,withV_nums FO,Nat.not_lt.1 hln⟩
     have hz:validV ⟨p,1,0,k,vfZ n p k⟩=true:=fit_valid (n:=n) hv (by unfold vfZ;omega) (by have:=fo_size k (withV n (fitT p k 0));unfold vfZ;omega)
     obtain ⟨a,r,-,-,hf⟩:=withV_fo k n hl
     have e0:=congrArg List.length (hf _ hv)
     have e1:=congrArg List.length (hf _ hz)
     rw [Lg,Lg,textV_length hv] at e0
     rw [Lg,Lg,textV_length hz] at e1
     have e2:(wrL k (fitN n p k)).length=(wrL k (withV n (fitT p k 0))).length:=e1.trans e0.symm
     have hm:MapOk 7 n:=(mapOk_iff hn.1).1 hn.2
     have K1:FoK k (fitN n p k):=⟨hk.1,hk.2,(mapOk_iff rfl).2 (withV_ok hm (by decide) (vt_textOk hz) hl),withV_nums FO,by rw [e2];exact K0.len⟩
     exact .inr ⟨rfl,hn.1,hn.2,FO,K0,hz,K1,by rw [K1.size,K0.size,e2],hE.trans K0.err.1⟩
  ·exact .inl ⟨rfl,hn,by unfold fitE;rw [hv,if_pos rfl,if_neg hn]⟩
end Go.Proofs.YtcklddldejejcaaGreatDoor