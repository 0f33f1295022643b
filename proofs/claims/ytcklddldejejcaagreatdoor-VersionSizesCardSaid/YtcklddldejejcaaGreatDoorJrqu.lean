/- The document's reader: quoted texts. -/
import Derived.Test.YtcklddldejejcaaGreatDoorJrhas
import Derived.BigQuiet
import Derived.Deep.QuietTactic
set_option linter.unusedVariables false
set_option linter.unusedSimpArgs false
set_option maxHeartbeats 6400000
set_option maxRecDepth 100000
namespace Go.Proofs.YtcklddldejejcaaGreatDoor
open Go Go.ChangeShapes Go.WideShapes Go.ChangeAt Go.RowKit
def QIs (l:List UInt8) (p0:Nat) (out:List UInt8) (p:Nat):Prop:=∀o t,quotedP (l.drop (p0+1))=some (o,t)→∃o2,quotedP (l.drop p)=some (o2,t)∧o=out++o2
theorem drop_at {l:List UInt8} {p:Nat} {c:UInt8} (h:l[p]?=some c):l.drop p=c::l.drop (p+1):=by
 have hp:p<l.length:=lt_of_some h
 rw [List.drop_eq_getElem_cons hp]
 rw [List.getElem?_eq_getElem hp] at h
 rw [Option.some.inj h]
theorem QIs.start (l:List UInt8) (p0:Nat):QIs l p0 [] (p0+1):=fun o t h=>⟨o,h,rfl⟩
theorem QIs.plain {l:List UInt8} {p0 p:Nat} {o:List UInt8} {c:UInt8} (h:QIs l p0 o p) (hc:l[p]?=some c) (h1:c ≠ 34) (h2:c ≠ 92):QIs l p0 (o++[c]) (p+1):=fun o' t hq=>by
 obtain ⟨o2,e1,rfl⟩:=h o' t hq
 rw [drop_at hc,quotedP_eq,qStep_cons,if_neg h1,if_neg h2] at e1
 replace e1:(quotedP (l.drop (p+1))).map (fun x=>(c::x.1,x.2))=some (o2,t):=e1
 cases hr:quotedP (l.drop (p+1)) with
 | none=>rw [hr] at e1;cases e1
 | some y=>
  rw [hr] at e1
  obtain ⟨y1,y2⟩:=y
  cases e1
  exact ⟨y1,rfl,by simp⟩
theorem QIs.esc {l:List UInt8} {p0 p p':Nat} {o:List UInt8} {c:UInt8} (h:QIs l p0 o p) (hc:l[p]?=some 92) (he:∀x t,escP (l.drop (p+1))=some (x,t)→x=c∧t=l.drop p'):QIs l p0 (o++[c]) p':=fun o' t hq=>by
 obtain ⟨o2,e1,rfl⟩:=h o' t hq
 rw [drop_at hc] at e1
 obtain ⟨c',q',x',h1,rfl,h3⟩:=quoted_esc _ _ _ e1
 obtain ⟨rfl,rfl⟩:=he c' q' h1
 exact ⟨x',h3,by simp⟩
theorem QIs.none {l:List UInt8} {p0 p:Nat} {o:List UInt8} (h:QIs l p0 o p) (hc:l[p]?=some 92) (he:escP (l.drop (p+1))=none):∀o' t,¬quotedP (l.drop (p0+1))=some (o',t):=fun o' t hq=>by
 obtain ⟨o2,e1,rfl⟩:=h o' t hq
 rw [drop_at hc] at e1
 obtain ⟨c',q',x',h1,-,-⟩:=quoted_esc _ _ _ e1
 rw [he] at h1;cases h1
theorem QIs.over {l:List UInt8} {p0 p:Nat} {o:List UInt8} (h:QIs l p0 o p) (hp:l.length≤p):∀o' t,¬quotedP (l.drop (p0+1))=some (o',t):=fun o' t hq=>by
 obtain ⟨o2,e1,rfl⟩:=h o' t hq
 rw [List.drop_eq_nil_of_le hp,quotedP_eq] at e1
 cases e1
theorem QIs.fin {l:List UInt8} {p0 p:Nat} {o:List UInt8} (h:QIs l p0 o p) (hc:l[p]?=some 34):∀o' t,quotedP (l.drop (p0+1))=some (o',t)→o'=o∧t=l.drop (p+1):=fun o' t hq=>by
 obtain ⟨o2,e1,rfl⟩:=h o' t hq
 rw [drop_at hc] at e1
 obtain ⟨rfl,rfl⟩:=quoted_end _ _ _ e1
 exact ⟨by simp,rfl⟩
theorem esc_at {l:List UInt8} {p:Nat} {a b:UInt8} (h:Lib.hasPrefix (l.drop p) [117,48,48]=true) (ha:l[p+3]?=some a) (hb:l[p+4]?=some b):∀x t,escP (l.drop p)=some (x,t)→hexO a b=true∧x=hexB a b∧t=l.drop (p+5):=by
 intro x t he
 have hr:=prefix_split h
 have e3:(l.drop p).drop 3=a::b::l.drop (p+5):=by rw [List.drop_drop,drop_at ha,drop_at hb]
 rw [show ([117,48,48]:List UInt8).length=3 from rfl,e3] at hr
 rw [hr] at he
 have e:escP ([117,48,48]++a::b::l.drop (p+5))=match hexV a,hexV b with
  | some x,some y=>some (16 * x+y,l.drop (p+5))
  | _,_=>none:=rfl
 rw [e] at he
 cases hx:hexV a with
 | none=>rw [hx] at he;cases he
 | some x'=>
  cases hy:hexV b with
  | none=>rw [hx,hy] at he;cases he
  | some y'=>
   rw [hx,hy] at he
   cases he
   obtain ⟨h1,h2⟩:=hex_data hx hy
   exact ⟨h1,h2.symm,rfl⟩
theorem esc_oth {l:List UInt8} {p:Nat} (h:Lib.hasPrefix (l.drop p) [117,48,48]=false∨l.length≤p+4):escP (l.drop p)=(l[p]?).bind fun c=>(ctlV c).map fun d=>(d,l.drop (p+1)):=by
 cases hc:l[p]? with
 | none=>
  rw [List.drop_eq_nil_of_le (List.getElem?_eq_none_iff.1 hc)];rfl
 | some c=>
  show _=(ctlV c).map _
  have hd:=drop_at hc
  unfold escP
  split
  ·rename_i a b r hr
   exfalso
   rcases h with h | h
   ·rw [hr] at h;simp [Lib.hasPrefix] at h
   ·have:=congrArg List.length hr
    rw [List.length_drop] at this
    simp at this
    omega
  ·rename_i c' r' _ hr
   rw [hd] at hr
   cases hr
   rfl
  ·rename_i hr
   rw [hd] at hr;cases hr
def ctlI (o:Option UInt8) (j:Nat):Int:=match o with
 | none=>-1
 | some c=>if c=98∧0<j then 8 else if c=116∧1<j then 9 else if c=110∧2<j then 10 else if c=102∧4<j then 12 else if c=114∧5<j then 13 else -1
def ctlT:List UInt8:=[98,116,110,63,102,114]
theorem ctl_get (m:Nat) (h:m<ByteArray.size { data:=#[98,116,110,63,102,114] }):({ data:=#[98,116,110,63,102,114] }:ByteArray)[m]'h=ctlT.getD m 0:=by
 have all:∀m:Fin 6,({ data:=#[98,116,110,63,102,114] }:ByteArray)[m.val]'(m.isLt)=ctlT.getD m.val 0:=by decide +kernel
 exact all ⟨m,h⟩
theorem ctlI_step (c:UInt8) {j:Nat} (hj:j<6):(c=ctlT.getD j 0∧j ≠ 3→ctlI (some c) (j+1)=8+(j:Int))∧(¬ (c=ctlT.getD j 0∧j ≠ 3)→ctlI (some c) (j+1)=ctlI (some c) j):=by
 have:∀ (c:Fin 256) (j:Fin 6),((UInt8.ofNat c.1)=ctlT.getD j.1 0∧j.1 ≠ 3→ctlI (some (UInt8.ofNat c.1)) (j.1+1)=8+(j.1:Int))∧(¬ ((UInt8.ofNat c.1)=ctlT.getD j.1 0∧j.1 ≠ 3)→ctlI (some (UInt8.ofNat c.1)) (j.1+1)=ctlI (some (UInt8.ofNat c.1)) j.1):=by decide +kernel
 have h:=this ⟨c.toNat,c.toNat_lt⟩ ⟨j,hj⟩
 rwa [show UInt8.ofNat c.toNat=c from UInt8.ofNat_toNat] at h
theorem ctlI_end (c:UInt8) (h1:c ≠ 34) (h2:c ≠ 92):(ctlI (some c) 6=-1∧ctlV c=none)∨∃d:UInt8,ctlI (some c) 6=(d.toNat:Int)∧ctlV c=some d:=by
 have:∀c:Fin 256,UInt8.ofNat c.1 ≠ 34→UInt8.ofNat c.1 ≠ 92→(ctlI (some (UInt8.ofNat c.1)) 6=-1∧ctlV (UInt8.ofNat c.1)=none)∨ctlI (some (UInt8.ofNat c.1)) 6=(((ctlV (UInt8.ofNat c.1)).getD 0).toNat:Int)∧ctlV (UInt8.ofNat c.1)=some ((ctlV (UInt8.ofNat c.1)).getD 0):=by decide +kernel
 have h:=this ⟨c.toNat,c.toNat_lt⟩
 rw [show UInt8.ofNat c.toNat=c from UInt8.ofNat_toNat] at h
 rcases h h1 h2 with h | ⟨h3,h4⟩
 ·exact .inl h
 ·exact .inr ⟨_,h3,h4⟩
def RQPost (s:ByteArray) (p:Nat) (w:World) (e:Ending) (w':World):Prop:=∃ (r:ByteArray) (q:Int),e=.returned (.tuple #[.string r,.int .i64 q])∧Below w.heap.size w w'∧r.size≤s.size∧(q=-1∨((p:Int)<q∧q≤(s.size:Int)∧(p:Int)+(r.size:Int)+2≤q))∧∀o t,quotedP (s.data.toList.drop (p+1))=some (o,t)→r=bA o∧0≤q∧t=s.data.toList.drop q.toNat
theorem rquoted_any (s:ByteArray) (p0:Nat) (w:World) (hp:p0<s.size) (hs:s.size≤1000000):Calls Tryz.prog 126 #[.string s,.int .i64 (p0:Int)] w (RQPost s p0 w):=by
 obtain ⟨ib,hib,hb0,hb1,hb2⟩:=info_parts Tryz.info5
 have hub:=Tryz.underlying73
 have hu8:=Tryz.underlying5
 have hust:=Tryz.underlying9
 have HIB:=Hh hib
 obtain ⟨l,hl⟩:∃l,l=s.data.toList:=⟨_,rfl⟩
 have hsz:l.length=s.size:=by rw [hl,Array.length_toList];rfl
 have HSZ:=Hh hsz
 have HL:=Hh hl
 have HGET:Hid (∀ (p:Nat) (h:p<s.size),l[p]?=some (s[p]'h)):=Hh fun p h=>by rw [hl,List.getElem?_eq_getElem (by rw [Array.length_toList];exact h)];rfl
 have hsi:(s.size:Int)≤1000000:=by omega
 have NO:Hid (∀wx,Below w.heap.size w wx→(∀o t,¬quotedP (l.drop (p0+1))=some (o,t))→RQPost s p0 w (.returned (.tuple #[.string ⟨#[]⟩,.int .i64 (-1)])) wx):=Hh fun wx hb hn=>⟨⟨#[]⟩,-1,rfl,hb,Nat.zero_le _,.inl rfl,fun o t h=>absurd (by rw [hl];exact h) (hn o t)⟩
 have Q0:=Hh (QIs.start l p0)
 clear hib hsz hl
 go_enter Tryz.func126,Tryz.ntmps126
 go_upto_region 3 with fail
 go_loopw [1,6] (fun vp vo wr=>∃ (p:Nat) (o:List UInt8),vp=.int .i64 p∧p0<p∧p≤s.size∧p0+1+o.length≤p∧BRow 5 w wr vo o∧QIs l p0 o p) (fun vp _ _=>s.size - (intOf vp).toNat)
 case atStart=>exact ⟨p0+1,[],by go_num,by omega,by omega,by simp,⟨World.ownsRow_nil w _ _ _,Br _ _⟩,Q0.out⟩
 case round=>
  clear Q0
  obtain ⟨p,o,rfl,hp0,hps,hol,hrow,hq⟩:=hrel
  have HQ:=Hh hq
  have HROW:=Hh hrow
  clear hq hrow
  by_cases hlt:p<s.size
  ·have hlt':(p:Int)<(s.size:Int):=by omega
   have hpz:(0:Int)≤(p:Int):=by omega
   have hcp:=HGET.out p hlt
   go_upto_region 6 with fail
   generalize s[p]=c at hcp ⊢
   by_cases c34:c=34
   ·subst c34
    have hf:=HQ.out.fin hcp
    have HF:=Hh hf
    have hcv:=conv_owns (P:=Tryz.prog) wr 73 9 5 w.heap.size o.length _ o HROW.out.1 hub hu8 hust
    have hpp:IntKind.i64.wrap ((p:Int)+1)=(p:Int)+1:=IntWalk.i64_in _ (by omega)
    clear hf hcp
    go_wp2
    go_ret2
    exact ⟨bA o,(p:Int)+1,rfl,HROW.out.2,by rw [bA_size];omega,.inr ⟨by omega,by omega,by rw [bA_size];omega⟩,fun o' t h=>by
     obtain ⟨h1,h2⟩:=HF.out o' t (by rw [HL.out];exact h)
     rw [h1]
     refine ⟨rfl,by omega,?_⟩
     rw [h2,HL.out,show ((p:Int)+1).toNat=p+1 by omega]⟩
   ·have n34:((c.toNat:Int) == 34)=false:=by
     rw [beq_eq_false_iff_ne];intro e;exact c34 (UInt8.toNat_inj.1 (by rw [show (34:UInt8).toNat=34 from rfl];omega))
    by_cases c92:c=92
    ·have n92:((c.toNat:Int) == 92)=true:=by rw [c92];rfl
     have n92b:((c.toNat:Int) != 92)=false:=by rw [bne,n92];rfl
     rw [c92] at hcp
     have HC:=Hh hcp
     obtain ⟨p1,hp1⟩:∃p1,p1=p+1:=⟨_,rfl⟩
     have ep1:(p:Int)+1=(p1:Int):=by omega
     have hp1s:p1≤s.size:=by omega
     have hp1z:(0:Int)≤(p1:Int):=by omega
     have hp1i:(p1:Int)≤(s.size:Int):=by omega
     have hol1:p0+1+o.length+1≤p1:=by omega
     have HP1:=Hh hp1
     have RH:=rhas_any s ⟨#[117,48,48]⟩ p1 wr (by omega) hs (by decide)
     rw [show (⟨#[117,48,48]⟩:ByteArray).data.toList=[117,48,48] from rfl,←HL.out] at RH
     clear hcp c92 hp1
     by_cases hA:Lib.hasPrefix (l.drop p1) [117,48,48]=true∧p1+4<s.size
     ·obtain ⟨hA1,hA2⟩:=hA
      rw [hA1] at RH
      have HR:=Hh RH
      obtain ⟨p3,hp3⟩:∃p3,p3=p1+3:=⟨_,rfl⟩
      obtain ⟨p4,hp4⟩:∃p4,p4=p1+4:=⟨_,rfl⟩
      have ep3:(p1:Int)+3=(p3:Int):=by omega
      have ep4:(p1:Int)+4=(p4:Int):=by omega
      have hp3i:(p3:Int)<(s.size:Int):=by omega
      have hp4i:(p4:Int)<(s.size:Int):=by omega
      have hp3z:(0:Int)≤(p3:Int):=by omega
      have hp4z:(0:Int)≤(p4:Int):=by omega
      have hp3n:p3<s.size:=by omega
      have hp4n:p4<s.size:=by omega
      have ga:=HGET.out p3 hp3n
      have gb:=HGET.out p4 hp4n
      obtain ⟨a,ha⟩:∃a,a=s[p3]'hp3n:=⟨_,rfl⟩
      obtain ⟨b,hb⟩:∃b,b=s[p4]'hp4n:=⟨_,rfl⟩
      rw [←ha] at ga
      rw [←hb] at gb
      have ha':=ha.symm
      have hb':=hb.symm
      have HX:=Hh (fun wx=>rhex_any a b wx)
      have HE:=Hh (esc_at hA1 (by rw [←hp3];exact ga) (by rw [←hp4];exact gb))
      have HPP:=Hh (Ai hp3 hp4)
      have hlp:p4+1≤s.size:=by omega
      have hlo:p0+1+o.length+1≤p4+1:=by omega
      have hpp4:p<p4:=by have:=HP1.out;omega
      clear hA1 hA2 ga gb ha hb RH hp3 hp4
      go_upto_region 22 with ((with_reducible refine (HR.out).mono ?_);rintro e w1 ⟨rfl,rfl⟩)
      go_quiet (first | (go_at_call 179;(with_reducible refine (HX.out _).mono ?_);exact fun e u h=>⟨h.1,_,h.2.symm⟩))
      have hrd:BRow 5 w (wr.drewN nq) u6 o:=⟨HROW.out.1,bdrewN HROW.out.2 _⟩
      generalize wr.drewN nq=wd at hrd ⊢
      have HRD:=Hh hrd
      clear hrd
      cases hok:hexO a b with
      | false=>
       have hn:escP (l.drop p1)=none:=by
        cases he:escP (l.drop p1) with
        | none=>rfl
        | some y=>have:=(HE.out y.1 y.2 he).1;rw [hok] at this;cases this
       have HN:=Hh (HQ.out.none HC.out (by rw [←HP1.out];exact hn))
       clear hok hn HE
       go_wp2
       go_ret2
       exact NO.out _ HRD.out.2 HN.out
      | true=>
       obtain ⟨u,hu⟩:∃u,u=hexB a b:=⟨_,rfl⟩
       rw [←hu]
       have HN:=Hh (HQ.out.esc (c:=u) (p':=p4+1) HC.out (fun x t he=>by
        rw [←HP1.out] at he
        obtain ⟨-,h2,h3⟩:=HE.out x t he
        rw [h2,h3,hu,HPP.out.2]
        exact ⟨rfl,rfl⟩))
       clear hok hu HE
       go_wp2_with (refine wpList_append_lies _ rfl (.tmp 93) (.tmp 95) 73 rfl w.heap.size 5 ib (.int .u8 0) 1 1 hub HIB.out hb0 hb1 hb2 rfl (by decide) _ o.length _ rfl (HRD.out.1.alloc (.cells #[.int .u8 (u.toNat:Int)] 5)) ⟨wd.heap.size,0,none⟩ 1 1 [.int .u8 (u.toNat:Int)] rfl rfl (cells_new wd #[.int .u8 (u.toNat:Int)] 5 [.int .u8 (u.toNat:Int)] rfl) (by intro u hu;simp only [List.mem_cons,List.not_mem_nil,or_false] at hu;rcases hu with rfl;rfl) (by decide) (by unfold maxLen;omega) (by omega) (by have:=HRD.out.2.size;simp;omega) _ rfl ?_;intro gg cc W8 hown hgrow hat hlt2)
       have hB8:=obelow (HRD.out.2.alloc HRD.out.2.size (.cells #[.int .u8 (u.toNat:Int)] 5)) (HRD.out.1.alloc (.cells #[.int .u8 (u.toNat:Int)] 5)) hgrow (by have:=HRD.out.2.size;simp;omega)
       have F:Hid (BRow 5 w W8 (.slice (some ⟨gg,0,none⟩) (o.length+1) cc) (o++[u])):=Hh ⟨by rw [Lg,bytesV_append];exact hown,hB8⟩
       clear hown hgrow hat hB8
       go_wp2
       go_roundw
       case rel=>exact ⟨p4+1,o++[u],by go_num,by omega,by omega,by simp;omega,F.out,HN.out⟩
       case measure=>simp [intOf];omega
     ·have hNA:Lib.hasPrefix (l.drop p1) [117,48,48]=false∨l.length≤p1+4:=by
       cases hh:Lib.hasPrefix (l.drop p1) [117,48,48] with
       | false=>exact .inl rfl
       | true=>right;have:=HSZ.out;rcases Nat.lt_or_ge (p1+4) s.size with h | h;exact absurd ⟨hh,h⟩ hA;omega
      have HEO:=Hh (esc_oth hNA)
      have hcase:(Lib.hasPrefix (l.drop p1) [117,48,48]=false)∨(Lib.hasPrefix (l.drop p1) [117,48,48]=true∧¬ (p1:Int)+4<(s.size:Int)):=by
       cases hh:Lib.hasPrefix (l.drop p1) [117,48,48] with
       | false=>exact .inl rfl
       | true=>exact .inr ⟨rfl,fun h=>hA ⟨hh,by omega⟩⟩
      clear hA hNA
      rcases hcase with hh | ⟨hh,hnl⟩
      all_goals
       rw [hh] at RH
       have HR:=Hh RH
       clear RH hh
       by_cases hp1n:p1<s.size
       ·have hp1j:(p1:Int)<(s.size:Int):=by omega
        have gc:=HGET.out p1 hp1n
        obtain ⟨c1,hc1⟩:∃c1,c1=s[p1]'hp1n:=⟨_,rfl⟩
        rw [←hc1] at gc
        have hc1':=hc1.symm
        rw [gc] at HEO
        have HG:=Hh gc
        clear hc1
        by_cases d34:c1=34
        ·have m34:((c1.toNat:Int) == 34)=true:=by rw [d34];rfl
         have hv:ctlV c1=some c1:=by rw [d34];rfl
         have HN:=Hh (HQ.out.esc (c:=c1) (p':=p1+1) HC.out (fun x t he=>by
          rw [←HP1.out,HEO.out] at he
          have he:(ctlV c1).map (fun d=>(d,l.drop (p1+1)))=some (x,t):=he
          rw [hv] at he
          cases he
          exact ⟨rfl,rfl⟩))
         clear hv d34 gc
         go_wp2_with (first | (go_at_call 125;(with_reducible refine (HR.out).mono ?_);rintro e w1 ⟨rfl,rfl⟩) | (refine wpList_append_lies _ rfl (.tmp 116) (.tmp 120) 73 rfl w.heap.size 5 ib (.int .u8 0) 1 1 hub HIB.out hb0 hb1 hb2 rfl (by decide) _ o.length _ rfl (HROW.out.1.alloc (.cells #[.int .u8 (c1.toNat:Int)] 5)) ⟨wr.heap.size,0,none⟩ 1 1 [.int .u8 (c1.toNat:Int)] rfl rfl (cells_new wr #[.int .u8 (c1.toNat:Int)] 5 [.int .u8 (c1.toNat:Int)] rfl) (by intro u hu;simp only [List.mem_cons,List.not_mem_nil,or_false] at hu;rcases hu with rfl;rfl) (by decide) (by unfold maxLen;omega) (by omega) (by have:=HROW.out.2.size;simp;omega) _ rfl ?_;intro gg cc W8 hown hgrow hat hlt2))
         have hB8:=obelow (HROW.out.2.alloc HROW.out.2.size (.cells #[.int .u8 (c1.toNat:Int)] 5)) (HROW.out.1.alloc (.cells #[.int .u8 (c1.toNat:Int)] 5)) hgrow (by have:=HROW.out.2.size;simp;omega)
         have F:Hid (BRow 5 w W8 (.slice (some ⟨gg,0,none⟩) (o.length+1) cc) (o++[c1])):=Hh ⟨by rw [Lg,bytesV_append];exact hown,hB8⟩
         clear hown hgrow hat hB8
         go_wp2
         go_roundw
         case rel=>exact ⟨p1+1,o++[c1],by go_num,by have:=HP1.out;omega,by omega,by simp;omega,F.out,HN.out⟩
         case measure=>simp [intOf];have:=HP1.out;omega
        ·have m34:((c1.toNat:Int) == 34)=false:=by
          rw [beq_eq_false_iff_ne];intro e;exact d34 (UInt8.toNat_inj.1 (by rw [show (34:UInt8).toNat=34 from rfl];omega))
         by_cases d92:c1=92
         ·have m92:((c1.toNat:Int) == 92)=true:=by rw [d92];rfl
          have hv:ctlV c1=some c1:=by rw [d92];rfl
          have HN:=Hh (HQ.out.esc (c:=c1) (p':=p1+1) HC.out (fun x t he=>by
           rw [←HP1.out,HEO.out] at he
           have he:(ctlV c1).map (fun d=>(d,l.drop (p1+1)))=some (x,t):=he
           rw [hv] at he
           cases he
           exact ⟨rfl,rfl⟩))
          clear hv d92 d34 gc
          go_wp2_with (first | (go_at_call 125;(with_reducible refine (HR.out).mono ?_);rintro e w1 ⟨rfl,rfl⟩) | (refine wpList_append_lies _ rfl (.tmp 116) (.tmp 120) 73 rfl w.heap.size 5 ib (.int .u8 0) 1 1 hub HIB.out hb0 hb1 hb2 rfl (by decide) _ o.length _ rfl (HROW.out.1.alloc (.cells #[.int .u8 (c1.toNat:Int)] 5)) ⟨wr.heap.size,0,none⟩ 1 1 [.int .u8 (c1.toNat:Int)] rfl rfl (cells_new wr #[.int .u8 (c1.toNat:Int)] 5 [.int .u8 (c1.toNat:Int)] rfl) (by intro u hu;simp only [List.mem_cons,List.not_mem_nil,or_false] at hu;rcases hu with rfl;rfl) (by decide) (by unfold maxLen;omega) (by omega) (by have:=HROW.out.2.size;simp;omega) _ rfl ?_;intro gg cc W8 hown hgrow hat hlt2))
          have hB8:=obelow (HROW.out.2.alloc HROW.out.2.size (.cells #[.int .u8 (c1.toNat:Int)] 5)) (HROW.out.1.alloc (.cells #[.int .u8 (c1.toNat:Int)] 5)) hgrow (by have:=HROW.out.2.size;simp;omega)
          have F:Hid (BRow 5 w W8 (.slice (some ⟨gg,0,none⟩) (o.length+1) cc) (o++[c1])):=Hh ⟨by rw [Lg,bytesV_append];exact hown,hB8⟩
          clear hown hgrow hat hB8
          go_wp2
          go_roundw
          case rel=>exact ⟨p1+1,o++[c1],by go_num,by have:=HP1.out;omega,by omega,by simp;omega,F.out,HN.out⟩
          case measure=>simp [intOf];have:=HP1.out;omega
         ·have m92:((c1.toNat:Int) == 92)=false:=by
           rw [beq_eq_false_iff_ne];intro e;exact d92 (UInt8.toNat_inj.1 (by rw [show (92:UInt8).toNat=92 from rfl];omega))
          have HEND:=Hh (ctlI_end c1 d34 d92)
          have HST:=Hh (fun j (hj:j<6)=>ctlI_step c1 hj)
          have h00:ctlI (some c1) 0=-1:=by simp [ctlI]
          clear d34 d92 gc
          go_upto_region 13 with ((with_reducible refine (HR.out).mono ?_);rintro e w1 ⟨rfl,rfl⟩)
          go_loopw [10,39] (fun d i wx=>∃j:Nat,i=.int .i64 j∧j≤6∧d=.int .i64 (ctlI (some c1) j)∧BRow 5 w wx u6 o) (fun _ i _=>6 - (intOf i).toNat)
          case atStart=>exact ⟨0,rfl,by omega,by rw [h00],HROW.out⟩
          case round=>
           obtain ⟨j,rfl,hj,rfl,hrw⟩:=hrel
           have HRW:=Hh hrw
           clear hrw h00
           by_cases hj6:j<6
           ·have hj6':(j:Int)<6:=by omega
            have hj0:(0:Int)≤(j:Int):=by omega
            have hg:=ctl_get j hj6
            have hst:=HST.out j hj6
            generalize ctlT.getD j 0=cj at hg hst
            have hwj:IntKind.i64.wrap (8+(j:Int))=8+(j:Int):=IntWalk.i64_in _ (by omega)
            by_cases hcc:c1=cj
            ·have t52:((c1.toNat:Int) == (cj.toNat:Int))=true:=by rw [hcc];simp
             by_cases hj3:j=3
             ·have t56:((j:Int) != 3)=false:=by rw [hj3];rfl
              have E:=Hh (hst.2 (fun h=>h.2 hj3))
              clear hst hcc hj3
              go_wp2
              go_quiet (fail)
              go_wp2
              go_roundw
              case rel=>exact ⟨j+1,by go_num,by omega,by rw [E.out],⟨HRW.out.1,bdrewN HRW.out.2 _⟩⟩
              case measure=>simp [intOf];omega
             ·have t56:((j:Int) != 3)=true:=by rw [bne,beq_eq_false_iff_ne.2 (by omega)];rfl
              have E:=Hh (hst.1 ⟨hcc,hj3⟩)
              clear hst hcc hj3
              go_wp2
              go_quiet (fail)
              go_wp2
              go_roundw
              case rel=>exact ⟨j+1,by go_num,by omega,by rw [E.out],⟨HRW.out.1,bdrewN HRW.out.2 _⟩⟩
              case measure=>simp [intOf];omega
            ·have t52:((c1.toNat:Int) == (cj.toNat:Int))=false:=by
              rw [beq_eq_false_iff_ne];intro e;exact hcc (UInt8.toNat_inj.1 (by omega))
             have E:=Hh (hst.2 (fun h=>hcc h.1))
             clear hst hcc
             go_wp2
             go_quiet (fail)
             go_wp2
             go_roundw
             case rel=>exact ⟨j+1,by go_num,by omega,by rw [E.out],⟨HRW.out.1,bdrewN HRW.out.2 _⟩⟩
             case measure=>simp [intOf];omega
           ·have hj6':¬ (j:Int)<6:=by omega
            obtain rfl:j=6:=by omega
            rcases HEND.out with ⟨h1,h2⟩ | ⟨dv,h1,h2⟩
            ·rw [h1]
             have HN:=Hh (HQ.out.none HC.out (by
              rw [←HP1.out,HEO.out]
              show (ctlV c1).map _=none
              rw [h2];rfl))
             clear h1 h2
             go_wp2
             go_ret2
             exact NO.out _ HRW.out.2 HN.out
            ·rw [h1]
             have hd0:¬ (dv.toNat:Int)<0:=by omega
             have hdw:IntKind.u8.wrap (dv.toNat:Int)=(dv.toNat:Int):=by rw [IntKind.wrap_u8];have:=dv.toNat_lt;omega
             have HN:=Hh (HQ.out.esc (c:=dv) (p':=p1+1) HC.out (fun x t he=>by
              rw [←HP1.out,HEO.out] at he
              have he:(ctlV c1).map (fun d=>(d,l.drop (p1+1)))=some (x,t):=he
              rw [h2] at he
              cases he
              exact ⟨rfl,rfl⟩))
             clear h1 h2
             go_wp2_with (refine wpList_append_lies _ rfl (.tmp 63) (.tmp 66) 73 rfl w.heap.size 5 ib (.int .u8 0) 1 1 hub HIB.out hb0 hb1 hb2 rfl (by decide) _ o.length _ rfl (HRW.out.1.alloc (.cells #[.int .u8 (dv.toNat:Int)] 5)) ⟨wr.heap.size,0,none⟩ 1 1 [.int .u8 (dv.toNat:Int)] rfl rfl (cells_new wr #[.int .u8 (dv.toNat:Int)] 5 [.int .u8 (dv.toNat:Int)] rfl) (by intro u hu;simp only [List.mem_cons,List.not_mem_nil,or_false] at hu;rcases hu with rfl;rfl) (by decide) (by unfold maxLen;omega) (by omega) (by have:=HRW.out.2.size;simp;omega) _ rfl ?_;intro gg cc W8 hown hgrow hat hlt2)
             have hB8:=obelow (HRW.out.2.alloc HRW.out.2.size (.cells #[.int .u8 (dv.toNat:Int)] 5)) (HRW.out.1.alloc (.cells #[.int .u8 (dv.toNat:Int)] 5)) hgrow (by have:=HRW.out.2.size;simp;omega)
             have F:Hid (BRow 5 w W8 (.slice (some ⟨gg,0,none⟩) (o.length+1) cc) (o++[dv])):=Hh ⟨by rw [Lg,bytesV_append];exact hown,hB8⟩
             clear hown hgrow hat hB8
             go_wp2
             go_roundw
             case rel=>exact ⟨p1+1,o++[dv],by go_num,by have:=HP1.out;omega,by omega,by simp;omega,F.out,HN.out⟩
             case measure=>simp [intOf];have:=HP1.out;omega
       ·have hp1j:¬ (p1:Int)<(s.size:Int):=by omega
        have HN:=Hh (HQ.out.none HC.out (by
         rw [←HP1.out,HEO.out,List.getElem?_eq_none (by have:=HSZ.out;omega)];rfl))
        go_upto_region 13 with ((with_reducible refine (HR.out).mono ?_);rintro e w1 ⟨rfl,rfl⟩)
        go_loopw [10,39] (fun d i wx=>∃j:Nat,i=.int .i64 j∧j≤6∧d=.int .i64 (-1)∧BRow 5 w wx u6 o) (fun _ i _=>6 - (intOf i).toNat)
        case atStart=>exact ⟨0,rfl,by omega,rfl,HROW.out⟩
        case round=>
         obtain ⟨j,rfl,hj,rfl,hrw⟩:=hrel
         have HRW:=Hh hrw
         clear hrw
         by_cases hj6:j<6
         ·have hj6':(j:Int)<6:=by omega
          have hj0:(0:Int)≤(j:Int):=by omega
          go_wp2
          go_quiet (fail)
          go_wp2
          go_roundw
          case rel=>exact ⟨j+1,by go_num,by omega,rfl,⟨HRW.out.1,bdrewN HRW.out.2 _⟩⟩
          case measure=>simp [intOf];omega
         ·have hj6':¬ (j:Int)<6:=by omega
          go_wp2
          go_ret2
          exact NO.out _ HRW.out.2 HN.out
    ·have n92:((c.toNat:Int) == 92)=false:=by
      rw [beq_eq_false_iff_ne];intro e;exact c92 (UInt8.toNat_inj.1 (by rw [show (92:UInt8).toNat=92 from rfl];omega))
     have n92b:((c.toNat:Int) != 92)=true:=by rw [bne,n92];rfl
     have HN:=Hh (HQ.out.plain hcp c34 c92)
     clear hcp c34 c92
     go_wp2_with (refine wpList_append_lies _ rfl (.tmp 33) (.tmp 35) 73 rfl w.heap.size 5 ib (.int .u8 0) 1 1 hub HIB.out hb0 hb1 hb2 rfl (by decide) _ o.length _ rfl (HROW.out.1.alloc (.cells #[.int .u8 (c.toNat:Int)] 5)) ⟨wr.heap.size,0,none⟩ 1 1 [.int .u8 (c.toNat:Int)] rfl rfl (cells_new wr #[.int .u8 (c.toNat:Int)] 5 [.int .u8 (c.toNat:Int)] rfl) (by intro u hu;simp only [List.mem_cons,List.not_mem_nil,or_false] at hu;rcases hu with rfl;rfl) (by decide) (by unfold maxLen;omega) (by omega) (by have:=HROW.out.2.size;simp;omega) _ rfl ?_;intro gg cc W8 hown hgrow hat hlt2)
     have hB8:=obelow (HROW.out.2.alloc HROW.out.2.size (.cells #[.int .u8 (c.toNat:Int)] 5)) (HROW.out.1.alloc (.cells #[.int .u8 (c.toNat:Int)] 5)) hgrow (by have:=HROW.out.2.size;simp;omega)
     have F:Hid (BRow 5 w W8 (.slice (some ⟨gg,0,none⟩) (o.length+1) cc) (o++[c])):=Hh ⟨by rw [Lg,bytesV_append];exact hown,hB8⟩
     clear hown hgrow hat hB8
     go_wp2
     go_roundw
     case rel=>exact ⟨p+1,o++[c],by go_num,by omega,by omega,by simp;omega,F.out,HN.out⟩
     case measure=>simp [intOf];omega
  ·have hlt':¬ (p:Int)<(s.size:Int):=by omega
   have hno:=HQ.out.over (by have:=HSZ.out;omega)
   have HN:=Hh hno
   clear hno
   go_wp2
   go_ret2
   exact NO.out _ HROW.out.2 HN.out
end Go.Proofs.YtcklddldejejcaaGreatDoor