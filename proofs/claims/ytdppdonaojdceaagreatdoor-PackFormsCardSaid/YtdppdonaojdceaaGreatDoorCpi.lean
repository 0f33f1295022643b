/- What the program's parser reads, by what is left: heads, names, items. No program. Then: The program's parser: items. -/
import Derived.Test.YtdppdonaojdceaaGreatDoorCpy
set_option linter.unusedVariables false
set_option linter.unusedSimpArgs false
set_option maxHeartbeats 6400000
set_option maxRecDepth 100000
namespace Go.Proofs.YtdppdonaojdceaaGreatDoor
def CIr (d:Nat) (r:List UInt8) (y:ND) (t:List UInt8):Prop:=validN d y=true∧numsB d y=true∧r=writeC d y++t
theorem rhead {d:Nat} {r r1:List UInt8} {ok:Bool} {m n:Nat} (hat:HdIs r ok m n r1) {y:ND} {t:List UInt8} (h:CIr (d+1) r y t):ok=true∧m=cMaj y∧n=cCnt y∧r1=bodyC d y++t:=by
 obtain ⟨h1,h2,h3⟩:=h
 rw [writeC_succ,List.append_assoc] at h3
 exact hat _ _ _ (cMaj_lt y) (cCnt_lt h1 h2) h3
def LIr (d:Nat) (k:Int) (n:Nat) (r:List UInt8) (ns:List ByteArray) (X:List ND) (rr:List UInt8):Prop:=∀y t,CIr (d+1) r y t→y=.mk k false 0 ⟨#[]⟩ y.names y.items∧y.items.length=n∧∃its nms,y.items=X++its∧y.names=ns++nms∧(k=5→nms.length=its.length)∧(k ≠ 5→nms=[])∧(∀z,z ∈ its→validN d z=true∧numsB d z=true)∧(∀z,z ∈ nms→z.size≤65536)∧rr=restC d k nms its++t
def VIr (d:Nat) (k:Int) (n:Nat) (r:List UInt8) (ns:List ByteArray) (X:List ND) (rr:List UInt8):Prop:=∀y t,CIr (d+1) r y t→y=.mk k false 0 ⟨#[]⟩ y.names y.items∧y.items.length=n∧∃i its nms,y.items=X++i::its∧y.names=ns++nms∧(k=5→nms.length=its.length)∧(k ≠ 5→nms=[])∧(∀z,z ∈ i::its→validN d z=true∧numsB d z=true)∧(∀z,z ∈ nms→z.size≤65536)∧rr=writeC d i++(restC d k nms its++t)
theorem LIr.start {d:Nat} {r r1:List UInt8} {ok:Bool} {m n:Nat} (hat:HdIs r ok m n r1) (hm:m=4∨m=5):LIr d (m:Int) n r [] [] r1:=by
 intro y t h
 obtain ⟨-,h1,h2,h4⟩:=rhead hat h
 obtain ⟨hi,-,-,hns⟩:=validN_parts h.1
 obtain ⟨-,hni⟩:=numsB_parts h.2.1
 rcases cmaj_cases h.1 h.2.1 with ⟨c1,-⟩ | ⟨c1,-⟩ | ⟨c1,-⟩ | ⟨c1,-⟩ | ⟨c1,c2,c3,c4⟩ | ⟨c1,c2,c3,c4,c5⟩
 ·omega
 ·omega
 ·omega
 ·omega
 ·have hm4:m=4:=by omega
  subst hm4
  have hnn:y.names=[]:=by rw [c4];rfl
  refine ⟨by rw [hnn];exact c4,by omega,y.items,[],rfl,hnn,fun h=>by omega,fun _=>rfl,fun z hz=>⟨hi z hz,hni z hz⟩,fun z hz=>by simp at hz,?_⟩
  rw [h4]
  have hk:y.kind=4:=by rw [c4];rfl
  unfold bodyC restC
  rw [hk];rfl
 ·have hm5:m=5:=by omega
  subst hm5
  refine ⟨c4,by omega,y.items,y.names,rfl,rfl,fun _=>c5,fun h=>absurd rfl h,fun z hz=>⟨hi z hz,hni z hz⟩,fun z hz=>textOk_le (hns z hz),?_⟩
  rw [h4]
  have hk:y.kind=5:=by rw [c4];rfl
  unfold bodyC restC
  rw [hk];rfl
theorem LIr.more {d:Nat} {k:Int} {n:Nat} {r rr:List UInt8} {ns:List ByteArray} {X:List ND} (h:LIr d k n r ns X rr) (hk:k ≠ 5) (hX:X.length<n):VIr d k n r ns X rr:=by
 intro y t hy
 obtain ⟨h1,h2,its,nms,h3,h4,h5,h6,h7,h8,h9⟩:=h y t hy
 cases its with
 | nil=>rw [h3,List.append_nil] at h2;omega
 | cons i its=>
  refine ⟨h1,h2,i,its,nms,h3,h4,fun h=>absurd h hk,h6,h7,h8,?_⟩
  rw [h9]
  unfold restC
  rw [if_neg hk,if_neg hk,List.flatMap_cons,List.append_assoc]
theorem LIr.text {d:Nat} {k:Int} {n:Nat} {r rr r':List UInt8} {ok:Bool} {ns:List ByteArray} {X:List ND} (h:LIr d k n r ns X rr) (hk:k=5) (hX:X.length<n) {o:ByteArray} (ht:NmIs rr ok o r'):(ok=false→∀y t,¬CIr (d+1) r y t)∧VIr d k n r (ns++[o]) X r':=by
 have main:∀y t,CIr (d+1) r y t→ok=true∧(y=.mk k false 0 ⟨#[]⟩ y.names y.items∧y.items.length=n∧∃i its nms,y.items=X++i::its∧y.names=ns++[o]++nms∧(k=5→nms.length=its.length)∧(k ≠ 5→nms=[])∧(∀z,z ∈ i::its→validN d z=true∧numsB d z=true)∧(∀z,z ∈ nms→z.size≤65536)∧r'=writeC d i++(restC d k nms its++t)):=by
  intro y t hy
  obtain ⟨h1,h2,its,nms,h3,h4,h5,h6,h7,h8,h9⟩:=h y t hy
  cases its with
  | nil=>rw [h3,List.append_nil] at h2;omega
  | cons i its=>
   cases nms with
   | nil=>have:=h5 hk;simp at this
   | cons m nms=>
    unfold restC at h9
    rw [if_pos hk,List.zipWith_cons_cons,List.flatten_cons,List.append_assoc,List.append_assoc] at h9
    obtain ⟨e1,e2,e3⟩:=ht m _ (Nat.lt_of_le_of_lt (h8 m (by simp)) (by decide)) h9
    subst e2
    refine ⟨e1,h1,h2,i,its,nms,h3,by rw [h4];simp,fun h=>by have:=h5 h;simpa using this,fun h=>absurd hk h,h7,fun z hz=>h8 z (by simp [hz]),?_⟩
    rw [e3]
    unfold restC
    rw [if_pos hk]
 exact ⟨(fun hq y t hy=>by have:=(main y t hy).1;rw [hq] at this;cases this),fun y t hy=>(main y t hy).2⟩
theorem VIr.item {d:Nat} {k:Int} {n:Nat} {r rr r':List UInt8} {ok:Bool} {ns:List ByteArray} {X:List ND} (h:VIr d k n r ns X rr) {x:ND} (ht:∀z t,CIr d rr z t→ok=true∧x=z∧r'=t):(ok=false→∀y t,¬CIr (d+1) r y t)∧LIr d k n r ns (X++[x]) r':=by
 have main:∀y t,CIr (d+1) r y t→ok=true∧(y=.mk k false 0 ⟨#[]⟩ y.names y.items∧y.items.length=n∧∃its nms,y.items=X++[x]++its∧y.names=ns++nms∧(k=5→nms.length=its.length)∧(k ≠ 5→nms=[])∧(∀z,z ∈ its→validN d z=true∧numsB d z=true)∧(∀z,z ∈ nms→z.size≤65536)∧r'=restC d k nms its++t):=by
  intro y t hy
  obtain ⟨h1,h2,i,its,nms,h3,h4,h5,h6,h7,h8,h9⟩:=h y t hy
  have hi:=h7 i (by simp)
  obtain ⟨e1,e2,e3⟩:=ht i _ ⟨hi.1,hi.2,h9⟩
  subst e2
  exact ⟨e1,h1,h2,its,nms,by rw [h3];simp,h4,h5,h6,fun z hz=>h7 z (by simp [hz]),h8,e3⟩
 exact ⟨(fun hq y t hy=>by have:=(main y t hy).1;rw [hq] at this;cases this),fun y t hy=>(main y t hy).2⟩
theorem LIr.done {d:Nat} {k:Int} {n:Nat} {r rr:List UInt8} {ns:List ByteArray} {X:List ND} (h:LIr d k n r ns X rr) (hX:X.length=n):∀y t,CIr (d+1) r y t→(.mk k false 0 ⟨#[]⟩ ns X)=y∧rr=t:=by
 intro y t hy
 obtain ⟨h1,h2,its,nms,h3,h4,h5,h6,h7,h8,h9⟩:=h y t hy
 have hn:its=[]:=by
  rw [h3,Lg] at h2
  exact List.length_eq_zero_iff.1 (by omega)
 subst hn
 have hm:nms=[]:=by
  by_cases hk:k=5
  ·exact List.length_eq_zero_iff.1 (h5 hk)
  ·exact h6 hk
 subst hm
 rw [List.append_nil] at h3 h4
 refine ⟨by rw [h1,h3,h4],?_⟩
 rw [h9]
 unfold restC
 split <;> rfl
end Go.Proofs.YtdppdonaojdceaaGreatDoor
namespace Go.Proofs.YtdppdonaojdceaaGreatDoor
open Go Go.Maps Go.ChangeShapes Go.WideShapes Go.ChangeAt Go.RowKit
theorem PrC.row {w w':World} {g m:Nat} {r:List UInt8} {row:Option Nat} (h:PrC w g m r) (hg:w.grownBy w' row) (hb:∀b,row=some b→g<b):PrC w' g m r:=by
 cases row with
 | some b=>exact h.kept hg (hb b rfl)
 | none=>
  obtain ⟨h1,h2,h3⟩:=h
  have hw:∀i,i<w.heap.size→w'.heap[i]?=w.heap[i]?:=fun i hi=>hg.block i hi (by intro e;cases e)
  exact ⟨(hw g (lt_of_block h1)).trans h1,h2.same (hw _ h2.lt),h3⟩
def CpPost (V:ND→List UInt8→Prop) (d:Nat) (g mb:Nat) (r:List UInt8) (w:World) (e:Ending) (w':World):Prop:=∃ (cs:List Value) (x:ND) (ok:Bool) (r':List UInt8),e=.returned (.tuple #[.agg cs.toArray,.bool ok])∧NodeIn (d+1) (fun b=>w.heap.size≤b∧b<w'.heap.size) w' cs x∧PrC w' g mb r'∧w.grownBy w' (some g)∧r'.length≤r.length∧(ok=true→r'.length<r.length+1)∧(lowV (d+1) x∧numsB (d+1) x=true)∧∀y t,V y t→ok=true∧x=y∧r'=t
theorem cpleaf_res {V:ND→List UInt8→Prop} {d g mb:Nat} {r r':List UInt8} {w wx:World} (k:Int) (b:Bool) (z:Int) (t:ByteArray) (ok:Bool) (hp:PrC wx g mb r') (hg:w.grownBy wx (some g)) (hgw:g<w.heap.size) (hl:r'.length≤r.length) (hl2:ok=true→r'.length<r.length+1) (ht:t.size≤maxLen - 2) (hz:wideI z=true)
 (hV:∀y t',V y t'→ok=true∧(.mk k b z t [] [])=y∧r'=t') :
 CpPost V d g mb r w (.returned (.tuple #[.agg #[.int .i64 k,.bool b,.int .i64 z,.string t,.slice none 0 0,.slice none 0 0],.bool ok])) (set6 wx w.heap.size (.int .i64 k) (.bool b) (.int .i64 z) (.string t) (.slice none 0 0) (.slice none 0 0)):=by
 have hgs:=grown_set6 wx w.heap.size (.int .i64 k) (.bool b) (.int .i64 z) (.string t) (.slice none 0 0) (.slice none 0 0)
 exact ⟨[.int .i64 k,.bool b,.int .i64 z,.string t,.slice none 0 0,.slice none 0 0],_,ok,r',rfl,(node_leaf _ _ k b z t ht).deeper (by omega),hp.kept hgs hgw,grown_new hg hgs (Lr _),hl,hl2,⟨⟨by simp [ND.items],fun y hy=>by simp [ND.items] at hy⟩,by unfold numsB;show (wideI z && _)=true;rw [hz];rfl⟩,hV⟩
def CnPost (V:ND→List UInt8→Prop) (d:Nat) (g mb:Nat) (r:List UInt8) (w:World) (e:Ending) (w':World):Prop:=∃ (cs:List Value) (x:ND) (ok:Bool) (r':List UInt8),e=.returned (.tuple #[.agg cs.toArray,.bool ok])∧NodeIn (d+1) (fun b=>w.heap.size≤b∧b<w'.heap.size) w' cs x∧PrC w' g mb r'∧w.grownBy w' (some g)∧r'.length≤r.length∧(ok=true→r'.length<r.length)∧(lowV (d+1) x∧numsB (d+1) x=true)∧∀y t,V y t→ok=true∧x=y∧r'=t
def CpNodeAt (d:Nat):Prop:=∀ (g mb:Nat) (r:List UInt8) (w:World),PrC w g mb r→r.length≤100000→Calls Tryz.prog 71 #[.pointer (some ⟨g,0,none⟩),.int .i64 (d:Int)] w (CnPost (CIr d r) d g mb r w)
structure ISc (d:Nat) (k:Int) (g nb C mb:Nat) (r1:List UInt8) (w wx:World) (vn vi:Value) (ns:List ByteArray) (A:List NC) (rr:List UInt8):Prop where
 par:PrC wx g mb rr
 st:NSt 30 9 (d+1) w wx g nb C k vn vi ns A
 fine:∀y,y ∈ A→lowV (d+1) y.2∧numsB (d+1) y.2=true
 len:A.length+rr.length≤r1.length
theorem cpitems_any (d:Nat) (hd:d≤20) (PN:CpNodeAt d) (k:Int) (hk:k=4∨k=5) (n:Nat) (hn:n<18446744073709551616) {g mb:Nat} {r r1:List UInt8} (w:World) (h:PrC w g mb r1) (hr:r1.length≤100000) (hI0:LIr d k n r [] [] r1):Calls Tryz.prog 108 #[.pointer (some ⟨g,0,none⟩),.int .i64 k,.int .u64 (n:Int),.int .i64 ((d:Int)+1)] w (CpPost (CIr (d+1) r) (d+1) g mb r1 w):=by
 have hgw:=h.lt
 obtain ⟨z1,hz1⟩:∃o,o=Obj.cells #[.int .i64 0,.bool false,.int .i64 0,.string ⟨#[]⟩,.slice none 0 0,.slice none 0 0] 30 (0,0):=⟨_,rfl⟩
 obtain ⟨z2,hz2⟩:∃o,o=Obj.cells #[.int .i64 k,.bool false,.int .i64 0,.string ⟨#[]⟩,.slice none 0 0,.slice none 0 0] 30 (0,0):=⟨_,rfl⟩
 have hr0:=Hn w z1
 have hz:(w.alloc z1).heap.size=w.heap.size+1:=by simp
 have hr1:=(Below.heap_alloc (w.alloc z1) z2 _ (lt_of_block hr0)).trans hr0
 have hn1:=Hn (w.alloc z1) z2
 have bb:=((Br w.heap.size w).alloc (o:=z1) (Lr _)).alloc (o:=z2) (by rw [hz];omega)
 have hp0:=h.below bb
 have hg0:=gtrans (galloc w z1 (some g)) (galloc (w.alloc z1) z2 (some g))
 obtain ⟨nb,hnb⟩:∃nb,nb=(w.alloc z1).heap.size:=⟨_,rfl⟩
 rw [←hnb] at hn1
 obtain ⟨W2,hW2⟩:∃W,W=(w.alloc z1).alloc z2:=⟨_,rfl⟩
 have hst0:NSt 30 9 (d+1) w W2 g nb W2.heap.size k (.slice none 0 0) (.slice none 0 0) [] []:=by
  rw [hW2]
  exact NSt.begin (by rw [hr1,hz1]) (by rw [hn1,hz2]) hgw (by omega) hg0
 rw [←hW2] at hp0
 obtain ⟨C,hC⟩:∃C,C=W2.heap.size:=⟨_,rfl⟩
 rw [←hC] at hst0
 have HST:=Hh hst0
 have HP0:=Hh hp0
 have HPN:=Hh PN
 have HLI:=Hh hI0
 rw [hz1,hz2] at hW2
 rw [hz1] at hnb
 have hzz:(w.alloc (.cells #[.int .i64 0,.bool false,.int .i64 0,.string ⟨#[]⟩,.slice none 0 0,.slice none 0 0] 30)).heap.size=w.heap.size+1:=by simp
 rw [hzz] at hnb
 clear hst0 hp0 hr0 hr1 hn1 bb hg0 hC PN h hz hz1 hz2 hzz hI0
 go_enter Tryz.func108,Tryz.ntmps108
 go_upto_region 2 with fail
 rw [←hW2]
 rw [←hnb]
 have HNB:=Hh hnb
 clear hW2 hnb z1 z2
 obtain ⟨ip,hip,hz0,hz1,hz2⟩:=infon
 obtain ⟨iq,hiq,hy0,hy1,hy2⟩:=infos
 have HI2:=Hh hip
 have HIQ:=Hh hiq
 clear hip hiq
 have hug:=Tryz.underlying28
 have hus:=Tryz.underlying27
 go_upto_region 3 with fail
 go_loopw [18] (fun i wr=>∃ (vn vi:Value) (ns:List ByteArray) (A:List NC) (rr:List UInt8),i=.int .u64 (A.length:Int)∧ISc d k g nb C mb r1 w wr vn vi ns A rr∧LIr d k n r ns (nodesOf A) rr∧ns.length≤A.length) (fun i _=>n - (intOf i).toNat)
 case atStart=>exact ⟨_,_,[],[],r1,rfl,⟨HP0.out,HST.out,(fun y hy=>by simp at hy),by simp⟩,HLI.out,Lr _⟩
 case round=>
  clear HST HP0 HLI
  obtain ⟨vn,vi,ns,A,rr,rfl,hI,hLI,hnsA⟩:=hrel
  have hlenI:=hI.len
  have HI:=Hh hI
  have HLI:=Hh hLI
  have hlnA:(nodesOf A).length=A.length:=by simp [nodesOf]
  have HLN:=Hh hlnA
  by_cases hlt:A.length<n
  ·have hlt':(A.length:Int)<(n:Int):=by omega
   have hwj:IntKind.u64.wrap ((A.length:Int)+1)=(A.length:Int)+1:=by rw [IntKind.wrap_u64];omega
   obtain ⟨ai,ci,hvi⟩:=hI.st.viForm
   subst hvi
   have hd0:(0:Int)≤(d:Int):=by omega
   have hdz:(d:Int)≤20:=by omega
   clear hI hLI hlnA
   by_cases hk5:k=5
   ·have hk5b:(k == 5)=true:=by simpa using hk5
    have NM:=Hh (cname_any wr HI.out.par (by omega))
    have HK5:=Hh hk5
    clear hk5
    go_upto_region 6 with ((with_reducible refine (NM.out).mono ?_);rintro e2 w3 ⟨sl,ok,ry,rfl,hp3,hg3,hsl,hly,hlty,hnm⟩)
    have HTX:=Hh (HLI.out.text HK5.out (by rw [HLN.out];exact hlt) hnm)
    have HS3:=Hh (HI.out.st.grown hg3)
    have HP3:=Hh hp3
    have HLY:=Hh hlty
    clear hnm hp3 hg3 NM hlty
    cases ok with
    | false=>
     have VAC:Hid (∀y t,¬CIr (d+1) r y t):=Hh (HTX.out.1 rfl)
     have f1:=free_six HS3.out.res
     have c1:=six_of HS3.out.res
     go_wp2
     refine ret_node (v:=.bool false) HS3.out.res Tryz.results108 rfl rfl rfl ?_
     exact cpleaf_res 0 false 0 ⟨#[]⟩ false HP3.out HS3.out.gro hgw (by omega) (fun h=>by cases h) (by decide) (by decide) (fun y t hV=>absurd hV (VAC.out y t))
    | true=>
     have c4:=(six_of HS3.out.nod).2.2.2.2.1
     have b4:=(Br w3.heap.size w3).alloc (o:=.cells #[.string sl] 9) (Lr _)
     have hst4:=HS3.out.below b4
     have hp4:=HP3.out.below b4
     have hn4:=Hn w3 (.cells #[.string sl] 9)
     have HN4:Hid (∀q u,([.string sl]:List Value)[q]?=some u→(w3.alloc (.cells #[.string sl] 9)).cell? ((⟨w3.heap.size,0,none⟩:Addr).add q)=some u):=Hh fun q u hq=>by
      have:=cells_lit _ hn4 rfl q u hq
      rw [Addr.add_lit,Nat.zero_add];exact this
     have hO4:=Hh hst4.names.1
     have hbs4:=hst4.lo.2.2.2
     have HST4:=Hh hst4
     have HP4:=Hh hp4
     have hsz4:sl.size≤maxLen - 2:=by unfold maxLen;omega
     clear hst4 hp4 hn4 b4
     go_upto_region 9 with ((refine wpList_append_lies _ rfl (.tmp 31) (.tmp 33) 27 rfl C 9 iq (.string ⟨#[]⟩) 1 16 hus HIQ.out hy0 hy1 hy2 rfl (by decide) vn ns.length _ rfl hO4.out ⟨w3.heap.size,0,none⟩ 1 1 [.string sl] rfl rfl HN4.out (by intro u hu;simp at hu;subst hu;rfl) (by decide) (by unfold maxLen;omega) (by omega) hbs4 _ rfl ?_);intro gn cn Wn hown hgrow hat hlt;(have hk8:=(HST4.out.apart (.inl rfl) hgrow nb HST4.out.lo.2.2.1).trans HST4.out.nod);(have hf8:=free_six hk8);(have hd8:=six_of hk8);(have HOW:=Hh (Ai hown (Ai hgrow hat)));clear hown hgrow hat hk8)
     have hsty:=HST4.out.name HOW.out.1 HOW.out.2.1 (own_at HOW.out.2.2) hsz4
     have hpy:=(HP4.out.row HOW.out.2.1 (fun b hb=>by have:=(HST4.out.names.1.lt b hb).1;have:=HST4.out.lo;omega)).kept (grown_set Wn nb 4 (.slice (some ⟨gn,0,none⟩) (ns.length+1) cn)) (by have:=HST4.out.lo;omega)
     generalize Wn.setCell ⟨nb,4,none⟩ (.slice (some ⟨gn,0,none⟩) (ns.length+1) cn)=wy at hsty hpy ⊢
     have HSY:=Hh hsty
     have HPY:=Hh hpy
     have VI:=Hh HTX.out.2
     have hnl:(ns++[sl]).length≤A.length+1:=by rw [Lg];show ns.length+1≤_;omega
     have hly2:A.length+ry.length≤r1.length:=by omega
     clear hsty hpy HTX HST4 HP4 HOW hO4 HN4 HS3 HP3 c4 hf8 hd8 hly hsl hk5b hsz4
     generalize ns++[sl]=ns2 at HSY VI hnl
     have NC:=Hh (HPN.out g mb ry wy HPY.out (by omega))
     have hns2:=HSY.out.viForm
     go_upto_region 10 with ((with_reducible refine (NC.out).mono ?_);rintro e3 w5 ⟨cs,x,ok,r',rfl,hnode,hp5,hg5,hl5,hlt5,hf5,hv5⟩;go_loud ((obtain ⟨a1,l1,c1,a2,l2,c2,hcs⟩:=hnode.slices);subst hcs))
     have bS:=(Br w5.heap.size w5).alloc (o:=.cells #[.int .i64 x.kind,.bool x.bool,.int .i64 x.num,.string x.text,.slice a1 l1 c1,.slice a2 l2 c2] 30) (Lr _)
     have hst5:=(HSY.out.grown hg5).below bS
     have hp6:=hp5.below bS
     have hnx:=Hn w5 (.cells #[.int .i64 x.kind,.bool x.bool,.int .i64 x.num,.string x.text,.slice a1 l1 c1,.slice a2 l2 c2] 30)
     have hfr:=fun (w7:World) (hb:Below w5.heap.size w5 w7)=>HSY.out.fresh hnode hb
     have hone:=hnode.one
     obtain ⟨W6,hW6⟩:∃W,W=w5.alloc (.cells #[.int .i64 x.kind,.bool x.bool,.int .i64 x.num,.string x.text,.slice a1 l1 c1,.slice a2 l2 c2] 30):=⟨_,rfl⟩
     rw [←hW6] at bS hst5 hp6 hnx
     have HST6:=Hh hst5
     have HP6:=Hh hp6
     have HFR:=Hh hfr
     have HBS:=Hh bS
     have HONE:=Hh hone
     have HV5:=Hh (Ai hf5 (VI.out.item hv5))
     have HW6:=Hh hW6
     have HL5:=Hh (Ai hl5 hlt5)
     clear hst5 hp6 hfr bS hone hf5 hv5 hnode hp5 hg5 NC VI hl5 hlt5
     try rw [←hW6]
     clear hW6
     cases ok with
     | false=>
      have VAC:Hid (∀y t,¬CIr (d+1) r y t):=Hh (HV5.out.2.1 rfl)
      have hl5:=HL5.out.1
      have f1:=free_six HST6.out.res
      have c1:=six_of HST6.out.res
      go_wp2
      refine ret_node (v:=.bool false) HST6.out.res Tryz.results108 rfl rfl rfl ?_
      exact cpleaf_res 0 false 0 ⟨#[]⟩ false HP6.out HST6.out.gro hgw (by omega) (fun h=>by cases h) (by decide) (by decide) (fun y t hV=>absurd hV (VAC.out y t))
     | true=>
      have hl5:=HL5.out.2 rfl
      have c5:=six_of HST6.out.nod
      have cx:=six_of hnx
      have b7:=(Br W6.heap.size W6).alloc (o:=.cells #[.int .i64 x.kind,.bool x.bool,.int .i64 x.num,.string x.text,.slice a1 l1 c1,.slice a2 l2 c2] 30) (Lr _)
      have hst7:=HST6.out.below b7
      have hp7:=HP6.out.below b7
      have hfr7:=HFR.out _ (HBS.out.trans (b7.mono HBS.out.size))
      have hn7:=Hn W6 (.cells #[.int .i64 x.kind,.bool x.bool,.int .i64 x.num,.string x.text,.slice a1 l1 c1,.slice a2 l2 c2] 30)
      have HN7:Hid (∀q u,([.int .i64 x.kind,.bool x.bool,.int .i64 x.num,.string x.text,.slice a1 l1 c1,.slice a2 l2 c2]:List Value)[q]?=some u→(W6.alloc (.cells #[.int .i64 x.kind,.bool x.bool,.int .i64 x.num,.string x.text,.slice a1 l1 c1,.slice a2 l2 c2] 30)).cell? ((⟨W6.heap.size,0,none⟩:Addr).add q)=some u):=Hh fun q u hq=>by
       have:=cells_lit _ hn7 rfl q u hq
       rw [Addr.add_lit,Nat.zero_add];exact this
      have hO7:=Hh hst7.items.1
      have hbs7:=hst7.lo.2.2.2
      have HST7:=Hh hst7
      have HP7:=Hh hp7
      have HFR7:=Hh hfr7
      clear hst7 hp7 hfr7 hn7 b7
      go_wp2_with ((refine wpList_append_lies _ rfl (.tmp 47) (.tmp 49) 28 rfl C 30 ip (.agg #[.int .i64 0,.bool false,.int .i64 0,.string ⟨#[]⟩,.slice none 0 0,.slice none 0 0]) 6 88 hug HI2.out hz0 hz1 hz2 rfl (by decide) (.slice ai A.length ci) A.length _ rfl hO7.out ⟨W6.heap.size,0,none⟩ 1 1 [.int .i64 x.kind,.bool x.bool,.int .i64 x.num,.string x.text,.slice a1 l1 c1,.slice a2 l2 c2] rfl rfl HN7.out HONE.out (by decide) (by unfold maxLen;omega) (by omega) hbs7 _ rfl ?_);intro g8 c8 W8 hown hgrow hat hlt;(have hk8:=(HST7.out.apart (.inr rfl) hgrow nb HST7.out.lo.2.2.1).trans HST7.out.nod);(have hf8:=free_six hk8);(have hd8:=six_of hk8);(have HOW:=Hh (Ai hown (Ai hgrow hat)));clear hown hgrow hat hk8)
      have hst8:=HST7.out.item HOW.out.1 HOW.out.2.1 (own_at HOW.out.2.2) HFR7.out
      have hp8:=(HP7.out.row HOW.out.2.1 (fun b hb=>by have:=(HST7.out.items.1.lt b hb).1;have:=HST7.out.lo;omega)).kept (grown_set W8 nb 5 (.slice (some ⟨g8,0,none⟩) (A.length+1) c8)) (by have:=HST7.out.lo;omega)
      go_roundw
      case rel=>
       refine ⟨_,_,_,A++[([.int .i64 x.kind,.bool x.bool,.int .i64 x.num,.string x.text,.slice a1 l1 c1,.slice a2 l2 c2],x)],r',?_,⟨hp8,hst8,?_,?_⟩,?_,?_⟩
       ·rw [Lg];rfl
       ·intro y hy
        rcases List.mem_append.1 hy with hy | hy
        ·exact HI.out.fine y hy
        ·cases List.mem_singleton.1 hy;exact HV5.out.1
       ·rw [Lg];show A.length+1+r'.length≤r1.length;omega
       ·rw [show nodesOf (A++[([.int .i64 x.kind,.bool x.bool,.int .i64 x.num,.string x.text,.slice a1 l1 c1,.slice a2 l2 c2],x)])=nodesOf A++[x] by simp [nodesOf]];exact HV5.out.2.2
       ·rw [Lg];show _≤A.length+1;omega
      case measure=>simp [intOf];omega
   ·have hk5b:(k == 5)=false:=by simpa using hk5
    have HSY:=Hh HI.out.st
    have HPY:=Hh HI.out.par
    have VI:=Hh (HLI.out.more hk5 (by rw [HLN.out];exact hlt))
    clear hk5
    go_upto_region 9 with fail
    have hly2:=hlenI
    have hnl:ns.length≤A.length+1:=by omega
    generalize hwy:wr=wy at HSY HPY ⊢
    generalize rr=ry at *
    clear hwy
    have NC:=Hh (HPN.out g mb ry wy HPY.out (by omega))
    have hns2:=HSY.out.viForm
    go_upto_region 10 with ((with_reducible refine (NC.out).mono ?_);rintro e3 w5 ⟨cs,x,ok,r',rfl,hnode,hp5,hg5,hl5,hlt5,hf5,hv5⟩;go_loud ((obtain ⟨a1,l1,c1,a2,l2,c2,hcs⟩:=hnode.slices);subst hcs))
    have bS:=(Br w5.heap.size w5).alloc (o:=.cells #[.int .i64 x.kind,.bool x.bool,.int .i64 x.num,.string x.text,.slice a1 l1 c1,.slice a2 l2 c2] 30) (Lr _)
    have hst5:=(HSY.out.grown hg5).below bS
    have hp6:=hp5.below bS
    have hnx:=Hn w5 (.cells #[.int .i64 x.kind,.bool x.bool,.int .i64 x.num,.string x.text,.slice a1 l1 c1,.slice a2 l2 c2] 30)
    have hfr:=fun (w7:World) (hb:Below w5.heap.size w5 w7)=>HSY.out.fresh hnode hb
    have hone:=hnode.one
    obtain ⟨W6,hW6⟩:∃W,W=w5.alloc (.cells #[.int .i64 x.kind,.bool x.bool,.int .i64 x.num,.string x.text,.slice a1 l1 c1,.slice a2 l2 c2] 30):=⟨_,rfl⟩
    rw [←hW6] at bS hst5 hp6 hnx
    have HST6:=Hh hst5
    have HP6:=Hh hp6
    have HFR:=Hh hfr
    have HBS:=Hh bS
    have HONE:=Hh hone
    have HV5:=Hh (Ai hf5 (VI.out.item hv5))
    have HW6:=Hh hW6
    have HL5:=Hh (Ai hl5 hlt5)
    clear hst5 hp6 hfr bS hone hf5 hv5 hnode hp5 hg5 NC VI hl5 hlt5
    try rw [←hW6]
    clear hW6
    cases ok with
    | false=>
     have VAC:Hid (∀y t,¬CIr (d+1) r y t):=Hh (HV5.out.2.1 rfl)
     have hl5:=HL5.out.1
     have f1:=free_six HST6.out.res
     have c1:=six_of HST6.out.res
     go_wp2
     refine ret_node (v:=.bool false) HST6.out.res Tryz.results108 rfl rfl rfl ?_
     exact cpleaf_res 0 false 0 ⟨#[]⟩ false HP6.out HST6.out.gro hgw (by omega) (fun h=>by cases h) (by decide) (by decide) (fun y t hV=>absurd hV (VAC.out y t))
    | true=>
     have hl5:=HL5.out.2 rfl
     have c5:=six_of HST6.out.nod
     have cx:=six_of hnx
     have b7:=(Br W6.heap.size W6).alloc (o:=.cells #[.int .i64 x.kind,.bool x.bool,.int .i64 x.num,.string x.text,.slice a1 l1 c1,.slice a2 l2 c2] 30) (Lr _)
     have hst7:=HST6.out.below b7
     have hp7:=HP6.out.below b7
     have hfr7:=HFR.out _ (HBS.out.trans (b7.mono HBS.out.size))
     have hn7:=Hn W6 (.cells #[.int .i64 x.kind,.bool x.bool,.int .i64 x.num,.string x.text,.slice a1 l1 c1,.slice a2 l2 c2] 30)
     have HN7:Hid (∀q u,([.int .i64 x.kind,.bool x.bool,.int .i64 x.num,.string x.text,.slice a1 l1 c1,.slice a2 l2 c2]:List Value)[q]?=some u→(W6.alloc (.cells #[.int .i64 x.kind,.bool x.bool,.int .i64 x.num,.string x.text,.slice a1 l1 c1,.slice a2 l2 c2] 30)).cell? ((⟨W6.heap.size,0,none⟩:Addr).add q)=some u):=Hh fun q u hq=>by
      have:=cells_lit _ hn7 rfl q u hq
      rw [Addr.add_lit,Nat.zero_add];exact this
     have hO7:=Hh hst7.items.1
     have hbs7:=hst7.lo.2.2.2
     have HST7:=Hh hst7
     have HP7:=Hh hp7
     have HFR7:=Hh hfr7
     clear hst7 hp7 hfr7 hn7 b7
     go_wp2_with ((refine wpList_append_lies _ rfl (.tmp 47) (.tmp 49) 28 rfl C 30 ip (.agg #[.int .i64 0,.bool false,.int .i64 0,.string ⟨#[]⟩,.slice none 0 0,.slice none 0 0]) 6 88 hug HI2.out hz0 hz1 hz2 rfl (by decide) (.slice ai A.length ci) A.length _ rfl hO7.out ⟨W6.heap.size,0,none⟩ 1 1 [.int .i64 x.kind,.bool x.bool,.int .i64 x.num,.string x.text,.slice a1 l1 c1,.slice a2 l2 c2] rfl rfl HN7.out HONE.out (by decide) (by unfold maxLen;omega) (by omega) hbs7 _ rfl ?_);intro g8 c8 W8 hown hgrow hat hlt;(have hk8:=(HST7.out.apart (.inr rfl) hgrow nb HST7.out.lo.2.2.1).trans HST7.out.nod);(have hf8:=free_six hk8);(have hd8:=six_of hk8);(have HOW:=Hh (Ai hown (Ai hgrow hat)));clear hown hgrow hat hk8)
     have hst8:=HST7.out.item HOW.out.1 HOW.out.2.1 (own_at HOW.out.2.2) HFR7.out
     have hp8:=(HP7.out.row HOW.out.2.1 (fun b hb=>by have:=(HST7.out.items.1.lt b hb).1;have:=HST7.out.lo;omega)).kept (grown_set W8 nb 5 (.slice (some ⟨g8,0,none⟩) (A.length+1) c8)) (by have:=HST7.out.lo;omega)
     go_roundw
     case rel=>
      refine ⟨_,_,_,A++[([.int .i64 x.kind,.bool x.bool,.int .i64 x.num,.string x.text,.slice a1 l1 c1,.slice a2 l2 c2],x)],r',?_,⟨hp8,hst8,?_,?_⟩,?_,?_⟩
      ·rw [Lg];rfl
      ·intro y hy
       rcases List.mem_append.1 hy with hy | hy
       ·exact HI.out.fine y hy
       ·cases List.mem_singleton.1 hy;exact HV5.out.1
      ·rw [Lg];show A.length+1+r'.length≤r1.length;omega
      ·rw [show nodesOf (A++[([.int .i64 x.kind,.bool x.bool,.int .i64 x.num,.string x.text,.slice a1 l1 c1,.slice a2 l2 c2],x)])=nodesOf A++[x] by simp [nodesOf]];exact HV5.out.2.2
      ·rw [Lg];show _≤A.length+1;omega
     case measure=>simp [intOf];omega
  ·have hlt':¬ (A.length:Int)<(n:Int):=by omega
   have hst:=HI.out.st
   have hDN:Hid (∀y t,CIr (d+1) r y t→(.mk k false 0 ⟨#[]⟩ ns (nodesOf A))=y∧rr=t):=Hh fun y t hy=>by
    have hle:A.length≤n∨n<A.length:=by omega
    by_cases he:(nodesOf A).length=n
    ·exact hLI.done he y t hy
    ·obtain ⟨-,h2,its,nms,h3,-⟩:=hLI y t hy
     exfalso
     rw [h3,Lg,hlnA] at h2
     omega
   obtain ⟨ai,ci,rfl⟩:=hst.viForm
   obtain ⟨an,cpn,rfl⟩:=hst.vnForm
   have f0:=free_six hst.nod
   have c0:=six_of hst.nod
   have f1:=free_six hst.res
   have c1:=six_of hst.res
   have hne:¬w.heap.size=nb:=by have:=hst.lo;omega
   have hne2:¬nb=w.heap.size:=fun e=>hne e.symm
   have HST:=Hh hst
   have HP1:=Hh HI.out.par
   clear hst hI hLI hlnA
   generalize hNL:ns.length=NL at c0 hnsA
   have HNL:=Hh hNL
   generalize hAL:A.length=AL at c0 hnsA hlenI hlt hlt' ⊢
   have HAL:=Hh hAL
   clear hNL hAL
   go_wp2
   have hdn:=HST.out.done
   have hput:=six_put HST.out.res (.int .i64 k) (.bool false) (.int .i64 0) (.string ⟨#[]⟩) (.slice an ns.length cpn) (.slice ai A.length ci)
   rw [HNL.out,HAL.out] at hdn hput
   refine bodyPost_ret (v:=.tuple #[.agg #[.int .i64 k,.bool false,.int .i64 0,.string ⟨#[]⟩,.slice an NL cpn,.slice ai AL ci],.bool true]) ?_ ?_ ?_
   rotate_left
   ·rfl
   ·have hgs:=grown_set6 wr w.heap.size (.int .i64 k) (.bool false) (.int .i64 0) (.string ⟨#[]⟩) (.slice an NL cpn) (.slice ai AL ci)
    have hlA:(nodesOf A).length=AL:=by rw [←HAL.out];simp [nodesOf]
    refine ⟨[.int .i64 k,.bool false,.int .i64 0,.string ⟨#[]⟩,.slice an NL cpn,.slice ai AL ci],.mk k false 0 ⟨#[]⟩ ns (nodesOf A),true,rr,rfl,hdn.1,HP1.out.kept hgs hgw,hdn.2.1,by omega,(fun _=>by omega),⟨⟨?_,?_⟩,?_⟩,?_⟩
    ·show (nodesOf A).length≤1000000;omega
    ·intro y hy
     obtain ⟨z,hz,rfl⟩:=List.mem_map.1 (show y ∈ nodesOf A from hy)
     exact (HI.out.fine z hz).1
    ·rw [numsB_succ,Bool.and_eq_true,List.all_eq_true]
     refine ⟨show wideI 0=true by decide,fun y hy=>?_⟩
     obtain ⟨z,hz,rfl⟩:=List.mem_map.1 (show y ∈ nodesOf A from hy)
     exact (HI.out.fine z hz).2
    ·intro y t hy
     exact ⟨rfl,hDN.out y t hy⟩
   ·obtain ⟨q0,q1,q2,q3,q4,q5⟩:=six_of hput
    simp only [set6] at q0 q1 q2 q3 q4 q5
    simp [results,Tryz.results108,go_sem,q0,q1,q2,q3,q4,q5]
end Go.Proofs.YtdppdonaojdceaaGreatDoor