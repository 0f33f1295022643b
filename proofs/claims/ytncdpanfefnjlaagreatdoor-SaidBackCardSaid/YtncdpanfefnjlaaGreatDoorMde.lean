import Derived.Test.YtncdpanfefnjlaaGreatDoorCpu
import Derived.Test.YtncdpanfefnjlaaGreatDoorJr5
set_option linter.unusedVariables false
set_option linter.unusedSimpArgs false
set_option maxHeartbeats 6400000
set_option maxRecDepth 100000
namespace Go.Proofs.YtncdpanfefnjlaaGreatDoor
open Go.Proofs.Tryz
theorem jS {d:Nat} {y:ND} (h:aB (d+1) y=true) (hn:aO (d+1) y=true) :
 (fV y=7∧20≤gG y∧gG y≤22)∨(fV y=0∧gG y≤9223372036854775807∧y=.mk 2 false (gG y:Int) ⟨#[]⟩ [] [])∨(fV y=1∧gG y≤9223372036854775807∧y=.mk 2 false (-1 - (gG y:Int)) ⟨#[]⟩ [] [])∨(fV y=3∧y.text.size≤65536∧y=.mk 3 false 0 y.text [] []∧bJ (d+1) y=fY y.text)∨(fV y=4∧gG y=y.items.length∧y.items.length≤256∧y=.mk 4 false 0 ⟨#[]⟩ [] y.items)∨(fV y=5∧gG y=y.items.length∧y.items.length≤256∧y=.mk 5 false 0 ⟨#[]⟩ y.names y.items∧y.names.length=y.items.length):=by
 obtain ⟨-,hl,htx,-⟩:=aX h;obtain ⟨hw,-⟩:=cL hn;have h6:=fJ htx;have hk:=jA h;unfold dD at hw;rw [Ak,Av,Av] at hw;obtain ⟨k,b,n,tt,ns,its⟩:=y;unfold nd0 at hk;simp only [ND.mk.injEq,ND.kind,ND.bool,ND.num,ND.text,ND.names,ND.items] at *;rcases hk with ⟨rfl,rfl,rfl,rfl,rfl,rfl⟩ | ⟨rfl,-,rfl,rfl,rfl,rfl⟩ | ⟨rfl,rfl,-,rfl,rfl,rfl⟩ | ⟨rfl,rfl,rfl,-,rfl,rfl⟩ | ⟨rfl,rfl,rfl,rfl,rfl,-⟩ | ⟨⟨rfl,rfl,rfl,rfl,-,-⟩,hlx⟩
 ·left;simp [fV,gG,ND.kind]
 ·left;cases b <;> simp [fV,gG,ND.kind,ND.bool]
 ·right
  by_cases hq:n<0
  ·right;left;simp [fV,gG,ND.kind,ND.num,hq];omega
  ·left;simp [fV,gG,ND.kind,ND.num,hq];omega
 ·right;right;right;left
  refine ⟨rfl,h6,by simp,?_⟩
  rw [gJ];simp [oV,fV,gG,fY,ND.kind,ND.text]
 ·right;right;right;right;left;exact ⟨rfl,rfl,hl,by simp⟩
 ·right;right;right;right;right;exact ⟨rfl,rfl,hl,by simp,hlx⟩
def pZ (d:Nat) (k:Int) (ns:List Bt) (its:List ND):Ub:=if k=5 then (List.zipWith (fun s y=>fY s++bJ d y) ns its).flatten else its.flatMap (bJ d)
end Go.Proofs.YtncdpanfefnjlaaGreatDoor
namespace Go.Proofs.YtncdpanfefnjlaaGreatDoor
open Go.Proofs.Tryz
open Go Go.ChangeShapes Go.WideShapes Go.ChangeAt Go.RowKit
theorem wB:∀ {d e:Nat} {x:ND},d≤e→aO e x=true→aO d x=true
 | 0,_,_,_,_=>rfl
 | d+1,0,_,h,_=>by omega
 | d+1,e+1,x,hd,hn=>by
  rw [cJ,Ak,Aw] at hn ⊢;exact ⟨hn.1,fun y hy=>wB (by omega) (hn.2 y hy)⟩
def rI (s:Bt) (x:ND) (er:Int):Prop:=(er=0∧aB 8 x=true∧aO 8 x=true∧bJ 8 x=s.data.toList∧s.size≤65536)∨(er=4∧x=nd0∧∀y,aB 8 y=true→aO 8 y=true→s.size≤65536→bJ 8 y ≠ s.data.toList)
def MU (s:Bt) (w:World) (e:Ending) (w':World):Prop:=∃ (cs:Vl) (x:ND) (er:Int),e=.returned (.tuple #[.agg cs.toArray,Iz er])∧aC 9 (fun b=>w.heap.size≤b∧b<w'.heap.size) w' cs x∧Below w.heap.size w w'∧rI s x er
end Go.Proofs.YtncdpanfefnjlaaGreatDoor
namespace Go.Proofs.YtncdpanfefnjlaaGreatDoor
open Go.Proofs.Tryz
open Go Go.Maps Go.ChangeShapes Go.WideShapes Go.ChangeAt Go.RowKit
def aHe (r:Ub) (ok:Bool) (s:Bt) (r':Ub):Prop:=∀ (x:Bt) t,x.size<18446744073709551616→r=fY x++t→ok=true∧s=x∧r'=t
theorem pM (x:Bt) (t:Ub):fY x++t=eA 3 x.size++(x.data.toList++t):=by unfold fY;rw [Aj]
theorem mR {x:Bt} {q t:Ub} (h:q=x.data.toList++t):x.size≤q.length∧bC (q.take x.size)=x∧q.drop x.size=t:=by
 have hl:x.data.toList.length=x.size:=by rw [Ah];rfl
 refine ⟨by rw [h,Lg];omega,?_,?_⟩
 ·rw [h,List.take_left' hl];exact qG x
 ·rw [h,List.drop_left' hl]
def aIz (g mb:Nat) (r:Ub) (w:World) (e:Ending) (w':World):Prop:=∃ (s:Bt) (ok:Bool) (r':Ub),e=.returned (.tuple #[.string s,.bool ok])∧PrC w' g mb r'∧w.grownBy w' (some g)∧s.size≤r.length∧r'.length≤r.length∧(ok=true→r'.length<r.length)∧aHe r ok s r'
theorem YD {g mb:Nat} {r:Ub} (w:World) (h:PrC w g mb r) (hr:r.length≤1000000):Calls prog 197 #[.pointer (some ⟨g,0,none⟩)] w (aIz g mb r w):=by
 have hgw:=h.lt;have HD:=Hh (GG w h hr);clear h
 go_enter func197,ntmps197
 go_upto_region 2 with ((with_reducible refine (HD.o).mono ?_);rintro e w1 ⟨m,n,ok,r1,rfl,hp1,hg1,hm,hn,hl1,hlt1,hI⟩)
 have bA:=(Br w1.heap.size w1).alloc (o:=.cells #[Iz (m:Int),.int .u64 (n:Int)] 214) (Lr _);have hp2:=hp1.below bA;have k2:=Hn w1 (.cells #[Iz (m:Int),.int .u64 (n:Int)] 214);have hg2:=aH hg1 (dP w1 (.cells #[Iz (m:Int),.int .u64 (n:Int)] 214) (some g));have hgb:g<w1.heap.size:=hp1.lt;generalize hw2:w1.alloc (.cells #[Iz (m:Int),.int .u64 (n:Int)] 214)=w2 at hp2 k2 hg2 ⊢;clear hw2 bA hp1 hg1 HD;have HP:=Hh (Ai hp2 hg2);have K2:=Hh k2;have HI:=Hh hI;have HL:=Hh (Ai hl1 hlt1);obtain ⟨b,hb⟩:∃b,b=w1.heap.size:=⟨_,rfl⟩;rw [←hb] at K2 k2 hgb ⊢;have c2:=dY k2;clear hb hp2 hg2 k2 hI hl1 hlt1;cases ok with
 | false=>
  go_wp2
  go_ret2
  exact ⟨_,_,_,rfl,HP.o.1,HP.o.2,Ax _,HL.o.1,(fun h=>by cases h),fun x t hx hh=>by
   rw [pM] at hh;have:=(HI.o 3 x.size _ (by decide) hx hh).1
   cases this⟩
 | true=>
  by_cases h3:m=3
  ·have h3':((m:Int) == 3)=true:=by subst h3;rfl
   have h3'':((m:Int) != 3)=false:=by subst h3;rfl
   by_cases hq:n≤r1.length
   ·have TK:=Hh (fun (wx:World) (hx:PrC wx g mb r1)=>uP n wx hx (by have:=HL.o.1;omega) hq)
    have hsz:(bC (r1.take n)).size≤r.length:=by rw [eH,Ba];have:=HL.o.1;omega
    have HN:Hid (aHe r true (bC (r1.take n)) (r1.drop n)):=Hh fun x t hx hh=>by
     rw [pM] at hh;obtain ⟨-,-,e1,e2⟩:=HI.o 3 x.size _ (by decide) hx hh
     obtain ⟨-,e3,e4⟩:=mR e2;subst e1;exact ⟨rfl,e3,e4⟩
    have hl2:(r1.drop n).length≤r1.length:=by rw [Cb];omega
    have HS:=Hh hsz;have HL2:=Hh hl2;obtain ⟨sx,hsx⟩:∃sx,sx=bC (r1.take n):=⟨_,rfl⟩;obtain ⟨rx,hrx⟩:∃rx,rx=r1.drop n:=⟨_,rfl⟩;rw [←hsx,←hrx] at TK HN;rw [←hsx] at HS;rw [←hrx] at HL2;clear hsz hl2 hsx hrx hq h3
    go_upto_region 4 with fail
    refine aJ (fun w'=>w'.cell? ⟨b,1,none⟩=some (.int .u64 (n:Int))) [4] (.take 0 (.take 1 (.take 2 (.take 3 (.take 4 (.ask 5 false (.take 6 (.take 7 (.take 8 (.ask 9 false .stop .stop)))) .stop)))))) (by kernel_rfl) (by kernel_rfl) (fun _ d _ _ _ h=>by cases d <;> exact h) c2.2 ?_
    have hpd:PrC w2.drew g mb r1:=HP.o.1.below (Br _ _).drew;have HPD:=Hh hpd;have HGD:Hid (w.grownBy w2.drew (some g)):=Hh (aH HP.o.2 (aK ((Br w2.heap.size w2).drew) (Lr _) _));clear hpd c2;generalize w2.drew=wd at HPD HGD ⊢
    iterate 4 (refine aG _ ?_ rfl rfl ?_ (fun K hK=>?_);rotate_left;(intro w0;go_simp;(try rfl));(go_simp;refine hK _ ?_;clear hK K))
    refine aN _ ?_ rfl rfl (by decide) ?_ (fun K hK=>?_);rotate_left;(intro w0 hw0;go_simp;(try rfl));(go_simp;refine hK _ ?_;clear hK K)
    refine aF _ rfl trivial ?_;go_wp2_with (go_at_call 172;(with_reducible refine (TK.o _ HPD.o).mono ?_);rintro e w3 ⟨rfl,hp3,hg3⟩);refine Seg.mk ?_
    iterate 3 (refine aG _ ?_ rfl rfl ?_ (fun K hK=>?_);rotate_left;(intro w0;go_simp;(try rfl));(go_simp;refine hK _ ?_;clear hK K))
    refine cG _ rfl trivial ?_
    go_wp2
    go_ret2
    exact ⟨_,_,_,rfl,hp3,aH HGD.o hg3,HS.o,by have:=HL.o.1;have:=HL2.o;omega,(fun h=>by have:=HL.o.2 (by first | rfl | trivial);have:=HL2.o;omega),HN.o⟩
   ·have TK:=Hh (fun (wx:World) (hx:PrC wx g mb r1)=>AC n wx hx (by have:=HL.o.1;omega) hq)
    have HN:Hid (aHe r false ⟨#[]⟩ r1):=Hh fun x t hx hh=>by
     exfalso
     rw [pM] at hh;obtain ⟨-,-,e1,e2⟩:=HI.o 3 x.size _ (by decide) hx hh
     obtain ⟨e0,-,-⟩:=mR e2;omega
    clear hq h3
    go_upto_region 4 with fail
    refine aJ (fun w'=>w'.cell? ⟨b,1,none⟩=some (.int .u64 (n:Int))) [4] (.take 0 (.take 1 (.take 2 (.take 3 (.take 4 (.ask 5 false (.take 6 (.take 7 (.take 8 (.ask 9 false .stop .stop)))) .stop)))))) (by kernel_rfl) (by kernel_rfl) (fun _ d _ _ _ h=>by cases d <;> exact h) c2.2 ?_
    have hpd:PrC w2.drew g mb r1:=HP.o.1.below (Br _ _).drew;have HPD:=Hh hpd;have HGD:Hid (w.grownBy w2.drew (some g)):=Hh (aH HP.o.2 (aK ((Br w2.heap.size w2).drew) (Lr _) _));clear hpd c2;generalize w2.drew=wd at HPD HGD ⊢
    iterate 4 (refine aG _ ?_ rfl rfl ?_ (fun K hK=>?_);rotate_left;(intro w0;go_simp;(try rfl));(go_simp;refine hK _ ?_;clear hK K))
    refine aN _ ?_ rfl rfl (by decide) ?_ (fun K hK=>?_);rotate_left;(intro w0 hw0;go_simp;(try rfl));(go_simp;refine hK _ ?_;clear hK K)
    refine aF _ rfl trivial ?_;go_wp2_with (go_at_call 172;(with_reducible refine (TK.o _ HPD.o).mono ?_);rintro e w3 ⟨rfl,hp3,hg3⟩);refine Seg.mk ?_
    iterate 3 (refine aG _ ?_ rfl rfl ?_ (fun K hK=>?_);rotate_left;(intro w0;go_simp;(try rfl));(go_simp;refine hK _ ?_;clear hK K))
    refine cG _ rfl trivial ?_
    go_wp2
    go_ret2
    exact ⟨_,_,_,rfl,hp3,aH HGD.o hg3,Ax _,HL.o.1,(fun h=>by cases h),HN.o⟩
  ·have h3':((m:Int) == 3)=false:=by simp;omega
   have h3'':((m:Int) != 3)=true:=by simp;omega
   have H3:=Hh h3;clear h3
   go_wp2
   go_ret2
   exact ⟨_,_,_,rfl,HP.o.1,HP.o.2,Ax _,HL.o.1,(fun h=>by cases h),fun x t hx hh=>by
    rw [pM] at hh;exact absurd (HI.o 3 x.size _ (by decide) hx hh).2.1 H3.o⟩
end Go.Proofs.YtncdpanfefnjlaaGreatDoor
namespace Go.Proofs.YtncdpanfefnjlaaGreatDoor
open Go.Proofs.Tryz
def CIr (d:Nat) (r:Ub) (y:ND) (t:Ub):Prop:=aB d y=true∧aO d y=true∧r=bJ d y++t
theorem yL {d:Nat} {r r1:Ub} {ok:Bool} {m n:Nat} (hat:tH r ok m n r1) {y:ND} {t:Ub} (h:CIr (d+1) r y t):ok=true∧m=fV y∧n=gG y∧r1=oV d y++t:=by
 obtain ⟨h1,h2,h3⟩:=h;rw [gJ,Aj] at h3;exact hat _ _ _ (xC y) (xD h1 h2) h3
def LIr (d:Nat) (k:Int) (n:Nat) (r:Ub) (ns:List Bt) (X:List ND) (rr:Ub):Prop:=∀y t,CIr (d+1) r y t→y=.mk k false 0 ⟨#[]⟩ y.names y.items∧y.items.length=n∧∃its nms,y.items=X++its∧y.names=ns++nms∧(k=5→nms.length=its.length)∧(k ≠ 5→nms=[])∧(∀z,z ∈ its→aB d z=true∧aO d z=true)∧(∀z,z ∈ nms→z.size≤65536)∧rr=pZ d k nms its++t
def VIr (d:Nat) (k:Int) (n:Nat) (r:Ub) (ns:List Bt) (X:List ND) (rr:Ub):Prop:=∀y t,CIr (d+1) r y t→y=.mk k false 0 ⟨#[]⟩ y.names y.items∧y.items.length=n∧∃i its nms,y.items=X++i::its∧y.names=ns++nms∧(k=5→nms.length=its.length)∧(k ≠ 5→nms=[])∧(∀z,z ∈ i::its→aB d z=true∧aO d z=true)∧(∀z,z ∈ nms→z.size≤65536)∧rr=bJ d i++(pZ d k nms its++t)
theorem LIr.start {d:Nat} {r r1:Ub} {ok:Bool} {m n:Nat} (hat:tH r ok m n r1) (hm:m=4∨m=5):LIr d (m:Int) n r [] [] r1:=by
 intro y t h;obtain ⟨-,h1,h2,h4⟩:=yL hat h;obtain ⟨hi,-,-,hns⟩:=aX h.1;obtain ⟨-,hni⟩:=cL h.2.1;rcases jS h.1 h.2.1 with ⟨c1,-⟩ | ⟨c1,-⟩ | ⟨c1,-⟩ | ⟨c1,-⟩ | ⟨c1,c2,c3,c4⟩ | ⟨c1,c2,c3,c4,c5⟩
 ·omega
 ·omega
 ·omega
 ·omega
 ·have hm4:m=4:=by omega
  subst hm4;have hnn:y.names=[]:=by rw [c4];rfl
  refine ⟨by rw [hnn];exact c4,by omega,y.items,[],rfl,hnn,fun h=>by omega,fun _=>rfl,fun z hz=>⟨hi z hz,hni z hz⟩,fun z hz=>by simp at hz,?_⟩
  rw [h4];have hk:y.kind=4:=by rw [c4];rfl
  unfold oV pZ;rw [hk];rfl
 ·have hm5:m=5:=by omega
  subst hm5;refine ⟨c4,by omega,y.items,y.names,rfl,rfl,fun _=>c5,fun h=>absurd rfl h,fun z hz=>⟨hi z hz,hni z hz⟩,fun z hz=>fJ (hns z hz),?_⟩
  rw [h4];have hk:y.kind=5:=by rw [c4];rfl
  unfold oV pZ;rw [hk];rfl
theorem LIr.more {d:Nat} {k:Int} {n:Nat} {r rr:Ub} {ns:List Bt} {X:List ND} (h:LIr d k n r ns X rr) (hk:k ≠ 5) (hX:X.length<n):VIr d k n r ns X rr:=by
 intro y t hy;obtain ⟨h1,h2,its,nms,h3,h4,h5,h6,h7,h8,h9⟩:=h y t hy;cases its with
 | nil=>rw [h3,Bu] at h2;omega
 | cons i its=>
  refine ⟨h1,h2,i,its,nms,h3,h4,fun h=>absurd h hk,h6,h7,h8,?_⟩
  rw [h9];unfold pZ;rw [Af hk,Af hk,Co,Aj]
theorem LIr.text {d:Nat} {k:Int} {n:Nat} {r rr r':Ub} {ok:Bool} {ns:List Bt} {X:List ND} (h:LIr d k n r ns X rr) (hk:k=5) (hX:X.length<n) {o:Bt} (ht:aHe rr ok o r'):(ok=false→∀y t,¬CIr (d+1) r y t)∧VIr d k n r (ns++[o]) X r':=by
 have main:∀y t,CIr (d+1) r y t→ok=true∧(y=.mk k false 0 ⟨#[]⟩ y.names y.items∧y.items.length=n∧∃i its nms,y.items=X++i::its∧y.names=ns++[o]++nms∧(k=5→nms.length=its.length)∧(k ≠ 5→nms=[])∧(∀z,z ∈ i::its→aB d z=true∧aO d z=true)∧(∀z,z ∈ nms→z.size≤65536)∧r'=bJ d i++(pZ d k nms its++t)):=by
  intro y t hy;obtain ⟨h1,h2,its,nms,h3,h4,h5,h6,h7,h8,h9⟩:=h y t hy;cases its with
  | nil=>rw [h3,Bu] at h2;omega
  | cons i its=>
   cases nms with
   | nil=>have:=h5 hk;simp at this
   | cons m nms=>
    unfold pZ at h9;rw [Am hk,Bg,Bp,Aj,Aj] at h9;obtain ⟨e1,e2,e3⟩:=ht m _ (Nat.lt_of_le_of_lt (h8 m (by simp)) (by decide)) h9
    subst e2;refine ⟨e1,h1,h2,i,its,nms,h3,by rw [h4];simp,fun h=>by have:=h5 h;simpa using this,fun h=>absurd hk h,h7,fun z hz=>h8 z (by simp [hz]),?_⟩
    rw [e3];unfold pZ;rw [Am hk]
 exact ⟨(fun hq y t hy=>by have:=(main y t hy).1;rw [hq] at this;cases this),fun y t hy=>(main y t hy).2⟩
theorem VIr.item {d:Nat} {k:Int} {n:Nat} {r rr r':Ub} {ok:Bool} {ns:List Bt} {X:List ND} (h:VIr d k n r ns X rr) {x:ND} (ht:∀z t,CIr d rr z t→ok=true∧x=z∧r'=t):(ok=false→∀y t,¬CIr (d+1) r y t)∧LIr d k n r ns (X++[x]) r':=by
 have main:∀y t,CIr (d+1) r y t→ok=true∧(y=.mk k false 0 ⟨#[]⟩ y.names y.items∧y.items.length=n∧∃its nms,y.items=X++[x]++its∧y.names=ns++nms∧(k=5→nms.length=its.length)∧(k ≠ 5→nms=[])∧(∀z,z ∈ its→aB d z=true∧aO d z=true)∧(∀z,z ∈ nms→z.size≤65536)∧r'=pZ d k nms its++t):=by
  intro y t hy;obtain ⟨h1,h2,i,its,nms,h3,h4,h5,h6,h7,h8,h9⟩:=h y t hy;have hi:=h7 i (by simp)
  obtain ⟨e1,e2,e3⟩:=ht i _ ⟨hi.1,hi.2,h9⟩;subst e2;exact ⟨e1,h1,h2,its,nms,by rw [h3];simp,h4,h5,h6,fun z hz=>h7 z (by simp [hz]),h8,e3⟩
 exact ⟨(fun hq y t hy=>by have:=(main y t hy).1;rw [hq] at this;cases this),fun y t hy=>(main y t hy).2⟩
theorem LIr.done {d:Nat} {k:Int} {n:Nat} {r rr:Ub} {ns:List Bt} {X:List ND} (h:LIr d k n r ns X rr) (hX:X.length=n):∀y t,CIr (d+1) r y t→(.mk k false 0 ⟨#[]⟩ ns X)=y∧rr=t:=by
 intro y t hy;obtain ⟨h1,h2,its,nms,h3,h4,h5,h6,h7,h8,h9⟩:=h y t hy;have hn:its=[]:=by
  rw [h3,Lg] at h2;exact Au.1 (by omega)
 subst hn;have hm:nms=[]:=by
  by_cases hk:k=5
  ·exact Au.1 (h5 hk)
  ·exact h6 hk
 subst hm;rw [Bu] at h3 h4;refine ⟨by rw [h1,h3,h4],?_⟩
 rw [h9];unfold pZ
 split <;> rfl
end Go.Proofs.YtncdpanfefnjlaaGreatDoor
namespace Go.Proofs.YtncdpanfefnjlaaGreatDoor
open Go.Proofs.Tryz
open Go Go.Maps Go.ChangeShapes Go.WideShapes Go.ChangeAt Go.RowKit
theorem PrC.row {w w':World} {g m:Nat} {r:Ub} {row:Option Nat} (h:PrC w g m r) (hg:w.grownBy w' row) (hb:∀b,row=some b→g<b):PrC w' g m r:=by
 cases row with
 | some b=>exact h.kept hg (hb b rfl)
 | none=>
  obtain ⟨h1,h2,h3⟩:=h;have hw:∀i,i<w.heap.size→w'.heap[i]?=w.heap[i]?:=fun i hi=>hg.block i hi (by intro e;cases e)
  exact ⟨(hw g (Aa h1)).trans h1,h2.same (hw _ h2.lt),h3⟩
def aEo (V:ND→Ub→Prop) (d:Nat) (g mb:Nat) (r:Ub) (w:World) (e:Ending) (w':World):Prop:=∃ (cs:Vl) (x:ND) (ok:Bool) (r':Ub),e=.returned (.tuple #[.agg cs.toArray,.bool ok])∧aC (d+1) (fun b=>w.heap.size≤b∧b<w'.heap.size) w' cs x∧PrC w' g mb r'∧w.grownBy w' (some g)∧r'.length≤r.length∧(ok=true→r'.length<r.length+1)∧(jN (d+1) x∧aO (d+1) x=true)∧∀y t,V y t→ok=true∧x=y∧r'=t
theorem rE {V:ND→Ub→Prop} {d g mb:Nat} {r r':Ub} {w wx:World} (k:Int) (b:Bool) (z:Int) (t:Bt) (ok:Bool) (hp:PrC wx g mb r') (hg:w.grownBy wx (some g)) (hgw:g<w.heap.size) (hl:r'.length≤r.length) (hl2:ok=true→r'.length<r.length+1) (ht:t.size≤maxLen - 2) (hz:dD z=true)
 (hV:∀y t',V y t'→ok=true∧(.mk k b z t [] [])=y∧r'=t') :
 aEo V d g mb r w (.returned (.tuple #[.agg #[Iz k,.bool b,Iz z,.string t,Sn,Sn],.bool ok])) (dE wx w.heap.size (Iz k) (.bool b) (Iz z) (.string t) (Sn) (Sn)):=by
 have hgs:=aM wx w.heap.size (Iz k) (.bool b) (Iz z) (.string t) (Sn) (Sn);exact ⟨[Iz k,.bool b,Iz z,.string t,Sn,Sn],_,ok,r',rfl,(cC _ _ k b z t ht).deeper (by omega),hp.kept hgs hgw,gB hg hgs (Lr _),hl,hl2,⟨⟨by simp [ND.items],fun y hy=>by simp [ND.items] at hy⟩,by unfold aO;show (dD z && _)=true;rw [hz];rfl⟩,hV⟩
def IC (V:ND→Ub→Prop) (d:Nat) (g mb:Nat) (r:Ub) (w:World) (e:Ending) (w':World):Prop:=∃ (cs:Vl) (x:ND) (ok:Bool) (r':Ub),e=.returned (.tuple #[.agg cs.toArray,.bool ok])∧aC (d+1) (fun b=>w.heap.size≤b∧b<w'.heap.size) w' cs x∧PrC w' g mb r'∧w.grownBy w' (some g)∧r'.length≤r.length∧(ok=true→r'.length<r.length)∧(jN (d+1) x∧aO (d+1) x=true)∧∀y t,V y t→ok=true∧x=y∧r'=t
def pC (d:Nat):Prop:=∀ (g mb:Nat) (r:Ub) (w:World),PrC w g mb r→r.length≤100000→Calls prog 148 #[.pointer (some ⟨g,0,none⟩),Iz (d:Int)] w (IC (CIr d r) d g mb r w)
structure ISc (d:Nat) (k:Int) (g nb C mb:Nat) (r1:Ub) (w wx:World) (vn vi:Value) (ns:List Bt) (A:List NC) (rr:Ub):Prop where
 par:PrC wx g mb rr
 st:NSt 28 9 (d+1) w wx g nb C k vn vi ns A
 fine:∀y,y ∈ A→jN (d+1) y.2∧aO (d+1) y.2=true
 len:A.length+rr.length≤r1.length
theorem MC (d:Nat) (hd:d≤20) (PN:pC d) (k:Int) (hk:k=4∨k=5) (n:Nat) (hn:n<18446744073709551616) {g mb:Nat} {r r1:Ub} (w:World) (h:PrC w g mb r1) (hr:r1.length≤100000) (hI0:LIr d k n r [] [] r1):Calls prog 173 #[.pointer (some ⟨g,0,none⟩),Iz k,.int .u64 (n:Int),Iz ((d:Int)+1)] w (aEo (CIr (d+1) r) (d+1) g mb r1 w):=by
 have hgw:=h.lt;obtain ⟨z1,hz1⟩:∃o,o=Obj.cells Z6 28 (0,0):=⟨_,rfl⟩;obtain ⟨z2,hz2⟩:∃o,o=Obj.cells #[Iz k,.bool false,Iz 0,.string ⟨#[]⟩,Sn,Sn] 28 (0,0):=⟨_,rfl⟩;have hr0:=Hn w z1;have hz:(w.alloc z1).heap.size=w.heap.size+1:=by simp
 have hr1:=(Bh (w.alloc z1) z2 _ (Aa hr0)).trans hr0;have hn1:=Hn (w.alloc z1) z2;have bb:=((Br w.heap.size w).alloc (o:=z1) (Lr _)).alloc (o:=z2) (by rw [hz];omega)
 have hp0:=h.below bb;have hg0:=aH (dP w z1 (some g)) (dP (w.alloc z1) z2 (some g));obtain ⟨nb,hnb⟩:∃nb,nb=(w.alloc z1).heap.size:=⟨_,rfl⟩;rw [←hnb] at hn1;obtain ⟨W2,hW2⟩:∃W,W=(w.alloc z1).alloc z2:=⟨_,rfl⟩;have hst0:NSt 28 9 (d+1) w W2 g nb W2.heap.size k (Sn) (Sn) [] []:=by
  rw [hW2];exact NSt.begin (by rw [hr1,hz1]) (by rw [hn1,hz2]) hgw (by omega) hg0
 rw [←hW2] at hp0;obtain ⟨C,hC⟩:∃C,C=W2.heap.size:=⟨_,rfl⟩;rw [←hC] at hst0;have HST:=Hh hst0;have HP0:=Hh hp0;have HPN:=Hh PN;have HLI:=Hh hI0;rw [hz1,hz2] at hW2;rw [hz1] at hnb;have hzz:(w.alloc (.cells Z6 28)).heap.size=w.heap.size+1:=by simp
 rw [hzz] at hnb;clear hst0 hp0 hr0 hr1 hn1 bb hg0 hC PN h hz hz1 hz2 hzz hI0
 go_enter func173,ntmps173
 go_upto_region 2 with fail
 rw [←hW2];rw [←hnb];have HNB:=Hh hnb;clear hW2 hnb z1 z2;obtain ⟨ip,hip,hz0,hz1,hz2⟩:=qD;obtain ⟨iq,hiq,hy0,hy1,hy2⟩:=qC;have HI2:=Hh hip;have HIQ:=Hh hiq;clear hip hiq;have hug:=underlying26;have hus:=underlying25
 go_upto_region 3 with fail
 go_loopw [18] (fun i wr=>∃ (vn vi:Value) (ns:List Bt) (A:List NC) (rr:Ub),i=.int .u64 (A.length:Int)∧ISc d k g nb C mb r1 w wr vn vi ns A rr∧LIr d k n r ns (aE A) rr∧ns.length≤A.length) (fun i _=>n - (intOf i).toNat)
 case atStart=>exact ⟨_,_,[],[],r1,rfl,⟨HP0.o,HST.o,(fun y hy=>by simp at hy),by simp⟩,HLI.o,Lr _⟩
 case round=>
  clear HST HP0 HLI;obtain ⟨vn,vi,ns,A,rr,rfl,hI,hLI,hnsA⟩:=hrel;have hlenI:=hI.len;have HI:=Hh hI;have HLI:=Hh hLI;have hlnA:(aE A).length=A.length:=by simp [aE]
  have HLN:=Hh hlnA
  by_cases hlt:A.length<n
  ·have hlt':(A.length:Int)<(n:Int):=by omega
   have hwj:IntKind.u64.wrap ((A.length:Int)+1)=(A.length:Int)+1:=by rw [Bw];omega
   obtain ⟨ai,ci,hvi⟩:=hI.st.viForm;subst hvi;have hd0:(0:Int)≤(d:Int):=by omega
   have hdz:(d:Int)≤20:=by omega
   clear hI hLI hlnA
   by_cases hk5:k=5
   ·have hk5b:(k == 5)=true:=by simpa using hk5
    have NM:=Hh (YD wr HI.o.par (by omega))
    have HK5:=Hh hk5;clear hk5
    go_upto_region 6 with ((with_reducible refine (NM.o).mono ?_);rintro e2 w3 ⟨sl,ok,ry,rfl,hp3,hg3,hsl,hly,hlty,hnm⟩)
    have HTX:=Hh (HLI.o.text HK5.o (by rw [HLN.o];exact hlt) hnm)
    have HS3:=Hh (HI.o.st.grown hg3);have HP3:=Hh hp3;have HLY:=Hh hlty;clear hnm hp3 hg3 NM hlty;cases ok with
    | false=>
     have VAC:Hid (∀y t,¬CIr (d+1) r y t):=Hh (HTX.o.1 rfl);have f1:=aD HS3.o.res;have c1:=aA HS3.o.res
     go_wp2
     refine aP (v:=.bool false) HS3.o.res results173 rfl rfl rfl ?_;exact rE 0 false 0 ⟨#[]⟩ false HP3.o HS3.o.gro hgw (by omega) (fun h=>by cases h) (by decide) (by decide) (fun y t hV=>absurd hV (VAC.o y t))
    | true=>
     have c4:=(aA HS3.o.nod).2.2.2.2.1;have b4:=(Br w3.heap.size w3).alloc (o:=.cells #[.string sl] 9) (Lr _);have hst4:=HS3.o.below b4;have hp4:=HP3.o.below b4;have hn4:=Hn w3 (.cells #[.string sl] 9);have HN4:Hid (∀q u,([.string sl]:Vl)[q]?=some u→(w3.alloc (.cells #[.string sl] 9)).cell? ((⟨w3.heap.size,0,none⟩:Addr).add q)=some u):=Hh fun q u hq=>by
      have:=cR _ hn4 rfl q u hq;rw [Bn,Bv];exact this
     have hO4:=Hh hst4.names.1;have hbs4:=hst4.lo.2.2.2;have HST4:=Hh hst4;have HP4:=Hh hp4;have hsz4:sl.size≤maxLen - 2:=by unfold maxLen;omega
     clear hst4 hp4 hn4 b4
     go_upto_region 9 with ((refine Bk _ rfl (.tmp 31) (.tmp 33) 25 rfl C 9 iq (.string ⟨#[]⟩) 1 16 hus HIQ.o hy0 hy1 hy2 rfl (by decide) vn ns.length _ rfl hO4.o ⟨w3.heap.size,0,none⟩ 1 1 [.string sl] rfl rfl HN4.o (by intro u hu;simp at hu;subst hu;rfl) (by decide) (by unfold maxLen;omega) (by omega) hbs4 _ rfl ?_);intro gn cn Wn hown hgrow hat hlt;(have hk8:=(HST4.o.apart (.inl rfl) hgrow nb HST4.o.lo.2.2.1).trans HST4.o.nod);(have hf8:=aD hk8);(have hd8:=aA hk8);(have HOW:=Hh (Ai hown (Ai hgrow hat)));clear hown hgrow hat hk8)
     have hsty:=HST4.o.name HOW.o.1 HOW.o.2.1 (fK HOW.o.2.2) hsz4;have hpy:=(HP4.o.row HOW.o.2.1 (fun b hb=>by have:=(HST4.o.names.1.lt b hb).1;have:=HST4.o.lo;omega)).kept (aR Wn nb 4 (.slice (some ⟨gn,0,none⟩) (ns.length+1) cn)) (by have:=HST4.o.lo;omega)
     generalize Wn.setCell ⟨nb,4,none⟩ (.slice (some ⟨gn,0,none⟩) (ns.length+1) cn)=wy at hsty hpy ⊢;have HSY:=Hh hsty;have HPY:=Hh hpy;have VI:=Hh HTX.o.2;have hnl:(ns++[sl]).length≤A.length+1:=by rw [Lg];show ns.length+1≤_;omega
     have hly2:A.length+ry.length≤r1.length:=by omega
     clear hsty hpy HTX HST4 HP4 HOW hO4 HN4 HS3 HP3 c4 hf8 hd8 hly hsl hk5b hsz4;generalize ns++[sl]=ns2 at HSY VI hnl;have NC:=Hh (HPN.o g mb ry wy HPY.o (by omega))
     have hns2:=HSY.o.viForm
     go_upto_region 10 with ((with_reducible refine (NC.o).mono ?_);rintro e3 w5 ⟨cs,x,ok,r',rfl,hnode,hp5,hg5,hl5,hlt5,hf5,hv5⟩;go_loud ((obtain ⟨a1,l1,c1,a2,l2,c2,hcs⟩:=hnode.slices);subst hcs))
     have bS:=(Br w5.heap.size w5).alloc (o:=.cells (Na x a1 l1 c1 a2 l2 c2) 28) (Lr _);have hst5:=(HSY.o.grown hg5).below bS;have hp6:=hp5.below bS;have hnx:=Hn w5 (.cells (Na x a1 l1 c1 a2 l2 c2) 28);have hfr:=fun (w7:World) (hb:Below w5.heap.size w5 w7)=>HSY.o.fresh hnode hb
     have hone:=hnode.one;obtain ⟨W6,hW6⟩:∃W,W=w5.alloc (.cells (Na x a1 l1 c1 a2 l2 c2) 28):=⟨_,rfl⟩;rw [←hW6] at bS hst5 hp6 hnx;have HST6:=Hh hst5;have HP6:=Hh hp6;have HFR:=Hh hfr;have HBS:=Hh bS;have HONE:=Hh hone;have HV5:=Hh (Ai hf5 (VI.o.item hv5));have HW6:=Hh hW6;have HL5:=Hh (Ai hl5 hlt5);clear hst5 hp6 hfr bS hone hf5 hv5 hnode hp5 hg5 NC VI hl5 hlt5
     try rw [←hW6]
     clear hW6;cases ok with
     | false=>
      have VAC:Hid (∀y t,¬CIr (d+1) r y t):=Hh (HV5.o.2.1 rfl);have hl5:=HL5.o.1;have f1:=aD HST6.o.res;have c1:=aA HST6.o.res
      go_wp2
      refine aP (v:=.bool false) HST6.o.res results173 rfl rfl rfl ?_;exact rE 0 false 0 ⟨#[]⟩ false HP6.o HST6.o.gro hgw (by omega) (fun h=>by cases h) (by decide) (by decide) (fun y t hV=>absurd hV (VAC.o y t))
     | true=>
      have hl5:=HL5.o.2 rfl;have c5:=aA HST6.o.nod;have cx:=aA hnx;have b7:=(Br W6.heap.size W6).alloc (o:=.cells (Na x a1 l1 c1 a2 l2 c2) 28) (Lr _);have hst7:=HST6.o.below b7;have hp7:=HP6.o.below b7;have hfr7:=HFR.o _ (HBS.o.trans (b7.mono HBS.o.size));have hn7:=Hn W6 (.cells (Na x a1 l1 c1 a2 l2 c2) 28);have HN7:Hid (∀q u,((Nc x a1 l1 c1 a2 l2 c2):Vl)[q]?=some u→(W6.alloc (.cells (Na x a1 l1 c1 a2 l2 c2) 28)).cell? ((⟨W6.heap.size,0,none⟩:Addr).add q)=some u):=Hh fun q u hq=>by
       have:=cR _ hn7 rfl q u hq;rw [Bn,Bv];exact this
      have hO7:=Hh hst7.items.1;have hbs7:=hst7.lo.2.2.2;have HST7:=Hh hst7;have HP7:=Hh hp7;have HFR7:=Hh hfr7;clear hst7 hp7 hfr7 hn7 b7
      go_wp2_with ((refine Bk _ rfl (.tmp 47) (.tmp 49) 26 rfl C 28 ip (.agg Z6) 6 88 hug HI2.o hz0 hz1 hz2 rfl (by decide) (.slice ai A.length ci) A.length _ rfl hO7.o ⟨W6.heap.size,0,none⟩ 1 1 (Nc x a1 l1 c1 a2 l2 c2) rfl rfl HN7.o HONE.o (by decide) (by unfold maxLen;omega) (by omega) hbs7 _ rfl ?_);intro g8 c8 W8 hown hgrow hat hlt;(have hk8:=(HST7.o.apart (.inr rfl) hgrow nb HST7.o.lo.2.2.1).trans HST7.o.nod);(have hf8:=aD hk8);(have hd8:=aA hk8);(have HOW:=Hh (Ai hown (Ai hgrow hat)));clear hown hgrow hat hk8)
      have hst8:=HST7.o.item HOW.o.1 HOW.o.2.1 (fK HOW.o.2.2) HFR7.o;have hp8:=(HP7.o.row HOW.o.2.1 (fun b hb=>by have:=(HST7.o.items.1.lt b hb).1;have:=HST7.o.lo;omega)).kept (aR W8 nb 5 (.slice (some ⟨g8,0,none⟩) (A.length+1) c8)) (by have:=HST7.o.lo;omega)
      go_roundw
      case rel=>
       refine ⟨_,_,_,A++[((Nc x a1 l1 c1 a2 l2 c2),x)],r',?_,⟨hp8,hst8,?_,?_⟩,?_,?_⟩
       ·rw [Lg];rfl
       ·intro y hy
        rcases Bb.1 hy with hy | hy
        ·exact HI.o.fine y hy
        ·cases At.1 hy;exact HV5.o.1
       ·rw [Lg];show A.length+1+r'.length≤r1.length;omega
       ·rw [show aE (A++[((Nc x a1 l1 c1 a2 l2 c2),x)])=aE A++[x] by simp [aE]];exact HV5.o.2.2
       ·rw [Lg];show _≤A.length+1;omega
      case measure=>simp [intOf];omega
   ·have hk5b:(k == 5)=false:=by simpa using hk5
    have HSY:=Hh HI.o.st;have HPY:=Hh HI.o.par;have VI:=Hh (HLI.o.more hk5 (by rw [HLN.o];exact hlt))
    clear hk5
    go_upto_region 9 with fail
    have hly2:=hlenI;have hnl:ns.length≤A.length+1:=by omega
    generalize hwy:wr=wy at HSY HPY ⊢;generalize rr=ry at *;clear hwy;have NC:=Hh (HPN.o g mb ry wy HPY.o (by omega))
    have hns2:=HSY.o.viForm
    go_upto_region 10 with ((with_reducible refine (NC.o).mono ?_);rintro e3 w5 ⟨cs,x,ok,r',rfl,hnode,hp5,hg5,hl5,hlt5,hf5,hv5⟩;go_loud ((obtain ⟨a1,l1,c1,a2,l2,c2,hcs⟩:=hnode.slices);subst hcs))
    have bS:=(Br w5.heap.size w5).alloc (o:=.cells (Na x a1 l1 c1 a2 l2 c2) 28) (Lr _);have hst5:=(HSY.o.grown hg5).below bS;have hp6:=hp5.below bS;have hnx:=Hn w5 (.cells (Na x a1 l1 c1 a2 l2 c2) 28);have hfr:=fun (w7:World) (hb:Below w5.heap.size w5 w7)=>HSY.o.fresh hnode hb
    have hone:=hnode.one;obtain ⟨W6,hW6⟩:∃W,W=w5.alloc (.cells (Na x a1 l1 c1 a2 l2 c2) 28):=⟨_,rfl⟩;rw [←hW6] at bS hst5 hp6 hnx;have HST6:=Hh hst5;have HP6:=Hh hp6;have HFR:=Hh hfr;have HBS:=Hh bS;have HONE:=Hh hone;have HV5:=Hh (Ai hf5 (VI.o.item hv5));have HW6:=Hh hW6;have HL5:=Hh (Ai hl5 hlt5);clear hst5 hp6 hfr bS hone hf5 hv5 hnode hp5 hg5 NC VI hl5 hlt5
    try rw [←hW6]
    clear hW6;cases ok with
    | false=>
     have VAC:Hid (∀y t,¬CIr (d+1) r y t):=Hh (HV5.o.2.1 rfl);have hl5:=HL5.o.1;have f1:=aD HST6.o.res;have c1:=aA HST6.o.res
     go_wp2
     refine aP (v:=.bool false) HST6.o.res results173 rfl rfl rfl ?_;exact rE 0 false 0 ⟨#[]⟩ false HP6.o HST6.o.gro hgw (by omega) (fun h=>by cases h) (by decide) (by decide) (fun y t hV=>absurd hV (VAC.o y t))
    | true=>
     have hl5:=HL5.o.2 rfl;have c5:=aA HST6.o.nod;have cx:=aA hnx;have b7:=(Br W6.heap.size W6).alloc (o:=.cells (Na x a1 l1 c1 a2 l2 c2) 28) (Lr _);have hst7:=HST6.o.below b7;have hp7:=HP6.o.below b7;have hfr7:=HFR.o _ (HBS.o.trans (b7.mono HBS.o.size));have hn7:=Hn W6 (.cells (Na x a1 l1 c1 a2 l2 c2) 28);have HN7:Hid (∀q u,((Nc x a1 l1 c1 a2 l2 c2):Vl)[q]?=some u→(W6.alloc (.cells (Na x a1 l1 c1 a2 l2 c2) 28)).cell? ((⟨W6.heap.size,0,none⟩:Addr).add q)=some u):=Hh fun q u hq=>by
      have:=cR _ hn7 rfl q u hq;rw [Bn,Bv];exact this
     have hO7:=Hh hst7.items.1;have hbs7:=hst7.lo.2.2.2;have HST7:=Hh hst7;have HP7:=Hh hp7;have HFR7:=Hh hfr7;clear hst7 hp7 hfr7 hn7 b7
     go_wp2_with ((refine Bk _ rfl (.tmp 47) (.tmp 49) 26 rfl C 28 ip (.agg Z6) 6 88 hug HI2.o hz0 hz1 hz2 rfl (by decide) (.slice ai A.length ci) A.length _ rfl hO7.o ⟨W6.heap.size,0,none⟩ 1 1 (Nc x a1 l1 c1 a2 l2 c2) rfl rfl HN7.o HONE.o (by decide) (by unfold maxLen;omega) (by omega) hbs7 _ rfl ?_);intro g8 c8 W8 hown hgrow hat hlt;(have hk8:=(HST7.o.apart (.inr rfl) hgrow nb HST7.o.lo.2.2.1).trans HST7.o.nod);(have hf8:=aD hk8);(have hd8:=aA hk8);(have HOW:=Hh (Ai hown (Ai hgrow hat)));clear hown hgrow hat hk8)
     have hst8:=HST7.o.item HOW.o.1 HOW.o.2.1 (fK HOW.o.2.2) HFR7.o;have hp8:=(HP7.o.row HOW.o.2.1 (fun b hb=>by have:=(HST7.o.items.1.lt b hb).1;have:=HST7.o.lo;omega)).kept (aR W8 nb 5 (.slice (some ⟨g8,0,none⟩) (A.length+1) c8)) (by have:=HST7.o.lo;omega)
     go_roundw
     case rel=>
      refine ⟨_,_,_,A++[((Nc x a1 l1 c1 a2 l2 c2),x)],r',?_,⟨hp8,hst8,?_,?_⟩,?_,?_⟩
      ·rw [Lg];rfl
      ·intro y hy
       rcases Bb.1 hy with hy | hy
       ·exact HI.o.fine y hy
       ·cases At.1 hy;exact HV5.o.1
      ·rw [Lg];show A.length+1+r'.length≤r1.length;omega
      ·rw [show aE (A++[((Nc x a1 l1 c1 a2 l2 c2),x)])=aE A++[x] by simp [aE]];exact HV5.o.2.2
      ·rw [Lg];show _≤A.length+1;omega
     case measure=>simp [intOf];omega
  ·have hlt':¬ (A.length:Int)<(n:Int):=by omega
   have hst:=HI.o.st;have hDN:Hid (∀y t,CIr (d+1) r y t→(.mk k false 0 ⟨#[]⟩ ns (aE A))=y∧rr=t):=Hh fun y t hy=>by
    have hle:A.length≤n∨n<A.length:=by omega
    by_cases he:(aE A).length=n
    ·exact hLI.done he y t hy
    ·obtain ⟨-,h2,its,nms,h3,-⟩:=hLI y t hy
     exfalso
     rw [h3,Lg,hlnA] at h2;omega
   obtain ⟨ai,ci,rfl⟩:=hst.viForm;obtain ⟨an,cpn,rfl⟩:=hst.vnForm;have f0:=aD hst.nod;have c0:=aA hst.nod;have f1:=aD hst.res;have c1:=aA hst.res;have hne:¬w.heap.size=nb:=by have:=hst.lo;omega
   have hne2:¬nb=w.heap.size:=fun e=>hne e.symm
   have HST:=Hh hst;have HP1:=Hh HI.o.par;clear hst hI hLI hlnA;generalize hNL:ns.length=NL at c0 hnsA;have HNL:=Hh hNL;generalize hAL:A.length=AL at c0 hnsA hlenI hlt hlt' ⊢;have HAL:=Hh hAL;clear hNL hAL
   go_wp2
   have hdn:=HST.o.done;have hput:=dB HST.o.res (Iz k) (.bool false) (Iz 0) (.string ⟨#[]⟩) (.slice an ns.length cpn) (.slice ai A.length ci);rw [HNL.o,HAL.o] at hdn hput;refine Ar (v:=.tuple #[.agg #[Iz k,.bool false,Iz 0,.string ⟨#[]⟩,.slice an NL cpn,.slice ai AL ci],.bool true]) ?_ ?_ ?_;rotate_left
   ·rfl
   ·have hgs:=aM wr w.heap.size (Iz k) (.bool false) (Iz 0) (.string ⟨#[]⟩) (.slice an NL cpn) (.slice ai AL ci)
    have hlA:(aE A).length=AL:=by rw [←HAL.o];simp [aE]
    refine ⟨[Iz k,.bool false,Iz 0,.string ⟨#[]⟩,.slice an NL cpn,.slice ai AL ci],.mk k false 0 ⟨#[]⟩ ns (aE A),true,rr,rfl,hdn.1,HP1.o.kept hgs hgw,hdn.2.1,by omega,(fun _=>by omega),⟨⟨?_,?_⟩,?_⟩,?_⟩
    ·show (aE A).length≤1000000;omega
    ·intro y hy
     obtain ⟨z,hz,rfl⟩:=Bl.1 (show y ∈ aE A from hy)
     exact (HI.o.fine z hz).1
    ·rw [cJ,Ak,Aw]
     refine ⟨show dD 0=true by decide,fun y hy=>?_⟩
     obtain ⟨z,hz,rfl⟩:=Bl.1 (show y ∈ aE A from hy)
     exact (HI.o.fine z hz).2
    ·intro y t hy
     exact ⟨rfl,hDN.o y t hy⟩
   ·obtain ⟨q0,q1,q2,q3,q4,q5⟩:=aA hput
    simp only [dE] at q0 q1 q2 q3 q4 q5;simp [results,results173,go_sem,q0,q1,q2,q3,q4,q5]
end Go.Proofs.YtncdpanfefnjlaaGreatDoor
namespace Go.Proofs.YtncdpanfefnjlaaGreatDoor
open Go.Proofs.Tryz
def MIs (d:Nat) (l:Ub) (p:Nat) (y:ND) (t:Ub):Prop:=aB d y=true∧aO d y=true∧l.drop p=bL d y++t
def aFs (l:Ub) (p v:Nat):Nat:=fZ ((l.drop (p+1)).take (eK v))
theorem aJq {d:Nat} {l:Ub} {p:Nat} {c:UInt8} (hc:l[p]?=some c) {y:ND} {t:Ub} (h:MIs (d+1) l p y t):c.toNat=(pHd y).1∧mA c.toNat=y.kind∧p+1+eK c.toNat≤l.length∧eP c.toNat (aFs l p c.toNat)=gR y∧aFs l p c.toNat=kO y % 256 ^ eK c.toNat∧kK (bL d) y++t=l.drop (p+1+eK c.toNat):=by
 obtain ⟨h1,h2,h3⟩:=h;obtain ⟨a1,a2,a3,a4⟩:=wV h1 h2;rw [gI,Aj,MH hc] at h3;unfold cZ at h3;rw [Bm] at h3;obtain ⟨h4,h5⟩:=List.cons.inj h3;have h4:=Ad UInt8.toNat h4;rw [Be] at h4;have hv:c.toNat=(pHd y).1:=by omega
 have hp:=dH hc;have hl:=Ad List.length h5;rw [Cb,Lg,aY] at hl;have hb:(dF (kO y) (pHd y).2).length=(pHd y).2:=aY _ _;have hm:aFs l p c.toNat=kO y % 256 ^ (pHd y).2:=by
  unfold aFs;rw [hv,a3,h5,List.take_left' hb,iS]
 refine ⟨hv,by rw [hv,a2],by rw [hv,a3];omega,by rw [hm,hv,a4],by rw [hm,hv,a3],?_⟩
 rw [hv,a3,←List.drop_drop,h5,List.drop_left' hb]
theorem uA {d:Nat} {y:ND} (h:aB (d+1) y=true) (hn:aO (d+1) y=true) :
 (y.kind=0∧y=.mk 0 false 0 ⟨#[]⟩ [] [])∨(y.kind=1∧y=.mk 1 (decide (gR y=1)) 0 ⟨#[]⟩ [] [])∨(y.kind=2∧dD y.num=true∧gR y=y.num∧y=.mk 2 false y.num ⟨#[]⟩ [] [])∨(y.kind=3∧y.text.size≤65536∧gR y=y.text.size∧y=.mk 3 false 0 y.text [] [])∨(y.kind=4∧gR y=y.items.length∧y.items.length≤256∧y=.mk 4 false 0 ⟨#[]⟩ [] y.items)∨(y.kind=5∧gR y=y.items.length∧y.items.length≤256∧y=.mk 5 false 0 ⟨#[]⟩ y.names y.items∧y.names.length=y.items.length):=by
 obtain ⟨-,hl,htx,-⟩:=aX h;obtain ⟨hw,-⟩:=cL hn;have h6:=fJ htx;have hk:=jA h;obtain ⟨k,b,n,tt,ns,its⟩:=y;unfold nd0 at hk;simp only [ND.mk.injEq,ND.kind,ND.bool,ND.num,ND.text,ND.names,ND.items] at *;rcases hk with ⟨rfl,rfl,rfl,rfl,rfl,rfl⟩ | ⟨rfl,-,rfl,rfl,rfl,rfl⟩ | ⟨rfl,rfl,-,rfl,rfl,rfl⟩ | ⟨rfl,rfl,rfl,-,rfl,rfl⟩ | ⟨rfl,rfl,rfl,rfl,rfl,-⟩ | ⟨⟨rfl,rfl,rfl,rfl,-,-⟩,hlx⟩
 ·left;simp
 ·right;left;cases b <;> simp [gR,ND.kind,ND.bool]
 ·right;right;left;simp [gR,ND.kind,ND.num,hw]
 ·right;right;right;left;simp [gR,ND.kind,ND.text,h6]
 ·right;right;right;right;left;simp [gR,ND.kind,ND.items,hl]
 ·right;right;right;right;right;simp [gR,ND.kind,ND.items,hl,hlx]
def pY (d:Nat) (k:Int) (ns:List Bt) (its:List ND):Ub:=if k=5 then (List.zipWith (fun s y=>gT s++bL d y) ns its).flatten else its.flatMap (bL d)
theorem aIe {d:Nat} {l:Ub} {p:Nat} {c:UInt8} (hc:l[p]?=some c) (hn:¬ (c.toNat<128∨224≤c.toNat∨c.toNat=192∨c.toNat=194∨c.toNat=195∨(204≤c.toNat∧c.toNat≤211)∨aEi c.toNat)):∀y t,¬MIs (d+1) l p y t:=by
 intro y t h;obtain ⟨h0,-⟩:=aJq hc h;obtain ⟨-,hl,-,-⟩:=aX h.1
 apply hn
 unfold aEi;rcases uA h.1 h.2.1 with ⟨c1,-⟩ | ⟨c1,-⟩ | ⟨c1,-⟩ | ⟨c1,c2,-⟩ | ⟨c1,-,c2,-⟩ | ⟨c1,-,c2,-⟩
 ·have e:(pHd y).1=192:=by unfold pHd;rw [c1];rfl
  omega
 ·have e:(pHd y).1=195∨(pHd y).1=194:=by unfold pHd;rw [c1];cases y.bool <;> simp
  omega
 ·have e:(pHd y).1=(qR y.num).1:=by unfold pHd;rw [c1];rfl
  rw [e] at h0;rw [h0];unfold qR
  (repeat' split) <;> dsimp only <;> (try unfold eU) <;> omega
 ·have e:(pHd y).1=(kL y.text.size).1:=by unfold pHd;rw [c1];rfl
  rw [e] at h0;rw [h0];unfold kL
  (repeat' split) <;> dsimp only <;> omega
 ·have e:(pHd y).1=(uB y.items.length).1:=by unfold pHd;rw [c1];rfl
  rw [e] at h0;rw [h0];unfold uB
  (repeat' split) <;> dsimp only <;> omega
 ·have e:(pHd y).1=(mB y.items.length).1:=by unfold pHd;rw [c1];rfl
  rw [e] at h0;rw [h0];unfold mB
  (repeat' split) <;> dsimp only <;> omega
def MIr (d:Nat) (r:Ub) (y:ND) (t:Ub):Prop:=aB d y=true∧aO d y=true∧r=bL d y++t
def MHd (r:Ub) (ok:Bool) (k z:Int) (r1:Ub):Prop:=∀d y t,aB (d+1) y=true→aO (d+1) y=true→r=cZ (pHd y) (kO y)++t→ok=true∧k=y.kind∧z=gR y∧r1=t
theorem tY {d:Nat} {r r1:Ub} {ok:Bool} {k z:Int} (hat:MHd r ok k z r1) {y:ND} {t:Ub} (h:MIr (d+1) r y t):ok=true∧k=y.kind∧z=gR y∧r1=kK (bL d) y++t:=by
 obtain ⟨h1,h2,h3⟩:=h;rw [gI,Aj] at h3;exact hat d y _ h1 h2 h3
theorem aAv {z:Bt} (d:Nat) (h:aV z=true):aB (d+1) (.mk 3 false 0 z [] [])=true∧aO (d+1) (.mk 3 false 0 z [] [])=true∧bL (d+1) (.mk 3 false 0 z [] [])=gT z:=by
 refine ⟨?_,?_,?_⟩
 ·rw [cQ]
  unfold eQ;simp [ND.kind,ND.bool,ND.num,ND.text,ND.names,ND.items,h]
 ·rw [cJ];rfl
 ·rfl
def MLr (d:Nat) (k:Int) (n:Nat) (r:Ub) (ns:List Bt) (X:List ND) (rr:Ub):Prop:=∀y t,MIr (d+1) r y t→y=.mk k false 0 ⟨#[]⟩ y.names y.items∧y.items.length=n∧∃its nms,y.items=X++its∧y.names=ns++nms∧(k=5→nms.length=its.length)∧(k ≠ 5→nms=[])∧(∀z,z ∈ its→aB d z=true∧aO d z=true)∧(∀z,z ∈ nms→aV z=true)∧rr=pY d k nms its++t
def MVr (d:Nat) (k:Int) (n:Nat) (r:Ub) (ns:List Bt) (X:List ND) (rr:Ub):Prop:=∀y t,MIr (d+1) r y t→y=.mk k false 0 ⟨#[]⟩ y.names y.items∧y.items.length=n∧∃i its nms,y.items=X++i::its∧y.names=ns++nms∧(k=5→nms.length=its.length)∧(k ≠ 5→nms=[])∧(∀z,z ∈ i::its→aB d z=true∧aO d z=true)∧(∀z,z ∈ nms→aV z=true)∧rr=bL d i++(pY d k nms its++t)
theorem MLr.start {d:Nat} {r r1:Ub} {ok:Bool} {k:Int} {n:Nat} (hat:MHd r ok k (n:Int) r1) (hk:k=4∨k=5):MLr d k n r [] [] r1:=by
 intro y t h;obtain ⟨-,h1,h2,h4⟩:=tY hat h;obtain ⟨hi,-,-,hns⟩:=aX h.1;obtain ⟨-,hni⟩:=cL h.2.1;rw [h1] at hk ⊢;rcases uA h.1 h.2.1 with ⟨c1,-⟩ | ⟨c1,-⟩ | ⟨c1,-⟩ | ⟨c1,-⟩ | ⟨c1,c2,c3,c4⟩ | ⟨c1,c2,c3,c4,c5⟩
 ·omega
 ·omega
 ·omega
 ·omega
 ·have hnn:y.names=[]:=by rw [c4];rfl
  rw [c1];refine ⟨by rw [hnn];exact c4,by omega,y.items,[],rfl,hnn,fun h=>by omega,fun _=>rfl,fun z hz=>⟨hi z hz,hni z hz⟩,fun z hz=>by simp at hz,?_⟩
  rw [h4];unfold kK pY;rw [c1];rfl
 ·rw [c1]
  refine ⟨c4,by omega,y.items,y.names,rfl,rfl,fun _=>c5,fun h=>absurd rfl h,fun z hz=>⟨hi z hz,hni z hz⟩,fun z hz=>hns z hz,?_⟩
  rw [h4];unfold kK pY;rw [c1];rfl
theorem MLr.more {d:Nat} {k:Int} {n:Nat} {r rr:Ub} {ns:List Bt} {X:List ND} (h:MLr d k n r ns X rr) (hk:k ≠ 5) (hX:X.length<n):MVr d k n r ns X rr:=by
 intro y t hy;obtain ⟨h1,h2,its,nms,h3,h4,h5,h6,h7,h8,h9⟩:=h y t hy;cases its with
 | nil=>rw [h3,Bu] at h2;omega
 | cons i its=>
  refine ⟨h1,h2,i,its,nms,h3,h4,fun h=>absurd h hk,h6,h7,h8,?_⟩
  rw [h9];unfold pY;rw [Af hk,Af hk,Co,Aj]
theorem MLr.text {d:Nat} {k:Int} {n:Nat} {r rr r':Ub} {ok:Bool} {ns:List Bt} {X:List ND} (h:MLr d k n r ns X rr) (hk:k=5) (hX:X.length<n) {x:ND} (ht:∀z t,MIr d rr z t→ok=true∧x=z∧r'=t):(ok=false→∀y t,¬MIr (d+1) r y t)∧MVr d k n r (ns++[x.text]) X r':=by
 have main:∀y t,MIr (d+1) r y t→ok=true∧(y=.mk k false 0 ⟨#[]⟩ y.names y.items∧y.items.length=n∧∃i its nms,y.items=X++i::its∧y.names=ns++[x.text]++nms∧(k=5→nms.length=its.length)∧(k ≠ 5→nms=[])∧(∀z,z ∈ i::its→aB d z=true∧aO d z=true)∧(∀z,z ∈ nms→aV z=true)∧r'=bL d i++(pY d k nms its++t)):=by
  intro y t hy;obtain ⟨h1,h2,its,nms,h3,h4,h5,h6,h7,h8,h9⟩:=h y t hy;cases its with
  | nil=>rw [h3,Bu] at h2;omega
  | cons i its=>
   cases nms with
   | nil=>have:=h5 hk;simp at this
   | cons m nms=>
    unfold pY at h9;rw [Am hk,Bg,Bp,Aj,Aj] at h9;obtain ⟨e,rfl⟩:∃e,d=e+1:=by
     cases d with
     | zero=>have:=(h7 i (by simp)).1;cases this
     | succ e=>exact ⟨e,rfl⟩
    obtain ⟨o1,o2,o3⟩:=aAv e (h8 m (by simp))
    obtain ⟨e1,e2,e3⟩:=ht _ _ ⟨o1,o2,by rw [o3];exact h9⟩
    subst e2;refine ⟨e1,h1,h2,i,its,nms,h3,by rw [h4];simp [ND.text],fun h=>by have:=h5 h;simpa using this,fun h=>absurd hk h,h7,fun z hz=>h8 z (by simp [hz]),?_⟩
    rw [e3];unfold pY;rw [Am hk]
 exact ⟨(fun hq y t hy=>by have:=(main y t hy).1;rw [hq] at this;cases this),fun y t hy=>(main y t hy).2⟩
theorem MVr.item {d:Nat} {k:Int} {n:Nat} {r rr r':Ub} {ok:Bool} {ns:List Bt} {X:List ND} (h:MVr d k n r ns X rr) {x:ND} (ht:∀z t,MIr d rr z t→ok=true∧x=z∧r'=t):(ok=false→∀y t,¬MIr (d+1) r y t)∧MLr d k n r ns (X++[x]) r':=by
 have main:∀y t,MIr (d+1) r y t→ok=true∧(y=.mk k false 0 ⟨#[]⟩ y.names y.items∧y.items.length=n∧∃its nms,y.items=X++[x]++its∧y.names=ns++nms∧(k=5→nms.length=its.length)∧(k ≠ 5→nms=[])∧(∀z,z ∈ its→aB d z=true∧aO d z=true)∧(∀z,z ∈ nms→aV z=true)∧r'=pY d k nms its++t):=by
  intro y t hy;obtain ⟨h1,h2,i,its,nms,h3,h4,h5,h6,h7,h8,h9⟩:=h y t hy;have hi:=h7 i (by simp)
  obtain ⟨e1,e2,e3⟩:=ht i _ ⟨hi.1,hi.2,h9⟩;subst e2;exact ⟨e1,h1,h2,its,nms,by rw [h3];simp,h4,h5,h6,fun z hz=>h7 z (by simp [hz]),h8,e3⟩
 exact ⟨(fun hq y t hy=>by have:=(main y t hy).1;rw [hq] at this;cases this),fun y t hy=>(main y t hy).2⟩
theorem MLr.done {d:Nat} {k:Int} {n:Nat} {r rr:Ub} {ns:List Bt} {X:List ND} (h:MLr d k n r ns X rr) (hX:X.length=n):∀y t,MIr (d+1) r y t→(.mk k false 0 ⟨#[]⟩ ns X)=y∧rr=t:=by
 intro y t hy;obtain ⟨h1,h2,its,nms,h3,h4,h5,h6,h7,h8,h9⟩:=h y t hy;have hn:its=[]:=by
  rw [h3,Lg] at h2;exact Au.1 (by omega)
 subst hn;have hm:nms=[]:=by
  by_cases hk:k=5
  ·exact Au.1 (h5 hk)
  ·exact h6 hk
 subst hm;rw [Bu] at h3 h4;refine ⟨by rw [h1,h3,h4],?_⟩
 rw [h9];unfold pY
 split <;> rfl
end Go.Proofs.YtncdpanfefnjlaaGreatDoor
namespace Go.Proofs.YtncdpanfefnjlaaGreatDoor
open Go.Proofs.Tryz
open Go Go.ChangeShapes Go.WideShapes Go.ChangeAt Go.RowKit
theorem vT:∀ {d e:Nat} {x:ND},d≤e→aO e x=true→aO d x=true
 | 0,_,_,_,_=>rfl
 | d+1,0,_,h,_=>by omega
 | d+1,e+1,x,hd,hn=>by
  rw [cJ,Ak,Aw] at hn ⊢;exact ⟨hn.1,fun y hy=>vT (by omega) (hn.2 y hy)⟩
def rH (s:Bt) (x:ND) (er:Int):Prop:=(er=0∧aB 8 x=true∧aO 8 x=true∧bL 8 x=s.data.toList∧s.size≤65536)∨(er=4∧x=nd0∧∀y,aB 8 y=true→aO 8 y=true→s.size≤65536→bL 8 y ≠ s.data.toList)
def MR (s:Bt) (w:World) (e:Ending) (w':World):Prop:=∃ (cs:Vl) (x:ND) (er:Int),e=.returned (.tuple #[.agg cs.toArray,Iz er])∧aC 9 (fun b=>w.heap.size≤b∧b<w'.heap.size) w' cs x∧Below w.heap.size w w'∧rH s x er
end Go.Proofs.YtncdpanfefnjlaaGreatDoor