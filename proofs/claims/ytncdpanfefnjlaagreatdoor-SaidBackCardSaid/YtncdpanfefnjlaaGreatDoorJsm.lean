import Derived.Test.YtncdpanfefnjlaaGreatDoorMfc
set_option linter.unusedVariables false
set_option linter.unusedSimpArgs false
set_option maxHeartbeats 3200000
set_option maxRecDepth 100000
namespace Go.Proofs.YtncdpanfefnjlaaGreatDoor
open Go.Proofs.Tryz
open Go Go.ChangeShapes Go.WideShapes Go.ChangeAt Go.RowKit
def nM (p:Prop) (w:World) (e:Ending) (w':World):Prop:=∃b:Bool,e=.returned (.bool b)∧(b=true↔p)∧Below w.heap.size w w'
theorem bE.get {S:Nat→Prop} {w:World} {ao:Option Addr} {l cap:Nat} {ns:List Bt} (h:bE S w (.slice ao l cap) ns) {j:Nat} {s:Bt} (hj:ns[j]?=some s):∃b off,ao=some ⟨b,off,none⟩∧S b∧w.cell? ⟨b,off+j,none⟩=some (.string s):=by
 obtain ⟨ao',cap',e,h1,h2,h3⟩:=h;cases e;obtain ⟨b,off,e,hS,hc,_⟩:=h3 j s hj;exact ⟨b,off,e,hS,hc⟩
theorem lV {a b:Bt} (h:a=b):(a.toList == b.toList)=true:=by rw [h];exact beq_self_eq_true _
theorem iD {a b:Bt} (h:a ≠ b):(a.toList == b.toList)=false:=by
 rw [Db];intro e;rw [ByteArray.toList_eq,ByteArray.toList_eq] at e;exact h (Cp (Ce.1 e))
theorem QO {S S':Nat→Prop} (v v':Value) (ns ms:List Bt) (w:World) (h:bE S w v ns) (h':bE S' w v' ms) (hS:∀b,S b→b<w.heap.size) (hS':∀b,S' b→b<w.heap.size):Calls prog 88 #[v,v'] w (nM (ns=ms) w):=by
 obtain ⟨a1,c1,e1,p1,p2,-⟩:=id h;obtain ⟨a2,c2,e2,q1,q2,-⟩:=id h';subst e1;subst e2;unfold maxLen at p2 q2;have H:=Hh h;have H':=Hh h';have HS:=Hh hS;have HS':=Hh hS';clear h h' hS hS'
 by_cases hlen:ns.length=ms.length
 ·have hlen':((ns.length:Int) != (ms.length:Int))=false:=by simp [hlen]
  have HLEN:=Hh hlen;clear hlen
  go_enter func88,ntmps88
  go_wp2
  go_loopw [5,13] (fun i5 i wr=>∃j:Nat,i=Iz j∧j≤ns.length∧ns.take j=ms.take j∧Below w.heap.size w wr) (fun _ i _=>ns.length - (intOf i).toNat)
  case atStart=>exact ⟨0,rfl,Ax _,by simp,Br _ _⟩
  case round=>
   obtain ⟨j,rfl,hj,heq,hB⟩:=hrel
   by_cases hlt:j<ns.length
   ·have hlt':(j:Int)<(ns.length:Int):=by omega
    have hj0:(0:Int)≤(j:Int):=by omega
    have hlt2':(j:Int)<(ms.length:Int):=by have:=HLEN.o;omega
    obtain ⟨s,hs⟩:∃s,ns[j]?=some s:=⟨_,Ac hlt⟩;obtain ⟨t,ht⟩:∃t,ms[j]?=some t:=⟨_,Ac (show j<ms.length by omega)⟩
    obtain ⟨b1,o1,rfl,hb1,k1⟩:=H.o.get hs;obtain ⟨b2,o2,rfl,hb2,k2⟩:=H'.out.get ht;have r1:=(hB.cell (p:=⟨b1,o1+j,none⟩) (HS.o b1 hb1)).trans k1;have r2:=(hB.cell (p:=⟨b2,o2+j,none⟩) (HS'.out b2 hb2)).trans k2;have HQ:=Hh heq;have HA:=Hh hs;have HT:=Hh ht;clear k1 k2 hs ht heq
    by_cases hst:s=t
    ·have hx:(s.toList == t.toList)=true:=lV hst
     have hx2:(s.toList != t.toList)=false:=by simp [bne,hx]
     have HST:=Hh hst;clear hst
     go_wp2
     go_quiet (fail)
     go_wp2
     go_roundw
     case rel=>exact ⟨j+1,by go_num,by omega,by rw [Bf,Bf,HA.o,HT.o,HQ.o,HST.o],uU hB _⟩
     case measure=>simp [intOf];omega
    ·have hx:(s.toList == t.toList)=false:=iD hst
     have hx2:(s.toList != t.toList)=true:=by simp [bne,hx]
     have HST:=Hh hst;clear hst
     go_wp2
     go_quiet (fail)
     go_wp2
     go_ret
     refine ⟨false,rfl,⟨fun e=>(by cases e),fun e=>?_⟩,uU hB _⟩
     have h1:=HA.o;rw [e,HT.o] at h1;exact absurd (Ab h1).symm HST.o
   ·have hlt':¬ (j:Int)<(ns.length:Int):=by omega
    have HQ:=Hh heq;clear heq
    go_wp2
    go_ret
    refine ⟨true,rfl,⟨fun _=>?_,fun _=>rfl⟩,hB⟩
    have:=HQ.o;have hl:=HLEN.o
    rwa [Ao (by omega),Ao (by omega)] at this
 ·have hlen':((ns.length:Int) != (ms.length:Int))=true:=by simp;omega
  have HL:=Hh hlen;clear hlen
  go_enter func88,ntmps88
  go_wp2
  go_ret
  exact ⟨false,rfl,⟨fun e=>(by cases e),fun e=>absurd (by rw [e]) HL.o⟩,Br _ _⟩
def GO (d:Nat):Prop:=∀ (d':Nat) (S S':Nat→Prop) (cs cs':Vl) (x y:ND) (w:World),aC d S w cs x→aC d' S' w cs' y→(∀b,S b→b<w.heap.size)→(∀b,S' b→b<w.heap.size)→Calls prog 54 #[.agg cs.toArray,.agg cs'.toArray] w (nM (x=y) w)
theorem LT {d d':Nat} (HV:GO d) {S S':Nat→Prop} (v v':Value) (ns ms:List ND) (w:World) (h:cB (aC d S w) S w v ns) (h':cB (aC d' S' w) S' w v' ms) (hS:∀b,S b→b<w.heap.size) (hS':∀b,S' b→b<w.heap.size) :
 Calls prog 89 #[v,v',.func (.func 54) #[] #[]] w (nM (ns=ms) w):=by
 obtain ⟨a1,c1,e1,p1,p2,-⟩:=id h;obtain ⟨a2,c2,e2,q1,q2,-⟩:=id h';subst e1;subst e2;unfold maxLen at p2 q2;have H:=Hh h;have H':=Hh h';have HS:=Hh hS;have HS':=Hh hS';have HVV:=Hh HV;clear h h' hS hS' HV
 by_cases hlen:ns.length=ms.length
 ·have hlen':((ns.length:Int) != (ms.length:Int))=false:=by simp [hlen]
  have HLEN:=Hh hlen;clear hlen
  go_enter func89,ntmps89
  go_wp2
  go_loopw [7,8,9,17] (fun i7 i8 i9 i wr=>∃j:Nat,i=Iz j∧j≤ns.length∧ns.take j=ms.take j∧Below w.heap.size w wr) (fun _ _ _ i _=>ns.length - (intOf i).toNat)
  case atStart=>exact ⟨0,rfl,Ax _,by simp,Br _ _⟩
  case round=>
   obtain ⟨j,rfl,hj,heq,hB⟩:=hrel
   by_cases hlt:j<ns.length
   ·have hlt':(j:Int)<(ns.length:Int):=by omega
    have hj0:(0:Int)≤(j:Int):=by omega
    have hltm:j<ms.length:=by have:=HLEN.o;omega
    have hlt2':(j:Int)<(ms.length:Int):=by omega
    obtain ⟨-,-,-,b,off,x,a3,l3,c3,a4,l4,c4,rfl,hSb,hx,hnd,k0,k1,k2,k3,k4,k5⟩:=H.o.at hlt;obtain ⟨-,-,-,b',off',y,a5,l5,c5,a6,l6,c6,rfl,hSb',hy,hnd',m0,m1,m2,m3,m4,m5⟩:=H'.out.at hltm;have hbw:=HS.o b hSb;have hbw':=HS'.out b' hSb';have q0:=(hB.cell (p:=⟨b,off+j * 6,none⟩) hbw).trans k0;have q1:=(hB.cell (p:=⟨b,off+j * 6+1,none⟩) hbw).trans k1;have q2:=(hB.cell (p:=⟨b,off+j * 6+2,none⟩) hbw).trans k2;have q3:=(hB.cell (p:=⟨b,off+j * 6+3,none⟩) hbw).trans k3;have q4:=(hB.cell (p:=⟨b,off+j * 6+4,none⟩) hbw).trans k4;have q5:=(hB.cell (p:=⟨b,off+j * 6+5,none⟩) hbw).trans k5;have b1:=hB.trans (((Br wr.heap.size wr).alloc (o:=.cells (Na x a3 l3 c3 a4 l4 c4) 28) (Lr _)).mono hB.size);have r0:=(b1.cell (p:=⟨b',off'+j * 6,none⟩) hbw').trans m0;have r1:=(b1.cell (p:=⟨b',off'+j * 6+1,none⟩) hbw').trans m1;have r2:=(b1.cell (p:=⟨b',off'+j * 6+2,none⟩) hbw').trans m2;have r3:=(b1.cell (p:=⟨b',off'+j * 6+3,none⟩) hbw').trans m3;have r4:=(b1.cell (p:=⟨b',off'+j * 6+4,none⟩) hbw').trans m4;have r5:=(b1.cell (p:=⟨b',off'+j * 6+5,none⟩) hbw').trans m5;have b2:=b1.alloc (o:=.cells (Na y a5 l5 c5 a6 l6 c6) 28) b1.size;have V:=Hh (HVV.o d' S S' _ _ x y ((wr.alloc (.cells (Na x a3 l3 c3 a4 l4 c4) 28)).alloc (.cells (Na y a5 l5 c5 a6 l6 c6) 28)) (hnd.same fun b hb=>b2.block b (HS.o b hb)) (hnd'.same fun b hb=>b2.block b (HS'.out b hb)) (fun b hb=>Ll (HS.o b hb) b2.size) (fun b hb=>Ll (HS'.out b hb) b2.size))
    clear k0 k1 k2 k3 k4 k5 m0 m1 m2 m3 m4 m5 hnd hnd' b1;have HQ:=Hh heq;have HX:=Hh hx;have HY:=Hh hy;have B2:=Hh b2;clear hx hy heq b2 hB
    go_upto_if 30 with ((with_reducible refine (V.o).mono ?_);rintro e w1 ⟨bb,rfl,hbb,hb1⟩)
    have hB1:=B2.o.trans (hb1.mono B2.o.size);cases bb with
    | true=>
     have hxy:x=y:=hbb.1 rfl;have HXY:=Hh hxy;clear hbb hxy hb1 q0 q1 q2 q3 q4 q5 r0 r1 r2 r3 r4 r5
     go_wp2
     go_roundw
     case rel=>exact ⟨j+1,by go_num,by omega,by rw [Bf,Bf,HX.o,HY.o,HQ.o,HXY.o],hB1⟩
     case measure=>simp [intOf];omega
    | false=>
     have hxy:x ≠ y:=fun e=>by have:=hbb.2 e;cases this
     have HXY:=Hh hxy;clear hbb hxy hb1 q0 q1 q2 q3 q4 q5 r0 r1 r2 r3 r4 r5
     go_wp2
     go_ret
     refine ⟨false,rfl,⟨fun e=>(by cases e),fun e=>?_⟩,hB1⟩
     have h1:=HX.o;rw [e,HY.o] at h1;exact absurd (Ab h1).symm HXY.o
   ·have hlt':¬ (j:Int)<(ns.length:Int):=by omega
    have HQ:=Hh heq;clear heq
    go_wp2
    go_ret
    refine ⟨true,rfl,⟨fun _=>?_,fun _=>rfl⟩,hB⟩
    have:=HQ.o;have hl:=HLEN.o
    rwa [Ao (by omega),Ao (by omega)] at this
 ·have hlen':((ns.length:Int) != (ms.length:Int))=true:=by simp;omega
  have HL:=Hh hlen;clear hlen
  go_enter func89,ntmps89
  go_wp2
  go_ret
  exact ⟨false,rfl,⟨fun e=>(by cases e),fun e=>absurd (by rw [e]) HL.o⟩,Br _ _⟩
theorem aJp (x y:ND):x=y↔x.kind=y.kind∧x.bool=y.bool∧x.num=y.num∧x.text=y.text∧x.names=y.names∧x.items=y.items:=by
 obtain ⟨k,b,n,t,ns,its⟩:=x;obtain ⟨k',b',n',t',ns',its'⟩:=y;simp [ND.kind,ND.bool,ND.num,ND.text,ND.names,ND.items]
theorem UX {d:Nat} (HV:GO d):GO (d+1):=by
 intro d' S S' cs cs' x y w h h' hS hS';obtain ⟨a3,l3,c3,a4,l4,c4,rfl⟩:=h.slices;obtain ⟨a5,l5,c5,a6,l6,c6,rfl⟩:=h'.slices;cases d' with
 | zero=>exact h'.elim
 | succ d'=>
 obtain ⟨vn,vi,e,ht,hns,his⟩:=h;simp only [Bq,Di,Dp] at e;obtain ⟨rfl,rfl⟩:=e;obtain ⟨vn',vi',e,ht',hns',his'⟩:=h';simp only [Bq,Di,Dp] at e;obtain ⟨rfl,rfl⟩:=e;have b2:Below w.heap.size w ((w.alloc (.cells (Na x a3 l3 c3 a4 l4 c4) 28)).alloc (.cells (Na y a5 l5 c5 a6 l6 c6) 28)):=((Br _ _).alloc (Lr _) _).alloc (by simp) _
 obtain ⟨w1,hw1⟩:∃W,W=(w.alloc (.cells (Na x a3 l3 c3 a4 l4 c4) 28)).alloc (.cells (Na y a5 l5 c5 a6 l6 c6) 28):=⟨_,rfl⟩;have hz:(w.alloc (.cells (Na x a3 l3 c3 a4 l4 c4) 28)).heap.size=w.heap.size+1:=by simp
 have hk1:w1.heap[w.heap.size]?=some (.cells (Na x a3 l3 c3 a4 l4 c4) 28 (0,0)):=by rw [hw1];exact (Bh _ _ _ (by omega)).trans (Hn _ _)
 have hk2:w1.heap[w.heap.size+1]?=some (.cells (Na y a5 l5 c5 a6 l6 c6) 28 (0,0)):=by rw [hw1,←hz];exact Hn _ _
 rw [←hw1] at b2;have hs1:=Aa hk2;have FE:=Hh (fun (wx:World) (hb:Below w1.heap.size w1 wx)=>QO _ _ x.names y.names wx (hns.same (w':=wx) fun b hb'=>(hb.block b (Ll (hS b hb') b2.size)).trans (b2.block b (hS b hb'))) (hns'.same (w':=wx) fun b hb'=>(hb.block b (Ll (hS' b hb') b2.size)).trans (b2.block b (hS' b hb'))) (fun b hb'=>Ll (Ll (hS b hb') b2.size) hb.size) (fun b hb'=>Ll (Ll (hS' b hb') b2.size) hb.size))
 have FI:=Hh (fun (wx:World) (hb:Below w1.heap.size w1 wx)=>LT HV _ _ x.items y.items wx
  (his.same (w':=wx) (R':=aC d S wx) (fun b hb'=>(hb.block b (Ll (hS b hb') b2.size)).trans (b2.block b (hS b hb'))) fun cs y q=>q.same fun b hb'=>(hb.block b (Ll (hS b hb') b2.size)).trans (b2.block b (hS b hb')))
  (his'.same (w':=wx) (R':=aC d' S' wx) (fun b hb'=>(hb.block b (Ll (hS' b hb') b2.size)).trans (b2.block b (hS' b hb'))) fun cs y q=>q.same fun b hb'=>(hb.block b (Ll (hS' b hb') b2.size)).trans (b2.block b (hS' b hb')))
  (fun b hb'=>Ll (Ll (hS b hb') b2.size) hb.size) (fun b hb'=>Ll (Ll (hS' b hb') b2.size) hb.size))
 have F1:=Hh (fun (wx:World) (hb:Below w1.heap.size w1 wx)=>aA ((hb.block _ (by omega:w.heap.size<w1.heap.size)).trans hk1))
 have F2:=Hh (fun (wx:World) (hb:Below w1.heap.size w1 wx)=>aA ((hb.block _ hs1).trans hk2))
 have ck1:=aA hk1;have ck2:=aA hk2;have B2:=Hh b2;have HE:=Hh (aJp x y);clear hns his hns' his' hS hS' HV hz hk1 hk2 b2 ht ht';have fin:∀ (w2:World) (b:Bool),Below w1.heap.size w1 w2→(b=true↔x=y)→∃b':Bool,Ending.returned (.bool b)=.returned (.bool b')∧(b'=true↔x=y)∧Below w.heap.size w w2:=fun w2 b hb h=>⟨b,rfl,h,B2.o.trans (hb.mono B2.o.size)⟩
 have FIN:=Hh fin;clear fin;have no:∀ (w2:World),Below w1.heap.size w1 w2→x ≠ y→nM (x=y) w (.returned (.bool false)) w2:=fun w2 hb h=>⟨false,rfl,⟨fun e=>(by cases e),fun e=>absurd e h⟩,B2.o.trans (hb.mono B2.o.size)⟩
 have NO:=Hh no;clear no
 by_cases hk:x.kind=y.kind
 ·have hkb:(x.kind == y.kind)=true:=by simp [hk]
  by_cases hbo:x.bool=y.bool
  ·have hbb:(x.bool == y.bool)=true:=by simp [hbo]
   by_cases hnu:x.num=y.num
   ·have hnb:(x.num == y.num)=true:=by simp [hnu]
    by_cases hte:x.text=y.text
    ·have htb:=lV hte
     have HALL:=Hh (Ai hk (Ai hbo (Ai hnu hte)));clear hk hbo hnu hte
     by_cases hnames:x.names=y.names
     ·have HN:=Hh hnames
      clear hnames
      go_enter func54,ntmps54
      go_upto_region 1 with fail
      rw [←hw1];clear hw1
      go_wp2_with (first
       | (go_at_call 88;(with_reducible refine (FE.o _ (Br _ _)).mono ?_);rintro e w2 ⟨bb,rfl,hbb,hb2⟩;obtain rfl:bb=true:=hbb.2 HN.o;(have fk1:=F1.o w2 hb2);(have fk2:=F2.o w2 hb2);clear ck1 ck2 hbb)
       | (go_at_call 89;(with_reducible refine (FI.o _ hb2).mono ?_);rintro e w3 ⟨b3,rfl,hb3,hb3'⟩))
      go_ret
      exact FIN.o _ b3 (hb2.trans (hb3'.mono hb2.size)) (hb3.trans ⟨fun hi=>HE.o.2 ⟨HALL.o.1,HALL.o.2.1,HALL.o.2.2.1,HALL.o.2.2.2,HN.o,hi⟩,fun e=>(HE.o.1 e).2.2.2.2.2⟩)
     ·have HN:=Hh hnames
      clear hnames
      go_enter func54,ntmps54
      go_upto_region 1 with fail
      rw [←hw1];clear hw1
      go_wp2_with (go_at_call 88;(with_reducible refine (FE.o _ (Br _ _)).mono ?_);rintro e w2 ⟨bb,rfl,hbb,hb2⟩;obtain rfl:bb=false:=(by cases bb;rfl;exact absurd (hbb.1 rfl) HN.o);clear hbb)
      go_ret
      exact NO.o _ hb2 fun e=>HN.o (HE.o.1 e).2.2.2.2.1
    ·have htb:=iD hte
     have hxy:=Hh (fun e:x=y=>hte (HE.o.1 e).2.2.2.1)
     clear hk hbo hnu hte
     go_enter func54,ntmps54
     go_upto_region 1 with fail
     rw [←hw1];clear hw1
     go_wp2
     go_ret
     exact NO.o _ (Br _ _) hxy.o
   ·have hnb:(x.num == y.num)=false:=by simp [hnu]
    have hxy:=Hh (fun e:x=y=>hnu (HE.o.1 e).2.2.1)
    clear hk hbo hnu
    go_enter func54,ntmps54
    go_upto_region 1 with fail
    rw [←hw1];clear hw1
    go_wp2
    go_ret
    exact NO.o _ (Br _ _) hxy.o
  ·have hbb:(x.bool == y.bool)=false:=by simp [hbo]
   have hxy:=Hh (fun e:x=y=>hbo (HE.o.1 e).2.1)
   clear hk hbo
   go_enter func54,ntmps54
   go_upto_region 1 with fail
   rw [←hw1];clear hw1
   go_wp2
   go_ret
   exact NO.o _ (Br _ _) hxy.o
 ·have hkb:(x.kind == y.kind)=false:=by simp [hk]
  have hxy:=Hh (fun e:x=y=>hk (HE.o.1 e).1)
  clear hk
  go_enter func54,ntmps54
  go_upto_region 1 with fail
  rw [←hw1];clear hw1
  go_wp2
  go_ret
  exact NO.o _ (Br _ _) hxy.o
theorem JR:∀d,GO d
 | 0=>fun d' S S' cs cs' x y w h _ _ _=>h.elim
 | d+1=>UX (JR d)
theorem aIb (x y:ND):x=y↔x.kind=y.kind∧x.bool=y.bool∧x.num=y.num∧x.text=y.text∧x.names=y.names∧x.items=y.items:=by
 obtain ⟨k,b,n,t,ns,its⟩:=x;obtain ⟨k',b',n',t',ns',its'⟩:=y;simp [ND.kind,ND.bool,ND.num,ND.text,ND.names,ND.items]
def GQ (d:Nat):Prop:=∀ (d':Nat) (S S':Nat→Prop) (cs cs':Vl) (x y:ND) (w:World),aC d S w cs x→aC d' S' w cs' y→(∀b,S b→b<w.heap.size)→(∀b,S' b→b<w.heap.size)→Calls prog 13 #[.agg cs.toArray,.agg cs'.toArray] w (nM (x=y) w)
theorem OK {d:Nat} (HV:GQ d):GQ (d+1):=by
 intro d' S S' cs cs' x y w h h' hS hS';obtain ⟨a3,l3,c3,a4,l4,c4,rfl⟩:=h.slices;obtain ⟨a5,l5,c5,a6,l6,c6,rfl⟩:=h'.slices;cases d' with
 | zero=>exact h'.elim
 | succ d'=>
 obtain ⟨vn,vi,e,ht,hns,his⟩:=h;simp only [Bq,Di,Dp] at e;obtain ⟨rfl,rfl⟩:=e;obtain ⟨vn',vi',e,ht',hns',his'⟩:=h';simp only [Bq,Di,Dp] at e;obtain ⟨rfl,rfl⟩:=e;have hl3:l3=x.names.length:=by obtain ⟨_,_,e,_⟩:=id hns;cases e;rfl
 have hl4:l4=x.items.length:=by obtain ⟨_,_,e,_⟩:=id his;cases e;rfl
 have hl5:l5=y.names.length:=by obtain ⟨_,_,e,_⟩:=id hns';cases e;rfl
 have hl6:l6=y.items.length:=by obtain ⟨_,_,e,_⟩:=id his';cases e;rfl
 have hb3:l3≤9223372036854775807:=by obtain ⟨_,_,e,p1,p2,_⟩:=id hns;cases e;unfold maxLen at p2;omega
 have hb4:l4≤9223372036854775807:=by obtain ⟨_,_,e,p1,p2,_⟩:=id his;cases e;unfold maxLen at p2;omega
 have b2:Below w.heap.size w ((w.alloc (.cells (Na x a3 l3 c3 a4 l4 c4) 28)).alloc (.cells (Na y a5 l5 c5 a6 l6 c6) 28)):=((Br _ _).alloc (Lr _) _).alloc (by simp) _
 obtain ⟨w1,hw1⟩:∃W,W=(w.alloc (.cells (Na x a3 l3 c3 a4 l4 c4) 28)).alloc (.cells (Na y a5 l5 c5 a6 l6 c6) 28):=⟨_,rfl⟩;have hz:(w.alloc (.cells (Na x a3 l3 c3 a4 l4 c4) 28)).heap.size=w.heap.size+1:=by simp
 have hk1:w1.heap[w.heap.size]?=some (.cells (Na x a3 l3 c3 a4 l4 c4) 28 (0,0)):=by rw [hw1];exact (Bh _ _ _ (by omega)).trans (Hn _ _)
 have hk2:w1.heap[w.heap.size+1]?=some (.cells (Na y a5 l5 c5 a6 l6 c6) 28 (0,0)):=by rw [hw1,←hz];exact Hn _ _
 rw [←hw1] at b2;have hs1:=Aa hk2;have hs0:w.heap.size<w1.heap.size:=by omega
 have F1:=Hh (fun (wx:World) (hb:Below w1.heap.size w1 wx)=>aA ((hb.block _ hs0).trans hk1))
 have F2:=Hh (fun (wx:World) (hb:Below w1.heap.size w1 wx)=>aA ((hb.block _ hs1).trans hk2))
 have ck1:=aA hk1;have ck2:=aA hk2;have B2:=Hh b2;have HE:=Hh (aIb x y);have HN:=Hh (hns.same (w':=w1) fun b hb'=>b2.block b (hS b hb'))
 have HN':=Hh (hns'.same (w':=w1) fun b hb'=>b2.block b (hS' b hb'))
 have HI:=Hh (his.same (w':=w1) (R':=aC d S w1) (fun b hb'=>b2.block b (hS b hb')) fun cs y q=>q.same fun b hb'=>b2.block b (hS b hb'))
 have HI':=Hh (his'.same (w':=w1) (R':=aC d' S' w1) (fun b hb'=>b2.block b (hS' b hb')) fun cs y q=>q.same fun b hb'=>b2.block b (hS' b hb'))
 have HS:=Hh (fun b hb=>Ll (hS b hb) b2.size)
 have HS':=Hh (fun b hb=>Ll (hS' b hb) b2.size)
 have HVV:=Hh HV;have L3:=Hh hl3;have L4:=Hh hl4;have L5:=Hh hl5;have L6:=Hh hl6;have HSZ:=Hh (Ai hs0 hs1);have no:∀ (w2:World),Below w1.heap.size w1 w2→x ≠ y→nM (x=y) w (.returned (.bool false)) w2:=fun w2 hb h=>⟨false,rfl,⟨fun e=>(by cases e),fun e=>absurd e h⟩,B2.o.trans (hb.mono B2.o.size)⟩
 have NO:=Hh no;have yes:∀ (w2:World),Below w1.heap.size w1 w2→x=y→nM (x=y) w (.returned (.bool true)) w2:=fun w2 hb h=>⟨true,rfl,⟨fun _=>h,fun _=>rfl⟩,B2.o.trans (hb.mono B2.o.size)⟩
 have YES:=Hh yes;clear hns his hns' his' hS hS' HV hz hk1 hk2 b2 ht ht' no yes hl3 hl4 hl5 hl6 hs0 hs1
 by_cases e1:x.kind=y.kind
 ·have hq1:(x.kind != y.kind)=false:=by simp [e1]
  have hq1b:(x.kind == y.kind)=true:=by simp [e1]
  by_cases e2:x.bool=y.bool
  ·have hq2:(x.bool != y.bool)=false:=by simp [e2]
   have hq2b:(x.bool == y.bool)=true:=by simp [e2]
   by_cases e3:x.num=y.num
   ·have hq3:(x.num != y.num)=false:=by simp [e3]
    have hq3b:(x.num == y.num)=true:=by simp [e3]
    by_cases e4:x.text=y.text
    ·have hq4:(x.text.toList != y.text.toList)=false:=by simp [e4]
     have hq4b:=lV e4
     by_cases e5:l3=l5
     ·have hq5:((l3:Int) != (l5:Int))=false:=by simp [e5]
      have hq5b:((l3:Int) == (l5:Int))=true:=by simp [e5]
      by_cases e6:l4=l6
      ·have hq6:((l4:Int) != (l6:Int))=false:=by simp [e6]
       have hq6b:((l4:Int) == (l6:Int))=true:=by simp [e6]
       have HALL:=Hh (Ai e1 (Ai e2 (Ai e3 (Ai e4 (Ai e5 e6)))));clear e1 e2 e3 e4 e5 e6
       go_enter func13,ntmps13
       go_upto_region 1 with fail
       rw [←hw1];clear hw1
       go_upto_region 4 with fail
       go_loopw [5,6,56] (fun u5 u6 i wr=>∃j:Nat,i=Iz j∧j≤l3∧x.names.take j=y.names.take j∧wr=w1) (fun _ _ i _=>l3 - (intOf i).toNat)
       case atStart=>exact ⟨0,rfl,Ax _,by simp,rfl⟩
       case round=>
        obtain ⟨j,rfl,hj,heq,hwr⟩:=hrel
        replace hwr:=hwr.symm
        subst hwr
        by_cases hlt:j<l3
        ·have hlt':(j:Int)<(l3:Int):=by omega
         have hj0:(0:Int)≤(j:Int):=by omega
         have hlt2':(j:Int)<(l5:Int):=by have:=HALL.o.2.2.2.2.1;omega
         obtain ⟨s,hs⟩:∃s,x.names[j]?=some s:=⟨_,Ac (by have:=L3.o;omega)⟩
         obtain ⟨t,ht⟩:∃t,y.names[j]?=some t:=⟨_,Ac (by have:=L5.o;have:=HALL.o.2.2.2.2.1;omega)⟩
         obtain ⟨b1,o1,rfl,hb1,k1⟩:=HN.o.get hs;obtain ⟨b2,o2,rfl,hb2,k2⟩:=HN'.out.get ht;have HQ:=Hh heq;have HA:=Hh hs;have HT:=Hh ht;clear hs ht heq
         by_cases hst:t=s
         ·have hx2:(t.toList != s.toList)=false:=by simp [hst]
          have hx3:=lV hst;have HST:=Hh hst;clear hst
          go_wp2
          go_roundw
          case rel=>exact ⟨j+1,by go_num,by omega,by rw [Bf,Bf,HA.o,HT.o,HQ.o,HST.o],(by first | exact rfl | trivial)⟩
          case measure=>simp [intOf];omega
         ·have hx2:(t.toList != s.toList)=true:=by rw [bne,iD hst];rfl
          have hx3:=iD hst;have HST:=Hh hst;clear hst
          go_wp2
          go_ret
          refine NO.o _ (Br _ _) fun e=>?_
          have h1:=HA.o;rw [e,HT.o] at h1;exact HST.o (Ab h1)
        ·have hlt':¬ (j:Int)<(l3:Int):=by omega
         have hnm:x.names=y.names:=by
          have h3:=L3.o;have h5:=L5.o;have h35:=HALL.o.2.2.2.2.1
          rwa [Ao (by omega),Ao (by omega)] at heq
         have HNM:=Hh hnm;clear hnm heq hj hlt
         go_upto_region 10 with fail
         go_loopw [7,8,72] (fun u7 u8 i wr=>∃j:Nat,i=Iz j∧j≤l4∧x.items.take j=y.items.take j∧Below w1.heap.size w1 wr) (fun _ _ i _=>l4 - (intOf i).toNat)
         case atStart=>exact ⟨0,rfl,Ax _,by simp,Br _ _⟩
         case round=>
          obtain ⟨q,rfl,hq,heq,hB⟩:=hrel
          by_cases hlt:q<l4
          ·have hlt':(q:Int)<(l4:Int):=by omega
           have hq0:(0:Int)≤(q:Int):=by omega
           have h46:=HALL.o.2.2.2.2.2;have hlt2':(q:Int)<(l6:Int):=by omega
           obtain ⟨-,-,-,b,off,xi,a7,l7,c7,a8,l8,c8,rfl,hSb,hxi,hnd,k0,k1,k2,k3,k4,k5⟩:=HI.o.at (j:=q) (by have:=L4.o;omega)
           obtain ⟨-,-,-,b',off',yi,a9,l9,c9,a0,l0,c0,rfl,hSb',hyi,hnd',m0,m1,m2,m3,m4,m5⟩:=HI'.out.at (j:=q) (by have:=L6.o;omega)
           have hbw:=HS.o b hSb;have hbw':=HS'.out b' hSb';have q0:=(hB.cell (p:=⟨b,off+q * 6,none⟩) hbw).trans k0;have q1:=(hB.cell (p:=⟨b,off+q * 6+1,none⟩) hbw).trans k1;have q2:=(hB.cell (p:=⟨b,off+q * 6+2,none⟩) hbw).trans k2;have q3:=(hB.cell (p:=⟨b,off+q * 6+3,none⟩) hbw).trans k3;have q4:=(hB.cell (p:=⟨b,off+q * 6+4,none⟩) hbw).trans k4;have q5:=(hB.cell (p:=⟨b,off+q * 6+5,none⟩) hbw).trans k5;have bA:=hB.alloc (o:=.cells (Na xi a7 l7 c7 a8 l8 c8) 28) hB.size;have cA:=aA (Hn wr (.cells (Na xi a7 l7 c7 a8 l8 c8) 28));have cY:=(F2.o _ hB).2.2.2.2.2;have hsz:=Ll HSZ.o.2 hB.size;have HX:=Hh hxi;have HY:=Hh hyi;have HQ:=Hh heq;have HH:=Hh (Ai hnd hnd');have HM:=Hh (Ai m0 (Ai m1 (Ai m2 (Ai m3 (Ai m4 m5)))));clear k0 k1 k2 k3 k4 k5 m0 m1 m2 m3 m4 m5 hnd hnd' hxi hyi heq hB h46 ck1 ck2
           go_upto_region 12 with fail
           generalize wr.alloc (.cells (Na xi a7 l7 c7 a8 l8 c8) 28)=w12 at bA cA ⊢;have bD:=bA.drew;have hm0:=(bD.cell (p:=⟨b',off'+q * 6,none⟩) hbw').trans HM.o.1;have hm1:=(bD.cell (p:=⟨b',off'+q * 6+1,none⟩) hbw').trans HM.o.2.1;have hm2:=(bD.cell (p:=⟨b',off'+q * 6+2,none⟩) hbw').trans HM.o.2.2.1;have hm3:=(bD.cell (p:=⟨b',off'+q * 6+3,none⟩) hbw').trans HM.o.2.2.2.1;have hm4:=(bD.cell (p:=⟨b',off'+q * 6+4,none⟩) hbw').trans HM.o.2.2.2.2.1;have hm5:=(bD.cell (p:=⟨b',off'+q * 6+5,none⟩) hbw').trans HM.o.2.2.2.2.2;have V:=Hh (HVV.o d' S S' _ _ xi yi w12.drew (HH.o.1.same fun b hb=>bD.block b (HS.o b hb)) (HH.o.2.same fun b hb=>bD.block b (HS'.out b hb)) (fun b hb=>Ll (HS.o b hb) bD.size) (fun b hb=>Ll (HS'.out b hb) bD.size))
           have hcy:=(F2.o _ bD).2.2.2.2.2;have BD:=Hh bD;clear q0 q1 q2 q3 q4 q5 cY bD bA;refine aJ (fun w'=>(w'.cell? ⟨wr.heap.size,0,none⟩=some (Iz xi.kind)∧w'.cell? ⟨wr.heap.size,1,none⟩=some (.bool xi.bool)∧w'.cell? ⟨wr.heap.size,2,none⟩=some (Iz xi.num)∧w'.cell? ⟨wr.heap.size,3,none⟩=some (.string xi.text)∧w'.cell? ⟨wr.heap.size,4,none⟩=some (.slice a7 l7 c7)∧w'.cell? ⟨wr.heap.size,5,none⟩=some (.slice a8 l8 c8))∧w'.cell? ⟨w.heap.size+1,5,none⟩=some (.slice (some ⟨b',off',none⟩) l6 c6)∧w'.cell? ⟨b',off'+q * 6,none⟩=some (Iz yi.kind)∧w'.cell? ⟨b',off'+q * 6+1,none⟩=some (.bool yi.bool)∧w'.cell? ⟨b',off'+q * 6+2,none⟩=some (Iz yi.num)∧w'.cell? ⟨b',off'+q * 6+3,none⟩=some (.string yi.text)∧w'.cell? ⟨b',off'+q * 6+4,none⟩=some (.slice a9 l9 c9)∧w'.cell? ⟨b',off'+q * 6+5,none⟩=some (.slice a0 l0 c0)) [0,2,5] (.take 0 (.take 1 (.take 2 (.take 3 (.take 4 (.take 5 (.ask 6 false (.ask 7 false .stop .stop) .stop))))))) (by kernel_rfl) (by kernel_rfl) (fun _ d _ _ _ h=>by cases d <;> exact h) ⟨cA,hcy,hm0,hm1,hm2,hm3,hm4,hm5⟩ ?_
           generalize w12.drew=wd at V BD ⊢;refine aN _ ?_ rfl rfl (by decide) ?_ (fun K hK=>?_);rotate_left;(intro w0 hw0;obtain ⟨⟨s0,s1,s2,s3,s4,s5⟩,-⟩:=hw0;go_simp;(try rfl));(go_simp;refine hK _ ?_;clear hK K)
           refine aG _ ?_ rfl rfl ?_ (fun K hK=>?_);rotate_left;(intro w0;go_simp;(try rfl));(go_simp;refine hK _ ?_;clear hK K)
           refine aN _ ?_ rfl rfl (by decide) ?_ (fun K hK=>?_);rotate_left;(intro w0 hw0;obtain ⟨-,s0,-⟩:=hw0;go_simp;(try rfl));(go_simp;refine hK _ ?_;clear hK K)
           iterate 2 (refine aG _ ?_ rfl rfl ?_ (fun K hK=>?_);rotate_left;(intro w0;go_simp;(try rfl));(go_simp;refine hK _ ?_;clear hK K))
           refine aN _ ?_ rfl rfl (by decide) ?_ (fun K hK=>?_);rotate_left;(intro w0 hw0;obtain ⟨-,-,s0,s1,s2,s3,s4,s5⟩:=hw0;go_simp;(try rfl));(go_simp;refine hK _ ?_;clear hK K)
           refine aF _ rfl trivial ?_;go_wp2_with (go_at_call 13;refine (V.o).mono ?_;rintro e wn ⟨bb,rfl,hbb,hbn⟩);refine Seg.mk ?_;have hBn:=BD.o.trans (hbn.mono BD.o.size);cases bb with
           | true=>
            have hxy:xi=yi:=hbb.1 rfl;have HXY:=Hh hxy;clear hbb hxy hbn;refine cG _ rfl trivial ?_
            go_wp2
            go_roundw
            case rel=>exact ⟨q+1,by go_num,by omega,by rw [Bf,Bf,HX.o,HY.o,HQ.o,HXY.o],hBn⟩
            case measure=>simp [intOf];omega
           | false=>
            have hxy:xi ≠ yi:=fun e=>by have:=hbb.2 e;cases this
            have HXY:=Hh hxy;clear hbb hxy hbn;refine cG _ rfl trivial ?_
            go_wp2
            go_ret
            refine NO.o _ hBn fun e=>?_
            have h1:=HX.o;rw [e,HY.o] at h1;exact HXY.o (Ab h1).symm
          ·have hlt':¬ (q:Int)<(l4:Int):=by omega
           have hit:x.items=y.items:=by
            have h4:=L4.o;have h6:=L6.o;have h46:=HALL.o.2.2.2.2.2
            rwa [Ao (by omega),Ao (by omega)] at heq
           have HIT:=Hh hit;clear hit heq
           go_wp2
           go_ret
           exact YES.o _ hB (HE.o.2 ⟨HALL.o.1,HALL.o.2.1,HALL.o.2.2.1,HALL.o.2.2.2.1,HNM.o,HIT.o⟩)
      ·have hq6:((l4:Int) != (l6:Int))=true:=by simp;omega
       have hq6b:((l4:Int) == (l6:Int))=false:=by simp;omega
       have hxy:=Hh (fun e:x=y=>e6 (by rw [L4.o,L6.o,e]))
       clear e1 e2 e3 e4 e5 e6
       go_enter func13,ntmps13
       go_upto_region 1 with fail
       rw [←hw1];clear hw1
       go_wp2
       go_ret
       exact NO.o _ (Br _ _) hxy.o
     ·have hq5:((l3:Int) != (l5:Int))=true:=by simp;omega
      have hq5b:((l3:Int) == (l5:Int))=false:=by simp;omega
      have hxy:=Hh (fun e:x=y=>e5 (by rw [L3.o,L5.o,e]))
      clear e1 e2 e3 e4 e5
      go_enter func13,ntmps13
      go_upto_region 1 with fail
      rw [←hw1];clear hw1
      go_wp2
      go_ret
      exact NO.o _ (Br _ _) hxy.o
    ·have hq4:(x.text.toList != y.text.toList)=true:=by rw [bne,iD e4];rfl
     have hq4b:=iD e4;have hxy:=Hh (fun e:x=y=>e4 (HE.o.1 e).2.2.2.1)
     clear e1 e2 e3 e4
     go_enter func13,ntmps13
     go_upto_region 1 with fail
     rw [←hw1];clear hw1
     go_wp2
     go_ret
     exact NO.o _ (Br _ _) hxy.o
   ·have hq3:(x.num != y.num)=true:=by simp [e3]
    have hq3b:(x.num == y.num)=false:=by simp [e3]
    have hxy:=Hh (fun e:x=y=>e3 (HE.o.1 e).2.2.1)
    clear e1 e2 e3
    go_enter func13,ntmps13
    go_upto_region 1 with fail
    rw [←hw1];clear hw1
    go_wp2
    go_ret
    exact NO.o _ (Br _ _) hxy.o
  ·have hq2:(x.bool != y.bool)=true:=by simp [e2]
   have hq2b:(x.bool == y.bool)=false:=by simp [e2]
   have hxy:=Hh (fun e:x=y=>e2 (HE.o.1 e).2.1)
   clear e1 e2
   go_enter func13,ntmps13
   go_upto_region 1 with fail
   rw [←hw1];clear hw1
   go_wp2
   go_ret
   exact NO.o _ (Br _ _) hxy.o
 ·have hq1:(x.kind != y.kind)=true:=by simp [e1]
  have hq1b:(x.kind == y.kind)=false:=by simp [e1]
  have hxy:=Hh (fun e:x=y=>e1 (HE.o.1 e).1)
  clear e1
  go_enter func13,ntmps13
  go_upto_region 1 with fail
  rw [←hw1];clear hw1
  go_wp2
  go_ret
  exact NO.o _ (Br _ _) hxy.o
theorem tU:∀d,GQ d
 | 0=>fun d' S S' cs cs' x y w h _ _ _=>h.elim
 | d+1=>OK (tU d)
end Go.Proofs.YtncdpanfefnjlaaGreatDoor