import Derived.Test.YtncdpanfefnjlaaGreatDoorMdc
import Derived.Test.YtncdpanfefnjlaaGreatDoorJits
set_option linter.unusedVariables false
set_option linter.unusedSimpArgs false
set_option maxHeartbeats 6400000
set_option maxRecDepth 100000
namespace Go.Proofs.YtncdpanfefnjlaaGreatDoor
open Go.Proofs.Tryz
open Go Go.ChangeShapes Go.WideShapes Go.ChangeAt Go.RowKit
theorem aBa {d:Nat} {q t:Ub} {y:ND} (h:cB (d+1) (91::q)=some (y,t)):∃a ns its,dE (cB d) (decide ((4:Int)=5)) 93 a [] [] q=some ((ns,its),t)∧y=.mk 4 false 0 ⟨#[]⟩ ns its:=by
 rw [gE d 91 q (by decide) (by decide) (by decide),Ae (by decide),Am rfl] at h
 cases hi:dE (cB d) false 93 (q.length+1) [] [] q with
 | none=>rw [hi] at h;cases h
 | some z=>
  obtain ⟨⟨ns,its⟩,b⟩:=z;rw [hi] at h;cases h;exact ⟨q.length+1,ns,its,hi,rfl⟩
theorem aGj {d:Nat} {q t:Ub} {y:ND} (h:cB (d+1) (123::q)=some (y,t)):∃a ns its,dE (cB d) (decide ((5:Int)=5)) 125 a [] [] q=some ((ns,its),t)∧y=.mk 5 false 0 ⟨#[]⟩ ns its:=by
 rw [gE d 123 q (by decide) (by decide) (by decide),Ae (by decide),Ae (by decide),Am rfl] at h
 cases hi:dE (cB d) true 125 (q.length+1) [] [] q with
 | none=>rw [hi] at h;cases h
 | some z=>
  obtain ⟨⟨ns,its⟩,b⟩:=z;rw [hi] at h;cases h;exact ⟨q.length+1,ns,its,hi,rfl⟩
theorem aAz {d:Nat} {q t:Ub} {y:ND} (h:cB (d+1) (34::q)=some (y,t)):∃s,dA q=some (s,t)∧y=.mk 3 false 0 (bA s) [] []:=by
 rw [gE d 34 q (by decide) (by decide) (by decide),Am rfl] at h
 cases hi:dA q with
 | none=>rw [hi] at h;cases h
 | some z=>
  obtain ⟨s,a⟩:=z;rw [hi] at h;cases h;exact ⟨s,rfl,rfl⟩
theorem aGi (d:Nat):cB d []=none:=by
 cases d with
 | zero=>rfl
 | succ d=>unfold cB;rw [Am rfl]
theorem QZ {c:UInt8} {r:Ub} (h:Lib.hasPrefix r [c]=false) (q:Ub):r ≠ c::q:=by
 rintro rfl;rw [tP] at h;simp at h
theorem aBp {V:ND→Ub→Prop} {g i k:Nat} {r:Ub} {w:World} {e:Ending} {w':World} (D:Nat) (h:xP V 0 g i k r w e w'):xP V D g i k r w e w':=by
 obtain ⟨m,x,u,q,o,l,t,p,z,⟨-,n⟩,s⟩:=h;have f:x.items=[]:=by
  obtain ⟨F,E,-,-,-,a,c,-,-,-,C⟩:=l;refine List.eq_nil_iff_forall_not_mem.2 fun y d=>?_
  obtain ⟨j,v⟩:=List.getElem?_of_mem d;obtain ⟨b,A,m,-,-,-,B⟩:=C j y v;exact B
 refine ⟨m,x,u,q,o,l.deeper (by omega),t,p,z,⟨⟨by rw [f];simp,fun y d=>by rw [f] at d;simp at d⟩,?_⟩,s⟩
 rw [cS,An] at n ⊢;exact ⟨n.1,by rw [f];rfl⟩
theorem zU {V:ND→Ub→Prop} {d g o p:Nat} {r:Ub} {w q c:World} {x:ND} {m:Bool} {k:Ub} {h j:Option Addr} {i c1 f c2:Nat}
 (u:aD (d+1) (fun b=>q.heap.size≤b∧b<c.heap.size) c (Nc x h i c1 j f c2) x) (C:w.heap.size<q.heap.size) (z:PrS c g o p k) (v:w.grownBy c (some g)) (l:g<w.heap.size) (A:k.length≤r.length) (B:iM (d+1) x∧aP (d+1) x=true) (s:∀y t,V y t→m=true∧x=y∧k=t) :
 xP V d g o p r w (.returned (.tuple #[.agg (Na x h i c1 j f c2),.bool m])) (dJ c w.heap.size (Iz x.kind) (.bool x.bool) (Iz x.num) (.string x.text) (.slice h i c1) (.slice j f c2)):=by
 have a:=aO c w.heap.size (Iz x.kind) (.bool x.bool) (Iz x.num) (.string x.text) (.slice h i c1) (.slice j f c2);refine ⟨(Nc x h i c1 j f c2),x,m,k,rfl,?_,z.kept a l,gO v a (Lr _),A,B,s⟩;exact (u.same fun b n=>a.block b n.2 (by intro e;have:=Ab e;omega)).mono fun b n=>⟨by omega,Ll n.2 a.size⟩
theorem QN:uG 0:=by
 intro g m n r w h q;have e:=h.lt;have c:=(Br w.heap.size w).alloc (o:=.cells Z6 28) (Lr _);have f:=h.below c;have a:=Hn w (.cells Z6 28);have b:=dV w (.cells Z6 28) (some g);have j:w.heap.size<(w.alloc (.cells Z6 28)).heap.size:=by simp
 have d:=Hh (Ai f b);have i:=Hh a;have l:=aE a;have c1:=aA a;clear h c f b a
 go_enter func144,ntmps144
 go_upto_region 1 with fail
 generalize w.alloc (.cells Z6 28)=p at d i l c1 ⊢
 go_wp2
 refine aT (v:=.bool false) i.o results144 rfl rfl rfl ?_;exact jJ (T:=0) 0 false 0 ⟨#[]⟩ false d.o.1 d.o.2 e (Lr _) (by decide) (by decide) (fun y t k=>by have:=k.1;cases this)
theorem QO (d:Nat) (Y:d≤20) (PN:uG d):uG (d+1):=by
 intro g p u r w h hr;rw [show ((d+1:Nat):Int)=(d:Int)+1 by omega]
 have W:=h.lt;have S:=(Br w.heap.size w).alloc (o:=.cells Z6 28) (Lr _);have Z:=h.below S;have n:=Hn w (.cells Z6 28);have G:=dV w (.cells Z6 28) (some g);have L:w.heap.size<(w.alloc (.cells Z6 28)).heap.size:=by simp
 cases hp91:Lib.hasPrefix r [91] with
 | true=>
  have l:=eG hp91;obtain ⟨q,O⟩:∃q,q=r.drop 1:=⟨_,rfl⟩;have i:r=91::q:=by rw [O];exact l
  have xe:q.length+1=r.length:=by rw [i];rfl
  have H:Hid (∀a:World,PrS a g p u r→Calls prog 163 #[.pointer (some ⟨g,0,none⟩),.string ⟨#[91]⟩] a (fG g p u a (.bool true) q)):=Hh fun a m=>by
   have:=dO ⟨#[91]⟩ a m;rw [show (⟨#[91]⟩:Bt).data.toList=[91] from rfl,hp91,iU hp91] at this
   rw [O];exact this
  have D:=Hh i;clear l i O hp91;have IT:=Hh (fun (a:World) (m:PrS a g p u q)=>AG d Y PN 4 93 (by decide) a m (by omega))
  have K:Hid (∀y t,(cB (d+1) r=some (y,t)∧vO t)→mI d 4 93 q y t):=Hh fun y t A=>by rw [D.o] at A;exact aBa A.1
  clear h PN D;have xb:¬ (d:Int)+1<1:=by omega
  go_enter func144,ntmps144
  go_upto_region 1 with fail
  generalize w.alloc (.cells Z6 28)=w0 at Z n G L ⊢;have HR:=Hh n;clear n S
  go_wp2_with (first | (go_at_call 163;(with_reducible refine (H.o _ Z).mono ?_);rintro e1 w1 ⟨rfl,I,j⟩) | (go_at_call 164;(with_reducible refine (IT.o _ I).mono ?_);rintro e5 w5 ⟨cs,x,M,V,rfl,b,z,k,X,F,E⟩;go_loud ((obtain ⟨a1,l1,c1,a2,l2,c2,N⟩:=b.slices);subst N;(have f:=cP (aJ j k) (by omega) HR.o);(have f9:=aE f);(have c9:=aA f);(have J:=Hh f);(have P:=Hh (Ai b (Ai z F)));(have HG:=Hh (Ai (j).size (aJ j k)));(have HL:Hid (V.length≤r.length):=Hh (by omega));(have U:Hid (∀y t,(cB (d+1) r=some (y,t)∧vO t)→M=true∧x=y∧V=t):=Hh fun y t A=>E y t (K.o y t A));clear f b z F k E)))
  refine aT (v:=.bool M) J.o results144 rfl rfl rfl ?_;exact zU P.o.1 (Ll L HG.o.1) P.o.2.1 (aJ G HG.o.2) W HL.o P.o.2.2 U.o
 | false=>
  cases hp123:Lib.hasPrefix r [123] with
  | true=>
   have H:Hid (∀a:World,PrS a g p u r→Calls prog 163 #[.pointer (some ⟨g,0,none⟩),.string ⟨#[91]⟩] a (fG g p u a (.bool false) r)):=Hh fun a m=>by
    have:=dO ⟨#[91]⟩ a m;rw [show (⟨#[91]⟩:Bt).data.toList=[91] from rfl,hp91,fP hp91] at this
    exact this
   clear hp91;have l:=eG hp123;obtain ⟨q,O⟩:∃q,q=r.drop 1:=⟨_,rfl⟩;have i:r=123::q:=by rw [O];exact l
   have xe:q.length+1=r.length:=by rw [i];rfl
   have C:Hid (∀a:World,PrS a g p u r→Calls prog 163 #[.pointer (some ⟨g,0,none⟩),.string ⟨#[123]⟩] a (fG g p u a (.bool true) q)):=Hh fun a m=>by
    have:=dO ⟨#[123]⟩ a m;rw [show (⟨#[123]⟩:Bt).data.toList=[123] from rfl,hp123,iU hp123] at this
    rw [O];exact this
   have D:=Hh i;clear l i O hp123;have IT:=Hh (fun (a:World) (m:PrS a g p u q)=>AG d Y PN 5 125 (by decide) a m (by omega))
   have K:Hid (∀y t,(cB (d+1) r=some (y,t)∧vO t)→mI d 5 125 q y t):=Hh fun y t A=>by rw [D.o] at A;exact aGj A.1
   clear h PN D;have xb:¬ (d:Int)+1<1:=by omega
   go_enter func144,ntmps144
   go_upto_region 1 with fail
   generalize w.alloc (.cells Z6 28)=w0 at Z n G L ⊢;have HR:=Hh n;clear n S
   go_wp2_with (first | (go_at_call 163;(with_reducible refine (H.o _ Z).mono ?_);rintro e1 w1 ⟨rfl,I,j⟩) | (go_at_call 163;(with_reducible refine (C.o _ I).mono ?_);rintro e2 w2 ⟨rfl,R,B⟩) | (go_at_call 164;(with_reducible refine (IT.o _ R).mono ?_);rintro e5 w5 ⟨cs,x,M,V,rfl,b,z,k,X,F,E⟩;go_loud ((obtain ⟨a1,l1,c1,a2,l2,c2,N⟩:=b.slices);subst N;(have f:=cP (aJ (aJ j B) k) (by omega) HR.o);(have f9:=aE f);(have c9:=aA f);(have J:=Hh f);(have P:=Hh (Ai b (Ai z F)));(have HG:=Hh (Ai ((aJ j B)).size (aJ (aJ j B) k)));(have HL:Hid (V.length≤r.length):=Hh (by omega));(have U:Hid (∀y t,(cB (d+1) r=some (y,t)∧vO t)→M=true∧x=y∧V=t):=Hh fun y t A=>E y t (K.o y t A));clear f b z F k E)))
   refine aT (v:=.bool M) J.o results144 rfl rfl rfl ?_;exact zU P.o.1 (Ll L HG.o.1) P.o.2.1 (aJ G HG.o.2) W HL.o P.o.2.2 U.o
  | false=>
   cases hp34:Lib.hasPrefix r [34] with
   | true=>
    have H:Hid (∀a:World,PrS a g p u r→Calls prog 163 #[.pointer (some ⟨g,0,none⟩),.string ⟨#[91]⟩] a (fG g p u a (.bool false) r)):=Hh fun a m=>by
     have:=dO ⟨#[91]⟩ a m;rw [show (⟨#[91]⟩:Bt).data.toList=[91] from rfl,hp91,fP hp91] at this
     exact this
    have C:Hid (∀a:World,PrS a g p u r→Calls prog 163 #[.pointer (some ⟨g,0,none⟩),.string ⟨#[123]⟩] a (fG g p u a (.bool false) r)):=Hh fun a m=>by
     have:=dO ⟨#[123]⟩ a m;rw [show (⟨#[123]⟩:Bt).data.toList=[123] from rfl,hp123,fP hp123] at this
     exact this
    clear hp91 hp123;have l:=eG hp34;obtain ⟨q,O⟩:∃q,q=r.drop 1:=⟨_,rfl⟩;have i:r=34::q:=by rw [O];exact l
    have xe:q.length+1=r.length:=by rw [i];rfl
    have xc:Hid (∀a:World,PrS a g p u r→Calls prog 163 #[.pointer (some ⟨g,0,none⟩),.string ⟨#[34]⟩] a (fG g p u a (.bool true) q)):=Hh fun a m=>by
     have:=dO ⟨#[34]⟩ a m;rw [show (⟨#[34]⟩:Bt).data.toList=[34] from rfl,hp34,iU hp34] at this
     rw [O];exact this
    have D:=Hh i;clear l i O hp34;have QT:=Hh (fun (a:World) (m:PrS a g p u q)=>wT a m (by omega))
    have K:Hid (∀y t,(cB (d+1) r=some (y,t)∧vO t)→∃s,dA q=some (s,t)∧y=.mk 3 false 0 (bA s) [] []):=Hh fun y t A=>by rw [D.o] at A;exact aAz A.1
    clear h PN D;have xb:¬ (d:Int)+1<1:=by omega
    go_enter func144,ntmps144
    go_upto_region 1 with fail
    generalize w.alloc (.cells Z6 28)=w0 at Z n G L ⊢;have HR:=Hh n;clear n S
    go_wp2_with (first | (go_at_call 163;(with_reducible refine (H.o _ Z).mono ?_);rintro e1 w1 ⟨rfl,I,j⟩) | (go_at_call 163;(with_reducible refine (C.o _ I).mono ?_);rintro e2 w2 ⟨rfl,R,B⟩) | (go_at_call 163;(with_reducible refine (xc.o _ R).mono ?_);rintro e3 w3 ⟨rfl,xa,Q⟩) | (go_at_call 165;(with_reducible refine (QT.o _ xa).mono ?_);rintro e5 w5 ⟨sl,M,V,rfl,z,k,X,xh⟩;(have NT:=Hh (gN (bA sl) w5));(have xi:=Hh xh);clear xh) | (go_at_call 50;(with_reducible refine (NT.o).mono ?_);rintro e6 w6 ⟨rfl,xg⟩;(have xd:=aJ (aJ (aJ (aJ j B) Q) k) (aK xg (Lr _) _));(have f:=cP xd (by omega) HR.o);(have f9:=aE f);(have c9:=aA f);(have J:=Hh f);(have xf:=Hh (Ai (z.below xg) (aJ G xd)));clear f xd))
    refine aT (v:=.bool M) J.o results144 rfl rfl rfl ?_;exact jJ (T:=0) 3 false 0 (bA sl) M xf.o.1 xf.o.2 W (by omega) (by rw [jP];unfold maxLen;omega) (by decide) (fun y t hV=>by
     obtain ⟨s',e1,e2⟩:=K.o y t hV;obtain ⟨h1,h2,h3⟩:=xi.o s' t e1;subst h2;exact ⟨h1,e2.symm,h3⟩)
   | false=>
    have H:Hid (∀a:World,PrS a g p u r→Calls prog 163 #[.pointer (some ⟨g,0,none⟩),.string ⟨#[91]⟩] a (fG g p u a (.bool false) r)):=Hh fun a m=>by
     have:=dO ⟨#[91]⟩ a m;rw [show (⟨#[91]⟩:Bt).data.toList=[91] from rfl,hp91,fP hp91] at this
     exact this
    have C:Hid (∀a:World,PrS a g p u r→Calls prog 163 #[.pointer (some ⟨g,0,none⟩),.string ⟨#[123]⟩] a (fG g p u a (.bool false) r)):=Hh fun a m=>by
     have:=dO ⟨#[123]⟩ a m;rw [show (⟨#[123]⟩:Bt).data.toList=[123] from rfl,hp123,fP hp123] at this
     exact this
    have xc:Hid (∀a:World,PrS a g p u r→Calls prog 163 #[.pointer (some ⟨g,0,none⟩),.string ⟨#[34]⟩] a (fG g p u a (.bool false) r)):=Hh fun a m=>by
     have:=dO ⟨#[34]⟩ a m;rw [show (⟨#[34]⟩:Bt).data.toList=[34] from rfl,hp34,fP hp34] at this
     exact this
    have BR:=Hh (fun (a:World) (m:PrS a g p u r)=>(aFf a m hr).mono fun e w' hh=>aBp (d+1) hh)
    have K:Hid (∀y t,(cB (d+1) r=some (y,t)∧vO t)→wC r y t):=Hh fun y t A=>by
     cases i:r with
     | nil=>rw [i,aGi] at A;cases A.1
     | cons c q=>
      rw [i] at A;exact aFe A.1 (fun e=>QZ hp34 q (by rw [i,e])) (fun e=>QZ hp91 q (by rw [i,e])) (fun e=>QZ hp123 q (by rw [i,e])) A.2
    clear h PN hp91 hp123 hp34;have xb:¬ (d:Int)+1<1:=by omega
    go_enter func144,ntmps144
    go_upto_region 1 with fail
    generalize w.alloc (.cells Z6 28)=w0 at Z n G L ⊢;have HR:=Hh n;clear n S
    go_wp2_with (first | (go_at_call 163;(with_reducible refine (H.o _ Z).mono ?_);rintro e1 w1 ⟨rfl,I,j⟩) | (go_at_call 163;(with_reducible refine (C.o _ I).mono ?_);rintro e2 w2 ⟨rfl,R,B⟩) | (go_at_call 163;(with_reducible refine (xc.o _ R).mono ?_);rintro e3 w3 ⟨rfl,xa,Q⟩) | (go_at_call 166;(with_reducible refine (BR.o _ xa).mono ?_);rintro e5 w5 ⟨cs,x,M,V,rfl,b,z,k,X,F,E⟩;go_loud ((obtain ⟨a1,l1,c1,a2,l2,c2,N⟩:=b.slices);subst N;(have f:=cP (aJ (aJ (aJ j B) Q) k) (by omega) HR.o);(have f9:=aE f);(have c9:=aA f);(have J:=Hh f);(have P:=Hh (Ai b (Ai z F)));(have HG:=Hh (Ai ((aJ (aJ j B) Q)).size (aJ (aJ (aJ j B) Q) k)));(have HL:Hid (V.length≤r.length):=Hh (X));(have U:Hid (∀y t,(cB (d+1) r=some (y,t)∧vO t)→M=true∧x=y∧V=t):=Hh fun y t A=>E y t (K.o y t A));clear f b z F k E)))
    refine aT (v:=.bool M) J.o results144 rfl rfl rfl ?_;exact zU P.o.1 (Ll L HG.o.1) P.o.2.1 (aJ G HG.o.2) W HL.o P.o.2.2 U.o
theorem EO:∀d,d≤20→uG d
 | 0,_=>QN
 | d+1,h=>QO d (by omega) (EO d (by omega))
def CW (s:Bt) (x:ND) (a:Int):Prop:=(a=0∧aC 8 x=true∧aP 8 x=true∧aR 8 x=s.data.toList∧s.size≤65536)∨(a=4∧x=nd0∧∀y,aC 8 y=true→aP 8 y=true→s.size≤65536→aR 8 y ≠ s.data.toList)
def VL (s:Bt) (w:World) (e:Ending) (w':World):Prop:=∃ (c:Vl) (x:ND) (a:Int),e=.returned (.tuple #[.agg c.toArray,Iz a])∧aD 9 (fun b=>w.heap.size≤b∧b<w'.heap.size) w' c x∧Below w.heap.size w w'∧CW s x a
theorem tU {s:Bt} {w b:World} (c:Below w.heap.size w b) (d:CW s nd0 4) :
 VL s w (.returned (.tuple #[.agg Z6,Iz 4])) (dJ b w.heap.size (Iz 0) (.bool false) (Iz 0) (.string ⟨#[]⟩) (Sn) (Sn)):=by
 have a:=aO b w.heap.size (Iz 0) (.bool false) (Iz 0) (.string ⟨#[]⟩) (Sn) (Sn);exact ⟨Y6,nd0,4,rfl,(cJ _ _ 0 false 0 ⟨#[]⟩ (by decide)).deeper (by decide),c.grown a c.size (fun k e=>by cases e;exact Lr _),d⟩
theorem aDl (s:Bt) (w:World) (hT:jR w) (hI:xX w) (hE:pY w):Calls prog 127 #[.string s] w (VL s w):=by
 have b0:=(Br w.heap.size w).alloc (o:=.cells Z6 28) (Lr _);have m:=Hn w (.cells Z6 28);have x9:w.heap.size<(w.alloc (.cells Z6 28)).heap.size:=by simp
 by_cases hl:65536<s.size
 ·have x8:(65536:Int)<(s.size:Int):=by omega
  have R:Hid (CW s nd0 4):=Hh (.inr ⟨rfl,rfl,fun y _ _ h=>absurd h (by omega)⟩)
  have F:=Hh b0;have HR:=Hh m;have f1:=aE m;have c1:=aA m;clear hl b0 m
  go_enter func127,ntmps127
  go_upto_region 1 with fail
  generalize w.alloc (.cells Z6 28)=O at F HR f1 c1 ⊢
  go_wp2
  refine aT (v:=Iz 4) HR.o results127 rfl rfl rfl ?_;exact tU F.o R.o
 ·have x8:¬ (65536:Int)<(s.size:Int):=by omega
  have xk:s.data.toList.length=s.size:=by rw [Ah];rfl
  have HT:=Hh (Ai hT (Ai hI hE));have HL:=Hh hl;clear hT hI hE hl
  go_enter func127,ntmps127
  go_upto_region 1 with fail
  obtain ⟨O,Y⟩:∃W,W=w.alloc (.cells Z6 28):=⟨_,rfl⟩;rw [←Y] at b0 m x9;rw [←Y];clear Y;have HR:=Hh m;have F:=Hh b0;have WD:=Hh (fun wx=>VU wx)
  have CD:=Hh (fun wx=>ZW wx)
  clear m b0
  go_upto_region 4 with (first
   | (go_at_call 142;(with_reducible refine (WD.o _).mono ?_);rintro e1 w1 ⟨rfl,K,d⟩)
   | (go_at_call 143;(with_reducible refine (CD.o _).mono ?_);rintro e2 A ⟨rfl,L,a⟩))
  have j:=(Br A.heap.size A).alloc (o:=.cells #[.string s,.map (some O.heap.size),.map (some w1.heap.size)] 177) (Lr _);have xc:=Hn A (.cells #[.string s,.map (some O.heap.size),.map (some w1.heap.size)] 177);obtain ⟨w3,X⟩:∃W,W=A.alloc (.cells #[.string s,.map (some O.heap.size),.map (some w1.heap.size)] 177):=⟨_,rfl⟩;rw [←X] at j xc;rw [←X];clear X;have xf:=K.same (a.block _ K.lt);have xr:PrS w3 A.heap.size O.heap.size w1.heap.size s.data.toList:=by
   have xs:=F.o.trans ((d.trans ((a.trans (j.mono a.size)).mono d.size)).mono F.o.size);obtain ⟨⟨t,p,e1⟩,⟨t',p',e2⟩⟩:=HT.o.2.2;have l1:6<w.heap.size:=cD e1;have l2:7<w.heap.size:=cD e2;have z1:=F.o.size;have z2:=d.size;have z3:=a.size;refine ⟨by rw [aFh];exact xc,xf.same (j.block _ xf.lt),L.same (j.block _ L.lt),⟨Ll K.lt z3,L.lt⟩,HT.o.2.2.below xs,by omega,by omega⟩
  have xl:=F.o.trans ((d.trans ((a.trans (j.mono a.size)).mono d.size)).mono F.o.size);have xo:w.heap.size≤A.heap.size:=Af F.o.size (Af d.size a.size);have yb:O.heap.size≤w3.heap.size:=Af d.size (Af a.size j.size);have xm:=((d.trans ((a.trans (j.mono a.size)).mono d.size)).block _ (Aa HR.o)).trans HR.o;have U:Hid (Calls prog 144 #[.pointer (some ⟨A.heap.size,0,none⟩),Iz 8] w3 (xP (fun y t=>cB 8 s.data.toList=some (y,t)∧vO t) 8 A.heap.size O.heap.size w1.heap.size s.data.toList w3)):=Hh (EO 8 (by decide) A.heap.size O.heap.size w1.heap.size s.data.toList w3 xr (by have:=HL.o;omega))
  have I:=Hh xl;have xh:=Hh xm;have xu:w.heap.size ≠ A.heap.size:=by have:=Af d.size a.size;omega
  generalize x7:A.heap.size=gx at U xo xu ⊢;clear x7 xr xf K d L a j xc xl xm WD CD F HR
  go_upto_region 5 with ((with_reducible refine (U.out).mono ?_);rintro e5 P ⟨cs,x,ok,r',rfl,n,x6,xe,x5,xb,xp⟩;go_loud ((obtain ⟨a1,l1,c1,a2,l2,c2,xy⟩:=n.slices);subst xy))
  have xv:s.size≤65536→∀y,aC 8 y=true→aP 8 y=true→aR 8 y=s.data.toList→ok=true∧x=y:=fun _ y h1 h2 h3=>by
   have:=kM 8 y [] h1 h2 GY;rw [By,h3] at this;have:=xp y [] ⟨this,fun c hc=>by cases hc⟩
   exact ⟨this.1,this.2.1⟩
  have Z:Below w.heap.size w P:=I.o.grown xe I.o.size (fun k hk=>by cases hk;exact xo)
  have H:=cP xe xu xh.o;have b6:=(Br P.heap.size P).alloc (o:=.cells (Na x a1 l1 c1 a2 l2 c2) 28) (Lr _);have J:=Hn P (.cells (Na x a1 l1 c1 a2 l2 c2) 28);have r:=n.same fun b hb=>b6.block b hb.2
  have C:=Z.trans (b6.mono Z.size);have T:=(b6.block _ (Aa H)).trans H;have G:P.heap.size<(P.alloc (.cells (Na x a1 l1 c1 a2 l2 c2) 28)).heap.size:=by simp
  have yc:w.heap.size ≠ P.heap.size:=by have:=Aa H;omega
  obtain ⟨w6,xd⟩:∃W,W=P.alloc (.cells (Na x a1 l1 c1 a2 l2 c2) 28):=⟨_,rfl⟩;rw [←xd] at b6 J r C T G;rw [←xd];have xz:w.heap.size≤w3.heap.size:=I.o.size;have xq:=Hh xv;have xg:=Hh C;have ya:=Hh r;have E:=Hh T;have xj:=Hh (Ai G xz);have l:aP 8 x=true:=AJ (by decide) xb.2
  have B:iM 9 x:=xb.1;have EN:=Hh (MU _ x w6 r (fun b hb=>Cm hb.2 G) B (fun _=>l) (HT.o.1.below C) (HT.o.2.1.below C))
  have xx:=Hh l;clear xd xv xp Z H b6 r C T G n x6 xe xb x5 I xh U l B HT;cases ok with
  | false=>
   have R:Hid (CW s nd0 4):=Hh (.inr ⟨rfl,rfl,fun y h1 h2 h3 h4=>by have:=(xq.o h3 y h1 h2 h4).1;cases this⟩)
   have f1:=aE E.o;have V:=aA E.o
   go_wp2
   refine aT (v:=Iz 4) E.o results127 rfl rfl rfl ?_;exact tU xg.o R.o
  | true=>
   have cn:=aA J;have D:=Hh J;clear J
   go_upto_region 8 with ((with_reducible refine (EN.o).mono ?_);rintro e7 w7 ⟨rfl,z⟩)
   have xn:=xg.o.trans (z.mono xg.o.size);have xt:=(z.block _ (Aa E.o)).trans E.o;have xi:=(z.block _ (Aa D.o)).trans D.o;have S:=ya.o.same fun b hb=>z.block b (Cm hb.2 xj.o.1)
   have M:=Hh xn;have i:=Hh xt;have Q:=Hh (Ai S z.size);clear xn xt S z EN D cn
   by_cases f:jsE x ≠ 0∨jsS x ≠ s
   ·have R:Hid (CW s nd0 4):=Hh (.inr ⟨rfl,rfl,fun y h1 h2 h3 h4=>by
     obtain ⟨-,rfl⟩:=xq.o h3 y h1 h2 h4;have u:¬65536<(aR 8 x).length:=by rw [h4,xk];omega
     obtain ⟨g1,g2⟩:=pG h1 u;rcases f with h | h
     ·exact h g2
     ·apply h;rw [g1,h4]⟩)
    clear xi
    by_cases g:jsE x=0
    ·have N:jsS x ≠ s:=f.resolve_left (fun h=>h g)
     have ye:((jsS x).toList == s.toList)=false:=by
      rw [Cj,Cj];exact Bm.2 fun h=>N (by rw [←aFh (jsS x),h,aFh])
     have xw:(jsE x != 0)=false:=by simpa using g
     clear f;rw [g];have f1:=aE i.o;have V:=aA i.o
     go_wp2
     refine aT (v:=Iz 4) i.o results127 rfl rfl rfl ?_;exact tU M.o R.o
    ·have xw:(jsE x != 0)=true:=by simpa using g
     clear f;have f1:=aE i.o;have V:=aA i.o
     go_wp2
     refine aT (v:=Iz 4) i.o results127 rfl rfl rfl ?_;exact tU M.o R.o
   ·have g:jsE x=0:=Dv fun h=>f (.inl h)
    have N:jsS x=s:=Dv fun h=>f (.inr h)
    have R:Hid (CW s x 0):=Hh (by
     have hv:aC 8 x=true:=by
      cases q:aC 8 x with
      | true=>rfl
      | false=>rw [(yC q).2] at g;cases g
     have u:¬65536<(aR 8 x).length:=fun q=>by rw [(tO hv q).2] at g;cases g
     have hw:aR 8 x=s.data.toList:=by rw [←N,(pG hv u).1]
     exact .inl ⟨rfl,hv,xx.o,hw,by rw [hw,xk] at u;omega⟩)
    clear f;rw [g,N];have f1:=aE i.o;have V:=aA i.o;have cn:=aA xi
    go_wp2
    refine aT (v:=Iz 0) i.o results127 rfl rfl rfl ?_;have xa:=aO w7 w.heap.size (Iz x.kind) (.bool x.bool) (Iz x.num) (.string x.text) (.slice a1 l1 c1) (.slice a2 l2 c2);refine ⟨(Nc x a1 l1 c1 a2 l2 c2),x,0,rfl,?_,M.o.grown xa M.o.size (fun k hk=>by cases hk;exact Lr _),R.o⟩
    have hz:=xj.o;have yd:=Q.o.2;have hr:=Aa i.o;exact (Q.o.1.same fun b hb=>xa.block b (by omega) (by intro e;have:=Ab e;omega)).mono fun b hb=>⟨by omega,Ll (by omega) xa.size⟩
end Go.Proofs.YtncdpanfefnjlaaGreatDoor