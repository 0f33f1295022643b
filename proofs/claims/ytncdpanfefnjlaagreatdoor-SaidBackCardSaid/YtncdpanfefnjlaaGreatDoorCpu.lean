import Derived.Test.YtncdpanfefnjlaaGreatDoorCpm
set_option linter.unusedVariables false
set_option linter.unusedSimpArgs false
set_option maxHeartbeats 3200000
set_option maxRecDepth 100000
namespace Go.Proofs.YtncdpanfefnjlaaGreatDoor
open Go.Proofs.Tryz
open Go Go.Maps Go.ChangeShapes Go.WideShapes Go.ChangeAt Go.RowKit
theorem AM (l:Ub) (a b:Nat):(bC l).extract a b=bC ((l.drop a).take (b - a)):=by
 apply Cp
 apply Ce.1
 rw [ByteArray.data_extract,Array.toList_extract];simp [bC,List.extract]
theorem aGz (l:Ub) (n:Nat):(bC l).extract 0 n=bC (l.take n):=by rw [AM];simp
theorem aGy (l:Ub) (n:Nat):(bC l).extract n (bC l).size=bC (l.drop n):=by
 rw [AM,eH,Ao (by simp)]
def PrC (w:World) (g m:Nat) (r:Ub):Prop:=w.heap[g]?=some (.cells #[.string (bC r),.map (some m)] 186 (0,0))∧pA w m∧m<g
theorem PrC.lt {w:World} {g m:Nat} {r:Ub} (h:PrC w g m r):g<w.heap.size:=Aa h.1
theorem PrC.below {w w':World} {g m:Nat} {r:Ub} (h:PrC w g m r) (hb:Below w.heap.size w w'):PrC w' g m r:=by
 obtain ⟨h1,h2,h3⟩:=h;exact ⟨(hb.block g (Aa h1)).trans h1,h2.same (hb.block _ h2.lt),h3⟩
theorem PrC.kept {w w':World} {g m b:Nat} {r:Ub} (h:PrC w g m r) (hg:w.grownBy w' (some b)) (hb:g<b):PrC w' g m r:=by
 obtain ⟨h1,h2,h3⟩:=h;exact ⟨cM hg (by omega) h1,h2.same (hg.block _ h2.lt (by intro e;have:=Ab e;omega)),h3⟩
theorem PrC.set {w:World} {g m:Nat} {r:Ub} (h:PrC w g m r) (r':Ub):PrC (w.setCell ⟨g,0,none⟩ (.string (bC r'))) g m r'∧w.grownBy (w.setCell ⟨g,0,none⟩ (.string (bC r'))) (some g):=by
 obtain ⟨h1,h2,h3⟩:=h;have k:=dQ h1 (j:=0) (.string (bC r'));have hg:=aR w g 0 (.string (bC r'));exact ⟨⟨by simpa using k,h2.same (heap_setCell_other w ⟨g,0,none⟩ _ _ (by show m ≠ g;omega)),h3⟩,hg⟩
def GU (g m:Nat) (w:World) (v:Value) (r':Ub) (e:Ending) (w':World):Prop:=e=.returned v∧PrC w' g m r'∧w.grownBy w' (some g)
theorem uP (n:Nat) {g m:Nat} {r:Ub} (w:World) (h:PrC w g m r) (hr:r.length≤1000000) (q:n≤r.length):Calls prog 172 #[.pointer (some ⟨g,0,none⟩),.int .u64 (n:Int)] w (GU g m w (.tuple #[.string (bC (r.take n)),.bool true]) (r.drop n)):=by
 have c0:w.cell? ⟨g,0,none⟩=some (.string (bC r)):=aL h.1 rfl;have f0:w.frozen? ⟨g,0,none⟩=false:=gM h.1;have hz:=eH r;have hw:IntKind.u64.wrap ((bC r).size:Int)=((bC r).size:Int):=by rw [Bw];omega
 have q1:(n:Int)≤((bC r).size:Int):=by omega
 have q2:¬ ((bC r).size:Int)<(n:Int):=by omega
 have q0:(0:Int)≤(n:Int):=by omega
 have k1:=aGz r n;have k2:=aGy r n;have ST:=Hh (h.set (r.drop n));clear hz q h
 go_enter func172,ntmps172
 go_wp2
 go_ret2
 exact ⟨rfl,ST.o.1,ST.o.2⟩
theorem AC (n:Nat) {g m:Nat} {r:Ub} (w:World) (h:PrC w g m r) (hr:r.length≤1000000) (q:¬n≤r.length):Calls prog 172 #[.pointer (some ⟨g,0,none⟩),.int .u64 (n:Int)] w (GU g m w (.tuple #[.string ⟨#[]⟩,.bool false]) r):=by
 have c0:w.cell? ⟨g,0,none⟩=some (.string (bC r)):=aL h.1 rfl;have hz:=eH r;have hw:IntKind.u64.wrap ((bC r).size:Int)=((bC r).size:Int):=by rw [Bw];omega
 have q1:((bC r).size:Int)<(n:Int):=by omega
 have ST:=Hh h;clear hz q h
 go_enter func172,ntmps172
 go_wp2
 go_ret2
 exact ⟨rfl,ST.o,aK (Br _ _) (Lr _) _⟩
theorem oT (n:Nat) {g m:Nat} {r:Ub} (w:World) (h:PrC w g m r) (hr:r.length≤1000000) (q:n≤r.length) (hn:n≤8):Calls prog 196 #[.pointer (some ⟨g,0,none⟩),.int .u64 (n:Int)] w (GU g m w (.tuple #[.int .u64 (fZ (r.take n):Int),.bool true]) (r.drop n)):=by
 have TK:=Hh (uP n w h hr q);obtain ⟨l,hl⟩:∃l,l=r.take n:=⟨_,rfl⟩;have hll:l.length=n:=by rw [hl,Ba];omega
 obtain ⟨s,hs⟩:∃s,s=bC l:=⟨_,rfl⟩;rw [←hl,←hs] at TK;rw [←hl];have hss:s.size=n:=by rw [hs,eH,hll]
 have HGET:Hid (∀ (p:Nat) (h:p<s.size),l[p]?=some (s[p]'h)):=Hh fun p h=>by
  have e:l=s.data.toList:=by rw [hs,iE]
  rw [e,Ac (by rw [Ah];exact h)];rfl
 have HLL:=Hh hll;have hsi:(s.size:Int)=(n:Int):=by omega
 clear h hl hs hll q
 go_enter func196,ntmps196
 go_upto_region 4 with ((with_reducible refine (TK.o).mono ?_);rintro e w1 ⟨rfl,hp1,hg1⟩)
 have HP:=Hh (Ai hp1 hg1);have HSS:=Hh hss;have HSI:=Hh hsi;clear hp1 hg1 hss hsi
 go_loopw [8,18] (fun vn vi wr=>∃ (j:Nat) (N:Int),vi=Iz (j:Int)∧j≤n∧vn=.int .u64 N∧N=(fZ (l.take j):Int)∧wr=w1) (fun _ vi _=>n - (intOf vi).toNat)
 case atStart=>exact ⟨0,0,rfl,Ax _,rfl,by simp [fZ],rfl⟩
 case round=>
  obtain ⟨j,N,rfl,hj,rfl,hN,hww⟩:=hrel
  replace hww:=hww.symm
  subst hww
  by_cases hjk:j<n
  ·have hjs:j<s.size:=by rw [HSS.o];exact hjk
   have hjk':(j:Int)<(s.size:Int):=by omega
   have hj0:(0:Int)≤(j:Int):=by omega
   have gj:=HGET.o j hjs;obtain ⟨cj,hcj⟩:∃cj,cj=s[j]'hjs:=⟨_,rfl⟩;rw [←hcj] at gj;have hcj':=hcj.symm;have hb1:=nH (l.take j);have hlj:(l.take j).length=j:=by rw [Ba];have:=HLL.o;omega
   rw [hlj] at hb1;have hb2:(256:Nat) ^ j≤256 ^ 7:=Cf (by decide) (by omega)
   have h7:(256:Nat) ^ 7=72057594037927936:=by decide
   have hw0:IntKind.u64.wrap (cj.toNat:Int)=(cj.toNat:Int):=by rw [Bw];have:=cj.toNat_lt;omega
   have hw1:IntKind.u64.wrap (N * 256)=N * 256:=by rw [Bw];omega
   have hw2:bits BinOp.or IntKind.u64 (N * 256) (cj.toNat:Int)=(fZ (l.take (j+1)):Int):=by
    rw [hN,aHz _ _ (by omega) cj.toNat_lt,Bf,gj]
    show _=((fZ (_++[cj]):Nat):Int)
    rw [DZ]
   obtain ⟨N2,hN2⟩:∃N2:Int,N2=(fZ (l.take (j+1)):Int):=⟨_,rfl⟩;rw [←hN2] at hw2;have HN2:=Hh hN2;clear hb1 hlj hb2 h7 hN hN2 gj hcj
   go_wp2
   go_roundw
   case rel=>exact ⟨j+1,N2,by go_num,by omega,rfl,HN2.o,by first | rfl | trivial⟩
   case measure=>simp [intOf] <;> omega
  ·have hjs:¬ (j:Int)<(s.size:Int):=by have:=HSS.o;omega
   have hje:l.take j=l:=Ao (by have:=HLL.o;omega)
   rw [hje] at hN;have HN:=Hh hN;clear hN hje
   go_wp2
   go_ret2
   exact ⟨by rw [HN.o];rfl,HP.o.1,HP.o.2⟩
theorem sW (n:Nat) {g m:Nat} {r:Ub} (w:World) (h:PrC w g m r) (hr:r.length≤1000000) (q:¬n≤r.length):Calls prog 196 #[.pointer (some ⟨g,0,none⟩),.int .u64 (n:Int)] w (GU g m w (.tuple #[.int .u64 0,.bool false]) r):=by
 have TK:=Hh (AC n w h hr q);clear h q
 go_enter func196,ntmps196
 go_upto_region 4 with ((with_reducible refine (TK.o).mono ?_);rintro e w1 ⟨rfl,hp1,hg1⟩)
 have HP:=Hh (Ai hp1 hg1);clear hp1 hg1
 go_loopw [8,18] (fun vn vi wr=>vi=Iz 0∧vn=.int .u64 0∧wr=w1) (fun _ vi _=>0)
 case atStart=>exact ⟨rfl,rfl,rfl⟩
 case round=>
  obtain ⟨rfl,rfl,hww⟩:=hrel
  replace hww:=hww.symm
  subst hww
  go_wp2
  go_ret2
  exact ⟨rfl,HP.o.1,HP.o.2⟩
def tH (r:Ub) (ok:Bool) (m n:Nat) (r':Ub):Prop:=∀M N t,M<8→N<18446744073709551616→r=eA M N++t→ok=true∧m=M∧n=N∧r'=t
theorem XL {c:UInt8} {r1:Ub} {M N:Nat} {t:Ub} (hM:M<8) (h:c::r1=eA M N++t):c.toNat / 32=M∧c.toNat % 32=gU N∧r1=dF N (fN N)++t:=by
 have:=QD (l:=c::r1) (p:=0) rfl hM (by simpa using h)
 simpa using this
def aEj (g mb:Nat) (r:Ub) (w:World) (e:Ending) (w':World):Prop:=∃ (m n:Nat) (ok:Bool) (r':Ub),e=.returned (.tuple #[.agg #[Iz (m:Int),.int .u64 (n:Int)],.bool ok])∧PrC w' g mb r'∧w.grownBy w' (some g)∧m<8∧n<18446744073709551616∧r'.length≤r.length∧(ok=true→r'.length<r.length)∧tH r ok m n r'
theorem lO {r r':Ub} {w wx:World} {g mb m n:Nat} {ok:Bool} (hp:PrC wx g mb r') (hg:w.grownBy wx (some g)) (hgw:g<w.heap.size) (hm:m<8) (hn:n<18446744073709551616) (hl:r'.length≤r.length) (hl2:ok=true→r'.length<r.length) (hI:tH r ok m n r') :
 aEj g mb r w (.returned (.tuple #[.agg #[Iz (m:Int),.int .u64 (n:Int)],.bool ok])) ((wx.setCell ⟨w.heap.size,0,none⟩ (Iz (m:Int))).setCell ⟨w.heap.size,1,none⟩ (.int .u64 (n:Int))):=by
 have hgs:=aH (aR wx w.heap.size 0 (Iz (m:Int))) (aR _ w.heap.size 1 (.int .u64 (n:Int)));exact ⟨m,n,ok,r',rfl,hp.kept hgs hgw,gB hg hgs (Lr _),hm,hn,hl,hl2,hI⟩
theorem GG {g mb:Nat} {r:Ub} (w:World) (h:PrC w g mb r) (hr:r.length≤1000000):Calls prog 170 #[.pointer (some ⟨g,0,none⟩)] w (aEj g mb r w):=by
 have hgw:=h.lt;have bA':=(Br w.heap.size w).alloc (o:=.cells #[Iz 0,.int .u64 0] 214) (Lr _);have h0:=h.below bA';have hr0:=Hn w (.cells #[Iz 0,.int .u64 0] 214);have hg0:=dP w (.cells #[Iz 0,.int .u64 0] 214) (some g);obtain ⟨w0,hw0⟩:∃W,W=w.alloc (.cells #[Iz 0,.int .u64 0] 214):=⟨_,rfl⟩;rw [←hw0] at h0 hr0 hg0;have HR:=Hh hr0;have HG:=Hh hg0;clear h bA' hr0 hg0;cases r with
 | nil=>
  have N1:=Hh (sW 1 w0 h0 hr (by decide))
  rw [show ((1:Nat):Int)=1 from rfl] at N1
  go_enter func170,ntmps170
  go_upto_region 1 with fail
  rw [←hw0];clear hw0
  go_upto_region 2 with ((with_reducible refine (N1.o).mono ?_);rintro e w1 ⟨rfl,hp1,hg1⟩)
  have k1:=cM hg1 (by omega) HR.o
  have c1:=dY k1;have f1:=dL k1;have HP:=Hh (Ai hp1 (aH HG.o hg1));have K1:=Hh k1;clear hp1 hg1 k1
  go_wp2
  refine Ar (v:=.tuple #[.agg #[Iz 0,.int .u64 0],.bool false]) ?_ ?_ ?_;rotate_left
  ·rfl
  ·exact lO (m:=0) (n:=0) HP.o.1 HP.o.2 hgw (by decide) (by decide) (Lr _) (fun h=>by cases h) (fun M N t hM hN hh=>by unfold eA at hh;simp at hh)
  ·have q:=eG K1.o (Iz 0) (.int .u64 0)
   have q0:=q.1;have q1:=q.2;simp [results,results170,go_sem,q0,q1]
 | cons c r1=>
  have hr1:r1.length≤1000000:=by rw [Ag] at hr;omega
  have N1:=Hh (oT 1 w0 h0 hr (by rw [Ag];omega) (by decide))
  rw [show ((1:Nat):Int)=1 from rfl,show fZ ((c::r1).take 1)=c.toNat from by simp [fZ],show (c::r1).drop 1=r1 from rfl] at N1
  obtain ⟨v,hv⟩:∃v,v=c.toNat % 32:=⟨_,rfl⟩;obtain ⟨m,hm⟩:∃m,m=c.toNat / 32:=⟨_,rfl⟩;have hmi:(c.toNat:Int) / 32=(m:Int):=by omega
  have hvi:(c.toNat:Int) % 32=(v:Int):=by omega
  have hvt:(c.toNat:Int).tmod 32=(v:Int):=by rw [Int.tmod_eq_emod_of_nonneg (by omega)];exact hvi
  have hm8:m<8:=by have:=c.toNat_lt;omega
  have hmw:IntKind.i64.wrap (m:Int)=(m:Int):=Cd _ (by omega)
  have hv32:v<32:=by omega
  have HF:Hid (∀M N t,M<8→N<18446744073709551616→c::r1=eA M N++t→m=M∧v=gU N∧r1=dF N (fN N)++t):=Hh fun M N t hM hN hh=>by
   obtain ⟨h1,h2,h3⟩:=XL hM hh;exact ⟨hm.trans h1,hv.trans h2,h3⟩
  clear hv hm h0
  by_cases h24:v<24
  ·have h24':(v:Int)<24:=by omega
   have h27':¬ (27:Int)<(v:Int):=by omega
   have hfin:Hid (tH (c::r1) true m v r1):=Hh fun M N t hM hN hh=>by
    obtain ⟨h1,h2,h3⟩:=HF.o M N t hM hN hh;rcases eJ hN with ⟨h4,h5,h6⟩ | ⟨h4,-,-,-⟩
    ·rw [h5] at h3
     exact ⟨rfl,h1,by omega,h3⟩
    ·omega
   go_enter func170,ntmps170
   go_upto_region 1 with fail
   rw [←hw0];clear hw0
   go_upto_region 2 with ((with_reducible refine (N1.o).mono ?_);rintro e w1 ⟨rfl,hp1,hg1⟩)
   have k1:=cM hg1 (by omega) HR.o
   have c1:=dY k1;have f1:=dL k1;have HP:=Hh (Ai hp1 (aH HG.o hg1));have K1:=Hh k1;clear hp1 hg1 k1
   go_wp2
   refine Ar (v:=.tuple #[.agg #[Iz (m:Int),.int .u64 (v:Int)],.bool true]) ?_ ?_ ?_;rotate_left
   ·rfl
   ·exact lO HP.o.1 HP.o.2 hgw hm8 (by omega) (by rw [Ag];omega) (fun _=>by rw [Ag];omega) hfin.o
   ·have q:=eG K1.o (Iz (m:Int)) (.int .u64 (v:Int))
    have q0:=q.1;have q1:=q.2;simp [results,results170,go_sem,q0,q1]
  ·have h24':¬ (v:Int)<24:=by omega
   by_cases h27:27<v
   ·have h27':(27:Int)<(v:Int):=by omega
    have hfin:Hid (tH (c::r1) false 0 0 r1):=Hh fun M N t hM hN hh=>by
     obtain ⟨-,h2,h3⟩:=HF.o M N t hM hN hh;rcases eJ hN with ⟨h4,-,-⟩ | ⟨-,h5,-,-⟩ <;> omega
    go_enter func170,ntmps170
    go_upto_region 1 with fail
    rw [←hw0];clear hw0
    go_upto_region 2 with ((with_reducible refine (N1.o).mono ?_);rintro e w1 ⟨rfl,hp1,hg1⟩)
    have k1:=cM hg1 (by omega) HR.o
    have c1:=dY k1;have f1:=dL k1;have HP:=Hh (Ai hp1 (aH HG.o hg1));have K1:=Hh k1;clear hp1 hg1 k1
    go_wp2
    refine Ar (v:=.tuple #[.agg #[Iz 0,.int .u64 0],.bool false]) ?_ ?_ ?_;rotate_left
    ·rfl
    ·exact lO (m:=0) (n:=0) HP.o.1 HP.o.2 hgw (by decide) (by decide) (by rw [Ag];omega) (fun h=>by cases h) hfin.o
    ·have q:=eG K1.o (Iz 0) (.int .u64 0)
     have q0:=q.1;have q1:=q.2;simp [results,results170,go_sem,q0,q1]
   ·have h27':¬ (27:Int)<(v:Int):=by omega
    have hv4:v=24∨v=25∨v=26∨v=27:=by omega
    rcases hv4 with hvv | hvv | hvv | hvv
    ·subst hvv
     by_cases hq:1≤r1.length
     ·skip
      have hl1:r1.length ≥ 1:=by omega
      have hfin:Hid (tH (c::r1) true m (fZ (r1.take 1)) (r1.drop 1)):=Hh fun M N t hM hN hh=>by
       obtain ⟨h1,h2,h3⟩:=HF.o M N t hM hN hh;rcases eJ hN with ⟨h4,-,-⟩ | ⟨-,-,h5,h6⟩
       ·omega
       ·rw [←h2,show (2:Nat) ^ (24 - 24)=1 by decide] at h5
        rw [h5] at h3 h6;have h7:(dF N 1).length=1:=aY _ _;refine ⟨rfl,h1,?_,?_⟩
        ·rw [h3,List.take_left' h7,lD h6]
        ·rw [h3,List.drop_left' h7]
      have hbv:fZ (r1.take 1)<18446744073709551616:=by
       have h1:=nH (r1.take 1);have h2:(r1.take 1).length≤8:=by rw [Ba];omega
       have h3:(256:Nat) ^ (r1.take 1).length≤256 ^ 8:=Cf (by decide) h2
       have h8:(256:Nat) ^ 8=18446744073709551616:=by decide
       omega
      have N2:=Hh (fun wx (hx:PrC wx g mb r1)=>oT 1 wx hx hr1 hq (by decide))
      rw [show ((1:Nat):Int)=1 from rfl] at N2
      obtain ⟨NN,hNN⟩:∃N,N=fZ (r1.take 1):=⟨_,rfl⟩;rw [←hNN] at N2 hfin hbv;obtain ⟨r2,hr2⟩:∃r2,r2=r1.drop 1:=⟨_,rfl⟩;have hr2l:r2.length≤r1.length:=by rw [hr2,Cb];omega
      rw [←hr2] at N2 hfin;clear hNN hr2;clear hq
      go_enter func170,ntmps170
      go_upto_region 1 with fail
      rw [←hw0];clear hw0
      go_upto_region 2 with ((with_reducible refine (N1.o).mono ?_);rintro e w1 ⟨rfl,hp1,hg1⟩)
      have k1:=cM hg1 (by omega) HR.o
      have HP1:=Hh (Ai hp1 (aH HG.o hg1));have HZ1:=Hh hg1.size;have K1:=Hh k1;clear hp1 hg1 k1
      go_upto_region 8 with ((with_reducible refine (N2.o _ HP1.o.1).mono ?_);rintro e w2 ⟨rfl,hp2,hg2⟩)
      have k2:=cM hg2 (by omega) K1.o
      have c2:=dY k2;have f2:=dL k2;have HP:=Hh (Ai hp2 (aH HP1.o.2 hg2));have K2:=Hh k2;clear hp2 hg2 k2
      go_wp2
      refine Ar (v:=.tuple #[.agg #[Iz (m:Int),.int .u64 (NN:Int)],.bool true]) ?_ ?_ ?_;rotate_left
      ·rfl
      ·exact lO (m:=m) (n:=NN) HP.o.1 HP.o.2 hgw hm8 hbv (by rw [Ag];omega) (fun _=>by rw [Ag];omega) hfin.o
      ·have q:=eG K2.o (Iz (m:Int)) (.int .u64 (NN:Int))
       have q0:=q.1;have q1:=q.2;simp [results,results170,go_sem,q0,q1]
     ·skip
      have hfin:Hid (tH (c::r1) false m 0 r1):=Hh fun M N t hM hN hh=>by
       obtain ⟨h1,h2,h3⟩:=HF.o M N t hM hN hh
       exfalso
       rcases eJ hN with ⟨h4,-,-⟩ | ⟨-,-,h5,h6⟩
       ·omega
       ·rw [←h2,show (2:Nat) ^ (24 - 24)=1 by decide] at h5
        rw [h5] at h3;have h7:(dF N 1).length=1:=aY _ _;have:=Ad List.length h3;rw [Lg,h7] at this;omega
      have N2:=Hh (fun wx (hx:PrC wx g mb r1)=>sW 1 wx hx hr1 hq)
      rw [show ((1:Nat):Int)=1 from rfl] at N2
      clear hq
      go_enter func170,ntmps170
      go_upto_region 1 with fail
      rw [←hw0];clear hw0
      go_upto_region 2 with ((with_reducible refine (N1.o).mono ?_);rintro e w1 ⟨rfl,hp1,hg1⟩)
      have k1:=cM hg1 (by omega) HR.o
      have HP1:=Hh (Ai hp1 (aH HG.o hg1));have HZ1:=Hh hg1.size;have K1:=Hh k1;clear hp1 hg1 k1
      go_upto_region 8 with ((with_reducible refine (N2.o _ HP1.o.1).mono ?_);rintro e w2 ⟨rfl,hp2,hg2⟩)
      have k2:=cM hg2 (by omega) K1.o
      have c2:=dY k2;have f2:=dL k2;have HP:=Hh (Ai hp2 (aH HP1.o.2 hg2));have K2:=Hh k2;clear hp2 hg2 k2
      go_wp2
      refine Ar (v:=.tuple #[.agg #[Iz (m:Int),.int .u64 0],.bool false]) ?_ ?_ ?_;rotate_left
      ·rfl
      ·exact lO (m:=m) (n:=0) HP.o.1 HP.o.2 hgw hm8 (by decide) (by rw [Ag];omega) (fun h=>by cases h) hfin.o
      ·have q:=eG K2.o (Iz (m:Int)) (.int .u64 0)
       have q0:=q.1;have q1:=q.2;simp [results,results170,go_sem,q0,q1]
    ·subst hvv
     by_cases hq:2≤r1.length
     ·skip
      have hl1:r1.length ≥ 2:=by omega
      have hfin:Hid (tH (c::r1) true m (fZ (r1.take 2)) (r1.drop 2)):=Hh fun M N t hM hN hh=>by
       obtain ⟨h1,h2,h3⟩:=HF.o M N t hM hN hh;rcases eJ hN with ⟨h4,-,-⟩ | ⟨-,-,h5,h6⟩
       ·omega
       ·rw [←h2,show (2:Nat) ^ (25 - 24)=2 by decide] at h5
        rw [h5] at h3 h6;have h7:(dF N 2).length=2:=aY _ _;refine ⟨rfl,h1,?_,?_⟩
        ·rw [h3,List.take_left' h7,lD h6]
        ·rw [h3,List.drop_left' h7]
      have hbv:fZ (r1.take 2)<18446744073709551616:=by
       have h1:=nH (r1.take 2);have h2:(r1.take 2).length≤8:=by rw [Ba];omega
       have h3:(256:Nat) ^ (r1.take 2).length≤256 ^ 8:=Cf (by decide) h2
       have h8:(256:Nat) ^ 8=18446744073709551616:=by decide
       omega
      have N2:=Hh (fun wx (hx:PrC wx g mb r1)=>oT 2 wx hx hr1 hq (by decide))
      rw [show ((2:Nat):Int)=2 from rfl] at N2
      obtain ⟨NN,hNN⟩:∃N,N=fZ (r1.take 2):=⟨_,rfl⟩;rw [←hNN] at N2 hfin hbv;obtain ⟨r2,hr2⟩:∃r2,r2=r1.drop 2:=⟨_,rfl⟩;have hr2l:r2.length≤r1.length:=by rw [hr2,Cb];omega
      rw [←hr2] at N2 hfin;clear hNN hr2;clear hq
      go_enter func170,ntmps170
      go_upto_region 1 with fail
      rw [←hw0];clear hw0
      go_upto_region 2 with ((with_reducible refine (N1.o).mono ?_);rintro e w1 ⟨rfl,hp1,hg1⟩)
      have k1:=cM hg1 (by omega) HR.o
      have HP1:=Hh (Ai hp1 (aH HG.o hg1));have HZ1:=Hh hg1.size;have K1:=Hh k1;clear hp1 hg1 k1
      go_upto_region 8 with ((with_reducible refine (N2.o _ HP1.o.1).mono ?_);rintro e w2 ⟨rfl,hp2,hg2⟩)
      have k2:=cM hg2 (by omega) K1.o
      have c2:=dY k2;have f2:=dL k2;have HP:=Hh (Ai hp2 (aH HP1.o.2 hg2));have K2:=Hh k2;clear hp2 hg2 k2
      go_wp2
      refine Ar (v:=.tuple #[.agg #[Iz (m:Int),.int .u64 (NN:Int)],.bool true]) ?_ ?_ ?_;rotate_left
      ·rfl
      ·exact lO (m:=m) (n:=NN) HP.o.1 HP.o.2 hgw hm8 hbv (by rw [Ag];omega) (fun _=>by rw [Ag];omega) hfin.o
      ·have q:=eG K2.o (Iz (m:Int)) (.int .u64 (NN:Int))
       have q0:=q.1;have q1:=q.2;simp [results,results170,go_sem,q0,q1]
     ·skip
      have hfin:Hid (tH (c::r1) false m 0 r1):=Hh fun M N t hM hN hh=>by
       obtain ⟨h1,h2,h3⟩:=HF.o M N t hM hN hh
       exfalso
       rcases eJ hN with ⟨h4,-,-⟩ | ⟨-,-,h5,h6⟩
       ·omega
       ·rw [←h2,show (2:Nat) ^ (25 - 24)=2 by decide] at h5
        rw [h5] at h3;have h7:(dF N 2).length=2:=aY _ _;have:=Ad List.length h3;rw [Lg,h7] at this;omega
      have N2:=Hh (fun wx (hx:PrC wx g mb r1)=>sW 2 wx hx hr1 hq)
      rw [show ((2:Nat):Int)=2 from rfl] at N2
      clear hq
      go_enter func170,ntmps170
      go_upto_region 1 with fail
      rw [←hw0];clear hw0
      go_upto_region 2 with ((with_reducible refine (N1.o).mono ?_);rintro e w1 ⟨rfl,hp1,hg1⟩)
      have k1:=cM hg1 (by omega) HR.o
      have HP1:=Hh (Ai hp1 (aH HG.o hg1));have HZ1:=Hh hg1.size;have K1:=Hh k1;clear hp1 hg1 k1
      go_upto_region 8 with ((with_reducible refine (N2.o _ HP1.o.1).mono ?_);rintro e w2 ⟨rfl,hp2,hg2⟩)
      have k2:=cM hg2 (by omega) K1.o
      have c2:=dY k2;have f2:=dL k2;have HP:=Hh (Ai hp2 (aH HP1.o.2 hg2));have K2:=Hh k2;clear hp2 hg2 k2
      go_wp2
      refine Ar (v:=.tuple #[.agg #[Iz (m:Int),.int .u64 0],.bool false]) ?_ ?_ ?_;rotate_left
      ·rfl
      ·exact lO (m:=m) (n:=0) HP.o.1 HP.o.2 hgw hm8 (by decide) (by rw [Ag];omega) (fun h=>by cases h) hfin.o
      ·have q:=eG K2.o (Iz (m:Int)) (.int .u64 0)
       have q0:=q.1;have q1:=q.2;simp [results,results170,go_sem,q0,q1]
    ·subst hvv
     by_cases hq:4≤r1.length
     ·skip
      have hl1:r1.length ≥ 4:=by omega
      have hfin:Hid (tH (c::r1) true m (fZ (r1.take 4)) (r1.drop 4)):=Hh fun M N t hM hN hh=>by
       obtain ⟨h1,h2,h3⟩:=HF.o M N t hM hN hh;rcases eJ hN with ⟨h4,-,-⟩ | ⟨-,-,h5,h6⟩
       ·omega
       ·rw [←h2,show (2:Nat) ^ (26 - 24)=4 by decide] at h5
        rw [h5] at h3 h6;have h7:(dF N 4).length=4:=aY _ _;refine ⟨rfl,h1,?_,?_⟩
        ·rw [h3,List.take_left' h7,lD h6]
        ·rw [h3,List.drop_left' h7]
      have hbv:fZ (r1.take 4)<18446744073709551616:=by
       have h1:=nH (r1.take 4);have h2:(r1.take 4).length≤8:=by rw [Ba];omega
       have h3:(256:Nat) ^ (r1.take 4).length≤256 ^ 8:=Cf (by decide) h2
       have h8:(256:Nat) ^ 8=18446744073709551616:=by decide
       omega
      have N2:=Hh (fun wx (hx:PrC wx g mb r1)=>oT 4 wx hx hr1 hq (by decide))
      rw [show ((4:Nat):Int)=4 from rfl] at N2
      obtain ⟨NN,hNN⟩:∃N,N=fZ (r1.take 4):=⟨_,rfl⟩;rw [←hNN] at N2 hfin hbv;obtain ⟨r2,hr2⟩:∃r2,r2=r1.drop 4:=⟨_,rfl⟩;have hr2l:r2.length≤r1.length:=by rw [hr2,Cb];omega
      rw [←hr2] at N2 hfin;clear hNN hr2;clear hq
      go_enter func170,ntmps170
      go_upto_region 1 with fail
      rw [←hw0];clear hw0
      go_upto_region 2 with ((with_reducible refine (N1.o).mono ?_);rintro e w1 ⟨rfl,hp1,hg1⟩)
      have k1:=cM hg1 (by omega) HR.o
      have HP1:=Hh (Ai hp1 (aH HG.o hg1));have HZ1:=Hh hg1.size;have K1:=Hh k1;clear hp1 hg1 k1
      go_upto_region 8 with ((with_reducible refine (N2.o _ HP1.o.1).mono ?_);rintro e w2 ⟨rfl,hp2,hg2⟩)
      have k2:=cM hg2 (by omega) K1.o
      have c2:=dY k2;have f2:=dL k2;have HP:=Hh (Ai hp2 (aH HP1.o.2 hg2));have K2:=Hh k2;clear hp2 hg2 k2
      go_wp2
      refine Ar (v:=.tuple #[.agg #[Iz (m:Int),.int .u64 (NN:Int)],.bool true]) ?_ ?_ ?_;rotate_left
      ·rfl
      ·exact lO (m:=m) (n:=NN) HP.o.1 HP.o.2 hgw hm8 hbv (by rw [Ag];omega) (fun _=>by rw [Ag];omega) hfin.o
      ·have q:=eG K2.o (Iz (m:Int)) (.int .u64 (NN:Int))
       have q0:=q.1;have q1:=q.2;simp [results,results170,go_sem,q0,q1]
     ·skip
      have hfin:Hid (tH (c::r1) false m 0 r1):=Hh fun M N t hM hN hh=>by
       obtain ⟨h1,h2,h3⟩:=HF.o M N t hM hN hh
       exfalso
       rcases eJ hN with ⟨h4,-,-⟩ | ⟨-,-,h5,h6⟩
       ·omega
       ·rw [←h2,show (2:Nat) ^ (26 - 24)=4 by decide] at h5
        rw [h5] at h3;have h7:(dF N 4).length=4:=aY _ _;have:=Ad List.length h3;rw [Lg,h7] at this;omega
      have N2:=Hh (fun wx (hx:PrC wx g mb r1)=>sW 4 wx hx hr1 hq)
      rw [show ((4:Nat):Int)=4 from rfl] at N2
      clear hq
      go_enter func170,ntmps170
      go_upto_region 1 with fail
      rw [←hw0];clear hw0
      go_upto_region 2 with ((with_reducible refine (N1.o).mono ?_);rintro e w1 ⟨rfl,hp1,hg1⟩)
      have k1:=cM hg1 (by omega) HR.o
      have HP1:=Hh (Ai hp1 (aH HG.o hg1));have HZ1:=Hh hg1.size;have K1:=Hh k1;clear hp1 hg1 k1
      go_upto_region 8 with ((with_reducible refine (N2.o _ HP1.o.1).mono ?_);rintro e w2 ⟨rfl,hp2,hg2⟩)
      have k2:=cM hg2 (by omega) K1.o
      have c2:=dY k2;have f2:=dL k2;have HP:=Hh (Ai hp2 (aH HP1.o.2 hg2));have K2:=Hh k2;clear hp2 hg2 k2
      go_wp2
      refine Ar (v:=.tuple #[.agg #[Iz (m:Int),.int .u64 0],.bool false]) ?_ ?_ ?_;rotate_left
      ·rfl
      ·exact lO (m:=m) (n:=0) HP.o.1 HP.o.2 hgw hm8 (by decide) (by rw [Ag];omega) (fun h=>by cases h) hfin.o
      ·have q:=eG K2.o (Iz (m:Int)) (.int .u64 0)
       have q0:=q.1;have q1:=q.2;simp [results,results170,go_sem,q0,q1]
    ·subst hvv
     by_cases hq:8≤r1.length
     ·skip
      have hl1:r1.length ≥ 8:=by omega
      have hfin:Hid (tH (c::r1) true m (fZ (r1.take 8)) (r1.drop 8)):=Hh fun M N t hM hN hh=>by
       obtain ⟨h1,h2,h3⟩:=HF.o M N t hM hN hh;rcases eJ hN with ⟨h4,-,-⟩ | ⟨-,-,h5,h6⟩
       ·omega
       ·rw [←h2,show (2:Nat) ^ (27 - 24)=8 by decide] at h5
        rw [h5] at h3 h6;have h7:(dF N 8).length=8:=aY _ _;refine ⟨rfl,h1,?_,?_⟩
        ·rw [h3,List.take_left' h7,lD h6]
        ·rw [h3,List.drop_left' h7]
      have hbv:fZ (r1.take 8)<18446744073709551616:=by
       have h1:=nH (r1.take 8);have h2:(r1.take 8).length≤8:=by rw [Ba];omega
       have h3:(256:Nat) ^ (r1.take 8).length≤256 ^ 8:=Cf (by decide) h2
       have h8:(256:Nat) ^ 8=18446744073709551616:=by decide
       omega
      have N2:=Hh (fun wx (hx:PrC wx g mb r1)=>oT 8 wx hx hr1 hq (by decide))
      rw [show ((8:Nat):Int)=8 from rfl] at N2
      obtain ⟨NN,hNN⟩:∃N,N=fZ (r1.take 8):=⟨_,rfl⟩;rw [←hNN] at N2 hfin hbv;obtain ⟨r2,hr2⟩:∃r2,r2=r1.drop 8:=⟨_,rfl⟩;have hr2l:r2.length≤r1.length:=by rw [hr2,Cb];omega
      rw [←hr2] at N2 hfin;clear hNN hr2;clear hq
      go_enter func170,ntmps170
      go_upto_region 1 with fail
      rw [←hw0];clear hw0
      go_upto_region 2 with ((with_reducible refine (N1.o).mono ?_);rintro e w1 ⟨rfl,hp1,hg1⟩)
      have k1:=cM hg1 (by omega) HR.o
      have HP1:=Hh (Ai hp1 (aH HG.o hg1));have HZ1:=Hh hg1.size;have K1:=Hh k1;clear hp1 hg1 k1
      go_upto_region 8 with ((with_reducible refine (N2.o _ HP1.o.1).mono ?_);rintro e w2 ⟨rfl,hp2,hg2⟩)
      have k2:=cM hg2 (by omega) K1.o
      have c2:=dY k2;have f2:=dL k2;have HP:=Hh (Ai hp2 (aH HP1.o.2 hg2));have K2:=Hh k2;clear hp2 hg2 k2
      go_wp2
      refine Ar (v:=.tuple #[.agg #[Iz (m:Int),.int .u64 (NN:Int)],.bool true]) ?_ ?_ ?_;rotate_left
      ·rfl
      ·exact lO (m:=m) (n:=NN) HP.o.1 HP.o.2 hgw hm8 hbv (by rw [Ag];omega) (fun _=>by rw [Ag];omega) hfin.o
      ·have q:=eG K2.o (Iz (m:Int)) (.int .u64 (NN:Int))
       have q0:=q.1;have q1:=q.2;simp [results,results170,go_sem,q0,q1]
     ·skip
      have hfin:Hid (tH (c::r1) false m 0 r1):=Hh fun M N t hM hN hh=>by
       obtain ⟨h1,h2,h3⟩:=HF.o M N t hM hN hh
       exfalso
       rcases eJ hN with ⟨h4,-,-⟩ | ⟨-,-,h5,h6⟩
       ·omega
       ·rw [←h2,show (2:Nat) ^ (27 - 24)=8 by decide] at h5
        rw [h5] at h3;have h7:(dF N 8).length=8:=aY _ _;have:=Ad List.length h3;rw [Lg,h7] at this;omega
      have N2:=Hh (fun wx (hx:PrC wx g mb r1)=>sW 8 wx hx hr1 hq)
      rw [show ((8:Nat):Int)=8 from rfl] at N2
      clear hq
      go_enter func170,ntmps170
      go_upto_region 1 with fail
      rw [←hw0];clear hw0
      go_upto_region 2 with ((with_reducible refine (N1.o).mono ?_);rintro e w1 ⟨rfl,hp1,hg1⟩)
      have k1:=cM hg1 (by omega) HR.o
      have HP1:=Hh (Ai hp1 (aH HG.o hg1));have HZ1:=Hh hg1.size;have K1:=Hh k1;clear hp1 hg1 k1
      go_upto_region 8 with ((with_reducible refine (N2.o _ HP1.o.1).mono ?_);rintro e w2 ⟨rfl,hp2,hg2⟩)
      have k2:=cM hg2 (by omega) K1.o
      have c2:=dY k2;have f2:=dL k2;have HP:=Hh (Ai hp2 (aH HP1.o.2 hg2));have K2:=Hh k2;clear hp2 hg2 k2
      go_wp2
      refine Ar (v:=.tuple #[.agg #[Iz (m:Int),.int .u64 0],.bool false]) ?_ ?_ ?_;rotate_left
      ·rfl
      ·exact lO (m:=m) (n:=0) HP.o.1 HP.o.2 hgw hm8 (by decide) (by rw [Ag];omega) (fun h=>by cases h) hfin.o
      ·have q:=eG K2.o (Iz (m:Int)) (.int .u64 0)
       have q0:=q.1;have q1:=q.2;simp [results,results170,go_sem,q0,q1]
end Go.Proofs.YtncdpanfefnjlaaGreatDoor