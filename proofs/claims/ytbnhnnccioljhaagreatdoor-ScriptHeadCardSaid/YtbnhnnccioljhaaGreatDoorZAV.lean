/-
  The document's Check.
-/
import Derived.Test.YtbnhnnccioljhaaGreatDoorZAG
import Derived.Deep.CutRange
import Derived.Deep.QuietTactic
import Derived.BigQuiet
import Derived.Test.YtbnhnnccioljhaaGreatDoorZAl
set_option maxRecDepth 100000
set_option maxHeartbeats 25600000
namespace Go.Proofs.YtbnhnnccioljhaaGreatDoor
open Go.RowKit
structure LArg (w:World) (ao:Option Addr) (b off:Nat) (L:List Lk):Prop where
 at_:0 < L.length→ao=some ⟨b,off,none⟩∧b < w.heap.size
 cells:∀i (hi:i < L.length),w.cell? ⟨b,off+i*5,none⟩=some (.bool L[i].1)∧w.cell? ⟨b,off+i*5+1,none⟩=some (.int .i64 L[i].2.1)∧w.cell? ⟨b,off+i*5+2,none⟩=some (.int .i64 L[i].2.2.1)∧
  w.cell? ⟨b,off+i*5+3,none⟩=some (.int .i64 L[i].2.2.2.1)∧w.cell? ⟨b,off+i*5+4,none⟩=some (.int .i64 L[i].2.2.2.2)
theorem LArg.below {w w':World} {ao:Option Addr} {b off:Nat} {L:List Lk} (h:LArg w ao b off L) (hb:Below w.heap.size w w'):LArg w' ao b off L:=by
 refine⟨fun h0=>⟨(h.at_ h0).1,Nat.lt_of_lt_of_le (h.at_ h0).2 hb.size⟩,fun i hi=>?_⟩
 have hl:=(h.at_ (by omega)).2
 obtain⟨h0,h1,h2,h3,h4⟩:=h.cells i hi
 exact⟨(hb.cell (p:=⟨b,off+i*5,none⟩) hl).trans h0,(hb.cell (p:=⟨b,off+i*5+1,none⟩) hl).trans h1,(hb.cell (p:=⟨b,off+i*5+2,none⟩) hl).trans h2,(hb.cell (p:=⟨b,off+i*5+3,none⟩) hl).trans h3,(hb.cell (p:=⟨b,off+i*5+4,none⟩) hl).trans h4⟩
theorem lock_at {L:List Lk} {a:Nat} (h:a < L.length):lockR L (a:Nat)=L[a]:=by
 unfold lockR
 rw [Int.toNat_natCast,List.getElem?_eq_getElem h]
 rfl
structure CkO (w wx:World) (pv:Array Value) (B:Nat) (k a c:Int):Prop where
 box:wx.heap[w.heap.size]?=some (.cells pv 49 (0,0))
 op:wx.heap[B]?=some (.cells #[.int .i64 k, .int .i64 a, .int .i64 c] 142 (0,0))
 bel:Below w.heap.size w wx
theorem CkO.below {w wx wx':World} {pv:Array Value} {B:Nat} {k a c:Int} (h:CkO w wx pv B k a c) (hb:Below wx.heap.size wx wx'):CkO w wx' pv B k a c:=
 ⟨(hb.block _ (lt_of_block h.box)).trans h.box,(hb.block _ (lt_of_block h.op)).trans h.op,h.bel.trans (hb.mono h.bel.size)⟩
def CkP (A:Nat×Int) (w:World) (e:Ending) (w':World):Prop:=e= .returned (.tuple #[.int .i64 (A.1:Nat), .int .i64 A.2])∧Below w.heap.size w w'
theorem ckp_of {A:Nat×Int} {w w':World} {i:Nat} {m:Int} (h:A=(i,m)) (hb:Below w.heap.size w w'):CkP A w (.returned (.tuple #[.int .i64 (i:Nat), .int .i64 m])) w':=by
 subst h
 exact⟨rfl,hb⟩
def met4 (n:Nat) (progs:Int) (o:Opn):Bool:=((takesR o||decide (o.1=6))&&decide ((n:Int)≤o.2.1))||(decide (o.1=9)&&decide (progs≤o.2.1))
theorem go_met {f:Bool} {n:Nat} {locks:List Lk} {progs:Int} {o:Opn} {L:List Opn} {i:Nat} {time:Bool} {m:Int} (h:metR f n locks progs o L i=m) (hm:m≠0):goR f n locks progs (o::L) i time=(i,m):=by
 unfold goR
 rw [h,if_neg hm]
theorem go_next {f:Bool} {n:Nat} {locks:List Lk} {progs:Int} {o:Opn} {L:List Opn} {i:Nat} {time:Bool} (h:metR f n locks progs o L i=0):goR f n locks progs (o::L) i time=goR f n locks progs L (i+1) (time||timeR o):=by
 conv=> { lhs;unfold goR }
 rw [if_pos h]
theorem met_4 {f:Bool} {n:Nat} {locks:List Lk} {progs:Int} {o:Opn} {L:List Opn} {i:Nat} (h:met4 locks.length progs o=true):metR f n locks progs o L i=4:=by
 unfold metR
 unfold met4 at h
 rw [if_pos h]
theorem met_1 {f:Bool} {n:Nat} {locks:List Lk} {progs:Int} {o:Opn} {L:List Opn} {i:Nat} (h:met4 locks.length progs o=false) (h3:o.1=3) (hs:(lockR locks o.2.1).1=false):metR f n locks progs o L i=1:=by
 unfold metR
 unfold met4 at h
 rw [if_neg (by rw [h];decide),if_pos ⟨h3,hs⟩]
theorem met_13 {f:Bool} {n:Nat} {locks:List Lk} {progs:Int} {o:Opn} {L:List Opn} {i:Nat} (h:met4 locks.length progs o=false) (h3:¬(o.1=3∧(lockR locks o.2.1).1=false)) (ht:takesR o=true)
  (hc:(secR o.2.1 L (i+1) 0).2 < 1∨(lockR locks o.2.1).2.2.1 < (secR o.2.1 L (i+1) 0).2∨(f=true∧(secR o.2.1 L (i+1) 0).1=n)):metR f n locks progs o L i=13:=by
 unfold metR
 unfold met4 at h
 rw [if_neg (by rw [h];decide),if_neg h3,if_pos ⟨ht,hc⟩]
theorem met_0 {f:Bool} {n:Nat} {locks:List Lk} {progs:Int} {o:Opn} {L:List Opn} {i:Nat} (h:met4 locks.length progs o=false) (h3:¬(o.1=3∧(lockR locks o.2.1).1=false))
  (hc:¬(takesR o=true∧((secR o.2.1 L (i+1) 0).2 < 1∨(lockR locks o.2.1).2.2.1 < (secR o.2.1 L (i+1) 0).2∨(f=true∧(secR o.2.1 L (i+1) 0).1=n)))):metR f n locks progs o L i=0:=by
 unfold metR
 unfold met4 at h
 rw [if_neg (by rw [h];decide),if_neg h3,if_neg hc]
theorem may_lock {o:Opn} (ho:opMay o=true) (ht:takesR o=true∨o.1=6):0≤o.2.1∧o.2.1≤7:=by
 simp only [opMay,Bool.and_eq_true] at ho
 have ha:=ho.2.1
 unfold aMay at ha
 have hk:(2≤o.1∧o.1≤6):=by
  rcases ht with h|h
  ·simp only [takesR,Bool.and_eq_true,decide_eq_true_eq] at h
   omega
  ·omega
 have hl:limR o.1=(0,7):=by
  unfold limR
  rw [if_neg (by omega),if_pos (.inl hk)]
 rw [hl] at ha
 simpa using ha
theorem rcheck_may (f:Bool) (ao:Option Addr) (b off cap:Nat) (L:List Opn) (ao2:Option Addr) (b2 off2 cap2:Nat) (locks:List Lk) (progs:Int) (w:World) (h:OArg w ao b off L) (hl:LArg w ao2 b2 off2 locks) (hs:∀x ∈ L,small x.1) (hm2:locks.length≤100000) (hq:mayR (f,L)=true):
  Calls Tryz.prog 52 #[prgV f ao L.length cap, .slice ao2 locks.length cap2, .int .i64 progs] w (CkP (goR f L.length locks progs L 0 false) w):=by
 have hb0:Below w.heap.size w (w.alloc (.cells #[.bool f, .slice ao L.length cap] 49)):=(Below.refl _ w).alloc (Nat.le_refl _) _
 have h12:L.length≤12∧∀o ∈ L,opMay o=true:=by
  simp only [mayR,Bool.and_eq_true,decide_eq_true_eq,List.all_eq_true] at hq
  exact hq.2
 have hmay:=rmay_any f ao b off cap L _ (h.below hb0) (by omega) hs
 rw [hq] at hmay
 have HA:=xhd h
 have HL:=xhd hl
 have HO:=xhd h12.2
 have hn12:=h12.1
 have HSEC:=xhd (fun V (hV:Below w.heap.size w V) i (hi:i < L.length)=>rsec_any f ao b off cap L i V (h.below hV) hi h12.1 h12.2)
 have HTK:=xhd (fun k a c V=>rtakes_any k a c V)
 obtain⟨n,hn⟩:∃n,L.length=n:=⟨_,rfl⟩
 have HN:=xhd hn
 obtain⟨m,hm⟩:∃m,locks.length=m:=⟨_,rfl⟩
 have HM:=xhd hm
 rw [hn] at hmay hn12 ⊢
 rw [hm] at hm2 ⊢
 obtain⟨A,hA⟩:∃A,goR f n locks progs L 0 false=A:=⟨_,rfl⟩
 have HG0:=xhd hA
 rw [hA]
 have HMAY:=xhd hmay
 clear h hl hs hq hb0 h12 hmay hn hm hA
 go_enter Tryz.func52,Tryz.ntmps52
 go_wp2_with fail
 refine HMAY.out.mono ?_
 rintro e w1 ⟨rfl,hb1⟩
 obtain⟨hx1,hbw⟩:=box_kept hb1
 have HX1:=xhd hx1
 have HB1:=xhd hbw
 clear hb1 hx1 hbw HMAY
 go_wp2_with fail
 go_loopw [8,9] (fun s8 s9 wr=>∃(i:Nat) (time:Bool),s8= .bool time∧s9= .int .i64 (i:Nat)∧i≤n∧Hid (wr.heap[w.heap.size]?=some (.cells #[.bool f, .slice ao n cap] 49 (0,0))∧Below w.heap.size w wr)∧Hid (goR f n locks progs (L.drop i) i time=A)) (fun _ s9 _=>n - (intOf s9).toNat)
 case atStart=>exact⟨0,false,rfl,rfl,Nat.zero_le _,⟨HX1.out,HB1.out⟩,HG0⟩
 case round=>
  obtain⟨i,time,rfl,rfl,hi,HX,HG⟩:=hrel
  obtain⟨c0,c1⟩:=two_cells HX.out.1
  by_cases hlt:i < n
  ·have hiL:i < L.length:=by rw [HN.out];exact hlt
   have hA:=HA.out.below HX.out.2
   obtain⟨rfl,hbl⟩:=hA.at_ (by omega)
   obtain⟨x0,x1,x2⟩:=hA.cells i hiL
   have hop:=HO.out L[i] (List.getElem_mem _)
   have hsec:=fun V hV=>HSEC.out V hV i hiL
   obtain⟨⟨k,a,c⟩,hx⟩:∃x,L[i]=x:=⟨_,rfl⟩
   have hd:L.drop i=(k,a,c)::L.drop (i+1):=by rw [List.drop_eq_getElem_cons hiL,hx]
   rw [hx] at x0 x1 x2 hop
   simp only [hx] at hsec
   simp only at x0 x1 x2
   have HOP:=xhd hop
   have HGD:Hid (goR f n locks progs ((k,a,c)::L.drop (i+1)) i time=A):=xhd (by rw [←hd];exact HG.out)
   obtain⟨rest,hrest⟩:∃r,L.drop (i+1)=r:=⟨_,rfl⟩
   rw [hrest] at HGD
   simp only [hrest,HN.out] at hsec
   have HSC:=xhd hsec
   have HRE:=xhd hrest
   have i0:(0:Int)≤i:=by omega
   have i1:(i:Int) < n:=by omega
   have i2:IntKind.i64.wrap ((i:Int)+1)=((i+1:Nat):Int):=by rw [IntKind.wrap_i64];omega
   have lb:=lt_of_block HX.out.1
   obtain⟨W7,hW7⟩:∃W7,wr.alloc (.cells #[.int .i64 k, .int .i64 a, .int .i64 c] 142)=W7:=⟨_,rfl⟩
   have HK7:Hid (CkO w W7 #[.bool f, .slice (some ⟨b,off,none⟩) n cap] wr.heap.size k a c):=xhd (by
    have hb:=(Below.refl wr.heap.size wr).alloc (Nat.le_refl _) (.cells #[.int .i64 k, .int .i64 a, .int .i64 c] 142)
    rw [hW7] at hb
    refine⟨(hb.block _ lb).trans HX.out.1,?_,HX.out.2.trans (hb.mono HX.out.2.size)⟩
    rw [←hW7]
    exact heap_alloc_new wr _)
   have HW7:=xhd hW7
   clear hx hd hop hA hsec hrest hW7 HG
   go_upto_region 8 with (fail)
   rw [HW7.out]
   obtain⟨z0,z1,z2⟩:=op_cells HK7.out.op
   obtain⟨e0,e1⟩:=two_cells HK7.out.box
   obtain⟨B,hB⟩:∃B,wr.heap.size=B:=⟨_,rfl⟩
   rw [hB] at HK7 z0 z1 z2 ⊢
   clear c0 c1 x0 x1 x2 hB
   go_cut [8] from 15 to 118 (fun s8 wx=>s8= .bool (time||timeR (k,a,c))∧wx=W7)
   case first=>
    cases time with
    |true=>
     go_wp2_with fail
     go_meet
     exact⟨by simp,rfl⟩
    |false=>
     by_cases k1:k=1
     ·subst k1
      go_wp2_with fail
      go_meet
      exact⟨by simp [timeR],rfl⟩
     ·have q1:(k == 1)=false:=by simpa using k1
      by_cases k7:k=7
      ·subst k7
       go_wp2_with fail
       go_meet
       exact⟨by simp [timeR],rfl⟩
      ·have q7:(k == 7)=false:=by simpa using k7
       by_cases k8:k=8
       ·subst k8
        go_wp2_with fail
        go_meet
        exact⟨by simp [timeR],rfl⟩
       ·have q8:(k == 8)=false:=by simpa using k8
        by_cases k11:k=11
        ·subst k11
         go_wp2_with fail
         go_meet
         exact⟨by simp [timeR],rfl⟩
        ·have q11:(k == 11)=false:=by simpa using k11
         go_wp2_with fail
         go_meet
         exact⟨by simp [timeR,k1,k7,k8,k11],rfl⟩
   case rest=>
    obtain⟨rfl,rfl⟩:=hcut
    have HTC:=xhd (HTK.out k a c wc)
    go_upto_region 9 with (fail)
    go_cut [72] from 15 to 118 (fun s72 wx=>s72= .bool (met4 m progs (k,a,c))∧Hid (CkO w wx #[.bool f, .slice (some ⟨b,off,none⟩) n cap] B k a c))
    case first=>
     have hlb:=lt_of_block HK7.out.op
     by_cases tk:takesR (k,a,c)=true
     ·rw [tk] at HTC
      have h6:¬k=6:=by
       rintro rfl
       simp [takesR] at tk
      have h9:¬k=9:=by
       rintro rfl
       simp [takesR] at tk
      have q6:(k == 6)=false:=by simpa using h6
      have q9:(k == 9)=false:=by simpa using h9
      by_cases hma:(m:Int)≤a
      ·go_wp2_with fail
       with_reducible refine HTC.out.mono ?_
       rintro e w9 ⟨rfl,hb9⟩
       have K9:=xhd (HK7.out.below hb9)
       clear z0 z1 z2
       obtain⟨z0,z1,z2⟩:=op_cells K9.out.op
       clear hb9
       go_wp2_with fail
       go_meet
       exact⟨by simp [met4,tk,hma],K9⟩
      ·go_wp2_with fail
       with_reducible refine HTC.out.mono ?_
       rintro e w9 ⟨rfl,hb9⟩
       have K9:=xhd (HK7.out.below hb9)
       clear z0 z1 z2
       obtain⟨z0,z1,z2⟩:=op_cells K9.out.op
       clear hb9
       go_wp2_with fail
       go_meet
       exact⟨by simp [met4,tk,h9],K9⟩
     ·have tk2:takesR (k,a,c)=false:=by simpa using tk
      rw [tk2] at HTC
      by_cases h6:k=6
      ·subst h6
       by_cases hma:(m:Int)≤a
       ·go_wp2_with fail
        with_reducible refine HTC.out.mono ?_
        rintro e w9 ⟨rfl,hb9⟩
        have K9:=xhd (HK7.out.below hb9)
        clear z0 z1 z2
        obtain⟨z0,z1,z2⟩:=op_cells K9.out.op
        clear hb9
        go_wp2_with fail
        go_meet
        exact⟨by simp [met4,hma],K9⟩
       ·go_wp2_with fail
        with_reducible refine HTC.out.mono ?_
        rintro e w9 ⟨rfl,hb9⟩
        have K9:=xhd (HK7.out.below hb9)
        clear z0 z1 z2
        obtain⟨z0,z1,z2⟩:=op_cells K9.out.op
        clear hb9
        go_wp2_with fail
        go_meet
        exact⟨by simp [met4],K9⟩
      ·have q6:(k == 6)=false:=by simpa using h6
       by_cases h9:k=9
       ·subst h9
        by_cases hpa:progs≤a
        ·go_wp2_with fail
         with_reducible refine HTC.out.mono ?_
         rintro e w9 ⟨rfl,hb9⟩
         have K9:=xhd (HK7.out.below hb9)
         clear z0 z1 z2
         obtain⟨z0,z1,z2⟩:=op_cells K9.out.op
         clear hb9
         go_wp2_with fail
         go_meet
         exact⟨by simp [met4,hpa],K9⟩
        ·go_wp2_with fail
         with_reducible refine HTC.out.mono ?_
         rintro e w9 ⟨rfl,hb9⟩
         have K9:=xhd (HK7.out.below hb9)
         clear z0 z1 z2
         obtain⟨z0,z1,z2⟩:=op_cells K9.out.op
         clear hb9
         go_wp2_with fail
         go_meet
         exact⟨by simp [met4,tk2],K9⟩
       ·have q9:(k == 9)=false:=by simpa using h9
        go_wp2_with fail
        with_reducible refine HTC.out.mono ?_
        rintro e w9 ⟨rfl,hb9⟩
        have K9:=xhd (HK7.out.below hb9)
        clear z0 z1 z2
        obtain⟨z0,z1,z2⟩:=op_cells K9.out.op
        clear hb9
        go_wp2_with fail
        go_meet
        exact⟨by simp [met4,tk2,h6,h9],K9⟩
    case rest=>
     obtain⟨rfl,HK9⟩:=hcut
     rename World=>wd
     have hop:=HOP.out
     cases h4:met4 m progs (k,a,c) with
     |true=>
      go_wp2_with fail
      go_ret2
      exact ckp_of (HGD.out.symm.trans (go_met (met_4 (by rw [HM.out];exact h4)) (by decide))) HK9.out.bel
     |false=>
      have h4m:met4 locks.length progs (k,a,c)=false:=by rw [HM.out];exact h4
      have H4:=xhd h4m
      have hla:takesR (k,a,c)=true→∃a':Nat,a=a'∧a' < m:=by
       intro ht
       have h1:=(may_lock hop (.inl ht)).1
       obtain⟨a',ha'⟩:=Int.eq_ofNat_of_zero_le h1
       simp only at ha'
       refine⟨a',ha',?_⟩
       simp only [met4,ht,Bool.true_or,Bool.true_and,Bool.or_eq_false_iff,decide_eq_false_iff_not] at h4
       omega
      have HLA:=xhd hla
      clear z0 z1 z2 e0 e1 hop h4 h4m hla
      obtain⟨z0,z1,z2⟩:=op_cells HK9.out.op
      obtain⟨e0,e1⟩:=two_cells HK9.out.box
      go_upto_region 11 with (fail)
      go_cut [85] from 15 to 118 (fun s85 wx=>s85= .bool (decide (k=3)&&!(lockR locks a).1)∧wx=wd)
      case first=>
       by_cases h3:k=3
       ·subst h3
        obtain⟨a',rfl,ham⟩:=HLA.out (by simp [takesR])
        have hll:a' < locks.length:=by rw [HM.out];exact ham
        have hL9:=HL.out.below HK9.out.bel
        obtain⟨rfl, -⟩:=hL9.at_ (by omega)
        obtain⟨y0, -, -, -, -⟩:=hL9.cells a' hll
        obtain⟨sh,hsh⟩:∃sh,locks[a'].1=sh:=⟨_,rfl⟩
        have HLK:=xhd ((congrArg (fun x:Lk=>x.1) (lock_at hll)).trans hsh)
        rw [hsh] at y0
        have a0:(0:Int)≤a':=by omega
        have a1:(a':Int) < m:=by omega
        clear hsh hL9
        cases sh with
        |true=>
         go_wp2_with fail
         go_meet
         exact⟨by rw [HLK.out];rfl,rfl⟩
        |false=>
         go_wp2_with fail
         go_meet
         exact⟨by rw [HLK.out];rfl,rfl⟩
       ·have q3:(k == 3)=false:=by simpa using h3
        go_wp2_with fail
        go_meet
        exact⟨by simp [h3],rfl⟩
      case rest=>
       obtain⟨rfl,rfl⟩:=hcut
       cases h1:(decide (k=3)&&!(lockR locks a).1) with
       |true=>
        simp only [Bool.and_eq_true,decide_eq_true_eq,Bool.not_eq_true'] at h1
        have hr:=go_met (f:=f) (n:=n) (L:=rest) (i:=i) (time:=time) (met_1 H4.out h1.1 h1.2) (by decide)
        have HR:=xhd (HGD.out.symm.trans hr)
        clear h1 hr
        go_wp2_with fail
        go_ret2
        exact ckp_of HR.out HK9.out.bel
       |false=>
        have h3:¬(k=3∧(lockR locks a).1=false):=by
         rintro ⟨h5,h6⟩
         simp [h5,h6] at h1
        have H3:=xhd h3
        clear h1 h3
        have HTC2:=xhd (HTK.out k a c wc)
        by_cases tk:takesR (k,a,c)=true
        ·rw [tk] at HTC2
         obtain⟨a',rfl,ham⟩:=HLA.out tk
         have hll:a' < locks.length:=by rw [HM.out];exact ham
         obtain⟨⟨To,T⟩,hsec⟩:∃x,secR (a':Int) rest (i+1) 0=x:=⟨_,rfl⟩
         have hsc:=HSC.out
         rw [hsec] at hsc
         simp only at hsc
         have HSC2:=xhd hsc
         have HSEQ:=xhd hsec
         have HTKK:=xhd tk
         clear hsc hsec tk
         go_wp2_with fail
         with_reducible refine HTC2.out.mono ?_
         rintro e w4 ⟨rfl,hb4⟩
         have K4:=xhd (HK9.out.below hb4)
         clear z0 z1 z2 e0 e1 hb4
         obtain⟨e0,e1⟩:=two_cells K4.out.box
         go_wp2_with fail
         with_reducible refine (HSC2.out _ K4.out.bel).mono ?_
         rintro e w5 ⟨rfl,hb5⟩
         have hb6:=hb5.trans (((Below.refl w5.heap.size w5).alloc (Nat.le_refl _) (.cells #[.int .i64 i, .int .i64 (To:Nat), .int .i64 (a':Nat), .int .i64 T] 167)).mono hb5.size)
         have K6:=xhd (K4.out.below hb6)
         have hs6:=heap_alloc_new w5 (.cells #[.int .i64 i, .int .i64 (To:Nat), .int .i64 (a':Nat), .int .i64 T] 167)
         obtain⟨W6,hW6⟩:∃W6,w5.alloc (.cells #[.int .i64 i, .int .i64 (To:Nat), .int .i64 (a':Nat), .int .i64 T] 167)=W6:=⟨_,rfl⟩
         rw [hW6] at K6 hs6
         have HW6:=xhd hW6
         have HS6:=xhd hs6
         clear e0 e1 hb5 hb6 hW6 hs6
         go_wp2_with fail
         rw [HW6.out]
         obtain⟨z0,z1,z2⟩:=op_cells K6.out.op
         obtain⟨e0,e1⟩:=two_cells K6.out.box
         obtain⟨s0,s1,s2,s3, -⟩:=four_cells HS6.out
         have hL6:=HL.out.below K6.out.bel
         obtain⟨rfl, -⟩:=hL6.at_ (by omega)
         obtain⟨-, -,y2, -, -⟩:=hL6.cells a' hll
         obtain⟨cr,hcr⟩:∃cr,locks[a'].2.2.1=cr:=⟨_,rfl⟩
         have HCR:Hid ((lockR locks (a':Nat)).2.2.1=cr):=xhd (by rw [lock_at hll];exact hcr)
         rw [hcr] at y2
         have a0:(0:Int)≤a':=by omega
         have a1:(a':Int) < m:=by omega
         have H13:Hid (∀hc:T < 1∨cr < T∨(f=true∧To=n),A=(i,13)):=xhd (fun hc=>HGD.out.symm.trans (go_met (met_13 H4.out H3.out HTKK.out (by rw [HSEQ.out,HCR.out];exact hc)) (by decide)))
         have H0:Hid (∀hc:¬(T < 1∨cr < T∨(f=true∧To=n)),goR f n locks progs (L.drop (i+1)) (i+1) (time||timeR (k,(a':Int),c))=A):=xhd (fun hc=>by
          rw [←HGD.out,HRE.out,go_next (met_0 H4.out H3.out (by rw [HSEQ.out,HCR.out];exact fun h=>hc h.2))])
         clear hcr hL6
         by_cases h1:T < 1
         ·have h1b:decide (T < 1)=true:=decide_eq_true h1
          have HR:=xhd (H13.out (.inl h1))
          go_quiet (fail)
          go_wp2
          go_ret2
          exact ckp_of HR.out (below_drewN K6.out.bel _)
         ·have h1b:decide (T < 1)=false:=decide_eq_false h1
          by_cases h2:cr < T
          ·have h2b:decide (cr < T)=true:=decide_eq_true h2
           have HR:=xhd (H13.out (.inr (.inl h2)))
           go_quiet (fail)
           go_wp2
           go_ret2
           exact ckp_of HR.out (below_drewN K6.out.bel _)
          ·have h2b:decide (cr < T)=false:=decide_eq_false h2
           cases f with
           |true=>
            by_cases h5:To=n
            ·have HR:=xhd (H13.out (.inr (.inr ⟨rfl,h5⟩)))
             have h5b:((To:Int) == n)=true:=by simp [h5]
             clear h5
             go_quiet (fail)
             go_wp2
             go_ret2
             exact ckp_of HR.out (below_drewN K6.out.bel _)
            ·have HR:=xhd (H0.out (by rintro (h|h|h);exact h1 h;exact h2 h;exact h5 h.2))
             have h5b:((To:Int) == n)=false:=by simp;omega
             go_quiet (fail)
             go_wp2
             go_roundw
             case rel=>exact⟨i+1,_,rfl,by go_num,by omega,⟨K6.out.box,below_drewN K6.out.bel _⟩,HR⟩
             case measure=>simp [intOf];omega
           |false=>
            have HR:=xhd (H0.out (by rintro (h|h|h);exact h1 h;exact h2 h;exact absurd h.1 (by decide)))
            go_quiet (fail)
            go_wp2
            go_roundw
            case rel=>exact⟨i+1,_,rfl,by go_num,by omega,⟨K6.out.box,below_drewN K6.out.bel _⟩,HR⟩
            case measure=>simp [intOf];omega
        ·have tk2:takesR (k,a,c)=false:=by simpa using tk
         rw [tk2] at HTC2
         have HR:Hid (goR f n locks progs (L.drop (i+1)) (i+1) (time||timeR (k,a,c))=A):=xhd (by
          rw [←HGD.out,HRE.out,go_next (met_0 H4.out H3.out (fun h=>tk h.1))])
         clear tk tk2
         go_wp2_with fail
         with_reducible refine HTC2.out.mono ?_
         rintro e w4 ⟨rfl,hb4⟩
         have K4:=xhd (HK9.out.below hb4)
         clear hb4
         go_wp2
         go_roundw
         case rel=>exact⟨i+1,_,rfl,by go_num,by omega,⟨K4.out.box,K4.out.bel⟩,HR⟩
         case measure=>simp [intOf];omega
  ·obtain rfl:i=n:=by omega
   have hg:=HG.out
   rw [List.drop_of_length_le (by rw [HN.out];exact Nat.le_refl _)] at hg
   have HR:=xhd hg
   clear hg
   cases f with
   |true=>
    cases time with
    |true=>
     go_wp2
     go_ret2
     exact ckp_of HR.out.symm HX.out.2
    |false=>
     go_wp2
     go_ret2
     exact ckp_of HR.out.symm HX.out.2
   |false=>
    go_wp2
    go_ret2
    exact ckp_of HR.out.symm HX.out.2
end Go.Proofs.YtbnhnnccioljhaaGreatDoor
