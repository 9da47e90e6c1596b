/-
  The program's mayHold.
  The program's checkOp: what is met first of an op.
  slices.ContainsFunc over ops, with the program's rests.
  The program's Check.
-/
import Derived.Test.YtbnhnnccioljhaaGreatDoorZAX
import Derived.Test.YtbnhnnccioljhaaGreatDoorZAH
import Derived.Test.YtbnhnnccioljhaaGreatDoorZAl
set_option maxRecDepth 100000
set_option maxHeartbeats 25600000
namespace Go.Proofs.YtbnhnnccioljhaaGreatDoor
open Go.RowKit
def holdR (f:Bool) (n:Nat) (crit:Int) (S:Nat×Int):Bool:=!(decide (S.2 < 1)||(decide (crit < S.2)||(f&&decide (S.1=n))))
theorem mayhold_any (f:Bool) (ao:Option Addr) (b off cap:Nat) (L:List Opn) (i:Nat) (crit:Int) (w:World) (h:OArg w ao b off L) (hi:i < L.length) (hm:L.length≤12) (ho:∀o ∈ L,opMay o=true):
  Calls Tryz.prog 170 #[prgV f ao L.length cap, .int .i64 i, .int .i64 crit] w fun e w'=>e= .returned (.bool (holdR f L.length crit (secR (L[i]).2.1 (L.drop (i+1)) (i+1) 0)))∧Below w.heap.size w w':=by
 have hb0:Below w.heap.size w (w.alloc (.cells #[.bool f, .slice ao L.length cap] 49)):=(Below.refl _ w).alloc (Nat.le_refl _) _
 have hsec:=csec_any ao b off cap L i _ (h.below hb0) hi hm ho
 have hbd:=(sec_bound (L[i]).2.1 (L.drop (i+1)) (i+1) 0 (fun o h=>ho o (List.mem_of_mem_drop h))).1
 obtain⟨lk,hlk⟩:∃lk,(L[i]).2.1=lk:=⟨_,rfl⟩
 rw [hlk] at hsec hbd ⊢
 obtain⟨⟨te,tt⟩,hR⟩:∃R,secR lk (L.drop (i+1)) (i+1) 0=R:=⟨_,rfl⟩
 rw [hR] at hsec hbd ⊢
 obtain⟨n,hn⟩:∃n,L.length=n:=⟨_,rfl⟩
 rw [hn] at hsec ⊢
 simp only at hsec hbd
 have HS:=xhd hsec
 clear h hi hm ho hb0 hsec hlk hR hn
 have ho:f=false∨(f=true∧te=n)∨(f=true∧¬te=n):=by
  cases f with
  |false=>exact .inl rfl
  |true=>
   by_cases hh:te=n
   ·exact .inr (.inl ⟨rfl,hh⟩)
   ·exact .inr (.inr ⟨rfl,hh⟩)
 have ht:tt=0∨(¬tt=0∧tt≤crit)∨(¬tt=0∧¬tt≤crit):=by omega
 rcases ho with ho|ho|ho
 ·rcases ht with ht|ht|ht
  ·subst ho
   subst ht
   have HE:holdR false n crit (te,0)=false:=by
    unfold holdR
    simp
   rw [HE]
   clear HE
   go_enter Tryz.func170,Tryz.ntmps170
   go_wp2_with fail
   refine HS.out.mono ?_
   rintro e w1 ⟨rfl,hb⟩
   obtain⟨hx,hbw⟩:=box_kept hb
   obtain⟨c0,c1⟩:=two_cells hx
   have hl:=lt_of_block hx
   have HB:=xhd hbw
   clear hb hbw hx
   go_wp2
   go_ret
   exact⟨rfl,HB.out.alloc HB.out.size _⟩
  ·subst ho
   obtain⟨h1,h2⟩:=ht
   have hq1:(tt == 0)=false:=by simpa using h1
   have hq2:(tt != 0)=true:=by simpa using h1
   have HE:holdR false n crit (te,tt)=true:=by
    unfold holdR
    rw [decide_eq_false (by omega),decide_eq_false (by omega)]
    simp
   rw [HE]
   clear HE
   go_enter Tryz.func170,Tryz.ntmps170
   go_wp2_with fail
   refine HS.out.mono ?_
   rintro e w1 ⟨rfl,hb⟩
   obtain⟨hx,hbw⟩:=box_kept hb
   obtain⟨c0,c1⟩:=two_cells hx
   have hl:=lt_of_block hx
   have HB:=xhd hbw
   clear hb hbw hx
   go_wp2
   go_ret
   exact⟨rfl,HB.out.alloc HB.out.size _⟩
  ·subst ho
   obtain⟨h1,h2⟩:=ht
   have hq1:(tt == 0)=false:=by simpa using h1
   have hq2:(tt != 0)=true:=by simpa using h1
   have HE:holdR false n crit (te,tt)=false:=by
    unfold holdR
    rw [decide_eq_true (show crit < tt by omega)]
    simp
   rw [HE]
   clear HE
   go_enter Tryz.func170,Tryz.ntmps170
   go_wp2_with fail
   refine HS.out.mono ?_
   rintro e w1 ⟨rfl,hb⟩
   obtain⟨hx,hbw⟩:=box_kept hb
   obtain⟨c0,c1⟩:=two_cells hx
   have hl:=lt_of_block hx
   have HB:=xhd hbw
   clear hb hbw hx
   go_wp2
   go_ret
   exact⟨rfl,HB.out.alloc HB.out.size _⟩
 ·rcases ht with ht|ht|ht
  ·obtain⟨rfl,rfl⟩:=ho
   subst ht
   have HE:holdR true te crit (te,0)=false:=by
    unfold holdR
    simp
   rw [HE]
   clear HE
   go_enter Tryz.func170,Tryz.ntmps170
   go_wp2_with fail
   refine HS.out.mono ?_
   rintro e w1 ⟨rfl,hb⟩
   obtain⟨hx,hbw⟩:=box_kept hb
   obtain⟨c0,c1⟩:=two_cells hx
   have hl:=lt_of_block hx
   have HB:=xhd hbw
   clear hb hbw hx
   go_wp2
   go_ret
   exact⟨rfl,HB.out.alloc HB.out.size _⟩
  ·obtain⟨rfl,rfl⟩:=ho
   obtain⟨h1,h2⟩:=ht
   have hq1:(tt == 0)=false:=by simpa using h1
   have hq2:(tt != 0)=true:=by simpa using h1
   have HE:holdR true te crit (te,tt)=false:=by
    unfold holdR
    rw [decide_eq_false (by omega),decide_eq_false (by omega)]
    simp
   rw [HE]
   clear HE
   go_enter Tryz.func170,Tryz.ntmps170
   go_wp2_with fail
   refine HS.out.mono ?_
   rintro e w1 ⟨rfl,hb⟩
   obtain⟨hx,hbw⟩:=box_kept hb
   obtain⟨c0,c1⟩:=two_cells hx
   have hl:=lt_of_block hx
   have HB:=xhd hbw
   clear hb hbw hx
   go_wp2
   go_ret
   exact⟨rfl,HB.out.alloc HB.out.size _⟩
  ·obtain⟨rfl,rfl⟩:=ho
   obtain⟨h1,h2⟩:=ht
   have hq1:(tt == 0)=false:=by simpa using h1
   have hq2:(tt != 0)=true:=by simpa using h1
   have HE:holdR true te crit (te,tt)=false:=by
    unfold holdR
    rw [decide_eq_true (show crit < tt by omega)]
    simp
   rw [HE]
   clear HE
   go_enter Tryz.func170,Tryz.ntmps170
   go_wp2_with fail
   refine HS.out.mono ?_
   rintro e w1 ⟨rfl,hb⟩
   obtain⟨hx,hbw⟩:=box_kept hb
   obtain⟨c0,c1⟩:=two_cells hx
   have hl:=lt_of_block hx
   have HB:=xhd hbw
   clear hb hbw hx
   go_wp2
   go_ret
   exact⟨rfl,HB.out.alloc HB.out.size _⟩
 ·rcases ht with ht|ht|ht
  ·obtain⟨rfl,hne⟩:=ho
   have hq:((te:Int) == (n:Int))=false:=by
    rw [beq_eq_false_iff_ne]
    omega
   have hz:¬(te:Int)=n:=by omega
   subst ht
   have HE:holdR true n crit (te,0)=false:=by
    unfold holdR
    simp
   rw [HE]
   clear HE
   go_enter Tryz.func170,Tryz.ntmps170
   go_wp2_with fail
   refine HS.out.mono ?_
   rintro e w1 ⟨rfl,hb⟩
   obtain⟨hx,hbw⟩:=box_kept hb
   obtain⟨c0,c1⟩:=two_cells hx
   have hl:=lt_of_block hx
   have HB:=xhd hbw
   clear hb hbw hx
   go_wp2
   go_ret
   exact⟨rfl,HB.out.alloc HB.out.size _⟩
  ·obtain⟨rfl,hne⟩:=ho
   have hq:((te:Int) == (n:Int))=false:=by
    rw [beq_eq_false_iff_ne]
    omega
   have hz:¬(te:Int)=n:=by omega
   obtain⟨h1,h2⟩:=ht
   have hq1:(tt == 0)=false:=by simpa using h1
   have hq2:(tt != 0)=true:=by simpa using h1
   have HE:holdR true n crit (te,tt)=true:=by
    unfold holdR
    rw [decide_eq_false (by omega),decide_eq_false (by omega)]
    simp [hne]
   rw [HE]
   clear HE
   go_enter Tryz.func170,Tryz.ntmps170
   go_wp2_with fail
   refine HS.out.mono ?_
   rintro e w1 ⟨rfl,hb⟩
   obtain⟨hx,hbw⟩:=box_kept hb
   obtain⟨c0,c1⟩:=two_cells hx
   have hl:=lt_of_block hx
   have HB:=xhd hbw
   clear hb hbw hx
   go_wp2
   go_ret
   exact⟨rfl,HB.out.alloc HB.out.size _⟩
  ·obtain⟨rfl,hne⟩:=ho
   have hq:((te:Int) == (n:Int))=false:=by
    rw [beq_eq_false_iff_ne]
    omega
   have hz:¬(te:Int)=n:=by omega
   obtain⟨h1,h2⟩:=ht
   have hq1:(tt == 0)=false:=by simpa using h1
   have hq2:(tt != 0)=true:=by simpa using h1
   have HE:holdR true n crit (te,tt)=false:=by
    unfold holdR
    rw [decide_eq_true (show crit < tt by omega)]
    simp
   rw [HE]
   clear HE
   go_enter Tryz.func170,Tryz.ntmps170
   go_wp2_with fail
   refine HS.out.mono ?_
   rintro e w1 ⟨rfl,hb⟩
   obtain⟨hx,hbw⟩:=box_kept hb
   obtain⟨c0,c1⟩:=two_cells hx
   have hl:=lt_of_block hx
   have HB:=xhd hbw
   clear hb hbw hx
   go_wp2
   go_ret
   exact⟨rfl,HB.out.alloc HB.out.size _⟩
theorem hold_13 {f:Bool} {n:Nat} {locks:List Lk} {progs:Int} {o:Opn} {L:List Opn} {i:Nat} (h:met4 locks.length progs o=false) (h3:¬(o.1=3∧(lockR locks o.2.1).1=false)) (ht:takesR o=true)
  (hc:holdR f n (lockR locks o.2.1).2.2.1 (secR o.2.1 L (i+1) 0)=false):metR f n locks progs o L i=13:=by
 refine met_13 h h3 ht ?_
 unfold holdR at hc
 simp at hc
 by_cases h1:(secR o.2.1 L (i+1) 0).2 < 1
 ·exact .inl h1
 ·by_cases h2:(lockR locks o.2.1).2.2.1 < (secR o.2.1 L (i+1) 0).2
  ·exact .inr (.inl h2)
  ·exact .inr (.inr (hc (by omega) (by omega)))
theorem hold_0 {f:Bool} {n:Nat} {locks:List Lk} {progs:Int} {o:Opn} {L:List Opn} {i:Nat} (h:met4 locks.length progs o=false) (h3:¬(o.1=3∧(lockR locks o.2.1).1=false))
  (hc:holdR f n (lockR locks o.2.1).2.2.1 (secR o.2.1 L (i+1) 0)=true):metR f n locks progs o L i=0:=by
 refine met_0 h h3 ?_
 unfold holdR at hc
 simp at hc
 rintro ⟨-,h4|h4|h4⟩
 ·omega
 ·omega
 ·rcases hc.2.2 with h|h
  ·rw [h4.1] at h
   exact absurd h (by decide)
  ·exact h h4.2
theorem checkop_any (f:Bool) (ao:Option Addr) (b off cap:Nat) (L:List Opn) (i:Nat) (ao2:Option Addr) (b2 off2 cap2:Nat) (locks:List Lk) (progs:Int) (w:World) (h:OArg w ao b off L) (hl:LArg w ao2 b2 off2 locks) (hi:i < L.length) (hm:L.length≤12) (ho:∀o ∈ L,opMay o=true) (hm2:locks.length≤100000):
  Calls Tryz.prog 155 #[prgV f ao L.length cap, .int .i64 i, .slice ao2 locks.length cap2, .int .i64 progs] w fun e w'=>e= .returned (.int .i64 (metR f L.length locks progs L[i] (L.drop (i+1)) i))∧Below w.heap.size w w':=by
 have HA:=xhd h
 have HL:=xhd hl
 obtain⟨rfl,hbl⟩:=h.at_ (by omega)
 obtain⟨x0,x1,x2⟩:=h.cells i hi
 have hop:=ho L[i] (List.getElem_mem _)
 have HSEC:=xhd (fun V (hV:Below w.heap.size w V) crit=>mayhold_any f (some ⟨b,off,none⟩) b off cap L i crit V (h.below hV) hi hm ho)
 obtain⟨⟨k,a,c⟩,hx⟩:∃x,L[i]=x:=⟨_,rfl⟩
 rw [hx] at x0 x1 x2 hop HSEC ⊢
 simp only at x0 x1 x2 HSEC
 obtain⟨rest,hrest⟩:∃r,L.drop (i+1)=r:=⟨_,rfl⟩
 rw [hrest] at HSEC ⊢
 obtain⟨n,hn⟩:∃n,L.length=n:=⟨_,rfl⟩
 rw [hn] at hi hm HSEC ⊢
 obtain⟨m,hmm⟩:∃m,locks.length=m:=⟨_,rfl⟩
 have HM:=xhd hmm
 rw [hmm] at hm2 ⊢
 have HT:=xhd (fun V=>there_any k a c progs m V)
 have HTK:=xhd (fun V=>ctakes_any k a c V)
 obtain⟨A,hA⟩:∃A,metR f n locks progs (k,a,c) rest i=A:=⟨_,rfl⟩
 rw [hA]
 have HAA:=xhd hA
 have i0:(0:Int)≤i:=by omega
 have i1:(i:Int) < n:=by omega
 have hla:met4 m progs (k,a,c)=false→takesR (k,a,c)=true→∃a':Nat,a=a'∧a' < m:=by
  intro h4 ht
  have h1:=(may_lock hop (.inl ht)).1
  obtain⟨a',ha'⟩:=Int.eq_ofNat_of_zero_le h1
  simp only at ha'
  refine⟨a',ha',?_⟩
  simp only [met4,ht,Bool.true_or,Bool.true_and,Bool.or_eq_false_iff,decide_eq_false_iff_not] at h4
  omega
 have HLA:=xhd hla
 obtain⟨W1,hW1⟩:∃W1,(w.alloc (.cells #[.bool f, .slice (some ⟨b,off,none⟩) n cap] 49)).alloc (.cells #[.int .i64 k, .int .i64 a, .int .i64 c] 142)=W1:=⟨_,rfl⟩
 have HK:Hid (CkO w W1 #[.bool f, .slice (some ⟨b,off,none⟩) n cap] (w.heap.size+1) k a c):=xhd (by
  have hb:=((Below.refl w.heap.size w).alloc (Nat.le_refl _) (.cells #[.bool f, .slice (some ⟨b,off,none⟩) n cap] 49)).alloc (by simp) (.cells #[.int .i64 k, .int .i64 a, .int .i64 c] 142)
  have h1:=heap_alloc_new w (.cells #[.bool f, .slice (some ⟨b,off,none⟩) n cap] 49)
  have h2:=heap_alloc_new (w.alloc (.cells #[.bool f, .slice (some ⟨b,off,none⟩) n cap] 49)) (.cells #[.int .i64 k, .int .i64 a, .int .i64 c] 142)
  rw [World.size_alloc] at h2
  rw [hW1] at hb h2
  refine⟨?_,h2,hb⟩
  rw [←hW1]
  exact (Below.heap_alloc _ _ _ (by simp)).trans h1)
 have HW1:=xhd hW1
 obtain⟨N,hN⟩:∃N,w.heap.size=N:=⟨_,rfl⟩
 have HNN:=xhd hN
 clear h hl ho hop hx hrest hn hmm hA hla hW1 hN
 cases h4:met4 m progs (k,a,c) with
 |true=>
  have HE:=xhd (HAA.out.symm.trans (met_4 (by rw [HM.out];exact h4)))
  simp only [h4] at HT
  clear h4
  go_enter Tryz.func155,Tryz.ntmps155
  go_wp2_with fail
  rw [HW1.out]
  with_reducible refine (HT.out _).mono ?_
  rintro e w2 ⟨rfl,hb2⟩
  have K2:=xhd (HK.out.below hb2)
  clear hb2
  go_wp2
  go_ret
  rw [HE.out]
  exact⟨rfl,K2.out.bel⟩
 |false=>
  have HLA2:=xhd (HLA.out h4)
  have HM4:Hid (met4 locks.length progs (k,a,c)=false):=xhd (by rw [HM.out];exact h4)
  simp only [h4] at HT
  clear h4
  cases ht:takesR (k,a,c) with
  |false=>
   have h3:¬k=3:=by
    rintro rfl
    simp [takesR] at ht
   have q3:(k == 3)=false:=by simpa using h3
   have HE:=xhd (HAA.out.symm.trans (met_0 HM4.out (fun h=>h3 h.1) (fun h=>by rw [ht] at h;exact absurd h.1 (by decide))))
   simp only [ht] at HTK
   clear ht
   go_enter Tryz.func155,Tryz.ntmps155
   go_wp2_with fail
   rw [HW1.out]
   with_reducible refine (HT.out _).mono ?_
   rintro e w2 ⟨rfl,hb2⟩
   have K2:=xhd (HK.out.below hb2)
   obtain⟨z0,z1,z2⟩:=op_cells K2.out.op
   clear hb2
   go_wp2_with fail
   have HB0:=xhd ((Below.refl w2.heap.size w2).drew)
   have p0:=op_cells (K2.out.below HB0.out).op
   refine wp_region_noPanic ?_
   refine wp_region_held_drew (S:=fun V=>V.cell? ⟨w.heap.size+1,0,none⟩=some (.int .i64 k)∧V.cell? ⟨w.heap.size+1,1,none⟩=some (.int .i64 a)∧V.cell? ⟨w.heap.size+1,2,none⟩=some (.int .i64 c)) (by kernel_rfl) p0 (fun hHeld=>?_)
   refine wpAnyH_take (i:=0) (v:=?_) rfl (by kernel_rfl) (by kernel_rfl) (by kernel_rfl) (fun _ _ _ h=>h) (Or.inl ⟨by rfl,?hy⟩) (by assumption) ?_
   case hy=>
    intro w hSw
    (try dsimp only at hSw)
    obtain⟨s0,s1,s2⟩:=hSw
    go_simp
    try with_reducible rfl
   try simp only [xga];try simp only [xgs];try simp only [xgz];try simp only [Act.put];try simp only [xsa];try simp only [xss];try simp only [xsz]
   refine wpAnyH_ready (rs:=[1]) (by kernel_rfl) (by simp) ?_
   refine AllReadyH.cons rfl (fun K' hK=>?_) AllReadyH.nil
   go_simp
   with_reducible refine (HTK.out _).mono ?_
   rintro r V1 ⟨rfl,hb⟩
   have HV1:=xhd (HB0.out.trans (hb.mono HB0.out.size))
   have p1:=op_cells (K2.out.below HV1.out).op
   clear hb
   refine hK.out _ _ ?_ (fun hHeld=>?_)
   ·exact p1
   clear hK K'
   try simp only [xga];try simp only [xgs];try simp only [xgz];try simp only [Act.put];try simp only [xsa];try simp only [xss];try simp only [xsz]
   refine wpAnyH_take (i:=2) (v:=?_) rfl (by kernel_rfl) (by kernel_rfl) (by kernel_rfl) (fun _ _ _ h=>h) (Or.inl ⟨by rfl,?hy⟩) (by assumption) ?_
   case hy=>
    intro w hSw
    (try dsimp only at hSw)
    obtain⟨s0,s1,s2⟩:=hSw
    go_simp
    try with_reducible rfl
   try simp only [xga];try simp only [xgs];try simp only [xgz];try simp only [Act.put];try simp only [xsa];try simp only [xss];try simp only [xsz]
   refine wpAnyH_take (i:=3) (v:=undef) rfl (by kernel_rfl) (by kernel_rfl) (by kernel_rfl) (fun _ _ _ h=>h) (Or.inr ⟨by rfl,rfl⟩) (by assumption) ?_
   try simp only [xga];try simp only [xgs];try simp only [xgz];try simp only [Act.put];try simp only [xsa];try simp only [xss];try simp only [xsz]
   refine wpAnyH_take (i:=4) (v:=undef) rfl (by kernel_rfl) (by kernel_rfl) (by kernel_rfl) (fun _ _ _ h=>h) (Or.inr ⟨by rfl,rfl⟩) (by assumption) ?_
   try simp only [xga];try simp only [xgs];try simp only [xgz];try simp only [Act.put];try simp only [xsa];try simp only [xss];try simp only [xsz]
   refine wpAnyH_take (i:=5) (v:=undef) rfl (by kernel_rfl) (by kernel_rfl) (by kernel_rfl) (fun _ _ _ h=>h) (Or.inr ⟨by rfl,rfl⟩) (by assumption) ?_
   try simp only [xga];try simp only [xgs];try simp only [xgz];try simp only [Act.put];try simp only [xsa];try simp only [xss];try simp only [xsz]
   refine wpAnyH_take (i:=6) (v:=undef) rfl (by kernel_rfl) (by kernel_rfl) (by kernel_rfl) (fun _ _ _ h=>h) (Or.inr ⟨by rfl,rfl⟩) (by assumption) ?_
   try simp only [xga];try simp only [xgs];try simp only [xgz];try simp only [Act.put];try simp only [xsa];try simp only [xss];try simp only [xsz]
   refine wpAnyH_take (i:=7) (v:=undef) rfl (by kernel_rfl) (by kernel_rfl) (by kernel_rfl) (fun _ _ _ h=>h) (Or.inr ⟨by rfl,rfl⟩) (by assumption) ?_
   try simp only [xga];try simp only [xgs];try simp only [xgz];try simp only [Act.put];try simp only [xsa];try simp only [xss];try simp only [xsz]
   refine wpAnyH_take (i:=8) (v:=undef) rfl (by kernel_rfl) (by kernel_rfl) (by kernel_rfl) (fun _ _ _ h=>h) (Or.inr ⟨by rfl,rfl⟩) (by assumption) ?_
   try simp only [xga];try simp only [xgs];try simp only [xgz];try simp only [Act.put];try simp only [xsa];try simp only [xss];try simp only [xsz]
   refine wpAnyH_take (i:=9) (v:=undef) rfl (by kernel_rfl) (by kernel_rfl) (by kernel_rfl) (fun _ _ _ h=>h) (Or.inr ⟨by rfl,rfl⟩) (by assumption) ?_
   try simp only [xga];try simp only [xgs];try simp only [xgz];try simp only [Act.put];try simp only [xsa];try simp only [xss];try simp only [xsz]
   refine wpAnyH_take (i:=10) (v:=undef) rfl (by kernel_rfl) (by kernel_rfl) (by kernel_rfl) (fun _ _ _ h=>h) (Or.inr ⟨by rfl,rfl⟩) (by assumption) ?_
   try simp only [xga];try simp only [xgs];try simp only [xgz];try simp only [Act.put];try simp only [xsa];try simp only [xss];try simp only [xsz]
   refine wpAnyH_take (i:=11) (v:=undef) rfl (by kernel_rfl) (by kernel_rfl) (by kernel_rfl) (fun _ _ _ h=>h) (Or.inr ⟨by rfl,rfl⟩) (by assumption) ?_
   try simp only [xga];try simp only [xgs];try simp only [xgz];try simp only [Act.put];try simp only [xsa];try simp only [xss];try simp only [xsz]
   refine wpAnyH_take (i:=12) (v:=undef) rfl (by kernel_rfl) (by kernel_rfl) (by kernel_rfl) (fun _ _ _ h=>h) (Or.inr ⟨by rfl,rfl⟩) (by assumption) ?_
   try simp only [xga];try simp only [xgs];try simp only [xgz];try simp only [Act.put];try simp only [xsa];try simp only [xss];try simp only [xsz]
   refine wpAnyH_take (i:=13) (v:=?_) rfl (by kernel_rfl) (by kernel_rfl) (by kernel_rfl) (fun _ _ _ h=>h) (Or.inl ⟨by rfl,?hy⟩) (by assumption) ?_
   case hy=>
    intro w hSw
    (try dsimp only at hSw)
    obtain⟨s0,s1,s2⟩:=hSw
    go_simp
    try with_reducible rfl
   try simp only [xga];try simp only [xgs];try simp only [xgz];try simp only [Act.put];try simp only [xsa];try simp only [xss];try simp only [xsz]
   refine wpAnyH_take (i:=14) (v:=?_) rfl (by kernel_rfl) (by kernel_rfl) (by kernel_rfl) (fun _ _ _ h=>h) (Or.inl ⟨by rfl,?hy⟩) (by assumption) ?_
   case hy=>
    intro w hSw
    (try dsimp only at hSw)
    obtain⟨s0,s1,s2⟩:=hSw
    go_simp
    try with_reducible rfl
   try simp only [xga];try simp only [xgs];try simp only [xgz];try simp only [Act.put];try simp only [xsa];try simp only [xss];try simp only [xsz]
   refine wpAnyH_done (by kernel_rfl) ?_ _
   refine NoPanic.normal ?_
   try simp only [xga];try simp only [xgs];try simp only [xgz];try simp only [Act.put];try simp only [xsa];try simp only [xss];try simp only [xsz]
   go_wp2
   go_ret
   rw [HE.out]
   exact⟨rfl,(K2.out.below HV1.out).bel⟩
  |true=>
   obtain⟨a',rfl,ham⟩:=HLA2.out ht
   have hll:a' < locks.length:=by rw [HM.out];exact ham
   have HTT:=xhd ht
   simp only [ht] at HTK
   clear ht
   obtain⟨⟨sh,sl,cr,rd,wt⟩,hlk⟩:∃x,locks[a']=x:=⟨_,rfl⟩
   have hLR:lockR locks (a':Nat)=(sh,sl,cr,rd,wt):=(lock_at hll).trans hlk
   have HLR:=xhd hLR
   obtain⟨rfl,hbl2⟩:=HL.out.at_ (by omega)
   have HST:Hid (∀V,Below w.heap.size w V→V.cell? ⟨b2,off2+a'*5,none⟩=some (.bool sh)∧V.cell? ⟨b2,off2+a'*5+2,none⟩=some (.int .i64 cr)):=xhd (by
    intro V hV
    obtain⟨y0, -,y2, -, -⟩:=(HL.out.below hV).cells a' hll
    rw [hlk] at y0 y2
    exact⟨y0,y2⟩)
   have HSC:=xhd (fun V hV=>HSEC.out V hV cr)
   have a0:(0:Int)≤a':=by omega
   have a1:(a':Int) < m:=by omega
   obtain⟨q,hq⟩:∃q,holdR f n cr (secR (a':Nat) rest (i+1) 0)=q:=⟨_,rfl⟩
   have HQ:=xhd hq
   simp only [hq] at HSC
   clear hlk hLR hq hll ham
   by_cases h3:k=3
   ·subst h3
    cases sh with
    |false=>
     have HE:=xhd (HAA.out.symm.trans (met_1 HM4.out rfl (by rw [HLR.out])))
     go_enter Tryz.func155,Tryz.ntmps155
     go_wp2_with fail
     rw [HW1.out]
     with_reducible refine (HT.out _).mono ?_
     rintro e w2 ⟨rfl,hb2⟩
     have K2:=xhd (HK.out.below hb2)
     obtain⟨z0,z1,z2⟩:=op_cells K2.out.op
     obtain⟨y0,y2⟩:=HST.out _ K2.out.bel
     clear hb2
     go_wp2
     go_ret
     rw [HE.out]
     exact⟨rfl,K2.out.bel⟩
    |true=>
     have HE:Hid (A=if q then 0 else 13):=xhd (by
      cases q with
      |true=>exact HAA.out.symm.trans (hold_0 HM4.out (fun h=>by rw [HLR.out] at h;exact absurd h.2 (by simp)) (by rw [HLR.out];exact HQ.out))
      |false=>exact HAA.out.symm.trans (hold_13 HM4.out (fun h=>by rw [HLR.out] at h;exact absurd h.2 (by simp)) HTT.out (by rw [HLR.out];exact HQ.out)))
     go_enter Tryz.func155,Tryz.ntmps155
     go_wp2_with fail
     rw [HW1.out]
     with_reducible refine (HT.out _).mono ?_
     rintro e w2 ⟨rfl,hb2⟩
     have K2:=xhd (HK.out.below hb2)
     obtain⟨z0,z1,z2⟩:=op_cells K2.out.op
     obtain⟨y0,y2⟩:=HST.out _ K2.out.bel
     clear hb2
     go_wp2_with fail
     have HB0:=xhd ((Below.refl w2.heap.size w2).drew)
     have HSV:Hid (∀V,Below w2.heap.size w2 V→V.cell? ⟨w.heap.size,0,none⟩=some (.bool f)∧V.cell? ⟨w.heap.size,1,none⟩=some (.slice (some ⟨b,off,none⟩) n cap)∧V.cell? ⟨w.heap.size+1,0,none⟩=some (.int .i64 3)∧V.cell? ⟨w.heap.size+1,1,none⟩=some (.int .i64 (a':Nat))∧V.cell? ⟨w.heap.size+1,2,none⟩=some (.int .i64 c)∧V.cell? ⟨b2,off2+a'*5+2,none⟩=some (.int .i64 cr)):=xhd (by
      intro V hV
      have hk:=K2.out.below hV
      obtain⟨z0,z1,z2⟩:=op_cells hk.op
      obtain⟨e0,e1⟩:=two_cells hk.box
      exact⟨e0,e1,z0,z1,z2,(HST.out _ hk.bel).2⟩)
     have p0:=HSV.out _ HB0.out
     go_region_held3 (fun V=>V.cell? ⟨w.heap.size,0,none⟩=some (.bool f)∧V.cell? ⟨w.heap.size,1,none⟩=some (.slice (some ⟨b,off,none⟩) n cap)∧V.cell? ⟨w.heap.size+1,0,none⟩=some (.int .i64 3)∧V.cell? ⟨w.heap.size+1,1,none⟩=some (.int .i64 (a':Nat))∧V.cell? ⟨w.heap.size+1,2,none⟩=some (.int .i64 c)∧V.cell? ⟨b2,off2+a'*5+2,none⟩=some (.int .i64 cr))
      (first|exact p0|exact p1|exact p2)
      (first
        |(go_at_call 169
          with_reducible refine (HTK.out _).mono ?_
          rintro r V1 ⟨rfl,hb⟩
          have HV1:=xhd (HB0.out.trans (hb.mono HB0.out.size))
          have p1:=HSV.out _ HV1.out
          clear hb)
        |(go_at_call 170
          with_reducible refine (HSC.out _ (K2.out.below HV1.out).bel).mono ?_
          rintro r V2 ⟨rfl,hb⟩
          have HV2:=xhd (HV1.out.trans (hb.mono HV1.out.size))
          have p2:=HSV.out _ HV2.out
          clear hb))
     clear p0 p1 p2
     cases q with
     |true=>
      go_wp2
      go_ret
      rw [HE.out]
      exact⟨rfl,(K2.out.below HV2.out).bel⟩
     |false=>
      go_wp2
      go_ret
      rw [HE.out]
      exact⟨rfl,(K2.out.below HV2.out).bel⟩
   ·have q3:(k == 3)=false:=by simpa using h3
    have HE:Hid (A=if q then 0 else 13):=xhd (by
     cases q with
     |true=>exact HAA.out.symm.trans (hold_0 HM4.out (fun h=>h3 h.1) (by rw [HLR.out];exact HQ.out))
     |false=>exact HAA.out.symm.trans (hold_13 HM4.out (fun h=>h3 h.1) HTT.out (by rw [HLR.out];exact HQ.out)))
    go_enter Tryz.func155,Tryz.ntmps155
    go_wp2_with fail
    rw [HW1.out]
    with_reducible refine (HT.out _).mono ?_
    rintro e w2 ⟨rfl,hb2⟩
    have K2:=xhd (HK.out.below hb2)
    obtain⟨z0,z1,z2⟩:=op_cells K2.out.op
    obtain⟨y0,y2⟩:=HST.out _ K2.out.bel
    clear hb2
    go_wp2_with fail
    have HB0:=xhd ((Below.refl w2.heap.size w2).drew)
    have HSV:Hid (∀V,Below w2.heap.size w2 V→V.cell? ⟨w.heap.size,0,none⟩=some (.bool f)∧V.cell? ⟨w.heap.size,1,none⟩=some (.slice (some ⟨b,off,none⟩) n cap)∧V.cell? ⟨w.heap.size+1,0,none⟩=some (.int .i64 k)∧V.cell? ⟨w.heap.size+1,1,none⟩=some (.int .i64 (a':Nat))∧V.cell? ⟨w.heap.size+1,2,none⟩=some (.int .i64 c)∧V.cell? ⟨b2,off2+a'*5+2,none⟩=some (.int .i64 cr)):=xhd (by
     intro V hV
     have hk:=K2.out.below hV
     obtain⟨z0,z1,z2⟩:=op_cells hk.op
     obtain⟨e0,e1⟩:=two_cells hk.box
     exact⟨e0,e1,z0,z1,z2,(HST.out _ hk.bel).2⟩)
    have p0:=HSV.out _ HB0.out
    go_region_held3 (fun V=>V.cell? ⟨w.heap.size,0,none⟩=some (.bool f)∧V.cell? ⟨w.heap.size,1,none⟩=some (.slice (some ⟨b,off,none⟩) n cap)∧V.cell? ⟨w.heap.size+1,0,none⟩=some (.int .i64 k)∧V.cell? ⟨w.heap.size+1,1,none⟩=some (.int .i64 (a':Nat))∧V.cell? ⟨w.heap.size+1,2,none⟩=some (.int .i64 c)∧V.cell? ⟨b2,off2+a'*5+2,none⟩=some (.int .i64 cr))
     (first|exact p0|exact p1|exact p2)
     (first
       |(go_at_call 169
         with_reducible refine (HTK.out _).mono ?_
         rintro r V1 ⟨rfl,hb⟩
         have HV1:=xhd (HB0.out.trans (hb.mono HB0.out.size))
         have p1:=HSV.out _ HV1.out
         clear hb)
       |(go_at_call 170
         with_reducible refine (HSC.out _ (K2.out.below HV1.out).bel).mono ?_
         rintro r V2 ⟨rfl,hb⟩
         have HV2:=xhd (HV1.out.trans (hb.mono HV1.out.size))
         have p2:=HSV.out _ HV2.out
         clear hb))
    clear p0 p1 p2
    cases q with
    |true=>
     go_wp2
     go_ret
     rw [HE.out]
     exact⟨rfl,(K2.out.below HV2.out).bel⟩
    |false=>
     go_wp2
     go_ret
     rw [HE.out]
     exact⟨rfl,(K2.out.below HV2.out).bel⟩
abbrev restV:Value:= .func (.func 157) #[] #[]
theorem indexrest_any (ao:Option Addr) (b off cap:Nat) (L:List Opn) (w:World) (h:OArg w ao b off L) (hm:L.length≤100000):
  Calls Tryz.prog 171 #[.slice ao L.length cap,restV] w fun e w'=>(∃r:Int,e= .returned (.int .i64 r)∧decide (0≤r)=L.any timeR)∧Below w.heap.size w w':=by
 have HA:=xhd h
 have HR:=xhd (fun k a c V=>crests_any k a c V)
 obtain⟨n,hn⟩:∃n,L.length=n:=⟨_,rfl⟩
 have HN:=xhd hn
 rw [hn] at hm ⊢
 clear h hn
 go_enter Tryz.func171,Tryz.ntmps171
 go_wp2
 go_loopw [8] (fun s wr=>∃i:Nat,s= .int .i64 (i:Nat)∧i≤n∧Hid (Below w.heap.size w wr)∧Hid (∀j (hj:j < L.length),j < i→timeR L[j]=false)) (fun s _=>n - (intOf s).toNat)
 case atStart=>exact⟨0,rfl,Nat.zero_le _,Below.refl _ w,fun j _ hj=>absurd hj (Nat.not_lt_zero _)⟩
 case round=>
  obtain⟨i,rfl,hi,HB,HO⟩:=hrel
  by_cases hlt:i < n
  ·have hiL:i < L.length:=by rw [HN.out];exact hlt
   have hA:=HA.out.below HB.out
   obtain⟨rfl,hbl⟩:=hA.at_ (by omega)
   obtain⟨x0,x1,x2⟩:=hA.cells i hiL
   obtain⟨⟨k,a,c⟩,hx⟩:∃x,L[i]=x:=⟨_,rfl⟩
   rw [hx] at x0 x1 x2
   simp only at x0 x1 x2
   have HX:=xhd hx
   have i0:(0:Int)≤i:=by omega
   have i1:(i:Int) < n:=by omega
   have i2:IntKind.i64.wrap ((i:Int)+1)=(i:Int)+1:=by rw [IntKind.wrap_i64];omega
   have HRK:=xhd (fun V=>HR.out k a c V)
   obtain⟨q,hq⟩:∃q,timeR (k,a,c)=q:=⟨_,rfl⟩
   have HQ:=xhd hq
   rw [hq] at HRK
   clear hx hq hA
   cases q with
   |true=>
    have HE:Hid (L.any timeR=true):=xhd (by
     rw [List.any_eq_true]
     exact⟨_,List.getElem_mem hiL,by rw [HX.out];exact HQ.out⟩)
    go_wp2_with fail
    with_reducible refine (HRK.out _).mono ?_
    rintro e w1 ⟨rfl,hb⟩
    have HB1:=xhd (HB.out.trans (hb.mono HB.out.size))
    clear hb
    go_wp2
    go_ret
    exact⟨⟨_,rfl,by rw [HE.out];exact decide_eq_true i0⟩,HB1.out⟩
   |false=>
    have HO2:Hid (∀j (hj:j < L.length),j < i+1→timeR L[j]=false):=xhd (fun j hj hji=>by
     rcases Nat.lt_or_ge j i with h|h
     ·exact HO.out j hj h
     ·obtain rfl:j=i:=by omega
      rw [HX.out]
      exact HQ.out)
    go_wp2_with fail
    with_reducible refine (HRK.out _).mono ?_
    rintro e w1 ⟨rfl,hb⟩
    have HB1:=xhd (HB.out.trans (hb.mono HB.out.size))
    clear hb
    go_wp2
    go_roundw
    case rel=>exact⟨i+1,by go_num,by omega,HB1,HO2⟩
    case measure=>simp [intOf];omega
  ·have HE:Hid (L.any timeR=false):=xhd (by
     rw [List.any_eq_false]
     intro o ho
     obtain⟨j,hj,rfl⟩:=List.getElem_of_mem ho
     rw [HO.out j hj (by have:=HN.out;omega)]
     decide)
   go_wp2
   go_ret
   exact⟨⟨_,rfl,by rw [HE.out];rfl⟩,HB.out⟩
theorem containsrest_any (ao:Option Addr) (b off cap:Nat) (L:List Opn) (w:World) (h:OArg w ao b off L) (hm:L.length≤100000):
  Calls Tryz.prog 156 #[.slice ao L.length cap,restV] w fun e w'=>e= .returned (.bool (L.any timeR))∧Below w.heap.size w w':=by
 have HI:=xhd (indexrest_any ao b off cap L w h hm)
 obtain⟨n,hn⟩:∃n,L.length=n:=⟨_,rfl⟩
 obtain⟨q,hq⟩:∃q,L.any timeR=q:=⟨_,rfl⟩
 rw [hn,hq] at HI
 rw [hn,hq]
 clear h hn hq hm
 go_enter Tryz.func156,Tryz.ntmps156
 go_wp2_with fail
 with_reducible refine HI.out.mono ?_
 rintro e w1 ⟨⟨r,rfl,hr⟩,hb⟩
 have HR:=xhd hr
 have HB:=xhd hb
 clear hr hb
 go_wp2
 go_ret
 exact⟨by rw [←HR.out];rfl,HB.out⟩
end Go.Proofs.YtbnhnnccioljhaaGreatDoor
namespace Go.Proofs.YtbnhnnccioljhaaGreatDoor
open Go.RowKit Go.Maps Go.Shelf
attribute [local go_sem] Oper.semAt_some
theorem go_all {f:Bool} {n:Nat} {locks:List Lk} {progs:Int} :∀(L:List Opn) (i:Nat) (time:Bool),(∀j (hj:j < L.length),metR f n locks progs L[j] (L.drop (j+1)) (i+j)=0)→
  goR f n locks progs L i time=if f=true∧(time||L.any timeR)=false then (0,1) else (0,0)
 |[],i,time,_=>by simp [goR]
 |o::L,i,time,h=>by
  have h0:=h 0 (by simp)
  simp only [List.getElem_cons_zero,Nat.add_zero,Nat.zero_add,List.drop_succ_cons,List.drop_zero] at h0
  rw [go_next h0,go_all L (i+1) _ (fun j hj=>by
   have h1:=h (j+1) (by simp;omega)
   simp only [List.getElem_cons_succ,List.drop_succ_cons] at h1
   rw [←h1]
   congr 1
   omega)]
  have e:(time||timeR o||L.any timeR)=(time||(o::L).any timeR):=by rw [List.any_cons,Bool.or_assoc]
  rw [e]
theorem go_first {f:Bool} {n:Nat} {locks:List Lk} {progs:Int} {m:Int} (hm:m≠0):∀(L:List Opn) (i:Nat) (time:Bool) (k:Nat) (hk:k < L.length),(∀j (hj:j < L.length),j < k→metR f n locks progs L[j] (L.drop (j+1)) (i+j)=0)→
  metR f n locks progs L[k] (L.drop (k+1)) (i+k)=m→goR f n locks progs L i time=(i+k,m)
 |[],i,time,k,hk,_,_=>by simp at hk
 |o::L,i,time,0,hk,_,h=>by
  simp only [List.getElem_cons_zero,Nat.add_zero,Nat.zero_add,List.drop_succ_cons,List.drop_zero] at h
  rw [go_met h hm]
  rfl
 |o::L,i,time,k+1,hk,h0,h=>by
  have h1:=h0 0 (by simp) (by omega)
  simp only [List.getElem_cons_zero,Nat.add_zero,Nat.zero_add,List.drop_succ_cons,List.drop_zero] at h1
  simp only [List.getElem_cons_succ,List.drop_succ_cons] at h
  rw [go_next h1,go_first hm L (i+1) _ k (by simpa using hk) (fun j hj hjk=>by
   have h2:=h0 (j+1) (by simp;omega) (by omega)
   simp only [List.getElem_cons_succ,List.drop_succ_cons] at h2
   rw [←h2]
   congr 1
   omega) (by rw [←h];congr 1;omega)]
  congr 1
  omega
structure CkB (w W:World) (pv lv:Value) (progs:Int) (N:Nat) (i m:Int):Prop where
 pb:W.heap[w.heap.size]?=some (.cells pv.cells 49 (0,0))
 lb:W.heap[w.heap.size+1]?=some (.cells #[lv] 23 (0,0))
 nb:W.heap[w.heap.size+2]?=some (.cells #[.int .i64 progs] 3 (0,0))
 r6:W.heap[w.heap.size+3]?=some (.cells #[.int .i64 i] 3 (0,0))
 r7:W.heap[w.heap.size+4]?=some (.cells #[.int .i64 m] 32 (0,0))
 t:Turned [] w W
 z:N≤W.heap.size
section
variable {w W W':World} {pv lv:Value} {progs i m:Int} {N:Nat}
theorem CkB.mild {N':Nat} (h:CkB w W pv lv progs N i m) (mm:Mild [] N' W W') (hN:w.heap.size≤N'):CkB w W' pv lv progs N i m:=
 ⟨mm.cells h.pb (by simp),mm.cells h.lb (by simp),mm.cells h.nb (by simp),mm.cells h.r6 (by simp),mm.cells h.r7 (by simp),h.t.mild mm hN (by simp),Nat.le_trans h.z mm.size⟩
theorem CkB.below (h:CkB w W pv lv progs N i m) (hb:Below W.heap.size W W'):CkB w W' pv lv progs N i m:=
 ⟨(hb.block _ (lt_of_block h.pb)).trans h.pb,(hb.block _ (lt_of_block h.lb)).trans h.lb,(hb.block _ (lt_of_block h.nb)).trans h.nb,(hb.block _ (lt_of_block h.r6)).trans h.r6,(hb.block _ (lt_of_block h.r7)).trans h.r7,h.t.trans (turned_below0 hb) (Newer.refl _ _),Nat.le_trans h.z hb.size⟩
theorem CkB.bel (h:CkB w W pv lv progs N i m):Below w.heap.size w W:=h.t.below (by simp) (Nat.le_refl _)
theorem CkB.set (h:CkB w W pv lv progs N i m) (i' m':Int):CkB w ((W.setCell ⟨w.heap.size+3,0,none⟩ (.int .i64 i')).setCell ⟨w.heap.size+4,0,none⟩ (.int .i64 m')) pv lv progs N i' m':=by
 have q:∀B,B≠w.heap.size+3→B≠w.heap.size+4→((W.setCell ⟨w.heap.size+3,0,none⟩ (.int .i64 i')).setCell ⟨w.heap.size+4,0,none⟩ (.int .i64 m')).heap[B]?=W.heap[B]?:=
  fun B h3 h4=>(Below.heap_setCell _ _ _ _ h4).trans (Below.heap_setCell _ _ _ _ h3)
 refine⟨(q _ (by omega) (by omega)).trans h.pb,(q _ (by omega) (by omega)).trans h.lb,(q _ (by omega) (by omega)).trans h.nb,?_,?_,(h.t.setCell (.inr (by show w.heap.size≤w.heap.size+3;omega)) _).setCell (.inr (by show w.heap.size≤w.heap.size+4;omega)) _,by simp [World.setCell];exact h.z⟩
 ·rw [Below.heap_setCell _ _ _ _ (by show w.heap.size+3≠w.heap.size+4;omega),heap_setCell_same _ _ _ _ _ _ h.r6]
  rfl
 ·rw [heap_setCell_same _ _ _ _ _ _ ((Below.heap_setCell _ _ _ _ (by show w.heap.size+4≠w.heap.size+3;omega)).trans h.r7)]
  rfl
theorem ckb_start (w:World) (f:Bool) (ao:Option Addr) (n cap:Nat) (lv:Value) (progs:Int):
  CkB w (((((w.alloc (.cells #[.bool f, .slice ao n cap] 49)).alloc (.cells #[lv] 23)).alloc (.cells #[.int .i64 progs] 3)).alloc (.cells #[.int .i64 0] 3)).alloc (.cells #[.int .i64 0] 32)) (prgV f ao n cap) lv progs 0 0 0:=by
 have b:∀(V:World) (o:Obj),Below V.heap.size V (V.alloc o):=fun V o=>(Below.refl _ V).alloc (Nat.le_refl _) o
 refine⟨?_,?_,?_,?_,?_,((((((Turned.refl [] w).alloc _).alloc _).alloc _).alloc _).alloc _),Nat.zero_le _⟩
 ·refine ((b _ _).block _ (by simp<;>omega)).trans (((b _ _).block _ (by simp<;>omega)).trans (((b _ _).block _ (by simp<;>omega)).trans (((b _ _).block _ (by simp)).trans ?_)))
  exact heap_alloc_new w _
 ·refine ((b _ _).block _ (by simp<;>omega)).trans (((b _ _).block _ (by simp<;>omega)).trans (((b _ _).block _ (by simp)).trans ?_))
  have h:=heap_alloc_new (w.alloc (.cells #[.bool f, .slice ao n cap] 49)) (.cells #[lv] 23)
  rw [World.size_alloc] at h
  exact h
 ·refine ((b _ _).block _ (by simp<;>omega)).trans (((b _ _).block _ (by simp)).trans ?_)
  have h:=heap_alloc_new ((w.alloc (.cells #[.bool f, .slice ao n cap] 49)).alloc (.cells #[lv] 23)) (.cells #[.int .i64 progs] 3)
  simp only [World.size_alloc] at h
  exact h
 ·refine ((b _ _).block _ (by simp)).trans ?_
  have h:=heap_alloc_new (((w.alloc (.cells #[.bool f, .slice ao n cap] 49)).alloc (.cells #[lv] 23)).alloc (.cells #[.int .i64 progs] 3)) (.cells #[.int .i64 0] 3)
  simp only [World.size_alloc] at h
  exact h
 ·have h:=heap_alloc_new ((((w.alloc (.cells #[.bool f, .slice ao n cap] 49)).alloc (.cells #[lv] 23)).alloc (.cells #[.int .i64 progs] 3)).alloc (.cells #[.int .i64 0] 3)) (.cells #[.int .i64 0] 32)
  simp only [World.size_alloc] at h
  exact h
theorem ck_result {fn:Func} {p q:Tmp} (hf:fn.results= #[.cell p 3, .cell q 32]) {tmps:Array Value} (hp:tmps.getD p undef= .pointer (some ⟨w.heap.size+3,0,none⟩)) (hq:tmps.getD q undef= .pointer (some ⟨w.heap.size+4,0,none⟩)) (h:CkB w W pv lv progs N i m):
  (results fn tmps).run Tryz.prog W= .ok (.tuple #[.int .i64 i, .int .i64 m]) W:=by
 have h0:=cell1 h.r6
 have h1:=cell1 h.r7
 have hp':tmps[p]?.getD undef= .pointer (some ⟨w.heap.size+3,0,none⟩):=by simpa using hp
 have hq':tmps[q]?.getD undef= .pointer (some ⟨w.heap.size+4,0,none⟩):=by simpa using hq
 simp [results,hf,hp',hq',loadVar,go_sem,h0,h1,asAddr,Sem.run_bind,Result.andThen]
end
theorem ck_zip {L:List Opn} {pre:List (Opn×Nat)} {x:Opn×Nat} (h:(pre++[x]) <+:L.zipIdx):x.2=pre.length∧∃hl:pre.length < L.length,L[pre.length]=x.1:=by
 obtain⟨t,ht⟩:=h
 have h1:L.zipIdx[pre.length]?=some x:=by
  rw [←ht,List.append_assoc,List.getElem?_append_right (Nat.le_refl _)]
  simp
 rw [List.getElem?_zipIdx] at h1
 simp only [Option.map_eq_some_iff] at h1
 obtain⟨a,ha,hx⟩:=h1
 obtain⟨hl,hv⟩:=List.getElem?_eq_some_iff.1 ha
 subst hx
 exact⟨by simp,hl,hv⟩
theorem CkB.fin {w W:World} {pv lv:Value} {progs i m:Int} {N D:Nat} (h:CkB w W pv lv progs N i m) (hD:w.heap.size+5≤D) (hK:W.heap[D]?=some (.deferred (some []))) (i' m':Int):
  ((W.setCell ⟨w.heap.size+3,0,none⟩ (.int .i64 i')).setCell ⟨w.heap.size+4,0,none⟩ (.int .i64 m')).heap[D]?=some (.deferred (some []))∧
  ∀o,CkB w (((W.setCell ⟨w.heap.size+3,0,none⟩ (.int .i64 i')).setCell ⟨w.heap.size+4,0,none⟩ (.int .i64 m')).putObj D o) pv lv progs 0 i' m':=by
 have h2:=h.set i' m'
 have hh:=((Below.heap_setCell _ _ _ _ (by show D≠w.heap.size+4;omega)).trans ((Below.heap_setCell _ _ _ _ (by show D≠w.heap.size+3;omega)).trans hK):((W.setCell ⟨w.heap.size+3,0,none⟩ (.int .i64 i')).setCell ⟨w.heap.size+4,0,none⟩ (.int .i64 m')).heap[D]?=_)
 refine⟨hh,fun o=>⟨?_,?_,?_,?_,?_,h2.t.put (by omega) o,Nat.zero_le _⟩⟩
 ·exact (World.putObj_heap_other (by omega)).trans h2.pb
 ·exact (World.putObj_heap_other (by omega)).trans h2.lb
 ·exact (World.putObj_heap_other (by omega)).trans h2.nb
 ·exact (World.putObj_heap_other (by omega)).trans h2.r6
 ·exact (World.putObj_heap_other (by omega)).trans h2.r7
theorem CkB.put {w W:World} {pv lv:Value} {progs i m:Int} {N D:Nat} (h:CkB w W pv lv progs N i m) (hD:w.heap.size+5≤D) (o:Obj):CkB w (W.putObj D o) pv lv progs 0 i m:=
 ⟨(World.putObj_heap_other (by omega)).trans h.pb,(World.putObj_heap_other (by omega)).trans h.lb,(World.putObj_heap_other (by omega)).trans h.nb,(World.putObj_heap_other (by omega)).trans h.r6,(World.putObj_heap_other (by omega)).trans h.r7,h.t.put (by omega) o,Nat.zero_le _⟩
theorem pcheck_not (f:Bool) (ao:Option Addr) (b off cap:Nat) (L:List Opn) (ao2:Option Addr) (m cap2:Nat) (progs:Int) (w:World) (h:OArg w ao b off L) (hq:mayR (f,L)=false):
  Calls Tryz.prog 118 #[prgV f ao L.length cap, .slice ao2 m cap2, .int .i64 progs] w (CkP (0,1) w):=by
 have h0:=ckb_start w f ao L.length cap (.slice ao2 m cap2) progs
 have hmay:=pmay_any f ao b off cap L _ (h.below h0.bel)
 rw [hq] at hmay
 obtain⟨n,hn⟩:∃n,L.length=n:=⟨_,rfl⟩
 rw [hn] at hmay h0 ⊢
 have HM:=xhd hmay
 have H0:=xhd h0
 clear h hq h0 hmay hn
 go_enter Tryz.func118,Tryz.ntmps118
 go_wp2_with fail
 with_reducible refine HM.out.mono ?_
 rintro e w1 ⟨rfl,hb⟩
 have H1:=xhd (H0.out.below hb)
 have r6:=cell1 H1.out.r6
 have r7:=cell1 H1.out.r7
 have f6:=not_frozen H1.out.r6 0
 have f7:=not_frozen H1.out.r7 0
 clear hb
 go_wp2
 have hf:=H1.out.set 0 1
 refine bodyPost_ret (ck_result rfl rfl rfl hf) rfl ?_
 exact⟨rfl,hf.bel⟩
theorem pcheck_may (f:Bool) (ao:Option Addr) (b off cap:Nat) (L:List Opn) (ao2:Option Addr) (b2 off2 cap2:Nat) (locks:List Lk) (progs:Int) (w:World) (h:OArg w ao b off L) (hl:LArg w ao2 b2 off2 locks) (hm2:locks.length≤100000) (hq:mayR (f,L)=true):
  Calls Tryz.prog 118 #[prgV f ao L.length cap, .slice ao2 locks.length cap2, .int .i64 progs] w (CkP (goR f L.length locks progs L 0 false) w):=by
 have h12:L.length≤12∧∀o ∈ L,opMay o=true:=by
  simp only [mayR,Bool.and_eq_true,decide_eq_true_eq,List.all_eq_true] at hq
  exact hq.2
 refine callsIn_wide.1 (?_:CallsIn Fence.wide 20 _ _ _ _ _)
 refine callsIn_of_wp_marks Tryz.func118 rfl trivial ?_ rfl
 simp only [Tryz.ntmps118,List.size_toArray,List.length_cons,List.length_nil,Nat.reduceAdd,Nat.reduceSub,Array.replicate_succ,Array.replicate_zero,List.push_toArray,List.append_toArray,List.nil_append,List.cons_append]
 refine wpIn_wide.2 ?_
 have h0:=ckb_start w f ao L.length cap (.slice ao2 locks.length cap2) progs
 obtain⟨W0,hW0⟩:∃W0,((((w.alloc (.cells #[.bool f, .slice ao L.length cap] 49)).alloc (.cells #[.slice ao2 locks.length cap2] 23)).alloc (.cells #[.int .i64 progs] 3)).alloc (.cells #[.int .i64 0] 3)).alloc (.cells #[.int .i64 0] 32)=W0:=⟨_,rfl⟩
 rw [hW0] at h0
 have hmay:=pmay_any f ao b off cap L W0 (h.below h0.bel)
 rw [hq] at hmay
 have HMAY:=xhd hmay
 have HE:=xhd (fun V (hV:Below w.heap.size w V)=>each_any f ao b off cap L V (h.below hV) (by omega))
 have HR:=xhd (fun V (hV:Below w.heap.size w V)=>containsrest_any ao b off cap L V (h.below hV) (by omega))
 have HB0:=xhd h0
 obtain⟨n,hn⟩:∃n,L.length=n:=⟨_,rfl⟩
 obtain⟨lk,hlk⟩:∃lk,locks.length=lk:=⟨_,rfl⟩
 have HN:=xhd hn
 have HC:Hid (∀V,Below w.heap.size w V→∀i (hi:i < L.length),Calls Tryz.prog 155 #[prgV f ao n cap, .int .i64 i, .slice ao2 lk cap2, .int .i64 progs] V fun e w'=>e= .returned (.int .i64 (metR f n locks progs L[i] (L.drop (i+1)) i))∧Below V.heap.size V w'):=xhd (by
  intro V hV i hi
  have hx:=checkop_any f ao b off cap L i ao2 b2 off2 cap2 locks progs V (h.below hV) (hl.below hV) hi h12.1 h12.2 hm2
  obtain⟨o,ho⟩:∃o,L[i]=o:=⟨_,rfl⟩
  rw [ho] at hx ⊢
  rw [hn,hlk] at hx
  exact hx)
 have hn12:=h12.1
 obtain⟨A,hA⟩:∃A,goR f L.length locks progs L 0 false=A:=⟨_,rfl⟩
 rw [hA]
 have HA:=xhd hA
 rw [hn] at hn12 HMAY HE HR HB0 hW0 HA ⊢
 rw [hlk] at HB0 hW0 ⊢
 have HW0:=xhd hW0
 clear h hl hm2 hq h12 h0 hmay hn hlk hA hW0
 go_wp2_with fail
 rw [HW0.out]
 with_reducible refine HMAY.out.mono ?_
 rintro e w1 ⟨rfl,hb⟩
 have HB1:=xhd (HB0.out.below hb)
 obtain⟨c0,c1⟩:=two_cells HB1.out.pb
 clear hb HMAY
 go_wp2_with fail
 with_reducible refine (HE.out _ HB1.out.bel).mono ?_
 rintro e W1 ⟨B,rfl,hK,hb⟩
 obtain⟨Yb,hY,hseq⟩:=each1_seq (n:=19) (by omega) hK (by have:=HN.out;omega)
 have HB2:Hid (CkB w W1 (prgV f ao n cap) (.slice ao2 lk cap2) progs W1.heap.size 0 0):=xhd (by
  have h:=HB1.out.below hb
  exact⟨h.pb,h.lb,h.nb,h.r6,h.r7,h.t,Nat.le_refl _⟩)
 have HY:=xhd hY
 have HSEQ:=xhd hseq
 have hw0:w.heap.size+5≤w1.heap.size:=lt_of_block HB1.out.r7
 have hw1:w.heap.size+5≤W1.heap.size:=lt_of_block HB2.out.r7
 clear hK hb hY hseq HB0 HB1 c0 c1
 go_wp2_with fail
 refine (wpIn_wide (n:=20)).1 ?_
 refine range_turns_plain rfl (by omega) (gf:=147) (lb:= #[.pointer (some ⟨B,0,none⟩)]) rfl trivial (enters_of Tryz.func147 (by kernel_rfl) rfl)
  (X:=[]) (Y:=Yb) (by simp) (fun k hk=>(HY.out k hk).2) HSEQ.out (fun _=>rfl) (fun _ _ _ h _=>h) (fun _ _ _ h _=>h)
  (fun pre W=>CkB w W (prgV f ao n cap) (.slice ao2 lk cap2) progs W1.heap.size 0 0∧∀j (hj:j < L.length),j < pre.length→metR f n locks progs L[j] (L.drop (j+1)) j=0)
  (fun c pre W=>c= .ret∧∃(k:Nat) (m:Int),CkB w W (prgV f ao n cap) (.slice ao2 lk cap2) progs W1.heap.size k m∧A=(k,m))
  (fun xs A B h mm=>⟨h.1.mild mm (by omega),h.2⟩) (fun c xs A B h mm=>⟨h.1,by obtain⟨k,m,hk,he⟩:=h.2;exact⟨k,m,hk.mild mm (by omega),he⟩⟩) ⟨HB2.out,fun j hj h=>absurd h (Nat.not_lt_zero _)⟩
  ?a1 ?assign ?body ?done ?stop
 case assign=>
  intro l x W K hK
  gi_wp2
  exact hK
 case body=>
  rintro l pre ⟨⟨x1,x2,x3⟩,j⟩ W ⟨hI,hall⟩ hsp
  obtain⟨hj,hlt,hx⟩:=ck_zip hsp
  simp only at hj hx
  subst hj
  have hck:=HC.out W hI.bel pre.length hlt
  obtain⟨k,hk⟩:∃k,pre.length=k:=⟨_,rfl⟩
  simp only [hk] at hck hall hlt ⊢
  have hm0:=HA.out
  obtain⟨m,hm⟩:∃m,metR f n locks progs L[k] (L.drop (k+1)) k=m:=⟨_,rfl⟩
  rw [hm] at hck
  obtain⟨a0,a1⟩:=two_cells hI.pb
  have a2:=cell1 hI.lb
  have a3:=cell1 hI.nb
  have HI:=xhd hI
  have HALL:=xhd hall
  have HM:=xhd hm
  have HK:=xhd hk
  have HCK:=xhd hck
  have HLT:=xhd hlt
  clear hI hall hsp hk hx hm0 hck
  clear hm
  by_cases hz:m=0
  ·subst hz
   gi_wp2_with fail
   refine⟨trivial,?_⟩
   refine (CallsIn.inRound l (callsIn_wide.2 HCK.out)).mono ?_
   rintro e' V ⟨rfl,hb⟩
   have HB:=xhd hb
   clear hb
   gi_wp2
   refine⟨keeps_below HB.out,fun j hj=>HB.out.block _ ?_,HI.out.below HB.out,?_⟩
   ·have:=(HY.out j hj).2
    have:=HI.out.z
    omega
   ·intro j hj hjk
    rw [List.length_append,HK.out] at hjk
    simp only [List.length_cons,List.length_nil] at hjk
    rcases Nat.lt_or_ge j k with h|h
    ·exact HALL.out j hj h
    ·obtain rfl:j=k:=by omega
     exact HM.out
  ·have hz2:(m == 0)=false:=by simpa using hz
   have hz3:(m != 0)=true:=by simpa using hz
   gi_wp2_with fail
   refine⟨trivial,?_⟩
   refine (CallsIn.inRound l (callsIn_wide.2 HCK.out)).mono ?_
   rintro e' V ⟨rfl,hb⟩
   have HB:=xhd hb
   have hV:=HI.out.below hb
   have r6:=cell1 hV.r6
   have r7:=cell1 hV.r7
   have f6:=not_frozen hV.r6 0
   have f7:=not_frozen hV.r7 0
   have HV:=xhd hV
   clear hb hV
   gi_wp2
   refine⟨((keeps_below HB.out).trans ((KeepsOthers.setCell _ _ _).from _)).trans ((KeepsOthers.setCell _ _ _).from _),fun j hj=>?_,rfl,k,m,HV.out.set k m,?_⟩
   ·have h1:=HY.out j hj
    have h2:=HI.out.z
    exact (Below.heap_setCell _ _ _ _ (by show j≠w.heap.size+4;omega)).trans ((Below.heap_setCell _ _ _ _ (by show j≠w.heap.size+3;omega)).trans (HB.out.block _ (by omega)))
   ·have h1:=go_first hz L 0 false k HLT.out (fun j hj hjk=>by rw [Nat.zero_add];exact HALL.out j hj hjk) (by rw [Nat.zero_add];exact HM.out)
    rw [Nat.zero_add] at h1
    exact HA.out.symm.trans h1
 case done=>
  rintro D xs W hD rfl ⟨hI,hall⟩ hK
  have hg:=go_all (f:=f) (n:=n) (locks:=locks) (progs:=progs) L 0 false (fun j hj=>by
   rw [Nat.zero_add]
   exact hall j hj (by rw [List.length_zipIdx];exact hj))
  have hA:=HA.out
  rw [hg] at hA
  obtain⟨q,hq⟩:∃q,L.any timeR=q:=⟨_,rfl⟩
  rw [hq,Bool.false_or] at hA
  have HAA:=xhd hA
  have HQ:=xhd hq
  obtain⟨a0,a1⟩:=two_cells hI.pb
  have r6:=cell1 hI.r6
  have r7:=cell1 hI.r7
  have f6:=not_frozen hI.r6 0
  have f7:=not_frozen hI.r7 0
  have HI:=xhd hI
  have HKD:=xhd hK
  have HRR:=HR.out W hI.bel
  rw [hq] at HRR
  have HRQ:=xhd HRR
  clear hI hall hK hg hA hq HRR
  cases f with
  |false=>
   go_wp2
   have hf:=HI.out.fin (D:=D) (by omega) HKD.out 0 0
   refine⟨by simp, .inl ⟨_,_,rfl,run_takeDeferred hf.1,?_⟩⟩
   exact⟨_,ck_result rfl rfl rfl (hf.2 _),by rw [←HAA.out];rfl,(hf.2 _).bel⟩
  |true=>
   cases q with
   |true=>
    go_wp2_with fail
    with_reducible refine HRQ.out.mono ?_
    rintro e V ⟨rfl,hb⟩
    have hV:=HI.out.below hb
    have HVD:=xhd ((hb.block _ (lt_of_block HKD.out)).trans HKD.out)
    clear r6 r7 f6 f7
    have r6:=cell1 hV.r6
    have r7:=cell1 hV.r7
    have f6:=not_frozen hV.r6 0
    have f7:=not_frozen hV.r7 0
    have HV:=xhd hV
    clear hb hV
    go_wp2
    have hf:=HV.out.fin (D:=D) (by omega) HVD.out 0 0
    refine⟨by simp, .inl ⟨_,_,rfl,run_takeDeferred hf.1,?_⟩⟩
    exact⟨_,ck_result rfl rfl rfl (hf.2 _),by rw [←HAA.out];rfl,(hf.2 _).bel⟩
   |false=>
    go_wp2_with fail
    with_reducible refine HRQ.out.mono ?_
    rintro e V ⟨rfl,hb⟩
    have hV:=HI.out.below hb
    have HVD:=xhd ((hb.block _ (lt_of_block HKD.out)).trans HKD.out)
    clear r6 r7 f6 f7
    have r6:=cell1 hV.r6
    have r7:=cell1 hV.r7
    have f6:=not_frozen hV.r6 0
    have f7:=not_frozen hV.r7 0
    have HV:=xhd hV
    clear hb hV
    go_wp2
    have hf:=HV.out.fin (D:=D) (by omega) HVD.out 0 1
    refine⟨by simp, .inl ⟨_,_,rfl,run_takeDeferred hf.1,?_⟩⟩
    exact⟨_,ck_result rfl rfl rfl (hf.2 _),by rw [←HAA.out];rfl,(hf.2 _).bel⟩
 case stop=>
  rintro D c xs W hD hsx ⟨rfl,k,m,hI,hAk⟩ hK
  have HI:=xhd hI
  have HKD:=xhd hK
  have HAA:=xhd hAk
  clear hI hK hAk
  refine wpIn_ret ?_
  simp only [Exit.inBlock]
  refine⟨by simp, .inl ⟨_,_,rfl,run_takeDeferred HKD.out,?_⟩⟩
  exact⟨_,ck_result rfl rfl rfl (HI.out.put (by omega) _),by rw [HAA.out],(HI.out.put (by omega) _).bel⟩
theorem pcheck_any (f:Bool) (ao:Option Addr) (b off cap:Nat) (L:List Opn) (ao2:Option Addr) (b2 off2 cap2:Nat) (locks:List Lk) (progs:Int) (w:World) (h:OArg w ao b off L) (hl:LArg w ao2 b2 off2 locks) (hm2:locks.length≤100000):
  Calls Tryz.prog 118 #[prgV f ao L.length cap, .slice ao2 locks.length cap2, .int .i64 progs] w (CkP (checkR (f,L) locks progs) w):=by
 unfold checkR
 cases hq:mayR (f,L) with
 |true=>exact pcheck_may f ao b off cap L ao2 b2 off2 cap2 locks progs w h hl hm2 hq
 |false=>exact pcheck_not f ao b off cap L ao2 locks.length cap2 progs w h hq
end Go.Proofs.YtbnhnnccioljhaaGreatDoor
