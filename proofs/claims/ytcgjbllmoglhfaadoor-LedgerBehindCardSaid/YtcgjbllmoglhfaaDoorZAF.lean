/-
  The program's ledger: Settle. (Made by gen_lpset.py.)
-/
import Derived.Test.YtcgjbllmoglhfaaDoorZAE
import Derived.Test.YtcgjbllmoglhfaaDoorZAl
set_option maxRecDepth 100000
set_option maxHeartbeats 25600000
namespace Go.Proofs.YtcgjbllmoglhfaaDoor
open Go.RowKit Go.Maps Go.Shelf
attribute [local go_sem] Oper.semAt_some
attribute [local go_sem ↓] run_max_un
section
variable {w w' W W':World} {b:Nat} {X Y:List Nat} {l l':List Pty} {s c f:Int} {a:Nat} {g:Lg} {n:Int} {pa:Option Addr}
theorem TabOk.mild {N:Nat} {A B:World} (h:TabOk A) (m:Mild [] N A B):TabOk B:=by
 have h0:=h 0 (by decide)
 unfold World.cell? at h0
 cases ho:A.heap[0]? with
 |none=>rw [ho] at h0;simp at h0
 |some o=>
  refine h.same ?_
  rw [ho]
  refine m.same _ _ ho (by simp) (.inr ?_)
  rw [ho] at h0
  cases o<;>first|rfl|simp at h0
theorem tab_ne {r i:Nat} {x:Int} (h:TabOk W) (hc:W.cell? ⟨r,i,none⟩=some (.int .i64 x)) (hi:i < 64):r≠0:=by
 rintro rfl
 rw [h i hi] at hc
 cases hc
theorem TabOk.set {r o:Nat} {u:Value} (h:TabOk W) (hr:r≠0):TabOk (W.setCell ⟨r,o,none⟩ u):=h.same (Below.heap_setCell _ _ _ _ (by show _≠r;exact fun e=>hr e.symm))
theorem LpQ.mild {N:Nat} (h:LpQ W b X l s c f a) (m:Mild [] N W W'):LpQ W' b X l s c f a:=LAt.mild h m (by simp)
theorem lpsettle (h:LpAt w b X g) (ho:LgOk g n) (hT:TabOk w) (S:Nat) (hS:S < 18446744073709551616):
  Calls Tryd.prog 11 #[.pointer (some ⟨b,0,none⟩), .int .u64 (S:Int)] w fun e w'=>e= .returned (.tuple #[])∧LpAt w' b X (g.settle S)∧Turned X w w':=by
 refine callsIn_wide.1 (?_:CallsIn Fence.wide 20 _ _ _ _ _)
 refine callsIn_of_wp_marks Tryd.func11 rfl trivial ?_ rfl
 simp only [Tryd.ntmps11,List.size_toArray,List.length_cons,List.length_nil,Nat.reduceAdd,Nat.reduceSub,Array.replicate_succ,Array.replicate_zero,List.push_toArray,List.append_toArray,List.nil_append,List.cons_append]
 refine wpIn_wide.2 ?_
 have hlen:=ho.len
 have hbl:=h.lt _ h.bIn
 have h0:BoxL [] w (w.alloc (.cells #[.pointer (some ⟨b,0,none⟩)] tPL)) 0 [(.pointer (some ⟨b,0,none⟩),tPL)]:=BoxL.start w [(.pointer (some ⟨b,0,none⟩),tPL)]
 obtain⟨W0,hW0⟩:∃W0,w.alloc (.cells #[.pointer (some ⟨b,0,none⟩)] tPL)=W0:=⟨_,rfl⟩
 rw [hW0] at h0
 have hT0:TabOk W0:=hT.turned h0.t (by simp)
 have HO:=xhd (lpours ((h.keep0 h0.t).v hlen) hT0 S hS)
 have HB0:=xhd h0
 have HW0:=xhd hW0
 have HT:=xhd hT
 have HQ:=xhd h
 have hw0:w.heap.size+1≤W0.heap.size:=h0.size
 have hlt:=inTo_lt S g.l.length
 have HOK:=xhd ho
 have HX:=xhd (show ∀k ∈ X,k < w.heap.size from h.lt)
 clear h0 hW0 hT h hT0 ho
 go_wp2_with fail
 have hW0:=HW0.out
 (try rw [hW0])
 clear hW0
 with_reducible refine HO.out.mono ?_
 rintro e W2 ⟨rfl,t2⟩
 have hb2:=HB0.out.later0 t2
 have q2:LpQ W2 b X g.l g.s g.c g.f g.active:=HQ.out.keep0 hb2.t
 have ca:=q2.fields.1
 obtain⟨c0,f0⟩:=hb2.one0 rfl
 have alt:g.active < 18446744073709551616:=act_lt _
 obtain⟨T,hTe,hTl,hTb⟩:=andNot_bit (inTo S g.l.length) g.active hlt alt
 have hTT:∀j:Nat,hasN T j=(decide (j < g.l.length)&&hasN S j&&!hasN g.active j):=fun j=>by
  by_cases hj:j < 64
  ·rw [hasN_nat hj,hTb, ←hasN_nat hj, ←hasN_nat hj,has_inTo]
  ·have h1:decide (j < g.l.length)=false:=by simp;omega
   rw [hasN_ge (by omega),h1]
   simp
 have HLI:=xhd (show ∀p ∈ listN T,∃j:Nat,p=j∧j < g.l.length from fun p hp=>by
  obtain⟨j,rfl,_,h2⟩:=mem_list.1 hp
  rw [hTT] at h2
  simp at h2
  exact⟨j,rfl,h2.1.1⟩)
 have HFO:=xhd (come_all (T:=T) g (by omega) (fun j hj=>by rw [hTT];simp;omega))
 have HST:=xhd (come_strip (S:=S) (T:=T) g (by omega) hTT)
 have HB0:=xhd hb2
 have hw0:=Nat.le_trans hw0 t2.size
 have HQ2:=xhd q2
 obtain⟨ia,hia⟩:∃q,inTo S g.l.length=q:=⟨_,rfl⟩
 obtain⟨aa,haa⟩:∃q,g.active=q:=⟨_,rfl⟩
 have HIA:=xhd hia
 rw [hia] at hTe hlt ⊢
 rw [haa] at hTe ca
 have HAA:=xhd haa
 clear HO HW0 t2 hb2 q2 hTb hTT alt hia haa
 go_wp2_with fail
 clear c0 f0 hTe ca
 with_reducible refine (all_any T _).mono ?_
 rintro e W1 ⟨rfl,hW1⟩
 have hA:W1.heap[W2.heap.size]?=some (.cells #[.int .u64 (T:Nat)] 30 (0,0)):=by rw [hW1];exact heap_alloc_new W2 _
 have t1:Turned [] W2 W1:=by rw [hW1];exact (Turned.refl [] W2).alloc _
 have hT1:TabOk W1:=HT.out.turned (HB0.out.t.trans' t1 (by simp)) (by simp)
 have hseq:=all1_seq (n:=19) (by omega) hA hTl hT1
 have hb1:=(HB0.out.later0 t1).at_ W1.heap.size (Nat.le_refl _)
 have HI0:Hid (BoxL X w W1 W1.heap.size [(.pointer (some ⟨b,0,none⟩),tPL)]∧LpQ W1 b X (([]:List Int).foldl (comeSt g) g.l) g.s g.c g.f g.active∧TabOk W1):=xhd ⟨⟨hb1.bx,hb1.t.mono (by intro k hk;simp at hk),hb1.z⟩,HQ2.out.keep0 t1,hT1⟩
 clear hb1
 have HSEQ:=xhd hseq
 have HT1:=xhd hT1
 have hw1:W2.heap.size≤W1.heap.size:=t1.size
 have HLT:=xhd HT.out.lt
 obtain⟨B,hB⟩:∃B,W2.heap.size=B:=⟨_,rfl⟩
 rw [hB] at HSEQ hw0 hw1 ⊢
 clear hA t1 hT1 hseq HB0 hW1 hB
 go_wp2_with fail
 refine (wpIn_wide (n:=20)).1 ?_
 refine range_turns_plain rfl (by omega) (gf:=49) (lb:= #[.pointer (some ⟨B,0,none⟩)]) rfl trivial (enters_of Tryd.func49 (by kernel_rfl) rfl)
  (X:=[]) (Y:=[0]) (by simp) (fun k hk=>by rw [List.mem_singleton] at hk;subst hk;exact HT1.out.lt) HSEQ.out (fun _=>rfl) (fun _ _ _ h _=>h) (fun _ _ _ h _=>h)
  (fun pre W=>BoxL X w W W1.heap.size [(.pointer (some ⟨b,0,none⟩),tPL)]∧LpQ W b X (pre.foldl (comeSt g) g.l) g.s g.c g.f g.active∧TabOk W)
  (fun _ _ _=>False)
  (fun xs A B h mm=>⟨h.1.mild mm (by omega) rfl,h.2.1.mild mm,h.2.2.mild mm⟩) (fun c xs A B h mm=>h) HI0.out
  ?a1 ?assign ?body ?done ?stop
 case assign=>
  intro l x W K hK
  gi_wp2
  exact hK
 case body=>
  rintro lp pre p W ⟨hI,hQ,hTW⟩ hsp
  obtain⟨j,rfl,hj⟩:=HLI.out _ (mem_pre hsp)
  have hpl:=come_fold_len g pre g.l
  have hsn:=foldl_snoc (comeSt g) g.l pre j
  obtain⟨L,hL⟩:∃L,pre.foldl (comeSt g) g.l=L:=⟨_,rfl⟩
  rw [hL] at hQ hpl hsn
  have hjL:j < L.length:=by omega
  have hx:L[j]?=some L[j]:=List.getElem?_eq_getElem hjL
  obtain⟨r,cap,q0⟩:=hQ.row hx
  obtain⟨r0,r1,r2,fz,hbr,hrX,hmm⟩:=hQ.at_ q0 hx
  obtain⟨ca,cf,cs,cc4,cfz⟩:=hQ.fields
  clear ca cfz
  obtain⟨c0,f0⟩:=hI.one0 rfl
  have fz:=fz (j*3+1)
  have hcs:comeSt g L j=L.set j (comeP g L[j]):=by unfold comeSt;rw [Int.toNat_natCast,modify_two hx]
  rw [hcs] at hsn
  have hcp:comeP g L[j]=(L[j].1,clampR L[j].2.1 g.f (slackR L[j].1 g.s g.c),L[j].2.2.1,L[j].2.2.2):=rfl
  have hrt:=tab_ne hTW r0 (by omega)
  have hsl:=slack_range L[j].1 g.s g.c
  have HSL:=xhd (fun V=>uslack_any L[j].1 g.s g.c V)
  have HCL:=xhd (fun V=>uclamp_any L[j].2.1 g.f (slackR L[j].1 g.s g.c) HOK.out.f (by unfold Word;omega) V)
  have P:=hQ.put q0 (p:=j) hx (i:=1) (by omega) (u:= .int .u64 (clampR L[j].2.1 g.f (slackR L[j].1 g.s g.c))) (y:=comeP g L[j]) rfl
  have hTW2:=hTW.set (o:=j*3+1) (u:= .int .u64 (clampR L[j].2.1 g.f (slackR L[j].1 g.s g.c))) hrt
  rw [←hsn] at P
  obtain⟨x0,hx0⟩:∃q,L[j].1=q:=⟨_,rfl⟩
  obtain⟨x1,hx1⟩:∃q,L[j].2.1=q:=⟨_,rfl⟩
  rw [hx0] at r0 HSL HCL P hTW2
  rw [hx1] at r1 HCL P hTW2
  obtain⟨ff,hff⟩:∃q,g.f=q:=⟨_,rfl⟩
  obtain⟨ss,hss⟩:∃q,g.s=q:=⟨_,rfl⟩
  obtain⟨cc,hcc⟩:∃q,g.c=q:=⟨_,rfl⟩
  have HFF:=xhd hff
  have HSS:=xhd hss
  have HCC:=xhd hcc
  rw [hff] at HCL P cf hTW2
  rw [hss] at HSL HCL P cs hTW2
  rw [hcc] at HSL HCL P cc4 hTW2
  obtain⟨sk,hsk⟩:∃q,slackR x0 ss cc=q:=⟨_,rfl⟩
  rw [hsk] at HSL HCL P hTW2
  obtain⟨cl,hcl⟩:∃q,clampR x1 ff sk=q:=⟨_,rfl⟩
  rw [hcl] at HCL P hTW2
  have HP:=xhd P
  have HTW:=xhd hTW2
  have HI:=xhd hI
  have i0:(0:Int)≤j:=by omega
  have i1:(j:Int) < L.length:=by omega
  have HRT:=xhd hrt
  have HRX:=xhd (show ∀k ∈ [r],k ∈ X∧k < w.heap.size from fun k hk=>by rw [List.mem_singleton] at hk;subst hk;exact⟨hrX,HX.out _ hrX⟩)
  obtain⟨m,hm⟩:∃m,L.length=m:=⟨_,rfl⟩
  rw [hm] at i1 q0
  clear hI hQ hTW hsp hpl hsn hL hx r2 hbr hrX hmm hcs hcp hrt hsl P hTW2 hx0 hx1 hff hss hcc hsk hcl hj hm
  gi_wp2_with fail
  have hmix:Tryd.prog.follows .mixedOrders=true:=by kernel_rfl
  refine wpRound_lastF (fun V=>V.cell? ⟨w.heap.size,0,none⟩=some (.pointer (some ⟨b,0,none⟩))∧V.cell? ⟨b,2,none⟩=some (.int .u64 ff)∧V.cell? ⟨b,3,none⟩=some (.int .i64 ss)∧V.cell? ⟨b,4,none⟩=some (.int .i64 cc)∧V.cell? ⟨r,j*3,none⟩=some (.int .i64 x0)∧V.cell? ⟨r,j*3+1,none⟩=some (.int .u64 x1)∧V.frozen? ⟨r,j*3+1,none⟩=false) 25 (by kernel_rfl) ?_ hmix ⟨c0,cf,cs,cc4,r0,r1,fz⟩ (fun hS0=>?_)
  ·rintro ⟨_,_,h⟩;exact h
  refine wpAnyF_free (i:=0) (v:=?_) rfl (by kernel_rfl) (by decide) (fun _ _ _ h=>h) (by kernel_rfl) (by kernel_rfl) (Or.inl ⟨by rfl,?hy⟩) (by assumption) ?_
  case hy=>
   intro w _
   go_simp
   try with_reducible rfl
  try simp only [xga];try simp only [xgs];try simp only [xgz];try simp only [Act.put];try simp only [xsa];try simp only [xss];try simp only [xsz]
  refine wpAnyF_free (i:=1) (v:=?_) rfl (by kernel_rfl) (by decide) (fun _ _ _ h=>h) (by kernel_rfl) (by kernel_rfl) (Or.inl ⟨by rfl,?hy⟩) (by assumption) ?_
  case hy=>
   intro w _
   go_simp
   try with_reducible rfl
  try simp only [xga];try simp only [xgs];try simp only [xgz];try simp only [Act.put];try simp only [xsa];try simp only [xss];try simp only [xsz]
  refine wpAnyF_free (i:=2) (v:=?_) rfl (by kernel_rfl) (by decide) (fun _ _ _ h=>h) (by kernel_rfl) (by kernel_rfl) (Or.inl ⟨by rfl,?hy⟩) (by assumption) ?_
  case hy=>
   intro w _
   go_simp
   try with_reducible rfl
  try simp only [xga];try simp only [xgs];try simp only [xgz];try simp only [Act.put];try simp only [xsa];try simp only [xss];try simp only [xsz]
  refine wpAnyF_free (i:=3) (v:=?_) rfl (by kernel_rfl) (by decide) (fun _ _ _ h=>h) (by kernel_rfl) (by kernel_rfl) (Or.inl ⟨by rfl,?hy⟩) (by assumption) ?_
  case hy=>
   intro w _
   go_simp
   try with_reducible rfl
  try simp only [xga];try simp only [xgs];try simp only [xgz];try simp only [Act.put];try simp only [xsa];try simp only [xss];try simp only [xsz]
  refine wpAnyF_take (i:=4) (v:=?_) rfl (by kernel_rfl) (by kernel_rfl) (fun _ _ _ h=>h) (by kernel_rfl) (by kernel_rfl) (by kernel_rfl) (Or.inl ⟨by rfl,?hy⟩) (by assumption) ?_
  case hy=>
   intro w hSw
   (try dsimp only at hSw)
   obtain⟨s0,s1,s2,s3,s4,s5,s6⟩:=hSw
   go_simp
   try with_reducible rfl
  try simp only [xga];try simp only [xgs];try simp only [xgz];try simp only [Act.put];try simp only [xsa];try simp only [xss];try simp only [xsz]
  refine wpAnyF_take (i:=5) (v:=?_) rfl (by kernel_rfl) (by kernel_rfl) (fun _ _ _ h=>h) (by kernel_rfl) (by kernel_rfl) (by kernel_rfl) (Or.inl ⟨by rfl,?hy⟩) (by assumption) ?_
  case hy=>
   intro w hSw
   (try dsimp only at hSw)
   obtain⟨s0,s1,s2,s3,s4,s5,s6⟩:=hSw
   go_simp
   try with_reducible rfl
  try simp only [xga];try simp only [xgs];try simp only [xgz];try simp only [Act.put];try simp only [xsa];try simp only [xss];try simp only [xsz]
  refine wpAnyF_free (i:=6) (v:=?_) rfl (by kernel_rfl) (by decide) (fun _ _ _ h=>h) (by kernel_rfl) (by kernel_rfl) (Or.inl ⟨by rfl,?hy⟩) (by assumption) ?_
  case hy=>
   intro w _
   go_simp
   try with_reducible rfl
  try simp only [xga];try simp only [xgs];try simp only [xgz];try simp only [Act.put];try simp only [xsa];try simp only [xss];try simp only [xsz]
  refine wpAnyF_free (i:=7) (v:=?_) rfl (by kernel_rfl) (by decide) (fun _ _ _ h=>h) (by kernel_rfl) (by kernel_rfl) (Or.inl ⟨by rfl,?hy⟩) (by assumption) ?_
  case hy=>
   intro w _
   go_simp
   try with_reducible rfl
  try simp only [xga];try simp only [xgs];try simp only [xgz];try simp only [Act.put];try simp only [xsa];try simp only [xss];try simp only [xsz]
  refine wpAnyF_take (i:=8) (v:=?_) rfl (by kernel_rfl) (by kernel_rfl) (fun _ _ _ h=>h) (by kernel_rfl) (by kernel_rfl) (by kernel_rfl) (Or.inl ⟨by rfl,?hy⟩) (by assumption) ?_
  case hy=>
   intro w hSw
   (try dsimp only at hSw)
   obtain⟨s0,s1,s2,s3,s4,s5,s6⟩:=hSw
   go_simp
   try with_reducible rfl
  try simp only [xga];try simp only [xgs];try simp only [xgz];try simp only [Act.put];try simp only [xsa];try simp only [xss];try simp only [xsz]
  refine wpAnyF_free (i:=9) (v:=?_) rfl (by kernel_rfl) (by decide) (fun _ _ _ h=>h) (by kernel_rfl) (by kernel_rfl) (Or.inl ⟨by rfl,?hy⟩) (by assumption) ?_
  case hy=>
   intro w _
   go_simp
   try with_reducible rfl
  try simp only [xga];try simp only [xgs];try simp only [xgz];try simp only [Act.put];try simp only [xsa];try simp only [xss];try simp only [xsz]
  refine wpAnyF_free (i:=10) (v:=?_) rfl (by kernel_rfl) (by decide) (fun _ _ _ h=>h) (by kernel_rfl) (by kernel_rfl) (Or.inl ⟨by rfl,?hy⟩) (by assumption) ?_
  case hy=>
   intro w _
   go_simp
   try with_reducible rfl
  try simp only [xga];try simp only [xgs];try simp only [xgz];try simp only [Act.put];try simp only [xsa];try simp only [xss];try simp only [xsz]
  refine wpAnyF_free (i:=11) (v:=?_) rfl (by kernel_rfl) (by decide) (fun _ _ _ h=>h) (by kernel_rfl) (by kernel_rfl) (Or.inl ⟨by rfl,?hy⟩) (by assumption) ?_
  case hy=>
   intro w _
   go_simp
   try with_reducible rfl
  try simp only [xga];try simp only [xgs];try simp only [xgz];try simp only [Act.put];try simp only [xsa];try simp only [xss];try simp only [xsz]
  refine wpAnyF_take (i:=12) (v:=?_) rfl (by kernel_rfl) (by kernel_rfl) (fun _ _ _ h=>h) (by kernel_rfl) (by kernel_rfl) (by kernel_rfl) (Or.inl ⟨by rfl,?hy⟩) (by assumption) ?_
  case hy=>
   intro w hSw
   (try dsimp only at hSw)
   obtain⟨s0,s1,s2,s3,s4,s5,s6⟩:=hSw
   go_simp
   try with_reducible rfl
  try simp only [xga];try simp only [xgs];try simp only [xgz];try simp only [Act.put];try simp only [xsa];try simp only [xss];try simp only [xsz]
  refine wpAnyF_take (i:=13) (v:=?_) rfl (by kernel_rfl) (by kernel_rfl) (fun _ _ _ h=>h) (by kernel_rfl) (by kernel_rfl) (by kernel_rfl) (Or.inl ⟨by rfl,?hy⟩) (by assumption) ?_
  case hy=>
   intro w hSw
   (try dsimp only at hSw)
   obtain⟨s0,s1,s2,s3,s4,s5,s6⟩:=hSw
   go_simp
   try with_reducible rfl
  try simp only [xga];try simp only [xgs];try simp only [xgz];try simp only [Act.put];try simp only [xsa];try simp only [xss];try simp only [xsz]
  refine wpAnyF_free (i:=14) (v:=?_) rfl (by kernel_rfl) (by decide) (fun _ _ _ h=>h) (by kernel_rfl) (by kernel_rfl) (Or.inl ⟨by rfl,?hy⟩) (by assumption) ?_
  case hy=>
   intro w _
   go_simp
   try with_reducible rfl
  try simp only [xga];try simp only [xgs];try simp only [xgz];try simp only [Act.put];try simp only [xsa];try simp only [xss];try simp only [xsz]
  refine wpAnyF_free (i:=15) (v:=?_) rfl (by kernel_rfl) (by decide) (fun _ _ _ h=>h) (by kernel_rfl) (by kernel_rfl) (Or.inl ⟨by rfl,?hy⟩) (by assumption) ?_
  case hy=>
   intro w _
   go_simp
   try with_reducible rfl
  try simp only [xga];try simp only [xgs];try simp only [xgz];try simp only [Act.put];try simp only [xsa];try simp only [xss];try simp only [xsz]
  refine wpAnyF_take (i:=16) (v:=?_) rfl (by kernel_rfl) (by kernel_rfl) (fun _ _ _ h=>h) (by kernel_rfl) (by kernel_rfl) (by kernel_rfl) (Or.inl ⟨by rfl,?hy⟩) (by assumption) ?_
  case hy=>
   intro w hSw
   (try dsimp only at hSw)
   obtain⟨s0,s1,s2,s3,s4,s5,s6⟩:=hSw
   go_simp
   try with_reducible rfl
  try simp only [xga];try simp only [xgs];try simp only [xgz];try simp only [Act.put];try simp only [xsa];try simp only [xss];try simp only [xsz]
  refine wpAnyF_take (i:=17) (v:=?_) rfl (by kernel_rfl) (by kernel_rfl) (fun _ _ _ h=>h) (by kernel_rfl) (by kernel_rfl) (by kernel_rfl) (Or.inl ⟨by rfl,?hy⟩) (by assumption) ?_
  case hy=>
   intro w hSw
   (try dsimp only at hSw)
   obtain⟨s0,s1,s2,s3,s4,s5,s6⟩:=hSw
   go_simp
   try with_reducible rfl
  try simp only [xga];try simp only [xgs];try simp only [xgz];try simp only [Act.put];try simp only [xsa];try simp only [xss];try simp only [xsz]
  refine wpAnyF_free (i:=18) (v:=?_) rfl (by kernel_rfl) (by decide) (fun _ _ _ h=>h) (by kernel_rfl) (by kernel_rfl) (Or.inl ⟨by rfl,?hy⟩) (by assumption) ?_
  case hy=>
   intro w _
   go_simp
   try with_reducible rfl
  try simp only [xga];try simp only [xgs];try simp only [xgz];try simp only [Act.put];try simp only [xsa];try simp only [xss];try simp only [xsz]
  refine wpAnyF_free (i:=19) (v:=?_) rfl (by kernel_rfl) (by decide) (fun _ _ _ h=>h) (by kernel_rfl) (by kernel_rfl) (Or.inl ⟨by rfl,?hy⟩) (by assumption) ?_
  case hy=>
   intro w _
   go_simp
   try with_reducible rfl
  try simp only [xga];try simp only [xgs];try simp only [xgz];try simp only [Act.put];try simp only [xsa];try simp only [xss];try simp only [xsz]
  refine wpAnyF_take (i:=20) (v:=?_) rfl (by kernel_rfl) (by kernel_rfl) (fun _ _ _ h=>h) (by kernel_rfl) (by kernel_rfl) (by kernel_rfl) (Or.inl ⟨by rfl,?hy⟩) (by assumption) ?_
  case hy=>
   intro w hSw
   (try dsimp only at hSw)
   obtain⟨s0,s1,s2,s3,s4,s5,s6⟩:=hSw
   go_simp
   try with_reducible rfl
  try simp only [xga];try simp only [xgs];try simp only [xgz];try simp only [Act.put];try simp only [xsa];try simp only [xss];try simp only [xsz]
  refine wpAnyF_ready (rs:=[21]) (by kernel_rfl) (by simp) ?_
  refine ReadyF.cons rfl (fun K' hK=>?_) ReadyF.nil
  go_simp
  with_reducible refine (HSL.out _).mono ?_
  rintro e V ⟨rfl,rfl⟩
  go_wp2_with fail
  refine hK.out _ _ (.inr ?_) ?_
  ·exact hS0
  clear hK K'
  try simp only [xga];try simp only [xgs];try simp only [xgz];try simp only [Act.put];try simp only [xsa];try simp only [xss];try simp only [xsz]
  refine wpAnyF_ready (rs:=[22]) (by kernel_rfl) (by simp) ?_
  refine ReadyF.cons rfl (fun K' hK=>?_) ReadyF.nil
  go_simp
  with_reducible refine (HCL.out _).mono ?_
  rintro e V ⟨rfl,rfl⟩
  go_wp2_with fail
  refine hK.out _ _ (.inr ?_) ?_
  ·exact hS0
  clear hK K'
  try simp only [xga];try simp only [xgs];try simp only [xgz];try simp only [Act.put];try simp only [xsa];try simp only [xss];try simp only [xsz]
  refine wpAnyF_free (i:=23) (v:=?_) rfl (by kernel_rfl) (by decide) (fun _ _ _ h=>h) (by kernel_rfl) (by kernel_rfl) (Or.inl ⟨by rfl,?hy⟩) (by assumption) ?_
  case hy=>
   intro w _
   go_simp
   try with_reducible rfl
  try simp only [xga];try simp only [xgs];try simp only [xgz];try simp only [Act.put];try simp only [xsa];try simp only [xss];try simp only [xsz]
  refine wpAnyF_free (i:=24) (v:=?_) rfl (by kernel_rfl) (by decide) (fun _ _ _ h=>h) (by kernel_rfl) (by kernel_rfl) (Or.inl ⟨by rfl,?hy⟩) (by assumption) ?_
  case hy=>
   intro w _
   go_simp
   try with_reducible rfl
  try simp only [xga];try simp only [xgs];try simp only [xgz];try simp only [Act.put];try simp only [xsa];try simp only [xss];try simp only [xsz]
  refine wpAnyF_ready (rs:=[25]) (by kernel_rfl) (by simp) ?_
  refine ReadyF.cons rfl (fun K' hK=>?_) ReadyF.nil
  go_simp
  refine hK.out _ _ (.inl (by kernel_rfl)) ?_
  clear hK K'
  try simp only [xga];try simp only [xgs];try simp only [xgz];try simp only [Act.put];try simp only [xsa];try simp only [xss];try simp only [xsz]
  refine wpAnyF_done (by kernel_rfl) ?_ _
  try simp only [xga];try simp only [xgs];try simp only [xgz];try simp only [Act.put];try simp only [xsa];try simp only [xss];try simp only [xsz]
  have tset:Turned [r] W (W.drew.setCell ⟨r,j*3+1,none⟩ (.int .u64 cl)):=((Turned.refl [r] W).drew).setCell (.inl (by simp)) _
  refine⟨keepsFrom_turned tset (fun k hk=>?_),?_,HI.out.later tset HRX.out,?_,HTW.out⟩
  ·have:=(HRX.out k hk).2;omega
  ·exact sameAt_set (by simp only [List.mem_singleton];exact fun e=>HRT.out e)
  ·show LpQ _ b X _ g.s g.c g.f g.active
   rw [HFF.out,HSS.out,HCC.out]
   exact HP.out.1
 case done=>
  rintro D xs W hD rfl ⟨hI,hQ,hTW⟩ hK
  rw [HFO.out] at hQ
  have hQ:LpQ W b X (setTo g S g.l.length) g.s g.c g.f g.active:=hQ.strip HST.out
  have hln:=setTo_len g S g.l.length
  obtain⟨c0,f0⟩:=hI.one0 rfl
  obtain⟨ca,cf,cs,cc4,cfz⟩:=hQ.fields
  have fb1:=cfz 1
  have hA:=hQ.setA ia
  have hbt:b≠0:=tab_ne hTW cs (by omega)
  have hT3:=hTW.set (o:=1) (u:= .int .u64 (ia:Int)) hbt
  have tset:Turned [b] W (W.setCell ⟨b,1,none⟩ (.int .u64 (ia:Int))):=(Turned.refl [b] W).setCell (.inl (by simp)) _
  have hI3:=hI.later tset (fun k hk=>by rw [List.mem_singleton] at hk;subst hk;exact⟨hQ.bIn,hbl⟩)
  have hK3:(W.setCell ⟨b,1,none⟩ (.int .u64 (ia:Int))).heap[D]?=some (.deferred (some [])):=(Below.heap_setCell _ _ _ _ (by show D≠b;omega)).trans hK
  obtain⟨W3,hW3⟩:∃W3,W.setCell ⟨b,1,none⟩ (.int .u64 (ia:Int))=W3:=⟨_,rfl⟩
  rw [hW3] at hA hT3 hI3 hK3
  have hltS:=hlt
  have HL:=xhd (lpleast (hA.1.v (by rw [hln];exact hlen)) hT3 ia hltS)
  have hbest:bestTo (setTo g S g.l.length) ia (setTo g S g.l.length).length=bestTo (setTo g S g.l.length) S g.l.length:=by
   rw [hln]
   refine best_congr (fun _=>rfl) _ (fun j hj=>?_)
   rw [←HIA.out,has_inTo]
   simp [hj]
  rw [hbest] at HL
  have hact:(g.settle S).active=ia:=(show actTo (setTo g S g.l.length) (setTo g S g.l.length).length=ia by rw [hln,settle_active g S _ (Nat.le_refl _),HIA.out])
  have HACT:=xhd hact
  have HF:=xhd (settle_f g S)
  have HI3:=xhd hI3
  have HQ3:=xhd hA.1
  have HK3:=xhd hK3
  have c03:=(hI3.one0 rfl).1
  have HW3:=xhd hW3
  have HBX:=xhd hQ.bIn
  clear hA hT3 hI3 hK3 hltS hbest hact tset cf cs cc4 cfz hQ hI hTW hK hbt hln f0
  go_wp2_with fail
  (try rw [HW3.out])
  clear c0 fb1 hW3 ca
  with_reducible refine HL.out.mono ?_
  rintro e W4 ⟨rfl,t4⟩
  have hI4:=HI3.out.later0 t4
  have hQ4:=HQ3.out.keep0 t4
  have hK4:W4.heap[D]?=some (.deferred (some [])):=t4.same HK3.out (by simp)
  have c04:=(hI4.one0 rfl).1
  clear t4 HL HI3 HQ3 HK3 HW3 c03
  rcases bestTo_spec (setTo g S g.l.length) S g.l.length with⟨hb1,hb2⟩ |⟨k,hb1,hk,hb2,hb3⟩
  ·have HFF:Hid ((g.settle S).f=g.f):=xhd (by rw [HF.out,if_pos (by rw [hb1];decide)])
   rw [hb1]
   have HI4:=xhd hI4
   have HQ4:=xhd hQ4
   have HKD:=xhd hK4
   clear hI4 hQ4 hK4 hb1 hb2 c04
   go_wp2
   refine⟨by simp, .inl ⟨_,_,rfl,run_takeDeferred HKD.out,?_⟩⟩
   refine⟨_,results_none rfl _ _ _,rfl,?_,HI4.out.t.put (by omega) _⟩
   show LpQ _ b X (setTo g S g.l.length) g.s g.c (g.settle S).f (g.settle S).active
   rw [HFF.out,HACT.out]
   exact HQ4.out.mild (Mild.of_put (B:=0) HKD.out rfl (Nat.zero_le _) _)
  ·have hln:=setTo_len g S g.l.length
   have hkL:k < (setTo g S g.l.length).length:=by omega
   have hx:(setTo g S g.l.length)[k]?=some (setTo g S g.l.length)[k]:=List.getElem?_eq_getElem hkL
   have hvk:vAt (setTo g S g.l.length) k=(setTo g S g.l.length)[k].2.1:=by rw [vAt_nat,hx];rfl
   obtain⟨r,cap,q0⟩:=hQ4.row hx
   obtain⟨r0,rk,r2,fz,hbr,hrX,hmm⟩:=hQ4.at_ q0 hx
   obtain⟨ca,cf,cs,cc4,cfz⟩:=hQ4.fields
   have fz:=cfz 2
   rw [←hvk] at rk
   have hfs:=HF.out
   rw [if_neg (by rw [hb1];omega),hb1] at hfs
   rw [hb1]
   obtain⟨vk,hvk2⟩:∃q,vAt (setTo g S g.l.length) k=q:=⟨_,rfl⟩
   rw [hvk2] at rk hfs
   have HFF:=xhd hfs
   have hF:=hQ4.setF (max g.f vk)
   obtain⟨ff,hff⟩:∃q,g.f=q:=⟨_,rfl⟩
   rw [hff] at cf hF HFF
   have HI4:=xhd hI4
   have HQ5:=xhd hF.1
   have HKD:=xhd hK4
   have hHK:Hid (((W4.drew).setCell ⟨b,2,none⟩ (.int .u64 (max ff vk))).heap[D]?=some (.deferred (some []))):=xhd ((Below.heap_setCell _ _ _ _ (by show D≠b;omega)).trans hK4)
   have i0:(0:Int)≤k:=by omega
   have i1:(k:Int) < (setTo g S g.l.length).length:=by omega
   have i2:((k:Int) == -1)=false:=beq_eq_false_iff_ne.2 (by omega)
   have i3:¬(k:Int)= -1:=by omega
   have c0:=c04
   obtain⟨m,hm⟩:∃m,(setTo g S g.l.length).length=m:=⟨_,rfl⟩
   rw [hm] at i1 q0
   clear hI4 hQ4 hK4 hb1 hb2 hb3 hln hx hvk r0 r2 hbr hrX hmm ca cs cc4 cfz hfs hvk2 hF hff hm c04
   go_wp2_with fail
   have hmix:Tryd.prog.follows .mixedOrders=true:=by kernel_rfl
   refine wp_region_noPanic ?_
   refine wp_region_lastF (fun V=>V.cell? ⟨w.heap.size,0,none⟩=some (.pointer (some ⟨b,0,none⟩))∧V.cell? ⟨b,2,none⟩=some (.int .u64 ff)∧V.cell? ⟨b,0,none⟩=some (.slice (some ⟨r,0,none⟩) m cap)∧V.cell? ⟨r,k*3+1,none⟩=some (.int .u64 vk)∧V.frozen? ⟨b,2,none⟩=false) 16 hmix ⟨c0,cf,q0,rk,fz⟩ (fun hS0=>?_)
   refine wpAnyF_take (i:=0) (v:=?_) rfl (by kernel_rfl) (by kernel_rfl) (fun _ _ _ h=>h) (by kernel_rfl) (by kernel_rfl) (by kernel_rfl) (Or.inl ⟨by rfl,?hy⟩) (by assumption) ?_
   case hy=>
    intro w hSw
    (try dsimp only at hSw)
    obtain⟨s0,s1,s2,s3,s4⟩:=hSw
    go_simp
    try with_reducible rfl
   try simp only [xga];try simp only [xgs];try simp only [xgz];try simp only [Act.put];try simp only [xsa];try simp only [xss];try simp only [xsz]
   refine wpAnyF_take (i:=1) (v:=?_) rfl (by kernel_rfl) (by kernel_rfl) (fun _ _ _ h=>h) (by kernel_rfl) (by kernel_rfl) (by kernel_rfl) (Or.inl ⟨by rfl,?hy⟩) (by assumption) ?_
   case hy=>
    intro w hSw
    (try dsimp only at hSw)
    obtain⟨s0,s1,s2,s3,s4⟩:=hSw
    go_simp
    try with_reducible rfl
   try simp only [xga];try simp only [xgs];try simp only [xgz];try simp only [Act.put];try simp only [xsa];try simp only [xss];try simp only [xsz]
   refine wpAnyF_free (i:=2) (v:=?_) rfl (by kernel_rfl) (by decide) (fun _ _ _ h=>h) (by kernel_rfl) (by kernel_rfl) (Or.inl ⟨by rfl,?hy⟩) (by assumption) ?_
   case hy=>
    intro w _
    go_simp
    try with_reducible rfl
   try simp only [xga];try simp only [xgs];try simp only [xgz];try simp only [Act.put];try simp only [xsa];try simp only [xss];try simp only [xsz]
   refine wpAnyF_free (i:=3) (v:=?_) rfl (by kernel_rfl) (by decide) (fun _ _ _ h=>h) (by kernel_rfl) (by kernel_rfl) (Or.inl ⟨by rfl,?hy⟩) (by assumption) ?_
   case hy=>
    intro w _
    go_simp
    try with_reducible rfl
   try simp only [xga];try simp only [xgs];try simp only [xgz];try simp only [Act.put];try simp only [xsa];try simp only [xss];try simp only [xsz]
   refine wpAnyF_take (i:=4) (v:=?_) rfl (by kernel_rfl) (by kernel_rfl) (fun _ _ _ h=>h) (by kernel_rfl) (by kernel_rfl) (by kernel_rfl) (Or.inl ⟨by rfl,?hy⟩) (by assumption) ?_
   case hy=>
    intro w hSw
    (try dsimp only at hSw)
    obtain⟨s0,s1,s2,s3,s4⟩:=hSw
    go_simp
    try with_reducible rfl
   try simp only [xga];try simp only [xgs];try simp only [xgz];try simp only [Act.put];try simp only [xsa];try simp only [xss];try simp only [xsz]
   refine wpAnyF_take (i:=5) (v:=?_) rfl (by kernel_rfl) (by kernel_rfl) (fun _ _ _ h=>h) (by kernel_rfl) (by kernel_rfl) (by kernel_rfl) (Or.inl ⟨by rfl,?hy⟩) (by assumption) ?_
   case hy=>
    intro w hSw
    (try dsimp only at hSw)
    obtain⟨s0,s1,s2,s3,s4⟩:=hSw
    go_simp
    try with_reducible rfl
   try simp only [xga];try simp only [xgs];try simp only [xgz];try simp only [Act.put];try simp only [xsa];try simp only [xss];try simp only [xsz]
   refine wpAnyF_free (i:=6) (v:=?_) rfl (by kernel_rfl) (by decide) (fun _ _ _ h=>h) (by kernel_rfl) (by kernel_rfl) (Or.inl ⟨by rfl,?hy⟩) (by assumption) ?_
   case hy=>
    intro w _
    go_simp
    try with_reducible rfl
   try simp only [xga];try simp only [xgs];try simp only [xgz];try simp only [Act.put];try simp only [xsa];try simp only [xss];try simp only [xsz]
   refine wpAnyF_free (i:=7) (v:=?_) rfl (by kernel_rfl) (by decide) (fun _ _ _ h=>h) (by kernel_rfl) (by kernel_rfl) (Or.inl ⟨by rfl,?hy⟩) (by assumption) ?_
   case hy=>
    intro w _
    go_simp
    try with_reducible rfl
   try simp only [xga];try simp only [xgs];try simp only [xgz];try simp only [Act.put];try simp only [xsa];try simp only [xss];try simp only [xsz]
   refine wpAnyF_take (i:=8) (v:=?_) rfl (by kernel_rfl) (by kernel_rfl) (fun _ _ _ h=>h) (by kernel_rfl) (by kernel_rfl) (by kernel_rfl) (Or.inl ⟨by rfl,?hy⟩) (by assumption) ?_
   case hy=>
    intro w hSw
    (try dsimp only at hSw)
    obtain⟨s0,s1,s2,s3,s4⟩:=hSw
    go_simp
    try with_reducible rfl
   try simp only [xga];try simp only [xgs];try simp only [xgz];try simp only [Act.put];try simp only [xsa];try simp only [xss];try simp only [xsz]
   refine wpAnyF_free (i:=9) (v:=?_) rfl (by kernel_rfl) (by decide) (fun _ _ _ h=>h) (by kernel_rfl) (by kernel_rfl) (Or.inl ⟨by rfl,?hy⟩) (by assumption) ?_
   case hy=>
    intro w _
    go_simp
    try with_reducible rfl
   try simp only [xga];try simp only [xgs];try simp only [xgz];try simp only [Act.put];try simp only [xsa];try simp only [xss];try simp only [xsz]
   refine wpAnyF_free (i:=10) (v:=?_) rfl (by kernel_rfl) (by decide) (fun _ _ _ h=>h) (by kernel_rfl) (by kernel_rfl) (Or.inl ⟨by rfl,?hy⟩) (by assumption) ?_
   case hy=>
    intro w _
    go_simp
    try with_reducible rfl
   try simp only [xga];try simp only [xgs];try simp only [xgz];try simp only [Act.put];try simp only [xsa];try simp only [xss];try simp only [xsz]
   refine wpAnyF_free (i:=11) (v:=?_) rfl (by kernel_rfl) (by decide) (fun _ _ _ h=>h) (by kernel_rfl) (by kernel_rfl) (Or.inl ⟨by rfl,?hy⟩) (by assumption) ?_
   case hy=>
    intro w _
    go_simp
    try with_reducible rfl
   try simp only [xga];try simp only [xgs];try simp only [xgz];try simp only [Act.put];try simp only [xsa];try simp only [xss];try simp only [xsz]
   refine wpAnyF_take (i:=12) (v:=?_) rfl (by kernel_rfl) (by kernel_rfl) (fun _ _ _ h=>h) (by kernel_rfl) (by kernel_rfl) (by kernel_rfl) (Or.inl ⟨by rfl,?hy⟩) (by assumption) ?_
   case hy=>
    intro w hSw
    (try dsimp only at hSw)
    obtain⟨s0,s1,s2,s3,s4⟩:=hSw
    go_simp
    try with_reducible rfl
   try simp only [xga];try simp only [xgs];try simp only [xgz];try simp only [Act.put];try simp only [xsa];try simp only [xss];try simp only [xsz]
   refine wpAnyF_free (i:=13) (v:=?_) rfl (by kernel_rfl) (by decide) (fun _ _ _ h=>h) (by kernel_rfl) (by kernel_rfl) (Or.inl ⟨by rfl,?hy⟩) (by assumption) ?_
   case hy=>
    intro w _
    go_simp
    try with_reducible rfl
   try simp only [xga];try simp only [xgs];try simp only [xgz];try simp only [Act.put];try simp only [xsa];try simp only [xss];try simp only [xsz]
   refine wpAnyF_free (i:=14) (v:=?_) rfl (by kernel_rfl) (by decide) (fun _ _ _ h=>h) (by kernel_rfl) (by kernel_rfl) (Or.inl ⟨by rfl,?hy⟩) (by assumption) ?_
   case hy=>
    intro w _
    go_simp
    try with_reducible rfl
   try simp only [xga];try simp only [xgs];try simp only [xgz];try simp only [Act.put];try simp only [xsa];try simp only [xss];try simp only [xsz]
   refine wpAnyF_free (i:=15) (v:=?_) rfl (by kernel_rfl) (by decide) (fun _ _ _ h=>h) (by kernel_rfl) (by kernel_rfl) (Or.inl ⟨by rfl,?hy⟩) (by assumption) ?_
   case hy=>
    intro w _
    go_simp
    try with_reducible rfl
   try simp only [xga];try simp only [xgs];try simp only [xgz];try simp only [Act.put];try simp only [xsa];try simp only [xss];try simp only [xsz]
   refine wpAnyF_ready (rs:=[16]) (by kernel_rfl) (by simp) ?_
   refine ReadyF.cons rfl (fun K' hK=>?_) ReadyF.nil
   go_simp
   refine hK.out _ _ (.inl (by kernel_rfl)) ?_
   clear hK K'
   try simp only [xga];try simp only [xgs];try simp only [xgz];try simp only [Act.put];try simp only [xsa];try simp only [xss];try simp only [xsz]
   refine wpAnyF_done (by kernel_rfl) ?_ _
   refine NoPanic.normal ?_
   try simp only [xga];try simp only [xgs];try simp only [xgz];try simp only [Act.put];try simp only [xsa];try simp only [xss];try simp only [xsz]
   go_wp2
   refine⟨by simp, .inl ⟨_,_,rfl,run_takeDeferred hHK.out,?_⟩⟩
   refine⟨_,results_none rfl _ _ _,rfl,?_,((HI4.out.t.drew).setCell (.inl HBX.out) _).put (by omega) _⟩
   show LpQ _ b X (setTo g S g.l.length) g.s g.c (g.settle S).f (g.settle S).active
   rw [HFF.out,HACT.out]
   exact LpQ.mild (W:=W4.drew.setCell ⟨b,2,none⟩ (.int .u64 (max ff vk))) HQ5.out (Mild.of_put (B:=0) hHK.out rfl (Nat.zero_le _) _)
 case stop=>
  rintro D c xs W _ _ h _
  exact h.elim
theorem lpsettle_nil (S:Int) (w:World):Calls Tryd.prog 11 #[.pointer none, .int .u64 S] w fun e w'=>e= .returned (.tuple #[])∧Turned [] w w':=by
 go_enter Tryd.func11,Tryd.ntmps11
 go_wp2
 exact bodyPost_ret (results_none rfl _ _ _) rfl ⟨rfl,(Turned.refl [] w).alloc _⟩
end
end Go.Proofs.YtcgjbllmoglhfaaDoor
