/-
  The program's ledger: ticksTo, Behind. (Made by gen_lpbeh.py.)
  The program's ledger alone, and a box; what a nil ledger answers. (Made by gen_lgbox.py.)
  The program's New of ledgers; all that is asked of the program's ledgers. (Made by gen_lpnew.py.)
  All that is asked of the program's ledgers; a nil one. (Made by gen_lpnew.py.)
-/
import Derived.Test.YtcgjbllmoglhfaaDoorZAD
import Derived.Test.YtcgjbllmoglhfaaDoorZAC
import Derived.Test.YtcgjbllmoglhfaaDoorZAF
import Derived.OwnWalk
import Derived.Maps.AppendAt
import Derived.Test.YtcgjbllmoglhfaaDoorZAl
set_option maxRecDepth 100000
set_option maxHeartbeats 25600000
namespace Go.Proofs.YtcgjbllmoglhfaaDoor
open Go.RowKit Go.Maps Go.Shelf
attribute [local go_sem] Oper.semAt_some
theorem cell_kept {a b:World} (t:Turned [] a b) {p:Addr} {v:Value} (h:a.cell? p=some v):b.cell? p=some v:=by
 unfold World.cell? at h ⊢
 cases hb:a.heap[p.block]? with
 |none=>rw [hb] at h;simp at h
 |some o=>rw [t.same hb (by simp)];rw [hb] at h;exact h
def tickN18 (x0 x1 v:Int):Int:=if v≤x1 then 0 else upDiv (v - x1) (lockR x0)
theorem lpticks (x0 x1 x2 v:Int) (hx:Word x1) (hv:Word v) (hw0:1≤x0) (hw1:x0≤16) (w:World):
  Calls Tryd.prog 42 #[.agg #[.int .i64 x0, .int .u64 x1, .int .i64 x2], .int .u64 v] w fun e w'=>e= .returned (.int .u64 (tickN18 x0 x1 v))∧Turned [] w w':=by
 have HT:=xhd ((Turned.refl [] w).alloc (.cells #[.int .i64 x0, .int .u64 x1, .int .i64 x2] tPq))
 unfold tickN18
 by_cases hc:v≤x1
 ·rw [if_pos hc]
  clear hx hv hw0 hw1
  go_enter Tryd.func42,Tryd.ntmps42
  go_wp2
  go_ret
  exact⟨rfl,HT.out⟩
 ·rw [if_neg hc]
  have hL:=lock_pos hw0 hw1
  have HL:=xhd (fun V=>ulock_any x0 V)
  have hu:=upDiv_le (x:=v - x1) hL (by omega) (by unfold Word at hx hv;omega)
  have hs:=upDiv_sub (x:=v - x1) (a:=lockR x0) (by omega)
  obtain⟨k,hk⟩:∃k,lockR x0=k:=⟨_,rfl⟩
  rw [hk] at hL HL hu hs ⊢
  have hx':=hx.1
  have hv':=hv.2
  have w1:IntKind.u64.wrap (v - x1)=v - x1:=by rw [IntKind.wrap_u64];omega
  have w2:IntKind.u64.wrap (v - x1 - 1)=v - x1 - 1:=by rw [IntKind.wrap_u64];omega
  have hq:(v - x1 - 1).tdiv k=(v - x1 - 1) / k:=Int.tdiv_eq_ediv_of_nonneg (by omega)
  have hn:¬k=0:=by omega
  have hq0:0≤(v - x1 - 1) / k:=Int.ediv_nonneg (by omega) (by omega)
  obtain⟨q,hqq⟩:∃q,(v - x1 - 1) / k=q:=⟨_,rfl⟩
  obtain⟨u,huu⟩:∃u,upDiv (v - x1) k=u:=⟨_,rfl⟩
  rw [hqq] at hq hs hq0
  rw [huu] at hs hu ⊢
  subst hs
  have w3:IntKind.u64.wrap q=q:=by rw [IntKind.wrap_u64];omega
  have w4:IntKind.u64.wrap (q+1)=q+1:=by rw [IntKind.wrap_u64];omega
  clear hk hqq huu hx hv hx' hv' hL hu hw0 hw1 hq0
  go_enter Tryd.func42,Tryd.ntmps42
  go_wp2_with fail
  go_quiet ((go_at_call 40;exact Calls.quiet_of_same (HL.out _)))
  go_wp2
  go_ret
  exact⟨rfl,HT.out.drewN _⟩
section
variable {w w':World} {g:Lg} {n:Int} {pa:Option Addr}
theorem lpbehind (h:LpV w pa g.l) (ho:LgOk g n) (hT:TabOk w) (p:Int) (S:Nat) (hS:S < 18446744073709551616):
  Calls Tryd.prog 21 #[.pointer pa, .int .i64 p, .int .u64 (S:Int)] w fun e w'=>e= .returned (.int .i64 (g.behind p S))∧Turned [] w w':=by
 refine callsIn_wide.1 (?_:CallsIn Fence.wide 20 _ _ _ _ _)
 refine callsIn_of_wp_marks Tryd.func21 rfl trivial ?_ rfl
 simp only [Tryd.ntmps21,List.size_toArray,List.length_cons,List.length_nil,Nat.reduceAdd,Nat.reduceSub,Array.replicate_succ,Array.replicate_zero,List.push_toArray,List.append_toArray,List.nil_append,List.cons_append]
 refine wpIn_wide.2 ?_
 obtain⟨Wp,hWp⟩:∃Wp,w.alloc (.cells #[.pointer pa] tPL)=Wp:=⟨_,rfl⟩
 have tp:Turned [] w Wp:=by rw [←hWp];exact (Turned.refl [] w).alloc _
 have HV:=xhd (lpv (h.later tp) p)
 have HQ:=xhd h
 have HT:=xhd hT
 have HWP:=xhd hWp
 have HTP:=xhd tp
 have hlt:=inTo_lt S g.l.length
 have HS0:=xhd (gap_all ho p S)
 have HOK:=xhd ho
 have HVW:=xhd (vAtW ho.v p)
 clear hWp tp h hT ho
 go_wp2_with fail
 have hWP:=HWP.out
 (try rw [hWP])
 clear hWP
 with_reducible refine HV.out.mono ?_
 rintro e Wv ⟨rfl,tv⟩
 have hbp:BoxL [] w Wv 0 [(.pointer pa,tPL)]:=(by rw [←HWP.out];exact BoxL.start w [(.pointer pa,tPL)]:BoxL [] w Wp 0 [(.pointer pa,tPL)]).later0 tv
 obtain⟨v,hv⟩:∃v,vAt g.l p=v:=⟨_,rfl⟩
 have HVV:=xhd hv
 have h0:=BoxL.start Wv [(.int .u64 v,30),(.int .u64 0,30)]
 obtain⟨W0,hW0⟩:∃W0,(Wv.alloc (.cells #[.int .u64 v] 30)).alloc (.cells #[.int .u64 0] 30)=W0:=⟨_,rfl⟩
 have h0:BoxL [] Wv W0 0 [(.int .u64 v,30),(.int .u64 0,30)]:=hW0 ▸ h0
 rw [hv] at HVW ⊢
 obtain⟨c0,f0⟩:=hbp.one0 rfl
 have hwv:=hbp.size
 simp only [List.length_cons,List.length_nil,Nat.zero_add] at hwv
 have t0w:Turned [] w W0:=hbp.t.trans' h0.t (by simp)
 have HO:=xhd (lpours (HQ.out.later t0w) (HT.out.turned t0w (by simp)) S hS)
 have HBP:=xhd (hbp.later0 h0.t)
 have HB0:=xhd h0
 have HW0:=xhd hW0
 have hw0:Wv.heap.size+2≤W0.heap.size:=h0.size
 have cp0:((Wv.alloc (.cells #[.int .u64 v] 30)).alloc (.cells #[.int .u64 0] 30)).cell? ⟨w.heap.size,0,none⟩=some (.pointer pa):=by rw [HW0.out];exact (HBP.out.one0 rfl).1
 clear hbp h0 hW0 tv hv t0w HV HTP HWP
 go_wp2_with fail
 have hW0:=HW0.out
 (try rw [hW0])
 clear hW0 cp0 c0 f0
 with_reducible refine HO.out.mono ?_
 rintro e W2 ⟨rfl,t2⟩
 have HBP:=xhd (HBP.out.later0 t2)
 have HB0:=xhd (HB0.out.later0 t2)
 have hw0:=Nat.le_trans hw0 t2.size
 have HLI:=xhd (fun (p:Int) (h:p ∈ listN (inTo S g.l.length))=>in_party h)
 have HLEN:=xhd (list_len_le (inTo S g.l.length))
 have HGF:=xhd (fun (pre:List Int) h=>gap_fold HOK.out p pre 0 h (Int.le_refl 0))
 obtain⟨T,hTT⟩:∃T,inTo S g.l.length=T:=⟨_,rfl⟩
 rw [hTT] at hlt HS0 HLI HLEN ⊢
 clear HO HW0 t2 hTT
 go_wp2_with fail
 with_reducible refine (all_any T _).mono ?_
 rintro e W1 ⟨rfl,hW1⟩
 have hA:W1.heap[W2.heap.size]?=some (.cells #[.int .u64 (T:Nat)] 30 (0,0)):=by rw [hW1];exact heap_alloc_new W2 _
 have t1:Turned [] W2 W1:=by rw [hW1];exact (Turned.refl [] W2).alloc _
 have hT1:TabOk W1:=HT.out.turned (HBP.out.t.trans' t1 (by simp)) (by simp)
 have hseq:=all1_seq (n:=19) (by omega) hA hlt hT1
 have HB1:=xhd ((HB0.out.later0 t1).at_ W1.heap.size (Nat.le_refl _))
 have HBP1:=xhd ((HBP.out.later0 t1).at_ W1.heap.size (Nat.le_refl _))
 have HSEQ:=xhd hseq
 have HT1:=xhd hT1
 have hw1:W2.heap.size≤W1.heap.size:=t1.size
 have HLT:=xhd HT.out.lt
 obtain⟨B,hB⟩:∃B,W2.heap.size=B:=⟨_,rfl⟩
 rw [hB] at HSEQ hw0 hw1 ⊢
 clear HBP hA t1 hT1 hseq HB0 hW1 hB
 go_wp2_with fail
 refine (wpIn_wide (n:=20)).1 ?_
 refine range_turns_plain rfl (by omega) (gf:=49) (lb:= #[.pointer (some ⟨B,0,none⟩)]) rfl trivial (enters_of Tryd.func49 (by kernel_rfl) rfl)
  (X:=[]) (Y:=[0]) (by simp) (fun k hk=>by rw [List.mem_singleton] at hk;subst hk;exact HT1.out.lt) HSEQ.out (fun _=>rfl) (fun _ _ _ h _=>h) (fun _ _ _ h _=>h)
  (fun pre W=>BoxL [] w W W1.heap.size [(.pointer pa,tPL)]∧BoxL [] Wv W W1.heap.size [(.int .u64 v,30),(.int .u64 (pre.foldl (gapSt g.l p) 0),30)])
  (fun _ _ _=>False)
  (fun xs A B h mm=>⟨h.1.mild mm (by omega) rfl,h.2.mild mm (by omega) rfl⟩) (fun c xs A B h mm=>h) ⟨HBP1.out,HB1.out⟩
  ?a1 ?assign ?body ?done ?stop
 case assign=>
  intro l x W K hK
  gi_wp2
  exact hK
 case body=>
  rintro lp pre p' W ⟨hI1,hI2⟩ hsp
  obtain⟨j,rfl,hj,_⟩:=HLI.out _ (mem_pre hsp)
  obtain⟨c0,f0⟩:=hI1.one0 rfl
  obtain⟨c1,f1⟩:=hI2.one0 rfl
  obtain⟨c2,f2⟩:=hI2.one (i:=1) rfl
  obtain⟨b,r,cap,hpa,q0,r0,r1,r2,ry⟩:=HQ.out.at_ W hI1.t j _ (List.getElem?_eq_getElem hj)
  have hx1:vAt g.l j=g.l[j].2.1:=by rw [vAt_nat,List.getElem?_eq_getElem hj];rfl
  have hx0:wtAt g.l j=g.l[j].1:=by rw [wtAt_nat,List.getElem?_eq_getElem hj];rfl
  rw [←hx1] at r1
  rw [←hx0] at r0
  clear ry hx0 hx1
  have hs:=foldl_snoc (gapSt g.l p) 0 pre j
  have hgf:=HGF.out pre (fun q hq=>by
   obtain⟨k,e,hk,_⟩:=HLI.out _ (pre_mem hsp _ hq)
   exact⟨k,e,hk⟩)
  have hlen:pre.length≤64:=by
   have h1:=hsp.length_le
   have h2:=HLEN.out
   simp at h1
   omega
  have hgr:=gap_range HOK.out p hj
  have hgt:gapAt g.l p j=tickN18 (wtAt g.l j) (vAt g.l j) v:=by unfold gapAt tickN18;rw [HVV.out]
  obtain⟨w0,w1⟩:=wtAt_ok HOK.out.wt hj
  have HTK:=xhd (fun x2 V=>lpticks (wtAt g.l j) (vAt g.l j) x2 v (vAtW HOK.out.v j) HVW.out w0 w1 V)
  rw [hgt] at hgr
  unfold gapSt at hs
  rw [hgt] at hs
  obtain⟨q,hq⟩:∃q,pre.foldl (gapSt g.l p) 0=q:=⟨_,rfl⟩
  have HQQ:=xhd hq
  have hs:(pre++[(j:Int)]).foldl (gapSt g.l p) 0=q+tickN18 (wtAt g.l j) (vAt g.l j) v:=by rw [←hq];exact hs
  rw [hq] at c2 hgf
  obtain⟨x0,hx0⟩:∃x,wtAt g.l j=x:=⟨_,rfl⟩
  obtain⟨x1,hx1⟩:∃x,vAt g.l j=x:=⟨_,rfl⟩
  obtain⟨x2,hx2⟩:∃x,g.l[j].2.2.1=x:=⟨_,rfl⟩
  rw [hx0] at r0 HTK hs hgr
  rw [hx1] at r1 HTK hs hgr
  rw [hx2] at r2
  have HTK:=xhd (fun V=>HTK.out x2 V)
  obtain⟨k,hk⟩:∃k,tickN18 x0 x1 v=k:=⟨_,rfl⟩
  rw [hk] at hs hgr HTK
  have hwq:IntKind.u64.wrap (q+k)=q+k:=by rw [IntKind.wrap_u64];omega
  have HI1:=xhd hI1
  have HI2:=xhd hI2
  have HS:=xhd hs
  rw [hpa] at c0
  have i0:(0:Int)≤j:=by omega
  have i1:(j:Int) < g.l.length:=by omega
  obtain⟨m,hm⟩:∃m,g.l.length=m:=⟨_,rfl⟩
  rw [hm] at i1 q0
  have HTL:=xhd (show 0 ∉ [w.heap.size,Wv.heap.size,Wv.heap.size+1] by have:=HLT.out;simp only [List.mem_cons,List.not_mem_nil,or_false];omega)
  have HYL:=xhd (show ∀k ∈ [0],k < W.heap.size by intro k hk;rw [List.mem_singleton] at hk;subst hk;have:=hI1.z;have:=HT1.out.lt;omega)
  clear hI1 hI2 hsp hs hq hm hj hgf hlen hgr hgt w0 w1 hx0 hx1 hx2 hk hpa
  gi_wp2_with fail
  have hmix:Tryd.prog.follows .mixedOrders=true:=by kernel_rfl
  refine wpRound_lastF (fun V=>V.cell? ⟨w.heap.size,0,none⟩=some (.pointer (some ⟨b,0,none⟩))∧V.cell? ⟨Wv.heap.size,0,none⟩=some (.int .u64 v)∧V.cell? ⟨Wv.heap.size+1,0,none⟩=some (.int .u64 q)∧V.cell? ⟨b,0,none⟩=some (.slice (some ⟨r,0,none⟩) m cap)∧V.cell? ⟨r,j*3,none⟩=some (.int .i64 x0)∧V.cell? ⟨r,j*3+1,none⟩=some (.int .u64 x1)∧V.cell? ⟨r,j*3+2,none⟩=some (.int .i64 x2)) 11 (by kernel_rfl) ?_ hmix ⟨c0,c1,c2,q0,r0,r1,r2⟩ (fun hS0=>?_)
  ·rintro ⟨_,_,h⟩;exact h
  refine wpAnyF_take (i:=0) (v:=?_) rfl (by kernel_rfl) (by kernel_rfl) (fun _ _ _ h=>h) (by kernel_rfl) (by kernel_rfl) (by kernel_rfl) (Or.inl ⟨by rfl,?hy⟩) (by assumption) ?_
  case hy=>
   intro w hSw
   (try dsimp only at hSw)
   obtain⟨s0,s1,s2,s3,s4,s5,s6⟩:=hSw
   go_simp
   try with_reducible rfl
  try simp only [xga];try simp only [xgs];try simp only [xgz];try simp only [Act.put];try simp only [xsa];try simp only [xss];try simp only [xsz]
  refine wpAnyF_take (i:=1) (v:=?_) rfl (by kernel_rfl) (by kernel_rfl) (fun _ _ _ h=>h) (by kernel_rfl) (by kernel_rfl) (by kernel_rfl) (Or.inl ⟨by rfl,?hy⟩) (by assumption) ?_
  case hy=>
   intro w hSw
   (try dsimp only at hSw)
   obtain⟨s0,s1,s2,s3,s4,s5,s6⟩:=hSw
   go_simp
   try with_reducible rfl
  try simp only [xga];try simp only [xgs];try simp only [xgz];try simp only [Act.put];try simp only [xsa];try simp only [xss];try simp only [xsz]
  refine wpAnyF_free (i:=2) (v:=?_) rfl (by kernel_rfl) (by decide) (fun _ _ _ h=>h) (by kernel_rfl) (by kernel_rfl) (Or.inl ⟨by rfl,?hy⟩) (by assumption) ?_
  case hy=>
   intro w _
   go_simp
   try with_reducible rfl
  try simp only [xga];try simp only [xgs];try simp only [xgz];try simp only [Act.put];try simp only [xsa];try simp only [xss];try simp only [xsz]
  refine wpAnyF_free (i:=3) (v:=?_) rfl (by kernel_rfl) (by decide) (fun _ _ _ h=>h) (by kernel_rfl) (by kernel_rfl) (Or.inl ⟨by rfl,?hy⟩) (by assumption) ?_
  case hy=>
   intro w _
   go_simp
   try with_reducible rfl
  try simp only [xga];try simp only [xgs];try simp only [xgz];try simp only [Act.put];try simp only [xsa];try simp only [xss];try simp only [xsz]
  refine wpAnyF_take (i:=4) (v:=?_) rfl (by kernel_rfl) (by kernel_rfl) (fun _ _ _ h=>h) (by kernel_rfl) (by kernel_rfl) (by kernel_rfl) (Or.inl ⟨by rfl,?hy⟩) (by assumption) ?_
  case hy=>
   intro w hSw
   (try dsimp only at hSw)
   obtain⟨s0,s1,s2,s3,s4,s5,s6⟩:=hSw
   go_simp
   try with_reducible rfl
  try simp only [xga];try simp only [xgs];try simp only [xgz];try simp only [Act.put];try simp only [xsa];try simp only [xss];try simp only [xsz]
  refine wpAnyF_free (i:=5) (v:=?_) rfl (by kernel_rfl) (by decide) (fun _ _ _ h=>h) (by kernel_rfl) (by kernel_rfl) (Or.inl ⟨by rfl,?hy⟩) (by assumption) ?_
  case hy=>
   intro w _
   go_simp
   try with_reducible rfl
  try simp only [xga];try simp only [xgs];try simp only [xgz];try simp only [Act.put];try simp only [xsa];try simp only [xss];try simp only [xsz]
  refine wpAnyF_free (i:=6) (v:=?_) rfl (by kernel_rfl) (by decide) (fun _ _ _ h=>h) (by kernel_rfl) (by kernel_rfl) (Or.inl ⟨by rfl,?hy⟩) (by assumption) ?_
  case hy=>
   intro w _
   go_simp
   try with_reducible rfl
  try simp only [xga];try simp only [xgs];try simp only [xgz];try simp only [Act.put];try simp only [xsa];try simp only [xss];try simp only [xsz]
  refine wpAnyF_take (i:=7) (v:=?_) rfl (by kernel_rfl) (by kernel_rfl) (fun _ _ _ h=>h) (by kernel_rfl) (by kernel_rfl) (by kernel_rfl) (Or.inl ⟨by rfl,?hy⟩) (by assumption) ?_
  case hy=>
   intro w hSw
   (try dsimp only at hSw)
   obtain⟨s0,s1,s2,s3,s4,s5,s6⟩:=hSw
   go_simp
   try with_reducible rfl
  try simp only [xga];try simp only [xgs];try simp only [xgz];try simp only [Act.put];try simp only [xsa];try simp only [xss];try simp only [xsz]
  refine wpAnyF_take (i:=8) (v:=?_) rfl (by kernel_rfl) (by kernel_rfl) (fun _ _ _ h=>h) (by kernel_rfl) (by kernel_rfl) (by kernel_rfl) (Or.inl ⟨by rfl,?hy⟩) (by assumption) ?_
  case hy=>
   intro w hSw
   (try dsimp only at hSw)
   obtain⟨s0,s1,s2,s3,s4,s5,s6⟩:=hSw
   go_simp
   try with_reducible rfl
  try simp only [xga];try simp only [xgs];try simp only [xgz];try simp only [Act.put];try simp only [xsa];try simp only [xss];try simp only [xsz]
  refine wpAnyF_ready (rs:=[9]) (by kernel_rfl) (by simp) ?_
  refine ReadyF.cons rfl (fun K' hK=>?_) ReadyF.nil
  go_simp
  with_reducible refine (HTK.out _).mono ?_
  rintro e w4 ⟨rfl,t4⟩
  have T4:=xhd ((Turned.refl [] W).drew.trans' t4 (by simp))
  have S4:(fun V:World=>V.cell? ⟨w.heap.size,0,none⟩=some (.pointer (some ⟨b,0,none⟩))∧V.cell? ⟨Wv.heap.size,0,none⟩=some (.int .u64 v)∧V.cell? ⟨Wv.heap.size+1,0,none⟩=some (.int .u64 q)∧V.cell? ⟨b,0,none⟩=some (.slice (some ⟨r,0,none⟩) m cap)∧V.cell? ⟨r,j*3,none⟩=some (.int .i64 x0)∧V.cell? ⟨r,j*3+1,none⟩=some (.int .u64 x1)∧V.cell? ⟨r,j*3+2,none⟩=some (.int .i64 x2)) w4:=⟨cell_kept T4.out c0,cell_kept T4.out c1,cell_kept T4.out c2,cell_kept T4.out q0,cell_kept T4.out r0,cell_kept T4.out r1,cell_kept T4.out r2⟩
  have f4:=(HI2.out.later0 T4.out).one (i:=1) rfl
  have f5:=f4.2
  clear f4 t4
  go_wp2_with fail
  refine hK.out _ _ (.inr ?_) ?_
  ·exact S4
  clear hK K'
  try simp only [xga];try simp only [xgs];try simp only [xgz];try simp only [Act.put];try simp only [xsa];try simp only [xss];try simp only [xsz]
  refine wpAnyF_free (i:=10) (v:=?_) rfl (by kernel_rfl) (by decide) (fun _ _ _ h=>h) (by kernel_rfl) (by kernel_rfl) (Or.inl ⟨by rfl,?hy⟩) (by assumption) ?_
  case hy=>
   intro w _
   go_simp
   try with_reducible rfl
  try simp only [xga];try simp only [xgs];try simp only [xgz];try simp only [Act.put];try simp only [xsa];try simp only [xss];try simp only [xsz]
  refine wpAnyF_ready (rs:=[11]) (by kernel_rfl) (by simp) ?_
  refine ReadyF.cons rfl (fun K' hK=>?_) ReadyF.nil
  go_simp
  refine hK.out _ _ (.inl (by kernel_rfl)) ?_
  clear hK K'
  try simp only [xga];try simp only [xgs];try simp only [xgz];try simp only [Act.put];try simp only [xsa];try simp only [xss];try simp only [xsz]
  refine wpAnyF_done (by kernel_rfl) ?_ _
  try simp only [xga];try simp only [xgs];try simp only [xgz];try simp only [Act.put];try simp only [xsa];try simp only [xss];try simp only [xsz]
  refine⟨(keepsFrom_turned T4.out (by simp)).trans ((KeepsOthers.setCell _ _ _).from _),(sameAt_turned T4.out (fun k hk=>⟨HYL.out k hk,by simp⟩)).trans (sameAt_set ?_),?_,?_⟩
  ·have:=HTL.out
   simp only [List.mem_cons,List.not_mem_nil,or_false] at this ⊢
   omega
  ·exact (HI1.out.later0 T4.out).other _ (by simp only [List.length_cons,List.length_nil];omega)
  ·show BoxL [] Wv _ _ [(.int .u64 v,30),(.int .u64 ((pre++[(j:Int)]).foldl (gapSt g.l p) 0),30)]
   rw [HS.out]
   exact (HI2.out.later0 T4.out).set (i:=1) (by rw [HQQ.out];rfl)
 case done=>
  rintro D xs W hD rfl ⟨hI1,hI2⟩ hK
  have hgf:=HGF.out (listN T) (fun q hq=>by
   obtain⟨k,e,hk,_⟩:=HLI.out _ hq
   exact⟨k,e,hk⟩)
  have hlen:=HLEN.out
  rw [HS0.out] at hI2 hgf
  obtain⟨c2,f2⟩:=hI2.one (i:=1) rfl
  obtain⟨k,hk⟩:∃k,g.behind p S=k:=⟨_,rfl⟩
  rw [hk] at c2 hgf
  have HKK:=xhd hk
  have hw:IntKind.i64.wrap k=k:=by rw [IntKind.wrap_i64];omega
  have HI:=xhd hI1
  have HKD:=xhd hK
  clear hI1 hI2 hK hk hgf hlen
  go_wp2
  refine⟨by simp, .inl ⟨_,_,rfl,run_takeDeferred HKD.out,?_⟩⟩
  exact⟨_,results_tmp rfl _ _ _,by rw [HKK.out];rfl,HI.out.t.put (by omega) _⟩
 case stop=>
  rintro D c xs W _ _ h _
  exact h.elim
end
end Go.Proofs.YtcgjbllmoglhfaaDoor
namespace Go.Proofs.YtcgjbllmoglhfaaDoor
open Go.RowKit
structure LgNil (G:World→Prop):Prop where
 settle:∀w,G w→Calls Tryd.prog 11 #[.pointer none, .int .u64 1] w fun e w'=>e= .returned (.tuple #[])∧Turned [] w w'
 charge:∀w,G w→Calls Tryd.prog 9 #[.pointer none, .int .i64 0] w fun e w'=>e= .returned (.bool false)∧Turned [] w w'
 weigh:∀w,G w→Calls Tryd.prog 13 #[.pointer none, .int .i64 0, .int .i64 1] w fun e w'=>e= .returned (.bool false)∧Turned [] w w'
 least:∀w,G w→Calls Tryd.prog 19 #[.pointer none, .int .u64 1] w fun e w'=>e= .returned (.int .i64 (-1))∧Turned [] w w'
 vv:∀w,G w→Calls Tryd.prog 24 #[.pointer none, .int .i64 0] w fun e w'=>e= .returned (.int .u64 0)∧Turned [] w w'
 held:∀w,G w→Calls Tryd.prog 25 #[.pointer none, .int .i64 0] w fun e w'=>e= .returned (.int .i64 0)∧Turned [] w w'
 weight:∀w,G w→Calls Tryd.prog 26 #[.pointer none, .int .i64 0] w fun e w'=>e= .returned (.int .i64 0)∧Turned [] w w'
 floor:∀w,G w→Calls Tryd.prog 15 #[.pointer none] w fun e w'=>e= .returned (.int .u64 0)∧Turned [] w w'
 active:∀w,G w→Calls Tryd.prog 16 #[.pointer none] w fun e w'=>e= .returned (.int .u64 0)∧Turned [] w w'
 len:∀w,G w→Calls Tryd.prog 18 #[.pointer none] w fun e w'=>e= .returned (.int .i64 0)∧Turned [] w w'
 behind:∀w,G w→Calls Tryd.prog 21 #[.pointer none, .int .i64 0, .int .u64 1] w fun e w'=>e= .returned (.int .i64 0)∧Turned [] w w'
def LgBx (C:LgSaid) (w W:World) (b z:Nat) (bx:Obj) (g:Lg):Prop:=C.Good w∧∃X,C.At W b X g∧Turned [] w W∧(∀k ∈ X,w.heap.size≤k)∧W.heap[z]?=some bx∧z ∉ X
section
variable {C:LgSaid} {w V W W':World} {b d z:Nat} {bx:Obj} {g g' m m':Lg} {n:Int} {X X' X1:List Nat}
theorem LgBx.t (h:LgBx C w W b z bx g):Turned [] w W:=by
 obtain⟨_,_,_,t,_⟩:=h
 exact t
theorem LgBx.good (h:LgBx C w W b z bx g):C.Good W:=C.good h.1 h.t
theorem LgBx.box (h:LgBx C w W b z bx g):W.heap[z]?=some bx:=by
 obtain⟨_,_,_,_,_,h,_⟩:=h
 exact h
theorem LgBx.later (h:LgBx C w W b z bx g) (t:Turned [] W W'):LgBx C w W' b z bx g:=by
 obtain⟨hg,X,a,t0,n1,hz,z1⟩:=h
 exact⟨hg,X,C.keep a t (by simp),t0.also18 t,n1,t.same hz (by simp),z1⟩
theorem LgBx.boxed (h:LgBx C w W b z bx g) {y:Nat} {by_:Obj} (t:Turned [] W W') (hy:W'.heap[y]?=some by_) (hyz:W.heap.size≤y):LgBx C w W' b y by_ g:=by
 obtain⟨hg,X,a,t0,n1,hz,z1⟩:=h
 exact⟨hg,X,C.keep a t (by simp),t0.also18 t,n1,hy,fun hx=>by have:=C.lt a _ hx;omega⟩
theorem LgBx.start {V0 V1:World} (hg:C.Good w) (t0:Turned [] w V0) (hb:V0.heap[z]?=some bx) (a:LgOn C V0 V1 b g):LgBx C w V1 b z bx g:=by
 obtain⟨_,X,h1,t1,n1⟩:=a
 have s0:=t0.size
 have hz:=lt_of_heap18 hb
 exact⟨hg,X,h1,t0.also18 t1,fun k hk=>by have:=n1 k hk;omega,t1.same hb (by simp),fun hx=>by have:=n1 _ hx;omega⟩
theorem LgOn.boxed {y:Nat} {by_:Obj} (h:LgOn C w W b g) (t:Turned [] W W') (hy:W'.heap[y]?=some by_) (hyz:W.heap.size≤y):LgBx C w W' b y by_ g:=by
 obtain⟨hg,X,a,t0,n1⟩:=h
 exact⟨hg,X,C.keep a t (by simp),t0.also18 t,n1,hy,fun hx=>by have:=C.lt a _ hx;omega⟩
theorem LgBx.on (h:LgBx C w W b z bx g):LgOn C w W b g:=by
 obtain⟨hg,X,a,t0,n1,_,_⟩:=h
 exact⟨hg,X,a,t0,n1⟩
theorem lb_charge (h:LgBx C w W b z bx g) (hc:LgOk g n) (h1:n≤10000) (p:Int) (i0:isJ p):Calls Tryd.prog 9 #[.pointer (some ⟨b,0,none⟩), .int .i64 p] W fun e w'=>e= .returned (.bool (isP g p))∧LgBx C w w' b z bx (g.charge p):=by
 have hgd:=h.good
 obtain⟨hg,X,a,t0,n1,hz,z1⟩:=h
 refine (C.charge p a hc h1 hgd i0).mono fun e w' hh=>?_
 obtain⟨e1,X',a',t',n'⟩:=hh
 have s0:=t0.size
 have hzl:=lt_of_heap18 hz
 refine⟨e1,hg,X',a',t0.trans t' (fun k hk=> .inr (n1 k hk)),fun k hk=>?_,t'.same hz z1,fun hx=>?_⟩
 ·rcases n' k hk with h|h
  ·exact n1 k h
  ·omega
 ·rcases n' _ hx with h|h
  ·exact z1 h
  ·omega
theorem lb_settle (h:LgBx C w W b z bx g) (hc:LgOk g n) (h1:n≤10000) (S:Nat) (i0:S < 18446744073709551616):Calls Tryd.prog 11 #[.pointer (some ⟨b,0,none⟩), .int .u64 (S:Int)] W fun e w'=>e= .returned (.tuple #[])∧LgBx C w w' b z bx (g.settle S):=by
 have hgd:=h.good
 obtain⟨hg,X,a,t0,n1,hz,z1⟩:=h
 refine (C.settle S a hc h1 hgd i0).mono fun e w' hh=>?_
 obtain⟨e1,X',a',t',n'⟩:=hh
 have s0:=t0.size
 have hzl:=lt_of_heap18 hz
 refine⟨e1,hg,X',a',t0.trans t' (fun k hk=> .inr (n1 k hk)),fun k hk=>?_,t'.same hz z1,fun hx=>?_⟩
 ·rcases n' k hk with h|h
  ·exact n1 k h
  ·omega
 ·rcases n' _ hx with h|h
  ·exact z1 h
  ·omega
theorem lb_weigh (h:LgBx C w W b z bx g) (hc:LgOk g n) (h1:n≤10000) (p wt:Int) (i0:isJ p) (i1:isJ wt):Calls Tryd.prog 13 #[.pointer (some ⟨b,0,none⟩), .int .i64 p, .int .i64 wt] W fun e w'=>e= .returned (.bool (isP g p))∧LgBx C w w' b z bx (g.weigh p wt):=by
 have hgd:=h.good
 obtain⟨hg,X,a,t0,n1,hz,z1⟩:=h
 refine (C.weigh p wt a hc h1 hgd i0 i1).mono fun e w' hh=>?_
 obtain⟨e1,X',a',t',n'⟩:=hh
 have s0:=t0.size
 have hzl:=lt_of_heap18 hz
 refine⟨e1,hg,X',a',t0.trans t' (fun k hk=> .inr (n1 k hk)),fun k hk=>?_,t'.same hz z1,fun hx=>?_⟩
 ·rcases n' k hk with h|h
  ·exact n1 k h
  ·omega
 ·rcases n' _ hx with h|h
  ·exact z1 h
  ·omega
theorem rb_least (h:LgOn C w W b g) (hc:LgOk g n) (h1:n≤10000) (S:Nat) (i0:S < 18446744073709551616) (V:World) (t:Turned [] W V):Calls Tryd.prog 19 #[.pointer (some ⟨b,0,none⟩), .int .u64 (S:Int)] V fun e w'=>e= .returned (.int .i64 (g.least S))∧Turned [] W w':=by
 have hgd:=(h.later t).good
 obtain⟨hg,X,a,t0,n1⟩:=h.later t
 exact (C.least S a hc h1 hgd i0).mono fun e w' hh=>⟨hh.1,t.also18 hh.2⟩
theorem rb_vv (h:LgOn C w W b g) (hc:LgOk g n) (h1:n≤10000) (p:Int) (i0:isJ p) (V:World) (t:Turned [] W V):Calls Tryd.prog 24 #[.pointer (some ⟨b,0,none⟩), .int .i64 p] V fun e w'=>e= .returned (.int .u64 (vAt g.l p))∧Turned [] W w':=by
 have hgd:=(h.later t).good
 obtain⟨hg,X,a,t0,n1⟩:=h.later t
 exact (C.vv p a hc h1 hgd i0).mono fun e w' hh=>⟨hh.1,t.also18 hh.2⟩
theorem rb_floor (h:LgOn C w W b g) (hc:LgOk g n) (h1:n≤10000) (V:World) (t:Turned [] W V):Calls Tryd.prog 15 #[.pointer (some ⟨b,0,none⟩)] V fun e w'=>e= .returned (.int .u64 g.f)∧Turned [] W w':=by
 have hgd:=(h.later t).good
 obtain⟨hg,X,a,t0,n1⟩:=h.later t
 exact (C.floor a hc h1 hgd).mono fun e w' hh=>⟨hh.1,t.also18 hh.2⟩
theorem rb_len (h:LgOn C w W b g) (hc:LgOk g n) (h1:n≤10000) (V:World) (t:Turned [] W V):Calls Tryd.prog 18 #[.pointer (some ⟨b,0,none⟩)] V fun e w'=>e= .returned (.int .i64 (g.l.length:Nat))∧Turned [] W w':=by
 have hgd:=(h.later t).good
 obtain⟨hg,X,a,t0,n1⟩:=h.later t
 exact (C.len a hc h1 hgd).mono fun e w' hh=>⟨hh.1,t.also18 hh.2⟩
theorem rb_behind (h:LgOn C w W b g) (hc:LgOk g n) (h1:n≤10000) (p:Int) (S:Nat) (i0:isJ p) (i1:S < 18446744073709551616) (V:World) (t:Turned [] W V):Calls Tryd.prog 21 #[.pointer (some ⟨b,0,none⟩), .int .i64 p, .int .u64 (S:Int)] V fun e w'=>e= .returned (.int .i64 (g.behind p S))∧Turned [] W w':=by
 have hgd:=(h.later t).good
 obtain⟨hg,X,a,t0,n1⟩:=h.later t
 exact (C.behind p S a hc h1 hgd i0 i1).mono fun e w' hh=>⟨hh.1,t.also18 hh.2⟩
end
end Go.Proofs.YtcgjbllmoglhfaaDoor
namespace Go.Proofs.YtcgjbllmoglhfaaDoor
open Go.RowKit
attribute [local go_sem ↓] run_min_un run_max_un
theorem infoPq:(Tryd.prog.info? tPq).map (fun i=>(i.zero,i.size,i.bytes))=some (some (.agg #[.int .i64 0, .int .u64 0, .int .i64 0]),3,24):=by kernel_rfl
theorem three_new18 (W:World) (x y z:Value) (t:TypeId):∀(j:Nat) (v:Value),[x,y,z][j]?=some v→(W.alloc (.cells #[x,y,z] t)).cell? ((⟨W.heap.size,0,none⟩:Addr).add j)=some v:=by
 intro j v hj
 match j,hj with
 |0,hj=>simp at hj;subst hj;simp [Addr.add]
 |1,hj=>simp at hj;subst hj;simp [Addr.add]
 |2,hj=>simp at hj;subst hj;simp [Addr.add]
theorem LpQ.more {w w4 W5:World} {b i cap cap5 aa:Nat} {a a5:Option Addr} {X:List Nat} {l:List Pty} {x:Pty} {s c f:Int} (h:LpQ w b X l s c f aa) (hi:l.length=i) (hc:w.cell? ⟨b,0,none⟩=some (.slice a i cap))
  (t4:Turned [] w w4) (own5:W5.ownsRow 0 tPq 3 (.slice a5 (i+1) cap5) (i+1) (cellsOf encPp l++encPp x))
  (grow5:(w4.alloc (.cells (encPp x).toArray tPq)).grownBy W5 (Value.slice a i cap).ownBlock)
  (new5:∀g ∈ (Value.slice a5 (i+1) cap5).ownBlock.toList,g ∈ (Value.slice a i cap).ownBlock.toList∨(w4.alloc (.cells (encPp x).toArray tPq)).heap.size≤g):
  W5.cell? ⟨b,0,none⟩=some (.slice a i cap)∧W5.frozen? ⟨b,0,none⟩=false∧∃X1,LpQ (W5.setCell ⟨b,0,none⟩ (.slice a5 (i+1) cap5)) b X1 (l++[x]) s c f aa∧
   Turned X w (W5.setCell ⟨b,0,none⟩ (.slice a5 (i+1) cap5))∧Newer X w.heap.size X1:=by
 obtain⟨v,h1,h2,h3⟩:=h
 have hv:v= .slice a i cap:=by
  have:w.cell? ⟨b,0,none⟩=some v:=by simp [World.cell?,h1]
  rw [hc] at this
  exact (Option.some.inj this).symm
 subst hv
 have tw:Turned [] w (w4.alloc (.cells (encPp x).toArray tPq)):=t4.alloc _
 have e1:cellsOf encPp l++encPp x=cellsOf encPp (l++[x]):=by rw [cellsOf_snoc]
 have e2:i+1=(l++[x]).length:=by simp [hi]
 have R:=LAt.appended (W:=w) (W2:=w4.alloc (.cells (encPp x).toArray tPq)) (W1:=W5) (tS:=tLp) (tE:=tPq) (k:=3) (enc:=encPp) (cs:=fun v=> #[v, .int .u64 (aa:Int), .int .u64 f, .int .i64 s, .int .i64 c]) (v:= .slice a i cap) (i:=0) (v':= .slice a5 (i+1) cap5) (M:=l++[x]) (by decide) rfl h1 h2 tw grow5 (by rw [←e1, ←e2];exact own5) new5
 obtain⟨r1,r2,r3,r4⟩:=R
 rw [←h3] at r3 r4
 exact⟨by simp [World.cell?,r1],frozen_of_row W5 b 0 _ _ r1,_,r2,r3,r4⟩
theorem new_active (E:Nat→Int):∀i k,actTo (newTo E i) k=0
 |_,0=>rfl
 |i,k+1=>by
  unfold actTo
  rw [new_active E i k]
  cases hx:(newTo E i)[k]? with
  |none=>rfl
  |some x=>
   obtain⟨j,_,rfl⟩:=List.mem_map.1 (List.mem_iff_getElem?.2 ⟨k,hx⟩)
   rfl
theorem lpnew (ao:Option Addr) (lb off n cpw:Nat) (E:Nat→Int) (s c:Int) (w:World) (hao:0 < n→ao=some ⟨lb,off,none⟩) (hE:∀i,i < n→w.cell? ⟨lb,off+i,none⟩=some (.int .i64 (E i))) (hm:n≤maxLen) (hnc:n≤cpw):
  Calls Tryd.prog 7 #[.slice ao n cpw, .int .i64 s, .int .i64 c] w fun e w'=>∃b X,e= .returned (.pointer (some ⟨b,0,none⟩))∧LpAt w' b X (Lg.new ((List.range n).map E) s c)∧Turned [] w w'∧∀k ∈ X,w.heap.size≤k:=by
 have HNA:=xhd (new_active E)
 unfold LpAt
 rw [new_of]
 unfold maxLen at hm
 have HBR0:=xhd (fun q V=>lpwithin q 32 (by decide) V)
 have HBR1:=xhd (fun q V=>lpwithin q 16 (by decide) V)
 obtain⟨ii,hi,hz0,hz1,hz2⟩:=info_parts infoPq
 obtain⟨m,hmm⟩:∃m:Nat,min n 8=m:=⟨_,rfl⟩
 have hm8:m≤8∧m≤n:=by omega
 have hmc:m≤cpw:=by omega
 have hmin:min (n:Int) 8=m:=by omega
 have HM:=xhd hmm
 rw [hmm]
 clear hmm
 obtain⟨s1,hs1⟩:∃q,bringR s 1 32=q:=⟨_,rfl⟩
 obtain⟨c1,hc1⟩:∃q,bringR c 1 32=q:=⟨_,rfl⟩
 have HB1:=xhd (fun V=>HBR0.out s V)
 have HB2:=xhd (fun V=>HBR0.out c V)
 rw [hs1] at HB1 ⊢
 rw [hc1] at HB2 ⊢
 have h0:LpQ (w.alloc (.cells #[.slice none 0 0, .int .u64 0, .int .u64 0, .int .i64 s1, .int .i64 c1] tLp)) w.heap.size [w.heap.size] (newTo E 0) s1 c1 0 0:=
  ⟨.slice none 0 0,heap_alloc_new w _,World.ownsRow_nil _ _ _ _,rfl⟩
 have H0:=xhd h0
 have HT0:=xhd ((Turned.refl [] w).alloc (.cells #[.slice none 0 0, .int .u64 0, .int .u64 0, .int .i64 s1, .int .i64 c1] tLp))
 have HE:=xhd hE
 clear h0 hs1 hc1 hE HBR0
 go_enter Tryd.func7,Tryd.ntmps7
 go_wp2_with fail
 with_reducible refine (HB1.out _).mono ?_
 rintro e w1 ⟨rfl,hw⟩
 obtain rfl:=hw.symm
 go_wp2_with fail
 with_reducible refine (HB2.out _).mono ?_
 rintro e w1 ⟨rfl,hw⟩
 obtain rfl:=hw.symm
 go_wp2
 obtain⟨b,hb⟩:∃b,w.heap.size=b:=⟨_,rfl⟩
 rw [hb] at H0 ⊢
 have HB0:=xhd hb
 clear hb
 go_loopw [22] (fun iv V=>∃(i:Nat) (X:List Nat),i≤m∧iv= .int .i64 i∧Hid (LpQ V b X (newTo E i) s1 c1 0 0)∧Hid (Turned [] w V)∧Hid (∀k ∈ X,b≤k)) (fun iv _=>m - (intOf iv).toNat)
 case atStart=>exact⟨0,_,Nat.zero_le _,rfl,H0,HT0,xhd (fun k hk=>by simp at hk;omega)⟩
 case round=>
  clear H0 HT0
  obtain⟨i,X,him,rfl,HR,HT,HK⟩:=hrel
  by_cases hlt:i < m
  ·have i1:(i:Int) < m:=by omega
   have i3:(0:Int)≤i:=by omega
   obtain⟨a,cap,c0,u1,u2,u3,u4,u5,u6,u7⟩:=HR.out.rows
   clear u1 u2 u3 u4 u5 u6 u7
   rw [newTo_len] at c0
   have hE1:=HE.out i (by omega)
   have ce:wr.cell? ⟨lb,off+i,none⟩=some (.int .i64 (E i)):=((HT.out.below (by simp) (Nat.le_refl _)).cell (World.block_lt_of_cell? w _ hE1)).trans hE1
   have hao2:=hao (by omega)
   obtain⟨ei,hei⟩:∃ei,E i=ei:=⟨_,rfl⟩
   obtain⟨u,hu⟩:∃u,bringR ei 1 16=u:=⟨_,rfl⟩
   have HBR:=xhd (fun V=>HBR1.out ei V)
   rw [hu] at HBR
   rw [hei] at ce
   have hns:newTo E (i+1)=newTo E i++[(u,0,0,false)]:=by rw [newTo_succ,hei,hu]
   have HO4:Hid (∀w4,Turned [] wr w4→(w4.alloc (.cells #[.int .i64 u, .int .u64 0, .int .i64 0] tPq)).ownsRow 0 tPq 3 (.slice a i cap) i (cellsOf encPp (newTo E i))∧True):=by
    obtain⟨v,h1,h2,h3⟩:=HR.out
    have hv:v= .slice a i cap:=by
     have:wr.cell? ⟨b,0,none⟩=some v:=by simp [World.cell?,h1]
     rw [c0] at this
     exact (Option.some.inj this).symm
    subst hv
    rw [newTo_len] at h2
    exact xhd fun w4 t4=>⟨(ownsRow_same h2 fun g _ hl=>t4.block g hl (by simp)).alloc _,trivial⟩
   have HAP:=xhd (fun (w4:World) (t4:Turned [] wr w4) (a5:Option Addr) (cap5:Nat) (W5:World) (own5:W5.ownsRow 0 tPq 3 (.slice a5 (i+1) cap5) (i+1) (cellsOf encPp (newTo E i)++encPp (u,0,0,false))) (grow5:(w4.alloc (.cells (encPp (u,0,0,false)).toArray tPq)).grownBy W5 (Value.slice a i cap).ownBlock) (new5:∀g ∈ (Value.slice a5 (i+1) cap5).ownBlock.toList,g ∈ (Value.slice a i cap).ownBlock.toList∨(w4.alloc (.cells (encPp (u,0,0,false)).toArray tPq)).heap.size≤g)=>HR.out.more (newTo_len E i) c0 t4 own5 grow5 new5)
   have HLT:=xhd hlt
   clear hlt hE1 hu hei
   subst hao2
   go_wp2_with fail
   have hmix:Tryd.prog.follows .mixedOrders=true:=by kernel_rfl
   refine wp_region_noPanic ?_
   refine wp_region_lastF (fun V=>V.cell? ⟨b,0,none⟩=some (.slice a i cap)) 12 hmix c0 (fun hS0=>?_)
   refine wpAnyF_free (i:=0) (v:=?_) rfl (by kernel_rfl) (by decide) (fun _ _ _ h=>h) (by kernel_rfl) (by kernel_rfl) (Or.inl ⟨by rfl,?hy⟩) (by assumption) ?_
   case hy=>
    intro w _
    go_simp
    try with_reducible rfl
   try simp only [xga];try simp only [xgs];try simp only [xgz];try simp only [Act.put];try simp only [xsa];try simp only [xss];try simp only [xsz]
   refine wpAnyF_free (i:=1) (v:=?_) rfl (by kernel_rfl) (by decide) (fun _ _ _ h=>h) (by kernel_rfl) (by kernel_rfl) (Or.inl ⟨by rfl,?hy⟩) (by assumption) ?_
   case hy=>
    intro w _
    go_simp
    try with_reducible rfl
   try simp only [xga];try simp only [xgs];try simp only [xgz];try simp only [Act.put];try simp only [xsa];try simp only [xss];try simp only [xsz]
   refine wpAnyF_free (i:=2) (v:=?_) rfl (by kernel_rfl) (by decide) (fun _ _ _ h=>h) (by kernel_rfl) (by kernel_rfl) (Or.inl ⟨by rfl,?hy⟩) (by assumption) ?_
   case hy=>
    intro w _
    go_simp
    try with_reducible rfl
   try simp only [xga];try simp only [xgs];try simp only [xgz];try simp only [Act.put];try simp only [xsa];try simp only [xss];try simp only [xsz]
   refine wpAnyF_free (i:=3) (v:=?_) rfl (by kernel_rfl) (by decide) (fun _ _ _ h=>h) (by kernel_rfl) (by kernel_rfl) (Or.inl ⟨by rfl,?hy⟩) (by assumption) ?_
   case hy=>
    intro w _
    go_simp
    try with_reducible rfl
   try simp only [xga];try simp only [xgs];try simp only [xgz];try simp only [Act.put];try simp only [xsa];try simp only [xss];try simp only [xsz]
   refine wpAnyF_take (i:=4) (v:=?_) rfl (by kernel_rfl) (by kernel_rfl) (fun _ _ _ h=>h) (by kernel_rfl) (by kernel_rfl) (by kernel_rfl) (Or.inl ⟨by rfl,?hy⟩) (by assumption) ?_
   case hy=>
    intro w hSw
    (try dsimp only at hSw)
    have s0:=hSw
    go_simp
    try with_reducible rfl
   try simp only [xga];try simp only [xgs];try simp only [xgz];try simp only [Act.put];try simp only [xsa];try simp only [xss];try simp only [xsz]
   refine wpAnyF_free (i:=5) (v:=?_) rfl (by kernel_rfl) (by decide) (fun _ _ _ h=>h) (by kernel_rfl) (by kernel_rfl) (Or.inl ⟨by rfl,?hy⟩) (by assumption) ?_
   case hy=>
    intro w _
    go_simp
    try with_reducible rfl
   try simp only [xga];try simp only [xgs];try simp only [xgz];try simp only [Act.put];try simp only [xsa];try simp only [xss];try simp only [xsz]
   refine wpAnyF_ready (rs:=[6]) (by kernel_rfl) (by simp) ?_
   refine ReadyF.cons rfl (fun K' hK=>?_) ReadyF.nil
   go_simp
   with_reducible refine (HBR.out _).mono ?_
   rintro e w4 ⟨rfl,hw⟩
   have T4:Hid (Turned [] wr w4):=xhd (by rw [hw];exact (Turned.refl [] wr).drew)
   have c4:w4.cell? ⟨b,0,none⟩=some (.slice a i cap):=by rw [hw];exact c0
   clear hw c0
   go_wp2_with fail
   refine hK.out _ _ (.inr ?_) ?_
   ·exact c4
   clear hK K'
   try simp only [xga];try simp only [xgs];try simp only [xgz];try simp only [Act.put];try simp only [xsa];try simp only [xss];try simp only [xsz]
   refine wpAnyF_free (i:=7) (v:=?_) rfl (by kernel_rfl) (by decide) (fun _ _ _ h=>h) (by kernel_rfl) (by kernel_rfl) (Or.inl ⟨by rfl,?hy⟩) (by assumption) ?_
   case hy=>
    intro w _
    go_simp
    try with_reducible rfl
   try simp only [xga];try simp only [xgs];try simp only [xgz];try simp only [Act.put];try simp only [xsa];try simp only [xss];try simp only [xsz]
   refine wpAnyF_ready (rs:=[8]) (by kernel_rfl) (by simp) ?_
   refine ReadyF.cons rfl (fun K' hK=>?_) ReadyF.nil
   go_simp
   refine hK.out _ _ (.inr ?_) ?_
   ·exact (World.cell?_alloc_old _ _ _ (Nat.ne_of_lt (World.block_lt_of_cell? _ _ c4))).trans c4
   clear hK K'
   try simp only [xga];try simp only [xgs];try simp only [xgz];try simp only [Act.put];try simp only [xsa];try simp only [xss];try simp only [xsz]
   refine wpAnyF_ready (rs:=[9]) (by kernel_rfl) (by simp) ?_
   refine ReadyF.cons rfl (fun K' hK=>?_) ReadyF.nil
   refine wp_append_any _ _ _ 50 rfl tPq ii (.agg #[.int .i64 0, .int .u64 0, .int .i64 0]) 3 24 Tryd.underlying50 hi hz0 hz1 hz2 rfl (by decide) (.slice a i cap) i _ rfl (HO4.out w4 T4.out).1 (some ⟨w4.heap.size,0,none⟩) 1 1 [.int .i64 u, .int .u64 0, .int .i64 0] rfl rfl (by intro h;cases h) (by intro ad had;cases had;exact three_new18 _ _ _ _ _) (by intro y hy;simp at hy;rcases hy with rfl|rfl|rfl<;>rfl) (by unfold maxLen;omega) (by omega) ?_
   intro a5 cap5 W5 own5 grow5 new5
   have HE5:=xhd (HAP.out w4 T4.out a5 cap5 W5 own5 grow5 new5)
   clear own5 grow5 new5
   refine hK.out _ _ (.inr ?_) ?_
   ·exact HE5.out.1
   clear hK K'
   have c5:=HE5.out.1
   have f5:=HE5.out.2.1
   try simp only [xga];try simp only [xgs];try simp only [xgz];try simp only [Act.put];try simp only [xsa];try simp only [xss];try simp only [xsz]
   refine wpAnyF_free (i:=10) (v:=?_) rfl (by kernel_rfl) (by decide) (fun _ _ _ h=>h) (by kernel_rfl) (by kernel_rfl) (Or.inl ⟨by rfl,?hy⟩) (by assumption) ?_
   case hy=>
    intro w _
    go_simp
    try with_reducible rfl
   try simp only [xga];try simp only [xgs];try simp only [xgz];try simp only [Act.put];try simp only [xsa];try simp only [xss];try simp only [xsz]
   refine wpAnyF_free (i:=11) (v:=?_) rfl (by kernel_rfl) (by decide) (fun _ _ _ h=>h) (by kernel_rfl) (by kernel_rfl) (Or.inl ⟨by rfl,?hy⟩) (by assumption) ?_
   case hy=>
    intro w _
    go_simp
    try with_reducible rfl
   try simp only [xga];try simp only [xgs];try simp only [xgz];try simp only [Act.put];try simp only [xsa];try simp only [xss];try simp only [xsz]
   refine wpAnyF_ready (rs:=[12]) (by kernel_rfl) (by simp) ?_
   refine ReadyF.cons rfl (fun K' hK=>?_) ReadyF.nil
   go_simp
   refine hK.out _ _ (.inl (by kernel_rfl)) ?_
   clear hK K'
   try simp only [xga];try simp only [xgs];try simp only [xgz];try simp only [Act.put];try simp only [xsa];try simp only [xss];try simp only [xsz]
   refine wpAnyF_done (by kernel_rfl) ?_ _
   refine NoPanic.normal ?_
   try simp only [xga];try simp only [xgs];try simp only [xgz];try simp only [Act.put];try simp only [xsa];try simp only [xss];try simp only [xsz]
   obtain⟨_,_,X1,r17,t17,n17⟩:=HE5.out
   have hw1:=HT.out.size
   have hwb:=HB0.out
   have R6:Hid (LpQ (W5.setCell ⟨b,0,none⟩ (.slice a5 (i+1) cap5)) b X1 (newTo E (i+1)) s1 c1 0 0):=xhd (by rw [hns];exact r17)
   have T6:=xhd (HT.out.trans t17 fun k hk=> .inr (by have:=HK.out k hk;omega))
   have K6:Hid (∀k ∈ X1,b≤k):=xhd fun k hk=>by
    rcases n17 k hk with e'|e'
    ·exact HK.out k e'
    ·omega
   clear r17 t17 n17 hw1 hwb HE5 HAP HO4 hns
   go_wp2
   go_roundw
   case rel=>exact⟨i+1,_,by have:=HLT.out;omega,by go_num,R6,T6,K6⟩
   case measure=>have:=HLT.out;simp [intOf];omega
  ·have hik:i=m:=by omega
   subst hik
   have d3:¬(i:Int) < i:=by omega
   clear hlt hm8 hmc hmin
   go_wp2
   go_ret
   rw [HB0.out]
   refine⟨b,rfl,X,?_,HT.out,HK.out⟩
   show LpQ _ b X (newTo E i) s1 c1 0 (actTo (newTo E i) (newTo E i).length)
   rw [HNA.out]
   exact HR.out
end Go.Proofs.YtcgjbllmoglhfaaDoor
namespace Go.Proofs.YtcgjbllmoglhfaaDoor
open Go.RowKit
theorem same_turned {w w':World} (h:w'=w):Turned [] w w':=h ▸ Turned.refl _ _
def lgSaid:LgSaid where
 At:=LpAt
 Good:=TabOk
 good:=fun h t=>h.turned t (by simp)
 keep:=fun h t hd=>LpQ.keep h t hd
 lt:=fun h=>LpQ.lt h
 new:=fun ao lb off n cap E s c w _ hao hE _ hm hnc _ _ _=>lpnew ao lb off n cap E s c w hao hE hm hnc
 charge:=fun p h ho hn _ _=>(lpcharge h ho hn p).mono fun _ _ hh=>⟨hh.1,_,hh.2.1,hh.2.2,Newer.refl _ _⟩
 settle:=fun S h ho _ hg hS=>(lpsettle h ho hg S hS).mono fun _ _ hh=>⟨hh.1,_,hh.2.1,hh.2.2,Newer.refl _ _⟩
 weigh:=fun p wt h ho _ _ _ _=>(lpweigh h ho p wt).mono fun _ _ hh=>⟨hh.1,_,hh.2.1,hh.2.2,Newer.refl _ _⟩
 weight:=fun p h ho _ _ _=>lpweight (LpQ.v h ho.len) p
 least:=fun S h ho _ hg hS=>lpleast (LpQ.v h ho.len) hg S hS
 vv:=fun p h ho _ _ _=>lpv (LpQ.v h ho.len) p
 held:=fun p h ho _ _ _=>lpheld (LpQ.v h ho.len) p
 floor:=fun h _ _ _=>(lpfloor h).mono fun _ _ hh=>⟨hh.1,same_turned hh.2⟩
 active:=fun h _ _ _=>(lpactive h).mono fun _ _ hh=>⟨hh.1,same_turned hh.2⟩
 len:=fun h _ _ _=>(lplen h).mono fun _ _ hh=>⟨hh.1,same_turned hh.2⟩
 behind:=fun p S h ho _ hg _ hS=>lpbehind (LpQ.v h ho.len) ho hg p S hS
theorem lpfloor_nil (w:World):Calls Tryd.prog 15 #[.pointer none] w fun e w'=>e= .returned (.int .u64 0)∧w'=w:=by
 go_enter Tryd.func15,Tryd.ntmps15
 go_wp2
 go_ret
 exact⟨rfl,rfl⟩
theorem lpactive_nil (w:World):Calls Tryd.prog 16 #[.pointer none] w fun e w'=>e= .returned (.int .u64 0)∧w'=w:=by
 go_enter Tryd.func16,Tryd.ntmps16
 go_wp2
 go_ret
 exact⟨rfl,rfl⟩
theorem none_ok:LgOk ⟨[],1,1,0⟩ 0:=⟨by simp,by simp,by simp,by simp,by decide,by decide,word_zero⟩
theorem lgNil:LgNil lgSaid.Good where
 settle:=fun w _=>lpsettle_nil 1 w
 charge:=fun w _=>lpcharge_nil 0 w
 weigh:=fun w _=>lpweigh_nil 0 1 w
 least:=fun w hg=>lpleast (LpV.nil w) hg 1 (by decide)
 vv:=fun w _=>lpv (LpV.nil w) 0
 held:=fun w _=>lpheld (LpV.nil w) 0
 weight:=fun w _=>lpweight (LpV.nil w) 0
 floor:=fun w _=>(lpfloor_nil w).mono fun _ _ hh=>⟨hh.1,same_turned hh.2⟩
 active:=fun w _=>(lpactive_nil w).mono fun _ _ hh=>⟨hh.1,same_turned hh.2⟩
 len:=fun w _=>(lplen_nil w).mono fun _ _ hh=>⟨hh.1,same_turned hh.2⟩
 behind:=fun w hg=>lpbehind (g:=⟨[],1,1,0⟩) (LpV.nil w) none_ok hg 0 1 (by decide)
end Go.Proofs.YtcgjbllmoglhfaaDoor
