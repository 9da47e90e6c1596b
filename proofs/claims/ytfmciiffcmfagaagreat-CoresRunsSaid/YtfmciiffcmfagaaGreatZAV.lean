/-
  The program's queue: Tick, Pick. (Made by gen_rptick.py.)
  The program's queue: Pick.
  Pointers to tasks: the same, or others.
  The program's queue: Remove. (Made by gen_rpremove.py.)
-/
import Derived.Test.YtfmciiffcmfagaaGreatZAU
import Derived.LaidEqlPtr
import Derived.Test.YtfmciiffcmfagaaGreatZAl
set_option maxRecDepth 100000
set_option maxHeartbeats 25600000
namespace Go.Proofs.YtfmciiffcmfagaaGreat
open Go.RowKit
section
variable {w w':World} {b bt br:Nat} {q q':Rq} {T R R':Tr Nat} {B:Int→Nat} {r r' c:Int} {X Y:List Nat}
theorem RpI.task (h:RpI w b q bt br T R B r) {x y:Tk} (hx:x ∈ q.l) (hy:y.1=x.1) (hl:q'.l=q.l.map fun z=>if z.1=x.1 then y else z) (ht:Turned [b,br,B x.1] w w') (h0:w'.heap[b]?=some (.cells (quC q' bt br (curP B q') r') tQu (0,0)))
  (hk:w'.heap[B x.1]?=some (.cells (tkC y) tTk (0,0))) (h2:TAt w' br 16 R') (hr:HasR B q'.ready R') (rn:0≤q'.cur→r'=q'.ran):RpI w' b q' bt br T R' B r':=by
 have hid:∀z:Tk,(if z.1=x.1 then y else z).1=z.1:=fun z=>by
  by_cases e:z.1=x.1
  ·rw [if_pos e,hy,e]
  ·rw [if_neg e]
 have hn:KeepsN w w':=keepsN_of ht fun k hk=>h.kinds k (by
  simp at hk
  rcases hk with rfl|rfl|rfl
  ·exact mem_blocksQ.2 (.inl rfl)
  ·exact mem_blocksQ.2 (.inr (.inr (.inl rfl)))
  ·exact mem_blocksQ.2 (.inr (.inr (.inr ⟨x,hx,rfl⟩))))
 refine⟨h0,h.h1.keep ht (by simp;exact⟨fun e=>h.nbt e.symm,h.ne,fun e=>h.nkt hx e.symm⟩) hn,h2,by rw [hl];exact h.ht.same _ hid,hr,fun z hz=>?_,fun z hz u hu e=>?_,rn,h.ne⟩
 ·rw [hl] at hz
  obtain⟨v,hv,rfl⟩:=List.mem_map.1 hz
  by_cases e:v.1=x.1
  ·rw [if_pos e,hy]
   exact hk
  ·rw [if_neg e]
   exact ht.same (h.k v hv) (by simp;exact⟨h.nkb hv,h.nkr hv,fun e2=>e (h.inj v hv x hx e2)⟩)
 ·rw [hl] at hz hu
  obtain⟨v,hv,rfl⟩:=List.mem_map.1 hz
  obtain⟨v2,hv2,rfl⟩:=List.mem_map.1 hu
  simp only [hid] at e ⊢
  exact h.inj v hv v2 hv2 e
theorem RpI.mem3 (h:RpI w b q bt br T R B r) {x:Tk} (hx:x ∈ q.l):∀k ∈ ([b,br,B x.1]:List Nat),k ∈ blocksQ b bt br B q.l:=fun k hk=>by
 simp at hk
 rcases hk with rfl|rfl|rfl
 ·exact mem_blocksQ.2 (.inl rfl)
 ·exact mem_blocksQ.2 (.inr (.inr (.inl rfl)))
 ·exact mem_blocksQ.2 (.inr (.inr (.inr ⟨x,hx,rfl⟩)))
theorem tick_l (hq:QOk q c) (h0:0≤q.cur) {x:Tk} (hx:x ∈ q.l) (e:x.1=q.cur):q.tick= { q with l:=q.l.map (fun z=>if z.1=x.1 then (x.1,satV (x.2.1+coreR x.2.2),x.2.2) else z),ran:=q.ran+1 } :=by
 rw [Rq.tick,if_pos h0]
 congr 1
 refine List.map_congr_left fun z hz=>?_
 rw [tickT, ←e]
 by_cases e2:z.1=x.1
 ·rw [if_pos e2,if_pos e2,findQ_one hq.uniq hz hx e2]
 ·rw [if_neg e2,if_neg e2]
theorem ready_map {L:List Tk} {x y:Tk} (hy:y.1=x.1) (cu:Int):(L.map fun z=>if z.1=x.1 then y else z).filter (fun z=>decide (z.1≠cu))=(L.filter fun z=>decide (z.1≠cu)).map fun z=>if z.1=x.1 then y else z:=by
 rw [List.filter_map]
 congr 1
 refine List.filter_congr fun z _=>?_
 have hz:(if z.1=x.1 then y else z).1=z.1:=by
  by_cases e:z.1=x.1
  ·rw [if_pos e,hy,e]
  ·rw [if_neg e]
 simp only [Function.comp,hz]
theorem map_off {L:List Tk} {x y:Tk} (h:∀z ∈ L,z.1≠x.1):(L.map fun z=>if z.1=x.1 then y else z)=L:=by
 conv=>rhs;rw [←List.map_id L]
 exact List.map_congr_left fun z hz=>by rw [if_neg (h z hz)];rfl
theorem rpTick (h:RpI w b q bt br T R B r) (hq:QOk q c) (hc:c≤10000):Calls Tryz.prog 25 #[.pointer (some ⟨b,0,none⟩)] w fun e w'=>e= .returned (.tuple #[.int .i64 q.cur, .bool (decide (0≤q.cur))])∧(∃r',RpI w' b q.tick bt br T R B r')∧∃Y,(∀k ∈ Y,k ∈ blocksQ b bt br B q.l)∧Turned Y w w':=by
 have HR:=xhd (rpRunning h)
 by_cases h0:0≤q.cur
 ·obtain⟨x,hx,e1,e2⟩:=curP_some hq h0 B
  rw [e2] at HR
  have hM:=h.mem3 hx
  have htl:=tick_l hq h0 hx e1
  have hv:=hq.v x hx
  have hrr:=h.rn h0
  have hcore:Word (coreR x.2.2):=by
   have:=core_range x.2.2
   exact⟨by omega,by omega⟩
  obtain⟨⟨k0,k1,k2⟩,kfz⟩:=cells3k ((Turned.refl [] w).drew.same (h.k x hx) (by simp))
  have kf:=kfz 0
  obtain⟨W1,hW1⟩:∃W1,w.drew.setCell ⟨B x.1,0,none⟩ (.int .u64 (satV (x.2.1+coreR x.2.2)))=W1:=⟨_,rfl⟩
  have T1:Turned [B x.1] w W1:=hW1 ▸ ((Turned.refl [B x.1] w).drew).setCell (.inl (by simp)) _
  have K1:W1.heap[B x.1]?=some (.cells (tkC (x.1,satV (x.2.1+coreR x.2.2),x.2.2)) tTk (0,0)):=by
   rw [←hW1,heap_setCell_same _ _ _ _ _ _ ((Turned.refl [] w).drew.same (h.k x hx) (by simp))]
   rfl
  have B1:=T1.same h.h0 (by simp;exact fun e=>h.nkb hx e.symm)
  obtain⟨⟨c0,c1,c2,c3,c4,c5⟩,hfz⟩:=cells6 B1
  have f5:=hfz 5
  rw [hrr] at c5
  have hw1:IntKind.i64.wrap (q.ran+1)=q.ran+1:=by
   have:=hq.ran
   rw [IntKind.wrap_i64];omega
  have HFIN:Hid (RpI (W1.setCell ⟨b,5,none⟩ (.int .i64 (q.ran+1))) b q.tick bt br T R B (q.ran+1)∧Turned [b,br,B x.1] w (W1.setCell ⟨b,5,none⟩ (.int .i64 (q.ran+1)))):=xhd (by
   have t2:Turned [b,br,B x.1] w (W1.setCell ⟨b,5,none⟩ (.int .i64 (q.ran+1))):=(T1.mono (X:=[b,br,B x.1]) (fun k hk=> .inl (by simp at hk;simp [hk]))).setCell (.inl (by simp)) _
   have hb2:(W1.setCell ⟨b,5,none⟩ (.int .i64 (q.ran+1))).heap[b]?=some (.cells (quC q.tick bt br (curP B q.tick) (q.ran+1)) tQu (0,0)):=by
    rw [heap_setCell_same _ _ _ _ _ _ B1,htl]
    rfl
   have t3:Turned [b,B x.1] w (W1.setCell ⟨b,5,none⟩ (.int .i64 (q.ran+1))):=(T1.mono (X:=[b,B x.1]) (fun k hk=> .inl (by simp at hk;simp [hk]))).setCell (.inl (by simp)) _
   have n3:=keepsN_of t2 fun k hk=>h.kinds k (hM k hk)
   refine⟨h.task (y:=(x.1,satV (x.2.1+coreR x.2.2),x.2.2)) hx rfl (by rw [htl]) t2 hb2 ?_ (h.h2.keep t3 (by simp;exact⟨fun e=>h.nbr e.symm,fun e=>h.nkr hx e.symm⟩) n3) ?_ (fun _=>by rw [htl]),t2⟩
   ·exact (Below.heap_setCell _ _ _ _ (by simp;exact h.nkb hx)).trans K1
   ·rw [htl]
    show HasR B ((q.l.map fun z=>if z.1=x.1 then (x.1,satV (x.2.1+coreR x.2.2),x.2.2) else z).filter fun z=>decide (z.1≠q.cur)) R
    rw [ready_map (x:=x) (y:=(x.1,satV (x.2.1+coreR x.2.2),x.2.2)) rfl,map_off]
    ·exact h.hr
    ·intro z hz
     rw [e1]
     exact (ready_sub hz).2)
  have HC:=xhd (fun V=>ucore_any x.2.2 V)
  have HA:=xhd (fun V=>(add_any x.2.1 (coreR x.2.2) hv hcore V).mono (R':=fun e V'=>e= .returned (.tuple #[.int .u64 (satV (x.2.1+coreR x.2.2)), .int .i64 (satE (x.2.1+coreR x.2.2))])∧V'=V) (fun e V' h=>⟨h.1,h.2.symm⟩))
  have k1b:W1.cell? ⟨B x.1,1,none⟩=some (.int .i64 x.1):=(cells3k K1).1.2.1
  have hne:¬B x.1=b:=h.nkb hx
  rw [show decide (0≤q.cur)=true by simpa using h0, ←e1]
  have HM:=xhd hM
  obtain⟨x1,x2,x3⟩:=x
  simp only at HFIN HR HC HA k0 k1 k2 kf k1b hne hW1 HM ⊢
  obtain⟨kx,hkx⟩:∃kx,B x1=kx:=⟨_,rfl⟩
  rw [hkx] at HFIN HR k0 k1 k2 kf k1b hne hW1 HM
  obtain⟨z,hz⟩:∃z,satV (x2+coreR x3)=z:=⟨_,rfl⟩
  rw [hz] at HA hW1
  obtain⟨z3,hz3⟩:∃z3,coreR x3=z3:=⟨_,rfl⟩
  rw [hz3] at HA HC
  have hne2:¬b=kx:=fun e=>hne e.symm
  clear h hq hc h0 e1 e2 hx hM htl hv hrr hcore kfz T1 K1 B1 hfz c0 c1 c2 c3 c4 hz hz3 hkx
  go_enter Tryz.func25,Tryz.ntmps25
  go_wp2_with fail
  with_reducible refine HR.out.mono ?_
  rintro e V ⟨rfl,rfl⟩
  go_wp2_with fail
  have hmix:Tryz.prog.follows .mixedOrders=true:=by kernel_rfl
  refine wp_region_noPanic ?_
  refine wp_region_lastF (fun V=>V.cell? ⟨kx,0,none⟩=some (.int .u64 x2)∧V.cell? ⟨kx,2,none⟩=some (.int .i64 x3)∧V.frozen? ⟨kx,0,none⟩=false) 18 hmix ⟨k0,k2,kf⟩ (fun hS0=>?_)
  refine wpAnyF_free (i:=0) (v:=?_) rfl (by kernel_rfl) (by decide) (fun _ _ _ h=>h) (by kernel_rfl) (by kernel_rfl) (Or.inl ⟨by rfl,?hy⟩) (by assumption) ?_
  case hy=>
   intro w _
   go_simp
   try with_reducible rfl
  try simp only [xga];try simp only [xgs];try simp only [xgz];try simp only [Act.put];try simp only [xsa];try simp only [xss];try simp only [xsz]
  refine wpAnyF_free (i:=1) (v:=?_) rfl (by kernel_rfl) (by decide) (fun _ _ _ h=>h) (by kernel_rfl) (by kernel_rfl) (Or.inl ⟨by rfl,?hy⟩) (by assumption) ?_
  case hy=>
   intro w _
   go_simp
   try with_reducible rfl
  try simp only [xga];try simp only [xgs];try simp only [xgz];try simp only [Act.put];try simp only [xsa];try simp only [xss];try simp only [xsz]
  refine wpAnyF_free (i:=2) (v:=?_) rfl (by kernel_rfl) (by decide) (fun _ _ _ h=>h) (by kernel_rfl) (by kernel_rfl) (Or.inl ⟨by rfl,?hy⟩) (by assumption) ?_
  case hy=>
   intro w _
   go_simp
   try with_reducible rfl
  try simp only [xga];try simp only [xgs];try simp only [xgz];try simp only [Act.put];try simp only [xsa];try simp only [xss];try simp only [xsz]
  refine wpAnyF_free (i:=3) (v:=?_) rfl (by kernel_rfl) (by decide) (fun _ _ _ h=>h) (by kernel_rfl) (by kernel_rfl) (Or.inl ⟨by rfl,?hy⟩) (by assumption) ?_
  case hy=>
   intro w _
   go_simp
   try with_reducible rfl
  try simp only [xga];try simp only [xgs];try simp only [xgz];try simp only [Act.put];try simp only [xsa];try simp only [xss];try simp only [xsz]
  refine wpAnyF_free (i:=4) (v:=?_) rfl (by kernel_rfl) (by decide) (fun _ _ _ h=>h) (by kernel_rfl) (by kernel_rfl) (Or.inl ⟨by rfl,?hy⟩) (by assumption) ?_
  case hy=>
   intro w _
   go_simp
   try with_reducible rfl
  try simp only [xga];try simp only [xgs];try simp only [xgz];try simp only [Act.put];try simp only [xsa];try simp only [xss];try simp only [xsz]
  refine wpAnyF_free (i:=6) (v:=?_) rfl (by kernel_rfl) (by decide) (fun _ _ _ h=>h) (by kernel_rfl) (by kernel_rfl) (Or.inl ⟨by rfl,?hy⟩) (by assumption) ?_
  case hy=>
   intro w _
   go_simp
   try with_reducible rfl
  try simp only [xga];try simp only [xgs];try simp only [xgz];try simp only [Act.put];try simp only [xsa];try simp only [xss];try simp only [xsz]
  refine wpAnyF_free (i:=7) (v:=?_) rfl (by kernel_rfl) (by decide) (fun _ _ _ h=>h) (by kernel_rfl) (by kernel_rfl) (Or.inl ⟨by rfl,?hy⟩) (by assumption) ?_
  case hy=>
   intro w _
   go_simp
   try with_reducible rfl
  try simp only [xga];try simp only [xgs];try simp only [xgz];try simp only [Act.put];try simp only [xsa];try simp only [xss];try simp only [xsz]
  refine wpAnyF_free (i:=8) (v:=?_) rfl (by kernel_rfl) (by decide) (fun _ _ _ h=>h) (by kernel_rfl) (by kernel_rfl) (Or.inl ⟨by rfl,?hy⟩) (by assumption) ?_
  case hy=>
   intro w _
   go_simp
   try with_reducible rfl
  try simp only [xga];try simp only [xgs];try simp only [xgz];try simp only [Act.put];try simp only [xsa];try simp only [xss];try simp only [xsz]
  refine wpAnyF_take (i:=5) (v:=?_) rfl (by kernel_rfl) (by kernel_rfl) (fun _ _ _ h=>h) (by kernel_rfl) (by kernel_rfl) (by kernel_rfl) (Or.inl ⟨by rfl,?hy⟩) (by assumption) ?_
  case hy=>
   intro w hSw
   (try dsimp only at hSw)
   obtain⟨s0,s1,s2⟩:=hSw
   go_simp
   try with_reducible rfl
  try simp only [xga];try simp only [xgs];try simp only [xgz];try simp only [Act.put];try simp only [xsa];try simp only [xss];try simp only [xsz]
  refine wpAnyF_take (i:=9) (v:=?_) rfl (by kernel_rfl) (by kernel_rfl) (fun _ _ _ h=>h) (by kernel_rfl) (by kernel_rfl) (by kernel_rfl) (Or.inl ⟨by rfl,?hy⟩) (by assumption) ?_
  case hy=>
   intro w hSw
   (try dsimp only at hSw)
   obtain⟨s0,s1,s2⟩:=hSw
   go_simp
   try with_reducible rfl
  try simp only [xga];try simp only [xgs];try simp only [xgz];try simp only [Act.put];try simp only [xsa];try simp only [xss];try simp only [xsz]
  refine wpAnyF_ready (rs:=[10]) (by kernel_rfl) (by simp) ?_
  refine ReadyF.cons rfl (fun K' hK=>?_) ReadyF.nil
  go_simp
  with_reducible refine (HC.out _).mono ?_
  rintro e V ⟨rfl,rfl⟩
  go_wp2_with fail
  refine hK.out _ _ (.inr ?_) ?_
  ·exact hS0
  clear hK K'
  try simp only [xga];try simp only [xgs];try simp only [xgz];try simp only [Act.put];try simp only [xsa];try simp only [xss];try simp only [xsz]
  refine wpAnyF_ready (rs:=[11]) (by kernel_rfl) (by simp) ?_
  refine ReadyF.cons rfl (fun K' hK=>?_) ReadyF.nil
  go_simp
  with_reducible refine (HA.out _).mono ?_
  rintro e V ⟨rfl,rfl⟩
  go_wp2_with fail
  refine hK.out _ _ (.inr ?_) ?_
  ·exact hS0
  clear hK K'
  try simp only [xga];try simp only [xgs];try simp only [xgz];try simp only [Act.put];try simp only [xsa];try simp only [xss];try simp only [xsz]
  refine wpAnyF_free (i:=12) (v:=?_) rfl (by kernel_rfl) (by decide) (fun _ _ _ h=>h) (by kernel_rfl) (by kernel_rfl) (Or.inl ⟨by rfl,?hy⟩) (by assumption) ?_
  case hy=>
   intro w _
   go_simp
   try with_reducible rfl
  try simp only [xga];try simp only [xgs];try simp only [xgz];try simp only [Act.put];try simp only [xsa];try simp only [xss];try simp only [xsz]
  refine wpAnyF_free (i:=13) (v:=?_) rfl (by kernel_rfl) (by decide) (fun _ _ _ h=>h) (by kernel_rfl) (by kernel_rfl) (Or.inl ⟨by rfl,?hy⟩) (by assumption) ?_
  case hy=>
   intro w _
   go_simp
   try with_reducible rfl
  try simp only [xga];try simp only [xgs];try simp only [xgz];try simp only [Act.put];try simp only [xsa];try simp only [xss];try simp only [xsz]
  refine wpAnyF_free (i:=14) (v:=?_) rfl (by kernel_rfl) (by decide) (fun _ _ _ h=>h) (by kernel_rfl) (by kernel_rfl) (Or.inl ⟨by rfl,?hy⟩) (by assumption) ?_
  case hy=>
   intro w _
   go_simp
   try with_reducible rfl
  try simp only [xga];try simp only [xgs];try simp only [xgz];try simp only [Act.put];try simp only [xsa];try simp only [xss];try simp only [xsz]
  refine wpAnyF_free (i:=15) (v:=?_) rfl (by kernel_rfl) (by decide) (fun _ _ _ h=>h) (by kernel_rfl) (by kernel_rfl) (Or.inl ⟨by rfl,?hy⟩) (by assumption) ?_
  case hy=>
   intro w _
   go_simp
   try with_reducible rfl
  try simp only [xga];try simp only [xgs];try simp only [xgz];try simp only [Act.put];try simp only [xsa];try simp only [xss];try simp only [xsz]
  refine wpAnyF_free (i:=16) (v:=?_) rfl (by kernel_rfl) (by decide) (fun _ _ _ h=>h) (by kernel_rfl) (by kernel_rfl) (Or.inl ⟨by rfl,?hy⟩) (by assumption) ?_
  case hy=>
   intro w _
   go_simp
   try with_reducible rfl
  try simp only [xga];try simp only [xgs];try simp only [xgz];try simp only [Act.put];try simp only [xsa];try simp only [xss];try simp only [xsz]
  refine wpAnyF_free (i:=17) (v:=?_) rfl (by kernel_rfl) (by decide) (fun _ _ _ h=>h) (by kernel_rfl) (by kernel_rfl) (Or.inl ⟨by rfl,?hy⟩) (by assumption) ?_
  case hy=>
   intro w _
   go_simp
   try with_reducible rfl
  try simp only [xga];try simp only [xgs];try simp only [xgz];try simp only [Act.put];try simp only [xsa];try simp only [xss];try simp only [xsz]
  refine wpAnyF_ready (rs:=[18]) (by kernel_rfl) (by simp) ?_
  refine ReadyF.cons rfl (fun K' hK=>?_) ReadyF.nil
  go_simp
  refine hK.out _ _ (.inl (by kernel_rfl)) ?_
  clear hK K'
  try simp only [xga];try simp only [xgs];try simp only [xgz];try simp only [Act.put];try simp only [xsa];try simp only [xss];try simp only [xsz]
  refine wpAnyF_done (by kernel_rfl) ?_ _
  refine NoPanic.normal ?_
  try simp only [xga];try simp only [xgs];try simp only [xgz];try simp only [Act.put];try simp only [xsa];try simp only [xss];try simp only [xsz]
  (try rw [hW1])
  go_wp2
  go_ret2
  exact⟨rfl,⟨_,HFIN.out.1⟩,_,HM.out,HFIN.out.2⟩
 ·rw [curP_none h0 B] at HR
  obtain⟨i1,i2⟩:=hq.idle (by omega)
  have hb:q.tick=q:=by rw [Rq.tick,if_neg h0]
  rw [show decide (0≤q.cur)=false by simpa using h0,hb,i1]
  have H:=xhd h
  clear h hq h0 i1 i2 hb
  go_enter Tryz.func25,Tryz.ntmps25
  go_wp2_with fail
  with_reducible refine HR.out.mono ?_
  rintro e V ⟨rfl,rfl⟩
  go_wp2
  go_ret2
  exact⟨rfl,⟨r,H.out⟩,[],by simp,Turned.refl _ _⟩
end
end Go.Proofs.YtfmciiffcmfagaaGreat
namespace Go.Proofs.YtfmciiffcmfagaaGreat
open Go.RowKit
section
variable {w w':World} {b bt br:Nat} {q q':Rq} {T R R':Tr Nat} {B:Int→Nat} {r r' c:Int} {X Y:List Nat}
theorem rppick_l (hq:QOk q c) (h0:¬0≤q.cur) {y:Tk} {ys:List Tk} (hs:sortQ q.ready=y::ys):pickV q=y.1∧q.pick= { q with cur:=y.1,ran:=0 } ∧y ∈ q.l∧q.ready=q.l:=by
 have hl:leastQ q.ready=some y:=by rw [←sort_head (ready_nodup hq.uniq),hs];rfl
 refine⟨by rw [pickV,if_neg h0,hl],by rw [Rq.pick,if_neg h0,hl],(ready_sub (head_least hs).1).1,List.filter_eq_self.2 fun z hz=>?_⟩
 have:=hq.ids z hz
 simp
 omega
theorem rpPick (h:RpI w b q bt br T R B r) (hq:QOk q c):Calls Tryz.prog 21 #[.pointer (some ⟨b,0,none⟩)] w fun e w'=>e= .returned (.tuple #[.int .i64 (pickV q), .bool (decide (0≤pickV q))])∧(∃R' r',RpI w' b q.pick bt br T R' B r')∧Turned [b,br] w w':=by
 obtain⟨⟨c0,c1,c2,c3,c4,c5⟩,hfz⟩:=cells6 h.h0
 by_cases h0:0≤q.cur
 ·have e1:pickV q= -1:=by rw [pickV,if_pos h0]
  have e2:q.pick=q:=by rw [Rq.pick,if_pos h0]
  rw [curP,if_pos h0] at c4
  rw [e1,e2]
  have H:=xhd h
  clear h hq h0 e1 e2 hfz c0 c1 c2 c3 c5
  go_enter Tryz.func21,Tryz.ntmps21
  go_wp2
  go_ret2
  exact⟨rfl,⟨R,r,H.out⟩,Turned.refl _ _⟩
 ·have HF:=xhd (h.first hq)
  rw [curP_none h0 B] at c4
  rw [fstR] at HF
  cases hs:sortQ q.ready with
  |nil=>
   obtain⟨e1,e2⟩:=pick_none hq.uniq hs
   rw [hs] at HF
   simp only at HF
   rw [e1,e2]
   have H:=xhd h
   clear h hq h0 e1 e2 hfz c0 c1 c2 c5 hs
   go_enter Tryz.func21,Tryz.ntmps21
   go_wp2_with fail
   with_reducible refine HF.out.mono ?_
   rintro e V ⟨rfl,t⟩
   have HT:=xhd (t.alloc (.cells #[.int .u64 0, .int .i64 0] tKy))
   clear t
   go_wp2
   go_ret2
   exact⟨rfl,⟨R,r,H.out.later HT.out⟩,HT.out.mono (fun k hk=>by simp at hk)⟩
  |cons y ys=>
   obtain⟨e1,e2,hy,e3⟩:=rppick_l hq h0 hs
   have hy0:=hq.ids y hy
   rw [hs] at HF
   simp only at HF
   rw [e1,show decide (0≤y.1)=true by simpa using hy0]
   have hyr:y ∈ q.ready:=by rw [e3];exact hy
   have HST:Hid (∀V,Turned [] w V→b < V.heap.size∧V.cell? ⟨b,3,none⟩=some (.pointer (some ⟨br,0,none⟩))∧TAt V br 16 R):=xhd fun V tV=>⟨Nat.lt_of_lt_of_le (lt_of_block h.h0) tV.size,(cells6 (tV.same h.h0 (by simp))).1.2.2.2.1,h.h2.later tV⟩
   have HL:=xhd (h.len hq).2
   have HMID:Hid (∀V V2,Turned [] w V→Turned [br] V V2→V2.cell? ⟨b,4,none⟩=some (.pointer none)∧V2.cell? ⟨b,5,none⟩=some (.int .i64 r)∧V2.frozen? ⟨b,4,none⟩=false∧V2.frozen? ⟨b,5,none⟩=false∧V2.cell? ⟨B y.1,1,none⟩=some (.int .i64 y.1)):=xhd fun V V2 t1 t2=>by
    have hb2:=t2.same (t1.same h.h0 (by simp)) (by simp;exact h.nbr)
    rw [curP_none h0 B] at hb2
    obtain⟨⟨_,_,_,_,d4,d5⟩,df⟩:=cells6 hb2
    exact⟨d4,d5,df 4,df 5,(cells3k (t2.same (t1.same (h.k y hy) (by simp)) (by simp;exact h.nkr hy))).1.2.1⟩
   have HFIN:Hid (∀V V2,Turned [] w V→TAt V2 br 16 (tdT R (y.2.1,y.1))→Turned [br] V V2→(∃R' r',RpI ((V2.setCell ⟨b,4,none⟩ (.pointer (some ⟨B y.1,0,none⟩))).setCell ⟨b,5,none⟩ (.int .i64 0)) b q.pick bt br T R' B r')∧Turned [b,br] w ((V2.setCell ⟨b,4,none⟩ (.pointer (some ⟨B y.1,0,none⟩))).setCell ⟨b,5,none⟩ (.int .i64 0))):=xhd fun V V2 t1 a2 t2=>by
    have t12:Turned [b,br] w V2:=(t1.mono (X:=[b,br]) (fun k hk=>by simp at hk)).trans t2 (fun k hk=> .inl (by simp at hk;simp [hk]))
    have t3:=(t12.setCell (p:=⟨b,4,none⟩) (.inl (by simp)) (.pointer (some ⟨B y.1,0,none⟩))).setCell (p:=⟨b,5,none⟩) (.inl (by simp)) (.int .i64 0)
    have ts:=((Turned.refl [b] V2).setCell (p:=⟨b,4,none⟩) (.inl (by simp)) (.pointer (some ⟨B y.1,0,none⟩))).setCell (p:=⟨b,5,none⟩) (.inl (by simp)) (.int .i64 0)
    have hb2:=t2.same (t1.same h.h0 (by simp)) (by simp;exact h.nbr)
    have hb3:((V2.setCell ⟨b,4,none⟩ (.pointer (some ⟨B y.1,0,none⟩))).setCell ⟨b,5,none⟩ (.int .i64 0)).heap[b]?=some (.cells (quC q.pick bt br (curP B q.pick) 0) tQu (0,0)):=by
     rw [heap_setCell_same _ _ _ _ _ _ (heap_setCell_same _ _ _ _ _ _ hb2),e2]
     rw [show curP B { q with cur:=y.1,ran:=0 } =some ⟨B y.1,0,none⟩ by simp [curP,hy0]]
     rfl
    have a3:=a2.keep ts (by simp;exact fun e=>h.nbr e.symm) (keepsN_of ts fun k hk=>by
     have e:k=b:=by simpa using hk
     rw [e]
     exact⟨_,_,hb2,by decide⟩)
    refine⟨⟨_,0,h.store (by rw [e2]) t3 hb3 a3 ?_ (fun _=>by rw [e2])⟩,t3⟩
    have hd:=h.hr.delete (ready_nodup hq.uniq) hyr
    rw [e3] at hd
    rw [e2]
    exact hd
   obtain⟨y1,y2,y3⟩:=y
   simp only at HF HMID HFIN ⊢
   have hn1:¬B y1=b:=h.nkb hy
   have hn2:¬b=B y1:=fun e=>hn1 e.symm
   obtain⟨ky,hky⟩:∃ky,B y1=ky:=⟨_,rfl⟩
   rw [hky] at HF HMID HFIN hn1 hn2
   clear h hq h0 e1 e2 e3 hfz c0 c1 c2 c5 hs hy hyr hy0 hky
   go_enter Tryz.func21,Tryz.ntmps21
   go_wp2_with fail
   with_reducible refine HF.out.mono ?_
   rintro e V ⟨rfl,t⟩
   obtain⟨W1,hW1⟩:∃W1,V.alloc (.cells #[.int .u64 y2, .int .i64 y1] tKy)=W1:=⟨_,rfl⟩
   have t1:Turned [] w W1:=hW1 ▸ t.alloc _
   have bk:=hW1 ▸ heap_alloc_new V (.cells #[.int .u64 y2, .int .i64 y1] tKy)
   have HW1:=xhd hW1
   obtain⟨D,hD⟩:∃D,W1.drew=D:=⟨_,rfl⟩
   have tD:Turned [] W1 D:=hD ▸ (Turned.refl [] W1).drew
   have bk2:=tD.same bk (by simp)
   have q0:D.cell? ⟨V.heap.size,0,none⟩=some (.int .u64 y2):=by simp [World.cell?,bk2]
   have q1:D.cell? ⟨V.heap.size,1,none⟩=some (.int .i64 y1):=by simp [World.cell?,bk2]
   obtain⟨_,g1,g2⟩:=HST.out D (t1.join tD)
   have HDL:=xhd (delete_any g2 y2 y1 HL.out)
   have HTD:=xhd (t1.join tD)
   clear t t1 tD bk bk2 g2 hW1
   go_wp2_with fail
   (try rw [HW1.out])
   refine wp_still_tail_at 5 hD (by kernel_rfl) (by kernel_rfl) ?_
   clear hD
   simp only [List.take_succ_cons,List.take_zero,List.drop_succ_cons,List.drop_zero]
   repeat still_step
   refine wpStill_nil ?_
   go_wp2_with fail
   with_reducible refine HDL.out.mono ?_
   rintro e V2 ⟨rfl,a2,t2⟩
   obtain⟨m1,m2,m3,m4,m5⟩:=HMID.out D V2 HTD.out t2
   have F:=xhd (HFIN.out D V2 HTD.out a2 t2)
   clear a2 t2 q0 q1 g1
   go_wp2
   go_ret2
   exact⟨rfl,F.out⟩
end
end Go.Proofs.YtfmciiffcmfagaaGreat
namespace Go.Proofs.YtfmciiffcmfagaaGreat
open Go.RowKit
theorem infoTkp:(Tryz.prog.info? tTk).map (fun i=>i.size)=some 3:=by kernel_rfl
theorem tk_info:∃j,Tryz.prog.info? tTk=some j∧j.size≠0:=by
 have h:=infoTkp
 rw [Option.map_eq_some_iff] at h
 obtain⟨j,hj,hs⟩:=h
 exact⟨j,hj,by omega⟩
theorem neq_of_eql {P:Program} {w:World} {t:TypeId} {x y:Option Addr} {c:Bool} (h:(binOp .eql t (.pointer x) (.pointer y)).run P w= .ok (.bool c) w):(binOp .neq t (.pointer x) (.pointer y)).run P w= .ok (.bool (!c)) w:=by
 simp only [binOp] at h ⊢
 simp only [Sem.run_bind] at h ⊢
 generalize (Op.equal t (.pointer x) (.pointer y)).run P w=r at h ⊢
 cases r with
 |ok z w'=>
  simp [Result.andThen] at h ⊢
  obtain⟨rfl,rfl⟩:=h
  exact⟨rfl,rfl⟩
 |halt z w'=>simp [Result.andThen] at h
theorem tp_same (a:Nat) (w:World):(binOp .eql tTp (.pointer (some ⟨a,0,none⟩)) (.pointer (some ⟨a,0,none⟩))).run Tryz.prog w= .ok (.bool true) w:=by
 obtain⟨j,hj,_⟩:=tk_info
 exact run_eql_ptr_same w _ Tryz.underlying80 hj
theorem tp_other {a b:Nat} {w:World} {ca cb:Array Value} (hne:a≠b) (ha:w.heap[a]?=some (.cells ca tTk (0,0))) (hb:w.heap[b]?=some (.cells cb tTk (0,0))):
  (binOp .eql tTp (.pointer (some ⟨a,0,none⟩)) (.pointer (some ⟨b,0,none⟩))).run Tryz.prog w= .ok (.bool false) w:=by
 obtain⟨j,hj,hs⟩:=tk_info
 exact run_eql_ptr_other w Tryz.underlying80 hj hs (fun e=>hne (by cases e;rfl)) ha hb
end Go.Proofs.YtfmciiffcmfagaaGreat
namespace Go.Proofs.YtfmciiffcmfagaaGreat
open Go.RowKit
section
variable {w w':World} {b bt br:Nat} {q q':Rq} {T T' R R':Tr Nat} {B:Int→Nat} {r r' c:Int} {X Y:List Nat}
theorem remove_l {id:Int} (hs:(findQ q.l id).isSome=true):q.remove id= { q with l:=q.l.filter (fun x=>decide (x.1≠id)),cur:=if q.cur=id then -1 else q.cur,ran:=if q.cur=id then 0 else q.ran } :=by
 rw [Rq.remove,if_pos hs]
theorem RpI.gone (h:RpI w b q bt br T R B r) {id:Int} (hs:(findQ q.l id).isSome=true) (ht:Turned [b,bt,br] w w') (h0:w'.heap[b]?=some (.cells (quC (q.remove id) bt br (curP B (q.remove id)) r) tQu (0,0)))
  (h1:TAt w' bt 16 (tdT T (0,id))) (h2:TAt w' br 16 R') (hr:HasR B (q.remove id).ready R'):RpI w' b (q.remove id) bt br (tdT T (0,id)) R' B r:=by
 rw [remove_l hs] at*
 refine⟨h0,h1,h2,h.ht.delete hs,hr,fun x hx=>?_,fun x hx y hy=>h.inj x (List.mem_filter.1 hx).1 y (List.mem_filter.1 hy).1,fun hc=>?_,h.ne⟩
 ·have hx':=(List.mem_filter.1 hx).1
  exact ht.same (h.k x hx') (by simp;exact⟨h.nkb hx',h.nkt hx',h.nkr hx'⟩)
 ·dsimp only at hc ⊢
  by_cases e:q.cur=id
  ·rw [if_pos e] at hc
   omega
  ·rw [if_neg e] at hc ⊢
   exact h.rn hc
theorem mem_bb (h:RpI w b q bt br T R B r):∀k ∈ ([b,bt,br]:List Nat),k ∈ blocksQ b bt br B q.l:=fun k hk=>by
 simp at hk
 rcases hk with rfl|rfl|rfl
 ·exact mem_blocksQ.2 (.inl rfl)
 ·exact mem_blocksQ.2 (.inr (.inl rfl))
 ·exact mem_blocksQ.2 (.inr (.inr (.inl rfl)))
theorem rpRemove (h:RpI w b q bt br T R B r) (hq:QOk q c) (id:Int):Calls Tryz.prog 39 #[.pointer (some ⟨b,0,none⟩), .int .i64 id] w fun e w'=>e= .returned (.tuple #[.int .u64 (remV q id), .bool (findQ q.l id).isSome])∧(∃T' R',RpI w' b (q.remove id) bt br T' R' B r)∧Turned [b,bt,br] w w':=by
 have HF:=xhd (rpFind h id)
 rw [findP] at HF
 cases hfq:findQ q.l id with
 |none=>
  have e1:q.remove id=q:=by rw [Rq.remove,hfq,Option.isSome_none,if_neg (by simp)]
  rw [remV_none hfq,e1]
  rw [hfq,Option.isSome_none,if_neg (by simp)] at HF
  have H:=xhd h
  clear h hq e1 hfq
  go_enter Tryz.func39,Tryz.ntmps39
  go_wp2_with fail
  with_reducible refine HF.out.mono ?_
  rintro e V ⟨rfl,t⟩
  have HT:=xhd t
  clear t
  go_wp2
  go_ret2
  exact⟨rfl,⟨T,R,H.out.later HT.out⟩,HT.out.mono (fun k hk=>by simp at hk)⟩
 |some x=>
  have hs:(findQ q.l id).isSome=true:=by rw [hfq];rfl
  have hx:(id,x) ∈ q.l:=findQ_mem hfq
  rw [remV_some hfq]
  rw [hfq,Option.isSome_some,if_pos rfl] at HF
  have HB:=xhd (fun W=>rpByNumber id W)
  have HC2:Hid (∀V,Turned [] w V→V.cell? ⟨b,2,none⟩=some (.pointer (some ⟨bt,0,none⟩))):=xhd fun V tV=>(cells6 (tV.same h.h0 (by simp))).1.2.2.1
  have HD1:Hid (∀V,Turned [] w V→Calls Tryz.prog 53 #[.pointer (some ⟨bt,0,none⟩), .agg #[.int .u64 0, .int .i64 id]] V fun e V'=>e= .returned (.tuple #[toV (T.fnd (0,id)), .bool (T.fnd (0,id)).isSome])∧(TAt V' bt 16 (tdT T (0,id))∧Turned [bt] w V')):=xhd fun V tV=>
   (delete_any (h.h1.later tV) 0 id (h.len hq).1).mono fun e V' g=>⟨g.1,g.2.1,(tV.mono (X:=[bt]) (fun k hk=>by simp at hk)).trans g.2.2 (Newer.refl _ _)⟩
  have HC3:Hid (∀V,(TAt V bt 16 (tdT T (0,id))∧Turned [bt] w V)→V.cell? ⟨b,2,none⟩=some (.pointer (some ⟨bt,0,none⟩))∧V.cell? ⟨b,4,none⟩=some (.pointer (curP B q))∧V.frozen? ⟨b,4,none⟩=false∧V.cell? ⟨b,3,none⟩=some (.pointer (some ⟨br,0,none⟩))∧V.cell? ⟨B id,0,none⟩=some (.int .u64 x.1)):=xhd fun V g=>by
   obtain⟨⟨_,_,c2,c3,c4,_⟩,f⟩:=cells6 (g.2.same h.h0 (by simp;exact h.nbt))
   exact⟨c2,c4,f 4,c3,(cells3k (g.2.same (h.k _ hx) (by simp;exact h.nkt hx))).1.1⟩
  obtain⟨tv,htv⟩:∃tv,toV (T.fnd (0,id))=tv:=⟨_,rfl⟩
  obtain⟨sv,hsv⟩:∃sv,(T.fnd (0,id)).isSome=sv:=⟨_,rfl⟩
  rw [htv,hsv] at HD1
  by_cases hc:q.cur=id
  ·
   have hid:=hq.ids _ hx
   have hcp:curP B q=some ⟨B id,0,none⟩:=by rw [curP,hc,if_pos hid]
   have HF1:Hid (∀V,(TAt V bt 16 (tdT T (0,id))∧Turned [bt] w V)→(∃T' R',RpI (V.setCell ⟨b,4,none⟩ (.pointer none)) b (q.remove id) bt br T' R' B r)∧Turned [b,bt,br] w (V.setCell ⟨b,4,none⟩ (.pointer none))):=xhd fun V g=>by
    have t2:Turned [b,bt,br] w (V.setCell ⟨b,4,none⟩ (.pointer none)):=(g.2.mono (X:=[b,bt,br]) (fun k hk=> .inl (by simp at hk;simp [hk]))).setCell (.inl (by simp)) _
    have ts:=(Turned.refl [b] V).setCell (p:=⟨b,4,none⟩) (.inl (by simp)) (.pointer none)
    have hb1:=g.2.same h.h0 (by simp;exact h.nbt)
    have ns:KeepsN V (V.setCell ⟨b,4,none⟩ (.pointer none)):=keepsN_of ts fun k hk=>by
     have e:k=b:=by simpa using hk
     rw [e]
     exact⟨_,_,hb1,by decide⟩
    have n1:KeepsN w V:=keepsN_of g.2 fun k hk=>h.kinds k (by simp at hk;exact mem_blocksQ.2 (.inr (.inl hk)))
    refine⟨⟨_,R,h.gone hs t2 ?_ (g.1.keep ts (by simp;exact fun e=>h.nbt e.symm) ns) ((h.h2.keep g.2 (by simp;exact fun e=>h.ne e.symm) n1).keep ts (by simp;exact fun e=>h.nbr e.symm) ns) ?_⟩,t2⟩
    ·have e:curP B (q.remove id)=none:=by
       rw [remove_l hs,curP,if_neg (by
        show ¬(0:Int)≤(if q.cur=id then -1 else q.cur)
        rw [if_pos hc]
        omega)]
     have e2:quC (q.remove id) bt br (curP B (q.remove id)) r= #[.int .i64 q.g, .int .u64 q.f, .pointer (some ⟨bt,0,none⟩), .pointer (some ⟨br,0,none⟩), .pointer none, .int .i64 r]:=by rw [e,remove_l hs]
     rw [e2,heap_setCell_same _ _ _ _ _ _ hb1]
     rfl
    ·rw [remove_l hs]
     show HasR B ((q.l.filter fun x=>decide (x.1≠id)).filter fun z=>decide (z.1≠if q.cur=id then -1 else q.cur)) R
     rw [if_pos hc,List.filter_eq_self.2 fun z hz=>by
      have:=hq.ids z (List.mem_filter.1 hz).1
      simp
      omega]
     have:=h.hr
     rw [Rq.ready,hc] at this
     exact this
   rw [hcp] at HC3
   obtain⟨x1,x2⟩:=x
   simp only at HC3 ⊢
   obtain⟨kx,hkx⟩:∃kx,B id=kx:=⟨_,rfl⟩
   rw [hkx] at HF HC3
   clear h hq hfq hs hx htv hsv hc hid hcp hkx
   go_enter Tryz.func39,Tryz.ntmps39
   go_wp2_with fail
   with_reducible refine HF.out.mono ?_
   rintro e V ⟨rfl,t0⟩
   have HT0:=xhd t0.drew
   have e2:=HC2.out _ t0.drew
   clear t0
   go_wp2_with fail
   go_region_held3 (fun W=>W.cell? ⟨b,2,none⟩=some (.pointer (some ⟨bt,0,none⟩)))
    (first|exact g2|exact f2|exact e2)
    (first
      |(go_at_call 67
        with_reducible refine (HB.out _).mono ?_
        rintro e V1 ⟨rfl,t1⟩
        have T1:=xhd (HT0.out.join t1)
        have f2:=HC2.out _ T1.out
        clear t1)
      |(go_at_call 53
        with_reducible refine (HD1.out _ T1.out).mono ?_
        rintro e V2 ⟨rfl,a2⟩
        have A2:=xhd a2
        have g2:=(HC3.out _ a2).1
        clear a2))
   obtain⟨_,m4,mf4,m3,mv⟩:=HC3.out _ A2.out
   have heq:=tp_same kx V2
   have F:=xhd (HF1.out V2 A2.out)
   go_wp2
   go_ret2
   exact⟨rfl,F.out.1,F.out.2⟩
  ·
   have hrd:(id,x) ∈ q.ready:=ready_or hx (fun e=>hc e.symm)
   have HMV:Hid (∀V D,(TAt V bt 16 (tdT T (0,id))∧Turned [bt] w V)→Turned [] V D→D.cell? ⟨b,3,none⟩=some (.pointer (some ⟨br,0,none⟩))∧D.cell? ⟨B id,0,none⟩=some (.int .u64 x.1)∧D.cell? ⟨B id,1,none⟩=some (.int .i64 id)∧(TAt D bt 16 (tdT T (0,id))∧Turned [bt] w D)):=xhd fun V D g tD=>by
    have g':TAt D bt 16 (tdT T (0,id))∧Turned [bt] w D:=⟨g.1.later tD,g.2.trans (tD.mono (X:=[bt]) (fun k hk=>by simp at hk)) (Newer.refl _ _)⟩
    obtain⟨⟨_,_,_,c3,_,_⟩,_⟩:=cells6 (g'.2.same h.h0 (by simp;exact h.nbt))
    obtain⟨⟨k0,k1,_⟩,_⟩:=cells3k (g'.2.same (h.k _ hx) (by simp;exact h.nkt hx))
    exact⟨c3,k0,k1,g'⟩
   have HD2:Hid (∀D,(TAt D bt 16 (tdT T (0,id))∧Turned [bt] w D)→Calls Tryz.prog 53 #[.pointer (some ⟨br,0,none⟩), .agg #[.int .u64 x.1, .int .i64 id]] D fun e V'=>e= .returned (.tuple #[toV (R.fnd (x.1,id)), .bool (R.fnd (x.1,id)).isSome])∧(TAt V' bt 16 (tdT T (0,id))∧TAt V' br 16 (tdT R (x.1,id))∧Turned [bt,br] w V')):=xhd fun D g=>by
    have n1:KeepsN w D:=keepsN_of g.2 fun k hk=>h.kinds k (by simp at hk;exact mem_blocksQ.2 (.inr (.inl hk)))
    refine (delete_any (h.h2.keep g.2 (by simp;exact fun e=>h.ne e.symm) n1) x.1 id (h.len hq).2).mono fun e V' g3=>⟨g3.1,?_,g3.2.1,?_⟩
    ·obtain⟨p,hp,_⟩:=h.h2.keep g.2 (by simp;exact fun e=>h.ne e.symm) n1
     exact g.1.keep g3.2.2 (by simp;exact h.ne) (keepsN_of g3.2.2 fun k hk=>by
      have e:k=br:=by simpa using hk
      rw [e]
      exact⟨_,_,hp,by decide⟩)
    ·exact (g.2.mono (X:=[bt,br]) (fun k hk=> .inl (by simp at hk;simp [hk]))).trans g3.2.2 (fun k hk=> .inl (by simp at hk;simp [hk]))
   have HF2:Hid (∀V,(TAt V bt 16 (tdT T (0,id))∧TAt V br 16 (tdT R (x.1,id))∧Turned [bt,br] w V)→(∃T' R',RpI V b (q.remove id) bt br T' R' B r)∧Turned [b,bt,br] w V∧V.cell? ⟨B id,0,none⟩=some (.int .u64 x.1)):=xhd fun V g=>by
    have t2:Turned [b,bt,br] w V:=g.2.2.mono (X:=[b,bt,br]) (fun k hk=> .inl (by simp at hk;rcases hk with rfl|rfl<;>simp))
    refine⟨⟨_,_,h.gone hs t2 ?_ g.1 g.2.1 ?_⟩,t2,(cells3k (g.2.2.same (h.k _ hx) (by simp;exact⟨h.nkt hx,h.nkr hx⟩))).1.1⟩
    ·rw [g.2.2.same h.h0 (by simp;exact⟨h.nbt,h.nbr⟩)]
     have e:curP B (q.remove id)=curP B q:=by
      rw [remove_l hs,curP,curP]
      show (if 0≤(if q.cur=id then -1 else q.cur) then some (⟨B (if q.cur=id then -1 else q.cur),0,none⟩:Addr) else none)=_
      rw [if_neg hc]
     have e2:quC (q.remove id) bt br (curP B (q.remove id)) r=quC q bt br (curP B q) r:=by rw [e,remove_l hs]
     rw [e2]
    ·rw [remove_l hs]
     show HasR B ((q.l.filter fun x=>decide (x.1≠id)).filter fun z=>decide (z.1≠if q.cur=id then -1 else q.cur)) _
     rw [if_neg hc]
     have hd:=h.hr.delete (ready_nodup hq.uniq) hrd
     rw [Rq.ready,List.filter_filter] at hd
     rw [List.filter_filter]
     simp only [Bool.and_comm] at hd ⊢
     exact hd
   obtain⟨tv2,htv2⟩:∃tv2,toV (R.fnd (x.1,id))=tv2:=⟨_,rfl⟩
   obtain⟨sv2,hsv2⟩:∃sv2,(R.fnd (x.1,id)).isSome=sv2:=⟨_,rfl⟩
   rw [htv2,hsv2] at HD2
   by_cases h0:0≤q.cur
   ·obtain⟨y,hy,ey,hcp⟩:=curP_some hq h0 B
    rw [hcp] at HC3
    have hne:¬B id=B y.1:=fun e=>hc (by rw [←ey];exact (h.inj _ hx _ hy e).symm)
    have HEQ:Hid (∀V,(TAt V bt 16 (tdT T (0,id))∧Turned [bt] w V)→(binOp .eql tTp (.pointer (some ⟨B id,0,none⟩)) (.pointer (some ⟨B y.1,0,none⟩))).run Tryz.prog V= .ok (.bool false) V):=xhd fun V g=>
     tp_other hne (g.2.same (h.k _ hx) (by simp;exact h.nkt hx)) (g.2.same (h.k _ hy) (by simp;exact h.nkt hy))
    obtain⟨x1,x2⟩:=x
    simp only at HC3 HMV HD2 HF2 ⊢
    obtain⟨ky,hky⟩:∃ky,B y.1=ky:=⟨_,rfl⟩
    rw [hky] at HC3 HEQ
    obtain⟨kx,hkx⟩:∃kx,B id=kx:=⟨_,rfl⟩
    rw [hkx] at HF HC3 HMV HF2 HEQ
    clear h hq hfq hs hx htv hsv htv2 hsv2 hc hrd h0 hy ey hcp hky hkx hne
    go_enter Tryz.func39,Tryz.ntmps39
    go_wp2_with fail
    with_reducible refine HF.out.mono ?_
    rintro e V ⟨rfl,t0⟩
    have HT0:=xhd t0.drew
    have e2:=HC2.out _ t0.drew
    clear t0
    go_wp2_with fail
    go_region_held3 (fun W=>W.cell? ⟨b,2,none⟩=some (.pointer (some ⟨bt,0,none⟩)))
     (first|exact g2|exact f2|exact e2)
     (first
       |(go_at_call 67
         with_reducible refine (HB.out _).mono ?_
         rintro e V1 ⟨rfl,t1⟩
         have T1:=xhd (HT0.out.join t1)
         have f2:=HC2.out _ T1.out
         clear t1)
       |(go_at_call 53
         with_reducible refine (HD1.out _ T1.out).mono ?_
         rintro e V2 ⟨rfl,a2⟩
         have A2:=xhd a2
         have g2:=(HC3.out _ a2).1
         clear a2))
    obtain⟨_,m4,mf4,m3,mv⟩:=HC3.out _ A2.out
    have heq:=HEQ.out _ A2.out
    go_wp2_with fail
    obtain⟨D,hD⟩:∃D,V2.drew=D:=⟨_,rfl⟩
    have tD:Turned [] V2 D:=hD ▸ (Turned.refl [] V2).drew
    have A3:=xhd (HMV.out V2 D A2.out tD)
    obtain⟨n3,n0,n1,_⟩:=A3.out
    clear tD
    refine wp_still_tail_at 8 hD (by kernel_rfl) (by kernel_rfl) ?_
    clear hD
    simp only [List.take_succ_cons,List.take_zero,List.drop_succ_cons,List.drop_zero]
    repeat still_step
    refine wpStill_nil ?_
    go_wp2_with fail
    with_reducible refine (HD2.out D A3.out.2.2.2).mono ?_
    rintro e V3 ⟨rfl,a3⟩
    have F:=xhd (HF2.out V3 a3)
    have v3:=F.out.2.2
    clear a3 n0 n1 n3
    go_wp2
    go_ret2
    exact⟨rfl,F.out.1,F.out.2.1⟩
   ·rw [curP_none h0 B] at HC3
    obtain⟨x1,x2⟩:=x
    simp only at HC3 HMV HD2 HF2 ⊢
    obtain⟨kx,hkx⟩:∃kx,B id=kx:=⟨_,rfl⟩
    rw [hkx] at HF HC3 HMV HF2
    clear h hq hfq hs hx htv hsv htv2 hsv2 hc hrd h0 hkx
    go_enter Tryz.func39,Tryz.ntmps39
    go_wp2_with fail
    with_reducible refine HF.out.mono ?_
    rintro e V ⟨rfl,t0⟩
    have HT0:=xhd t0.drew
    have e2:=HC2.out _ t0.drew
    clear t0
    go_wp2_with fail
    go_region_held3 (fun W=>W.cell? ⟨b,2,none⟩=some (.pointer (some ⟨bt,0,none⟩)))
     (first|exact g2|exact f2|exact e2)
     (first
       |(go_at_call 67
         with_reducible refine (HB.out _).mono ?_
         rintro e V1 ⟨rfl,t1⟩
         have T1:=xhd (HT0.out.join t1)
         have f2:=HC2.out _ T1.out
         clear t1)
       |(go_at_call 53
         with_reducible refine (HD1.out _ T1.out).mono ?_
         rintro e V2 ⟨rfl,a2⟩
         have A2:=xhd a2
         have g2:=(HC3.out _ a2).1
         clear a2))
    obtain⟨_,m4,mf4,m3,mv⟩:=HC3.out _ A2.out
    go_wp2_with fail
    obtain⟨D,hD⟩:∃D,V2.drew=D:=⟨_,rfl⟩
    have tD:Turned [] V2 D:=hD ▸ (Turned.refl [] V2).drew
    have A3:=xhd (HMV.out V2 D A2.out tD)
    obtain⟨n3,n0,n1,_⟩:=A3.out
    clear tD
    refine wp_still_tail_at 8 hD (by kernel_rfl) (by kernel_rfl) ?_
    clear hD
    simp only [List.take_succ_cons,List.take_zero,List.drop_succ_cons,List.drop_zero]
    repeat still_step
    refine wpStill_nil ?_
    go_wp2_with fail
    with_reducible refine (HD2.out D A3.out.2.2.2).mono ?_
    rintro e V3 ⟨rfl,a3⟩
    have F:=xhd (HF2.out V3 a3)
    have v3:=F.out.2.2
    clear a3 n0 n1 n3
    go_wp2
    go_ret2
    exact⟨rfl,F.out.1,F.out.2.1⟩
end
end Go.Proofs.YtfmciiffcmfagaaGreat
