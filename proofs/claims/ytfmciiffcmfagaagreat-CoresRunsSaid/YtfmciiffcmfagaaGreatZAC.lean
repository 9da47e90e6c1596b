/-
  The document's Tick. (Made by gen_rqtick.py.)
  The document's Weigh. (Made by gen_rqweigh.py.)
-/
import Derived.Test.YtfmciiffcmfagaaGreatZAB
import Derived.Test.YtfmciiffcmfagaaGreatZAl
set_option maxRecDepth 100000
set_option maxHeartbeats 25600000
namespace Go.Proofs.YtfmciiffcmfagaaGreat
open Go.RowKit
theorem R16.store {w:World} {b:Nat} {X:List Nat} {q:Rq} (h:R16 w b X q) {g n cap:Nat} (hv:w.cell? ⟨b,2,none⟩=some (.slice (some ⟨g,0,none⟩) n cap)) {k:Nat} (hk:k < q.l.length) {v:Int} :R16 (w.setCell ⟨g,k*3+1,none⟩ (.int .u64 v)) b X { q with l:=q.l.set k (q.l[k].1,v,q.l[k].2.2) } ∧Turned X w (w.setCell ⟨g,k*3+1,none⟩ (.int .u64 v)):=by
 obtain⟨v0,h1,h2,h3⟩:=id h
 have e:=(cells5q h1).2.2.1
 rw [hv] at e
 cases e
 have:=LAt.cellSet (tS:=tQ16) (tE:=tT16) (k:=3) (enc:=encTk) (cs:=fun v=> #[.int .i64 q.g, .int .u64 q.f,v, .int .i64 q.cur, .int .i64 q.ran]) encTk_len (by decide) h1 h2 (j:=k) (i:=1) (x:=(q.l[k].1,v,q.l[k].2.2)) (u:= .int .u64 v) hk (by decide) rfl
 rw [h3]
 exact this
theorem R16.storeW {w:World} {b:Nat} {X:List Nat} {q:Rq} (h:R16 w b X q) {g n cap:Nat} (hv:w.cell? ⟨b,2,none⟩=some (.slice (some ⟨g,0,none⟩) n cap)) {k:Nat} (hk:k < q.l.length) {v:Int} :R16 (w.setCell ⟨g,k*3+2,none⟩ (.int .i64 v)) b X { q with l:=q.l.set k (q.l[k].1,q.l[k].2.1,v) } ∧Turned X w (w.setCell ⟨g,k*3+2,none⟩ (.int .i64 v)):=by
 obtain⟨v0,h1,h2,h3⟩:=id h
 have e:=(cells5q h1).2.2.1
 rw [hv] at e
 cases e
 have:=LAt.cellSet (tS:=tQ16) (tE:=tT16) (k:=3) (enc:=encTk) (cs:=fun v=> #[.int .i64 q.g, .int .u64 q.f,v, .int .i64 q.cur, .int .i64 q.ran]) encTk_len (by decide) h1 h2 (j:=k) (i:=2) (x:=(q.l[k].1,q.l[k].2.1,v)) (u:= .int .i64 v) hk (by decide) rfl
 rw [h3]
 exact this
theorem R16.setRan {w:World} {b:Nat} {X:List Nat} {q:Rq} (h:R16 w b X q) (r:Int):R16 (w.setCell ⟨b,4,none⟩ (.int .i64 r)) b X { q with ran:=r } ∧Turned X w (w.setCell ⟨b,4,none⟩ (.int .i64 r)):=
 LAt.field (tS:=tQ16) (tE:=tT16) (cs':=fun v=> #[.int .i64 q.g, .int .u64 q.f,v, .int .i64 q.cur, .int .i64 r]) h (by decide) (fun _=>rfl)
theorem R16.setCur {w:World} {b:Nat} {X:List Nat} {q:Rq} (h:R16 w b X q) (c:Int):R16 (w.setCell ⟨b,3,none⟩ (.int .i64 c)) b X { q with cur:=c } ∧Turned X w (w.setCell ⟨b,3,none⟩ (.int .i64 c)):=
 LAt.field (tS:=tQ16) (tE:=tT16) (cs':=fun v=> #[.int .i64 q.g, .int .u64 q.f,v, .int .i64 c, .int .i64 q.ran]) h (by decide) (fun _=>rfl)
theorem R16.task {w:World} {b:Nat} {X:List Nat} {q:Rq} (h:R16 w b X q) {k:Nat} (hk:k < q.l.length):∃g cap,w.cell? ⟨b,2,none⟩=some (.slice (some ⟨g,0,none⟩) q.l.length cap)∧w.cell? ⟨g,k*3,none⟩=some (.int .i64 q.l[k].1)∧w.cell? ⟨g,k*3+1,none⟩=some (.int .u64 q.l[k].2.1)∧w.cell? ⟨g,k*3+2,none⟩=some (.int .i64 q.l[k].2.2)∧(∀i,w.frozen? ⟨g,i,none⟩=false)∧b≠g:=by
 obtain⟨a,cap,⟨_,_,c2,_⟩,_,hr⟩:=h.rows
 obtain⟨g,rfl,r0,r1,r2⟩:=hr k hk
 obtain⟨v0,h1,h2,h3⟩:=id h
 have e:=(cells5q h1).2.2.1
 rw [c2] at e
 cases e
 refine⟨g,cap,c2,r0,r1,r2,fun i=>h2.frozenAt _,fun e=>block_off h1 h2 (by decide) (by simp [Value.ownBlock,e])⟩
theorem rtick_any {w:World} {b:Nat} {X:List Nat} {q:Rq} (h:R16 w b X q) (hu:(q.l.map (·.1)).Nodup) (hc:0≤q.cur→∃x ∈ q.l,x.1=q.cur) (hv:∀x ∈ q.l,Word x.2.1) (hr0:0≤q.ran) (hr1:q.ran≤100000):
  Calls Tryz.prog 26 #[.pointer (some ⟨b,0,none⟩)] w fun e w'=>e= .returned (.int .i64 q.cur)∧R16 w' b X q.tick∧Turned X w w':=by
 by_cases hcur:0≤q.cur
 ·obtain⟨x0,hx0,hx1⟩:=hc hcur
  obtain⟨k,hk,hat,hid⟩:∃k:Nat,∃hk:k < q.l.length,atQ q.l q.cur=k∧q.l[k].1=q.cur:=by
   rcases atQ_cases q.l q.cur with⟨_,h2⟩ |h2
   ·exact absurd hx1 (h2 x0 hx0)
   ·exact h2
  have HAT:=xhd (rat_any h q.cur)
  rw [hat] at HAT
  have etick:q.tick= { q with l:=q.l.set k (q.l[k].1,satV (q.l[k].2.1+coreR q.l[k].2.2),q.l[k].2.2),ran:=q.ran+1 } :=by
   unfold Rq.tick
   rw [if_pos hcur,tick_set hu hk hid]
  obtain⟨g,cap,c2,r0,r1,r2,frz,hbg⟩:=h.task hk
  obtain⟨v0,h1,h2,_⟩:=id h
  obtain⟨_,_,_,c3,c4,cf⟩:=cells5q h1
  have hgl:g < w.heap.size:=World.block_lt_of_cell? w _ r1
  have hbl:b < w.heap.size:=lt_of_block h1
  have hwv:=hv _ (List.getElem_mem hk)
  have hcr:=core_range q.l[k].2.2
  have HC:=xhd (fun V=>rcore_any q.l[k].2.2 V)
  have HA:=xhd (fun V=>refadd_any q.l[k].2.1 (coreR q.l[k].2.2) hwv ⟨hcr.1,by omega⟩ V)
  have HFIN:Hid (∀V,Below w.heap.size w V→R16 ((V.setCell ⟨g,k*3+1,none⟩ (.int .u64 (satV (q.l[k].2.1+coreR q.l[k].2.2)))).setCell ⟨b,4,none⟩ (.int .i64 (q.ran+1))) b X q.tick∧Turned X w ((V.setCell ⟨g,k*3+1,none⟩ (.int .u64 (satV (q.l[k].2.1+coreR q.l[k].2.2)))).setCell ⟨b,4,none⟩ (.int .i64 (q.ran+1)))):=xhd fun V hV=>by
   have c2V:=(hV.cell (p:=⟨b,2,none⟩) hbl).trans c2
   obtain⟨s1,s2⟩:=(h.below hV).store c2V hk (v:=satV (q.l[k].2.1+coreR q.l[k].2.2))
   obtain⟨s3,s4⟩:=s1.setRan (q.ran+1)
   refine⟨?_,((turned_below hV).trans s2 (Newer.refl _ _)).trans s4 (Newer.refl _ _)⟩
   rw [etick]
   exact s3
  have hwr:IntKind.i64.wrap (q.ran+1)=q.ran+1:=by rw [IntKind.wrap_i64];omega
  have i0:(0:Int)≤k:=by omega
  have i1:(k:Int) < q.l.length:=by omega
  have HCUR:=xhd hcur
  generalize q.tick=Q at HFIN ⊢
  generalize q.l[k].2.1=v at r1 HA HFIN
  generalize q.l[k].2.2=wt at r2 HC HA HFIN
  generalize q.l.length=n at c2 i1
  generalize coreR wt=c at HC HA HFIN
  generalize satV (v+c)=s at HA HFIN
  generalize satE (v+c)=se at HA
  generalize q.cur=cur at c3 hcur HAT ⊢
  generalize q.ran=ran at c4 HFIN hwr
  have HKP:Hid (∀V,Below w.heap.size w V→V.cell? ⟨b,2,none⟩=some (.slice (some ⟨g,0,none⟩) n cap)∧V.cell? ⟨g,k*3+1,none⟩=some (.int .u64 v)∧V.cell? ⟨g,k*3+2,none⟩=some (.int .i64 wt)∧V.frozen? ⟨g,k*3+1,none⟩=false∧V.cell? ⟨b,3,none⟩=some (.int .i64 cur)∧V.cell? ⟨b,4,none⟩=some (.int .i64 ran)∧V.frozen? ⟨b,4,none⟩=false):=xhd fun V hV=>
   ⟨(hV.cell (p:=⟨b,2,none⟩) hbl).trans c2,(hV.cell (p:=⟨g,k*3+1,none⟩) hgl).trans r1,(hV.cell (p:=⟨g,k*3+2,none⟩) hgl).trans r2,(hV.frozen (p:=⟨g,k*3+1,none⟩) hgl).trans (frz _),(hV.cell (p:=⟨b,3,none⟩) hbl).trans c3,(hV.cell (p:=⟨b,4,none⟩) hbl).trans c4,(hV.frozen (p:=⟨b,4,none⟩) hbl).trans (cf 4)⟩
  have hgb:g≠b:=fun e=>hbg e.symm
  clear h h1 h2 hv hwv hcr etick frz cf hu hc hx0 hx1 r0 hat hid hk
  go_enter Tryz.func26,Tryz.ntmps26
  go_wp2_with fail
  with_reducible refine HAT.out.mono ?_
  rintro e w2 ⟨rfl,rfl⟩
  go_wp2_with fail
  have hmix:Tryz.prog.follows .mixedOrders=true:=by kernel_rfl
  refine wp_region_noPanic ?_
  refine wp_region_lastF (fun V=>V.cell? ⟨b,2,none⟩=some (.slice (some ⟨g,0,none⟩) n cap)∧V.cell? ⟨g,k*3+1,none⟩=some (.int .u64 v)∧V.cell? ⟨g,k*3+2,none⟩=some (.int .i64 wt)) 28 hmix ⟨c2,r1,r2⟩ (fun hS0=>?_)
  refine wpAnyF_free (i:=0) (v:=?_) rfl (by kernel_rfl) (by decide) (fun _ _ _ h=>h) (by kernel_rfl) (by kernel_rfl) (Or.inl ⟨by rfl,?hy⟩) (by assumption) ?_
  case hy=>
   intro w _
   go_simp
   try with_reducible rfl
  try simp only [xga];try simp only [xgs];try simp only [xgz];try simp only [Act.put];try simp only [xsa];try simp only [xss];try simp only [xsz]
  refine wpAnyF_free (i:=1) (v:=?_) rfl (by kernel_rfl) (by decide) (fun _ _ _ h=>h) (by kernel_rfl) (by kernel_rfl) (Or.inl ⟨by rfl,?hy⟩) (by assumption) ?_
  case hy=>
   intro w _
   go_simp
   try with_reducible rfl
  try simp only [xga];try simp only [xgs];try simp only [xgz];try simp only [Act.put];try simp only [xsa];try simp only [xss];try simp only [xsz]
  refine wpAnyF_free (i:=2) (v:=?_) rfl (by kernel_rfl) (by decide) (fun _ _ _ h=>h) (by kernel_rfl) (by kernel_rfl) (Or.inl ⟨by rfl,?hy⟩) (by assumption) ?_
  case hy=>
   intro w _
   go_simp
   try with_reducible rfl
  try simp only [xga];try simp only [xgs];try simp only [xgz];try simp only [Act.put];try simp only [xsa];try simp only [xss];try simp only [xsz]
  refine wpAnyF_take (i:=3) (v:=?_) rfl (by kernel_rfl) (by kernel_rfl) (fun _ _ _ h=>h) (by kernel_rfl) (by kernel_rfl) (by kernel_rfl) (Or.inl ⟨by rfl,?hy⟩) (by assumption) ?_
  case hy=>
   intro w hSw
   (try dsimp only at hSw)
   obtain⟨s0,s1,s2⟩:=hSw
   go_simp
   try with_reducible rfl
  try simp only [xga];try simp only [xgs];try simp only [xgz];try simp only [Act.put];try simp only [xsa];try simp only [xss];try simp only [xsz]
  refine wpAnyF_free (i:=4) (v:=?_) rfl (by kernel_rfl) (by decide) (fun _ _ _ h=>h) (by kernel_rfl) (by kernel_rfl) (Or.inl ⟨by rfl,?hy⟩) (by assumption) ?_
  case hy=>
   intro w _
   go_simp
   try with_reducible rfl
  try simp only [xga];try simp only [xgs];try simp only [xgz];try simp only [Act.put];try simp only [xsa];try simp only [xss];try simp only [xsz]
  refine wpAnyF_free (i:=5) (v:=?_) rfl (by kernel_rfl) (by decide) (fun _ _ _ h=>h) (by kernel_rfl) (by kernel_rfl) (Or.inl ⟨by rfl,?hy⟩) (by assumption) ?_
  case hy=>
   intro w _
   go_simp
   try with_reducible rfl
  try simp only [xga];try simp only [xgs];try simp only [xgz];try simp only [Act.put];try simp only [xsa];try simp only [xss];try simp only [xsz]
  refine wpAnyF_free (i:=6) (v:=?_) rfl (by kernel_rfl) (by decide) (fun _ _ _ h=>h) (by kernel_rfl) (by kernel_rfl) (Or.inl ⟨by rfl,?hy⟩) (by assumption) ?_
  case hy=>
   intro w _
   go_simp
   try with_reducible rfl
  try simp only [xga];try simp only [xgs];try simp only [xgz];try simp only [Act.put];try simp only [xsa];try simp only [xss];try simp only [xsz]
  refine wpAnyF_free (i:=7) (v:=?_) rfl (by kernel_rfl) (by decide) (fun _ _ _ h=>h) (by kernel_rfl) (by kernel_rfl) (Or.inl ⟨by rfl,?hy⟩) (by assumption) ?_
  case hy=>
   intro w _
   go_simp
   try with_reducible rfl
  try simp only [xga];try simp only [xgs];try simp only [xgz];try simp only [Act.put];try simp only [xsa];try simp only [xss];try simp only [xsz]
  refine wpAnyF_take (i:=8) (v:=?_) rfl (by kernel_rfl) (by kernel_rfl) (fun _ _ _ h=>h) (by kernel_rfl) (by kernel_rfl) (by kernel_rfl) (Or.inl ⟨by rfl,?hy⟩) (by assumption) ?_
  case hy=>
   intro w hSw
   (try dsimp only at hSw)
   obtain⟨s0,s1,s2⟩:=hSw
   go_simp
   try with_reducible rfl
  try simp only [xga];try simp only [xgs];try simp only [xgz];try simp only [Act.put];try simp only [xsa];try simp only [xss];try simp only [xsz]
  refine wpAnyF_free (i:=9) (v:=?_) rfl (by kernel_rfl) (by decide) (fun _ _ _ h=>h) (by kernel_rfl) (by kernel_rfl) (Or.inl ⟨by rfl,?hy⟩) (by assumption) ?_
  case hy=>
   intro w _
   go_simp
   try with_reducible rfl
  try simp only [xga];try simp only [xgs];try simp only [xgz];try simp only [Act.put];try simp only [xsa];try simp only [xss];try simp only [xsz]
  refine wpAnyF_free (i:=10) (v:=?_) rfl (by kernel_rfl) (by decide) (fun _ _ _ h=>h) (by kernel_rfl) (by kernel_rfl) (Or.inl ⟨by rfl,?hy⟩) (by assumption) ?_
  case hy=>
   intro w _
   go_simp
   try with_reducible rfl
  try simp only [xga];try simp only [xgs];try simp only [xgz];try simp only [Act.put];try simp only [xsa];try simp only [xss];try simp only [xsz]
  refine wpAnyF_free (i:=11) (v:=?_) rfl (by kernel_rfl) (by decide) (fun _ _ _ h=>h) (by kernel_rfl) (by kernel_rfl) (Or.inl ⟨by rfl,?hy⟩) (by assumption) ?_
  case hy=>
   intro w _
   go_simp
   try with_reducible rfl
  try simp only [xga];try simp only [xgs];try simp only [xgz];try simp only [Act.put];try simp only [xsa];try simp only [xss];try simp only [xsz]
  refine wpAnyF_take (i:=12) (v:=?_) rfl (by kernel_rfl) (by kernel_rfl) (fun _ _ _ h=>h) (by kernel_rfl) (by kernel_rfl) (by kernel_rfl) (Or.inl ⟨by rfl,?hy⟩) (by assumption) ?_
  case hy=>
   intro w hSw
   (try dsimp only at hSw)
   obtain⟨s0,s1,s2⟩:=hSw
   go_simp
   try with_reducible rfl
  try simp only [xga];try simp only [xgs];try simp only [xgz];try simp only [Act.put];try simp only [xsa];try simp only [xss];try simp only [xsz]
  refine wpAnyF_free (i:=13) (v:=?_) rfl (by kernel_rfl) (by decide) (fun _ _ _ h=>h) (by kernel_rfl) (by kernel_rfl) (Or.inl ⟨by rfl,?hy⟩) (by assumption) ?_
  case hy=>
   intro w _
   go_simp
   try with_reducible rfl
  try simp only [xga];try simp only [xgs];try simp only [xgz];try simp only [Act.put];try simp only [xsa];try simp only [xss];try simp only [xsz]
  refine wpAnyF_free (i:=14) (v:=?_) rfl (by kernel_rfl) (by decide) (fun _ _ _ h=>h) (by kernel_rfl) (by kernel_rfl) (Or.inl ⟨by rfl,?hy⟩) (by assumption) ?_
  case hy=>
   intro w _
   go_simp
   try with_reducible rfl
  try simp only [xga];try simp only [xgs];try simp only [xgz];try simp only [Act.put];try simp only [xsa];try simp only [xss];try simp only [xsz]
  refine wpAnyF_free (i:=15) (v:=?_) rfl (by kernel_rfl) (by decide) (fun _ _ _ h=>h) (by kernel_rfl) (by kernel_rfl) (Or.inl ⟨by rfl,?hy⟩) (by assumption) ?_
  case hy=>
   intro w _
   go_simp
   try with_reducible rfl
  try simp only [xga];try simp only [xgs];try simp only [xgz];try simp only [Act.put];try simp only [xsa];try simp only [xss];try simp only [xsz]
  refine wpAnyF_take (i:=16) (v:=?_) rfl (by kernel_rfl) (by kernel_rfl) (fun _ _ _ h=>h) (by kernel_rfl) (by kernel_rfl) (by kernel_rfl) (Or.inl ⟨by rfl,?hy⟩) (by assumption) ?_
  case hy=>
   intro w hSw
   (try dsimp only at hSw)
   obtain⟨s0,s1,s2⟩:=hSw
   go_simp
   try with_reducible rfl
  try simp only [xga];try simp only [xgs];try simp only [xgz];try simp only [Act.put];try simp only [xsa];try simp only [xss];try simp only [xsz]
  refine wpAnyF_free (i:=17) (v:=?_) rfl (by kernel_rfl) (by decide) (fun _ _ _ h=>h) (by kernel_rfl) (by kernel_rfl) (Or.inl ⟨by rfl,?hy⟩) (by assumption) ?_
  case hy=>
   intro w _
   go_simp
   try with_reducible rfl
  try simp only [xga];try simp only [xgs];try simp only [xgz];try simp only [Act.put];try simp only [xsa];try simp only [xss];try simp only [xsz]
  refine wpAnyF_free (i:=18) (v:=?_) rfl (by kernel_rfl) (by decide) (fun _ _ _ h=>h) (by kernel_rfl) (by kernel_rfl) (Or.inl ⟨by rfl,?hy⟩) (by assumption) ?_
  case hy=>
   intro w _
   go_simp
   try with_reducible rfl
  try simp only [xga];try simp only [xgs];try simp only [xgz];try simp only [Act.put];try simp only [xsa];try simp only [xss];try simp only [xsz]
  refine wpAnyF_free (i:=19) (v:=?_) rfl (by kernel_rfl) (by decide) (fun _ _ _ h=>h) (by kernel_rfl) (by kernel_rfl) (Or.inl ⟨by rfl,?hy⟩) (by assumption) ?_
  case hy=>
   intro w _
   go_simp
   try with_reducible rfl
  try simp only [xga];try simp only [xgs];try simp only [xgz];try simp only [Act.put];try simp only [xsa];try simp only [xss];try simp only [xsz]
  refine wpAnyF_take (i:=20) (v:=?_) rfl (by kernel_rfl) (by kernel_rfl) (fun _ _ _ h=>h) (by kernel_rfl) (by kernel_rfl) (by kernel_rfl) (Or.inl ⟨by rfl,?hy⟩) (by assumption) ?_
  case hy=>
   intro w hSw
   (try dsimp only at hSw)
   obtain⟨s0,s1,s2⟩:=hSw
   go_simp
   try with_reducible rfl
  try simp only [xga];try simp only [xgs];try simp only [xgz];try simp only [Act.put];try simp only [xsa];try simp only [xss];try simp only [xsz]
  refine wpAnyF_ready (rs:=[21]) (by kernel_rfl) (by simp) ?_
  refine ReadyF.cons rfl (fun K' hK=>?_) ReadyF.nil
  go_simp
  with_reducible refine (HC.out _).mono ?_
  rintro e w3 ⟨rfl,rfl⟩
  skip
  go_wp2_with fail
  refine hK.out _ _ (.inr ?_) ?_
  ·exact⟨c2,r1,r2⟩
  clear hK K'
  try simp only [xga];try simp only [xgs];try simp only [xgz];try simp only [Act.put];try simp only [xsa];try simp only [xss];try simp only [xsz]
  refine wpAnyF_ready (rs:=[22]) (by kernel_rfl) (by simp) ?_
  refine ReadyF.cons rfl (fun K' hK=>?_) ReadyF.nil
  go_simp
  with_reducible refine (HA.out _).mono ?_
  rintro e w4 ⟨rfl,hb⟩
  have HB:=xhd (((Below.refl _ w).drew).trans (hb.mono (Nat.le_refl _)))
  clear hb
  obtain⟨d2,e1,e2,fg,d3,d4,fr⟩:=HKP.out _ HB.out
  have hS1:(fun V:World=>V.cell? ⟨b,2,none⟩=some (.slice (some ⟨g,0,none⟩) n cap)∧V.cell? ⟨g,k*3+1,none⟩=some (.int .u64 v)∧V.cell? ⟨g,k*3+2,none⟩=some (.int .i64 wt)) w4:=⟨d2,e1,e2⟩
  go_wp2_with fail
  refine hK.out _ _ (.inr ?_) ?_
  ·exact hS1
  clear hK K'
  try simp only [xga];try simp only [xgs];try simp only [xgz];try simp only [Act.put];try simp only [xsa];try simp only [xss];try simp only [xsz]
  refine wpAnyF_free (i:=23) (v:=?_) rfl (by kernel_rfl) (by decide) (fun _ _ _ h=>h) (by kernel_rfl) (by kernel_rfl) (Or.inl ⟨by rfl,?hy⟩) (by assumption) ?_
  case hy=>
   intro w _
   go_simp
   try with_reducible rfl
  try simp only [xga];try simp only [xgs];try simp only [xgz];try simp only [Act.put];try simp only [xsa];try simp only [xss];try simp only [xsz]
  refine wpAnyF_free (i:=24) (v:=?_) rfl (by kernel_rfl) (by decide) (fun _ _ _ h=>h) (by kernel_rfl) (by kernel_rfl) (Or.inl ⟨by rfl,?hy⟩) (by assumption) ?_
  case hy=>
   intro w _
   go_simp
   try with_reducible rfl
  try simp only [xga];try simp only [xgs];try simp only [xgz];try simp only [Act.put];try simp only [xsa];try simp only [xss];try simp only [xsz]
  refine wpAnyF_free (i:=25) (v:=?_) rfl (by kernel_rfl) (by decide) (fun _ _ _ h=>h) (by kernel_rfl) (by kernel_rfl) (Or.inl ⟨by rfl,?hy⟩) (by assumption) ?_
  case hy=>
   intro w _
   go_simp
   try with_reducible rfl
  try simp only [xga];try simp only [xgs];try simp only [xgz];try simp only [Act.put];try simp only [xsa];try simp only [xss];try simp only [xsz]
  refine wpAnyF_free (i:=26) (v:=?_) rfl (by kernel_rfl) (by decide) (fun _ _ _ h=>h) (by kernel_rfl) (by kernel_rfl) (Or.inl ⟨by rfl,?hy⟩) (by assumption) ?_
  case hy=>
   intro w _
   go_simp
   try with_reducible rfl
  try simp only [xga];try simp only [xgs];try simp only [xgz];try simp only [Act.put];try simp only [xsa];try simp only [xss];try simp only [xsz]
  refine wpAnyF_free (i:=27) (v:=?_) rfl (by kernel_rfl) (by decide) (fun _ _ _ h=>h) (by kernel_rfl) (by kernel_rfl) (Or.inl ⟨by rfl,?hy⟩) (by assumption) ?_
  case hy=>
   intro w _
   go_simp
   try with_reducible rfl
  try simp only [xga];try simp only [xgs];try simp only [xgz];try simp only [Act.put];try simp only [xsa];try simp only [xss];try simp only [xsz]
  refine wpAnyF_ready (rs:=[28]) (by kernel_rfl) (by simp) ?_
  refine ReadyF.cons rfl (fun K' hK=>?_) ReadyF.nil
  go_simp
  refine hK.out _ _ (.inl (by kernel_rfl)) ?_
  clear hK K'
  try simp only [xga];try simp only [xgs];try simp only [xgz];try simp only [Act.put];try simp only [xsa];try simp only [xss];try simp only [xsz]
  refine wpAnyF_done (by kernel_rfl) ?_ _
  refine NoPanic.normal ?_
  try simp only [xga];try simp only [xgs];try simp only [xgz];try simp only [Act.put];try simp only [xsa];try simp only [xss];try simp only [xsz]
  have HF:=xhd (HFIN.out _ HB.out)
  go_wp2
  go_ret
  exact⟨rfl,HF.out.1,HF.out.2⟩
 ·have e:q.tick=q:=if_neg hcur
  rw [e]
  have H:=xhd h
  obtain⟨v0,h1,h2,h3⟩:=id h
  obtain⟨_,_,_,c3,_,_⟩:=cells5q h1
  generalize q.cur=cur at c3 hcur ⊢
  clear h h1 h2 h3 hu hc hv hr0 hr1
  go_enter Tryz.func26,Tryz.ntmps26
  go_wp2
  go_ret
  exact⟨rfl,H.out,Turned.refl _ _⟩
theorem find_at {l:List Tk} {id:Int} (hu:(l.map (·.1)).Nodup) {k:Nat} (hk:k < l.length) (he:l[k].1=id):findQ l id=some l[k].2:=by
 cases h:findQ l id with
 |none=>exact absurd he (findQ_none h _ (List.getElem_mem hk))
 |some x=>
  have:=findQ_one hu (findQ_mem h) (List.getElem_mem hk) he.symm
  rw [←this]
theorem weigh_set {q:Rq} {id w:Int} (hu:(q.l.map (·.1)).Nodup) {k:Nat} (hk:k < q.l.length) (he:q.l[k].1=id):
  q.weigh id w= { q with l:=q.l.set k (q.l[k].1,q.place q.l[k].2.1 (bringR w 1 4096),bringR w 1 4096),ran:=if q.l[k].2.2≠bringR w 1 4096∧q.cur=id then q.g else q.ran } :=by
 unfold Rq.weigh
 rw [find_at hu hk he]
 dsimp only
 congr 1
 refine List.ext_getElem (by simp) fun i h1 h2=>?_
 rw [List.length_map] at h1
 rw [List.getElem_map,List.getElem_set]
 by_cases e:k=i
 ·subst e
  rw [if_pos rfl,if_pos he]
 ·rw [if_neg e,if_neg]
  intro h
  have h3:(q.l.map (·.1))[i]'(by simpa using h1)=(q.l.map (·.1))[k]'(by simpa using hk):=by
   rw [List.getElem_map,List.getElem_map,h,he]
  exact e ((List.getElem_inj hu).1 h3).symm
theorem weigh_mem {w:World} {b:Nat} {X:List Nat} {q:Rq} (h:R16 w b X q) {k g n cap:Nat} (hk:k < q.l.length) (hv:w.cell? ⟨b,2,none⟩=some (.slice (some ⟨g,0,none⟩) n cap)) (u:Int):
  R16 (w.setCell ⟨g,k*3+2,none⟩ (.int .i64 u)) b X { q with l:=q.l.set k (q.l[k].1,q.l[k].2.1,u) } ∧Turned X w (w.setCell ⟨g,k*3+2,none⟩ (.int .i64 u))∧(w.setCell ⟨g,k*3+2,none⟩ (.int .i64 u)).cell? ⟨b,2,none⟩=some (.slice (some ⟨g,0,none⟩) n cap):=by
 obtain⟨a1,a2⟩:=h.storeW hv hk (v:=u)
 refine⟨a1,a2,?_⟩
 obtain⟨g',cap',c2,_,_,_,_,hne⟩:=h.task hk
 rw [hv] at c2
 cases c2
 rw [World.cell?_of_block (Below.heap_setCell _ _ _ _ (by show b≠g;exact hne))]
 exact hv
theorem rweigh_any {w:World} {b:Nat} {X:List Nat} {q:Rq} (h:R16 w b X q) (hu:(q.l.map (·.1)).Nodup) (hf:Word q.f) (id wt:Int):
  Calls Tryz.prog 17 #[.pointer (some ⟨b,0,none⟩), .int .i64 id, .int .i64 wt] w fun e w'=>e= .returned (.bool (findQ q.l id).isSome)∧R16 w' b X (q.weigh id wt)∧Turned X w w':=by
 have HAT:=xhd (rat_any h id)
 rcases atQ_cases q.l id with⟨hat,hno⟩ |⟨k,hk,hat,hid⟩
 ·rw [hat] at HAT
  have hn:findQ q.l id=none:=by
   cases he:findQ q.l id with
   |none=>rfl
   |some x=>exact absurd rfl (hno _ (findQ_mem he))
  have e:q.weigh id wt=q:=by
   unfold Rq.weigh
   rw [hn]
  rw [e,hn]
  have H:=xhd h
  clear h hu hf hat hno hn e
  go_enter Tryz.func17,Tryz.ntmps17
  go_wp2_with fail
  with_reducible refine HAT.out.mono ?_
  rintro e w2 ⟨rfl,rfl⟩
  go_wp2
  go_ret
  exact⟨rfl,H.out,Turned.refl _ _⟩
 ·rw [hat] at HAT
  rw [find_at hu hk hid,weigh_set hu hk hid]
  have HBR:=xhd (fun V=>bring_any wt 1 4096 V)
  obtain⟨u,hud⟩:∃u,bringR wt 1 4096=u:=⟨_,rfl⟩
  rw [hud] at HBR ⊢
  obtain⟨g,cap,c2,r0,r1,r2,frz,hbg⟩:=h.task hk
  obtain⟨v0,h1,h2,h3⟩:=(show R16 w b X q from h)
  obtain⟨c0,z1,z2,c3,c4,cf⟩:=cells5q h1
  have hgl:g < w.heap.size:=World.block_lt_of_cell? w _ r1
  have hbl:b < w.heap.size:=lt_of_block h1
  have hwA:=h.setRan q.g
  have c2A:(w.setCell ⟨b,4,none⟩ (.int .i64 q.g)).cell? ⟨b,2,none⟩=some (.slice (some ⟨g,0,none⟩) q.l.length cap):=(World.cell?_setCell_other _ _ _ _ (by simp)).trans c2
  have hmA:=weigh_mem hwA.1 hk c2A u
  have hmB:=weigh_mem h hk c2 u
  have HMA:=xhd (And.intro hmA.1 (And.intro (hwA.2.trans hmA.2.1 (Newer.refl _ _)) hmA.2.2))
  have HMB:=xhd hmB
  have i0:(0:Int)≤k:=by omega
  have i1:(k:Int) < q.l.length:=by omega
  have hgb:g≠b:=fun e=>hbg e.symm
  have cf4:=cf 4
  have frz1:=frz (k*3+1)
  have frz2:=frz (k*3+2)
  have HKL:=xhd hk
  have HF:=xhd hf
  have hq2:∀rn:Int,Rq.place { q with l:=q.l.set k (q.l[k].1,q.l[k].2.1,u),ran:=rn } q.l[k].2.1 u=q.place q.l[k].2.1 u:=fun _=>rfl
  have HQ2:=xhd hq2
  clear h h1 h2 h3 z1 z2 hu hf hat r0 hwA c2A hmA hmB hq2 cf hud
  by_cases hcw:q.l[k].2.2≠u
  ·by_cases hcc:q.cur=id
   ·rw [if_pos ⟨hcw,hcc⟩]
    have hcd:q.l[k].2.2≠u∧q.cur=id:=⟨hcw,hcc⟩
    clear hcw hcc
    have HW0:Hid (∃W,(w.setCell ⟨b,4,none⟩ (.int .i64 q.g)).setCell ⟨g,k*3+2,none⟩ (.int .i64 u)=W):=⟨_,rfl⟩
    have HM:Hid (R16 ((w.setCell ⟨b,4,none⟩ (.int .i64 q.g)).setCell ⟨g,k*3+2,none⟩ (.int .i64 u)) b X { q with l:=q.l.set k (q.l[k].1,q.l[k].2.1,u),ran:=q.g } ∧Turned X w ((w.setCell ⟨b,4,none⟩ (.int .i64 q.g)).setCell ⟨g,k*3+2,none⟩ (.int .i64 u))∧((w.setCell ⟨b,4,none⟩ (.int .i64 q.g)).setCell ⟨g,k*3+2,none⟩ (.int .i64 u)).cell? ⟨b,2,none⟩=some (.slice (some ⟨g,0,none⟩) q.l.length cap)):=HMA
    clear HMA HMB
    have HQQ:=xhd (HQ2.out (q.g))
    clear HQ2
    obtain⟨cur,hcurd⟩:∃cur,q.cur=cur:=⟨_,rfl⟩
    obtain⟨gr,hgrd⟩:∃gr,q.g=gr:=⟨_,rfl⟩
    have HLEN:Hid (q.l.length=q.l.length):=xhd rfl
    obtain⟨n,hn⟩:∃n,q.l.length=n:=⟨_,rfl⟩
    obtain⟨v,hv⟩:∃v,q.l[k].2.1=v:=⟨_,rfl⟩
    obtain⟨wo,hwo⟩:∃wo,q.l[k].2.2=wo:=⟨_,rfl⟩
    rw [hcurd] at c3 hcd
    rw [hgrd] at c0
    (try rw [hgrd] at HW0)
    rw [hn] at c2 i1
    replace r1:w.cell? ⟨g,k*3+1,none⟩=some (.int .u64 v):=r1.trans (congrArg (fun x=>some (Value.int .u64 x)) hv)
    replace r2:w.cell? ⟨g,k*3+2,none⟩=some (.int .i64 wo):=r2.trans (congrArg (fun x=>some (Value.int .i64 x)) hwo)
    replace hcd:wo≠u∧cur=id:=hwo ▸ hcd
    have HV:=xhd hv
    have HN:=xhd hn
    have HG:=xhd hgrd
    obtain⟨rr,hrr⟩:∃rr,q.ran=rr:=⟨_,rfl⟩
    rw [hrr] at c4
    clear hrr
    clear hcurd hgrd hn hv hwo HLEN
    obtain⟨hcd1,rfl⟩:=hcd
    have t1:(wo != u)=true:=by simpa using hcd1
    go_enter Tryz.func17,Tryz.ntmps17
    go_wp2_with fail
    with_reducible refine HAT.out.mono ?_
    rintro e w2 ⟨rfl,rfl⟩
    go_wp2_with fail
    with_reducible refine (HBR.out _).mono ?_
    rintro e w3 ⟨rfl,rfl⟩
    go_wp2_with fail
    obtain⟨W2,hW2⟩:=HW0.out
    have hW3:=hW2
    (try rw [←HG.out] at hW3)
    rw [hW3] at HM
    rw [hW2]
    clear hW2 hW3 HW0 c0 c2 c3 c4 r1 r2 frz frz1 frz2 cf4 hgl hbl
    obtain⟨hm1,hm2,d2⟩:=HM.out
    have hkk:=HKL.out
    have hkl2:k < (q.l.set k (q.l[k].1,q.l[k].2.1,u)).length:=by rw [List.length_set];exact hkk
    obtain⟨g2,cap2,e2,x0,e1,x2,efr,xb⟩:=hm1.task (k:=k) hkl2
    have hge:g2=g∧cap2=cap:=by
     have hh:=e2.symm.trans d2
     simp only [Option.some.injEq,Value.slice.injEq,Addr.mk.injEq,and_true] at hh
     first|exact⟨hh.1,hh.2⟩ |exact⟨hh.1,hh.2.2⟩
    obtain⟨rfl,rfl⟩:=hge
    replace e1:W2.cell? ⟨g2,k*3+1,none⟩=some (.int .u64 v):=by
     rw [e1]
     simp [HV.out]
    have frz1:=efr (k*3+1)
    have hbl2:b < W2.heap.size:=World.block_lt_of_cell? _ _ d2
    have hgl2:g2 < W2.heap.size:=World.block_lt_of_cell? _ _ e1
    have HPL:=xhd (rplace_any (w:=W2.drew) (q:= { q with l:=q.l.set k (q.l[k].1,q.l[k].2.1,u),ran:=q.g }) hm1 HF.out v u)
    have hpp:Rq.place { q with l:=q.l.set k (q.l[k].1,q.l[k].2.1,u),ran:=q.g } v u=q.place v u:=by
     have:=HQQ.out
     rw [HV.out] at this
     exact this
    rw [hpp] at HPL
    obtain⟨p,hp⟩:∃p,q.place v u=p:=⟨_,rfl⟩
    rw [hp] at HPL
    have HPP:=xhd hp
    rw [HN.out] at d2
    clear x0 x2 xb hm1 hm2 e2 efr hkk hkl2 hpp hp
    have hmix:Tryz.prog.follows .mixedOrders=true:=by kernel_rfl
    refine wp_region_noPanic ?_
    refine wp_region_lastF (fun V=>V.cell? ⟨b,2,none⟩=some (.slice (some ⟨g2,0,none⟩) n cap2)∧V.cell? ⟨g2,k*3+1,none⟩=some (.int .u64 v)) 18 hmix ⟨d2,e1⟩ (fun hS0=>?_)
    refine wpAnyF_free (i:=0) (v:=?_) rfl (by kernel_rfl) (by decide) (fun _ _ _ h=>h) (by kernel_rfl) (by kernel_rfl) (Or.inl ⟨by rfl,?hy⟩) (by assumption) ?_
    case hy=>
     intro w _
     go_simp
     try with_reducible rfl
    try simp only [xga];try simp only [xgs];try simp only [xgz];try simp only [Act.put];try simp only [xsa];try simp only [xss];try simp only [xsz]
    refine wpAnyF_free (i:=1) (v:=?_) rfl (by kernel_rfl) (by decide) (fun _ _ _ h=>h) (by kernel_rfl) (by kernel_rfl) (Or.inl ⟨by rfl,?hy⟩) (by assumption) ?_
    case hy=>
     intro w _
     go_simp
     try with_reducible rfl
    try simp only [xga];try simp only [xgs];try simp only [xgz];try simp only [Act.put];try simp only [xsa];try simp only [xss];try simp only [xsz]
    refine wpAnyF_free (i:=2) (v:=?_) rfl (by kernel_rfl) (by decide) (fun _ _ _ h=>h) (by kernel_rfl) (by kernel_rfl) (Or.inl ⟨by rfl,?hy⟩) (by assumption) ?_
    case hy=>
     intro w _
     go_simp
     try with_reducible rfl
    try simp only [xga];try simp only [xgs];try simp only [xgz];try simp only [Act.put];try simp only [xsa];try simp only [xss];try simp only [xsz]
    refine wpAnyF_take (i:=3) (v:=?_) rfl (by kernel_rfl) (by kernel_rfl) (fun _ _ _ h=>h) (by kernel_rfl) (by kernel_rfl) (by kernel_rfl) (Or.inl ⟨by rfl,?hy⟩) (by assumption) ?_
    case hy=>
     intro w hSw
     (try dsimp only at hSw)
     obtain⟨s0,s1⟩:=hSw
     go_simp
     try with_reducible rfl
    try simp only [xga];try simp only [xgs];try simp only [xgz];try simp only [Act.put];try simp only [xsa];try simp only [xss];try simp only [xsz]
    refine wpAnyF_free (i:=4) (v:=?_) rfl (by kernel_rfl) (by decide) (fun _ _ _ h=>h) (by kernel_rfl) (by kernel_rfl) (Or.inl ⟨by rfl,?hy⟩) (by assumption) ?_
    case hy=>
     intro w _
     go_simp
     try with_reducible rfl
    try simp only [xga];try simp only [xgs];try simp only [xgz];try simp only [Act.put];try simp only [xsa];try simp only [xss];try simp only [xsz]
    refine wpAnyF_free (i:=5) (v:=?_) rfl (by kernel_rfl) (by decide) (fun _ _ _ h=>h) (by kernel_rfl) (by kernel_rfl) (Or.inl ⟨by rfl,?hy⟩) (by assumption) ?_
    case hy=>
     intro w _
     go_simp
     try with_reducible rfl
    try simp only [xga];try simp only [xgs];try simp only [xgz];try simp only [Act.put];try simp only [xsa];try simp only [xss];try simp only [xsz]
    refine wpAnyF_free (i:=6) (v:=?_) rfl (by kernel_rfl) (by decide) (fun _ _ _ h=>h) (by kernel_rfl) (by kernel_rfl) (Or.inl ⟨by rfl,?hy⟩) (by assumption) ?_
    case hy=>
     intro w _
     go_simp
     try with_reducible rfl
    try simp only [xga];try simp only [xgs];try simp only [xgz];try simp only [Act.put];try simp only [xsa];try simp only [xss];try simp only [xsz]
    refine wpAnyF_free (i:=7) (v:=?_) rfl (by kernel_rfl) (by decide) (fun _ _ _ h=>h) (by kernel_rfl) (by kernel_rfl) (Or.inl ⟨by rfl,?hy⟩) (by assumption) ?_
    case hy=>
     intro w _
     go_simp
     try with_reducible rfl
    try simp only [xga];try simp only [xgs];try simp only [xgz];try simp only [Act.put];try simp only [xsa];try simp only [xss];try simp only [xsz]
    refine wpAnyF_free (i:=8) (v:=?_) rfl (by kernel_rfl) (by decide) (fun _ _ _ h=>h) (by kernel_rfl) (by kernel_rfl) (Or.inl ⟨by rfl,?hy⟩) (by assumption) ?_
    case hy=>
     intro w _
     go_simp
     try with_reducible rfl
    try simp only [xga];try simp only [xgs];try simp only [xgz];try simp only [Act.put];try simp only [xsa];try simp only [xss];try simp only [xsz]
    refine wpAnyF_take (i:=9) (v:=?_) rfl (by kernel_rfl) (by kernel_rfl) (fun _ _ _ h=>h) (by kernel_rfl) (by kernel_rfl) (by kernel_rfl) (Or.inl ⟨by rfl,?hy⟩) (by assumption) ?_
    case hy=>
     intro w hSw
     (try dsimp only at hSw)
     obtain⟨s0,s1⟩:=hSw
     go_simp
     try with_reducible rfl
    try simp only [xga];try simp only [xgs];try simp only [xgz];try simp only [Act.put];try simp only [xsa];try simp only [xss];try simp only [xsz]
    refine wpAnyF_free (i:=10) (v:=?_) rfl (by kernel_rfl) (by decide) (fun _ _ _ h=>h) (by kernel_rfl) (by kernel_rfl) (Or.inl ⟨by rfl,?hy⟩) (by assumption) ?_
    case hy=>
     intro w _
     go_simp
     try with_reducible rfl
    try simp only [xga];try simp only [xgs];try simp only [xgz];try simp only [Act.put];try simp only [xsa];try simp only [xss];try simp only [xsz]
    refine wpAnyF_free (i:=11) (v:=?_) rfl (by kernel_rfl) (by decide) (fun _ _ _ h=>h) (by kernel_rfl) (by kernel_rfl) (Or.inl ⟨by rfl,?hy⟩) (by assumption) ?_
    case hy=>
     intro w _
     go_simp
     try with_reducible rfl
    try simp only [xga];try simp only [xgs];try simp only [xgz];try simp only [Act.put];try simp only [xsa];try simp only [xss];try simp only [xsz]
    refine wpAnyF_free (i:=12) (v:=?_) rfl (by kernel_rfl) (by decide) (fun _ _ _ h=>h) (by kernel_rfl) (by kernel_rfl) (Or.inl ⟨by rfl,?hy⟩) (by assumption) ?_
    case hy=>
     intro w _
     go_simp
     try with_reducible rfl
    try simp only [xga];try simp only [xgs];try simp only [xgz];try simp only [Act.put];try simp only [xsa];try simp only [xss];try simp only [xsz]
    refine wpAnyF_take (i:=13) (v:=?_) rfl (by kernel_rfl) (by kernel_rfl) (fun _ _ _ h=>h) (by kernel_rfl) (by kernel_rfl) (by kernel_rfl) (Or.inl ⟨by rfl,?hy⟩) (by assumption) ?_
    case hy=>
     intro w hSw
     (try dsimp only at hSw)
     obtain⟨s0,s1⟩:=hSw
     go_simp
     try with_reducible rfl
    try simp only [xga];try simp only [xgs];try simp only [xgz];try simp only [Act.put];try simp only [xsa];try simp only [xss];try simp only [xsz]
    refine wpAnyF_free (i:=14) (v:=?_) rfl (by kernel_rfl) (by decide) (fun _ _ _ h=>h) (by kernel_rfl) (by kernel_rfl) (Or.inl ⟨by rfl,?hy⟩) (by assumption) ?_
    case hy=>
     intro w _
     go_simp
     try with_reducible rfl
    try simp only [xga];try simp only [xgs];try simp only [xgz];try simp only [Act.put];try simp only [xsa];try simp only [xss];try simp only [xsz]
    refine wpAnyF_ready (rs:=[15]) (by kernel_rfl) (by simp) ?_
    refine ReadyF.cons rfl (fun K' hK=>?_) ReadyF.nil
    go_simp
    with_reducible refine (HPL.out).mono ?_
    rintro e w4 ⟨rfl,hb⟩
    have HB:=xhd hb
    clear hb
    have d2':=((HB.out.cell (p:=⟨b,2,none⟩) hbl2).trans d2)
    have e1':=((HB.out.cell (p:=⟨g2,k*3+1,none⟩) hgl2).trans e1)
    have fg:=((HB.out.frozen (p:=⟨g2,k*3+1,none⟩) hgl2).trans frz1)
    have hS1:(fun V:World=>V.cell? ⟨b,2,none⟩=some (.slice (some ⟨g2,0,none⟩) n cap2)∧V.cell? ⟨g2,k*3+1,none⟩=some (.int .u64 v)) w4:=⟨d2',e1'⟩
    go_wp2_with fail
    refine hK.out _ _ (.inr ?_) ?_
    ·exact hS1
    clear hK K'
    try simp only [xga];try simp only [xgs];try simp only [xgz];try simp only [Act.put];try simp only [xsa];try simp only [xss];try simp only [xsz]
    refine wpAnyF_free (i:=16) (v:=?_) rfl (by kernel_rfl) (by decide) (fun _ _ _ h=>h) (by kernel_rfl) (by kernel_rfl) (Or.inl ⟨by rfl,?hy⟩) (by assumption) ?_
    case hy=>
     intro w _
     go_simp
     try with_reducible rfl
    try simp only [xga];try simp only [xgs];try simp only [xgz];try simp only [Act.put];try simp only [xsa];try simp only [xss];try simp only [xsz]
    refine wpAnyF_free (i:=17) (v:=?_) rfl (by kernel_rfl) (by decide) (fun _ _ _ h=>h) (by kernel_rfl) (by kernel_rfl) (Or.inl ⟨by rfl,?hy⟩) (by assumption) ?_
    case hy=>
     intro w _
     go_simp
     try with_reducible rfl
    try simp only [xga];try simp only [xgs];try simp only [xgz];try simp only [Act.put];try simp only [xsa];try simp only [xss];try simp only [xsz]
    refine wpAnyF_ready (rs:=[18]) (by kernel_rfl) (by simp) ?_
    refine ReadyF.cons rfl (fun K' hK=>?_) ReadyF.nil
    go_simp
    refine hK.out _ _ (.inl (by kernel_rfl)) ?_
    clear hK K'
    try simp only [xga];try simp only [xgs];try simp only [xgz];try simp only [Act.put];try simp only [xsa];try simp only [xss];try simp only [xsz]
    refine wpAnyF_done (by kernel_rfl) ?_ _
    refine NoPanic.normal ?_
    try simp only [xga];try simp only [xgs];try simp only [xgz];try simp only [Act.put];try simp only [xsa];try simp only [xss];try simp only [xsz]
    have HFIN:Hid (R16 (w4.setCell ⟨g2,k*3+1,none⟩ (.int .u64 p)) b X { q with l:=q.l.set k (q.l[k].1,q.place q.l[k].2.1 u,u),ran:=q.g } ∧Turned X w3 (w4.setCell ⟨g2,k*3+1,none⟩ (.int .u64 p))):=by
     have hW4:Below W2.heap.size W2 w4:=((Below.refl _ W2).drew).trans (HB.out.mono (Nat.le_refl _))
     have hkk:k < (q.l.set k (q.l[k].1,q.l[k].2.1,u)).length:=by rw [List.length_set];exact HKL.out
     obtain⟨s1,s2⟩:=(HM.out.1.below hW4).store (k:=k) ((hW4.cell (p:=⟨b,2,none⟩) hbl2).trans HM.out.2.2) hkk (v:=p)
     refine⟨?_,(HM.out.2.1.trans (turned_below hW4) (Newer.refl _ _)).trans s2 (Newer.refl _ _)⟩
     have e:q.l.set k (q.l[k].1,q.place q.l[k].2.1 u,u)=(q.l.set k (q.l[k].1,q.l[k].2.1,u)).set k (((q.l.set k (q.l[k].1,q.l[k].2.1,u))[k]'hkk).1,p,((q.l.set k (q.l[k].1,q.l[k].2.1,u))[k]'hkk).2.2):=by
      rw [List.set_set,List.getElem_set_self, ←HPP.out, ←HV.out]
     rw [e]
     exact s1
    go_wp2
    go_ret
    exact⟨rfl,HFIN.out⟩
   ·rw [if_neg (fun hh=>hcc hh.2)]
    have hcd:q.l[k].2.2≠u∧¬q.cur=id:=⟨hcw,hcc⟩
    clear hcw hcc
    have HW0:Hid (∃W,w.setCell ⟨g,k*3+2,none⟩ (.int .i64 u)=W):=⟨_,rfl⟩
    have HM:Hid (R16 (w.setCell ⟨g,k*3+2,none⟩ (.int .i64 u)) b X { q with l:=q.l.set k (q.l[k].1,q.l[k].2.1,u),ran:=q.ran } ∧Turned X w (w.setCell ⟨g,k*3+2,none⟩ (.int .i64 u))∧(w.setCell ⟨g,k*3+2,none⟩ (.int .i64 u)).cell? ⟨b,2,none⟩=some (.slice (some ⟨g,0,none⟩) q.l.length cap)):=HMB
    clear HMA HMB
    have HQQ:=xhd (HQ2.out (q.ran))
    clear HQ2
    obtain⟨cur,hcurd⟩:∃cur,q.cur=cur:=⟨_,rfl⟩
    obtain⟨gr,hgrd⟩:∃gr,q.g=gr:=⟨_,rfl⟩
    have HLEN:Hid (q.l.length=q.l.length):=xhd rfl
    obtain⟨n,hn⟩:∃n,q.l.length=n:=⟨_,rfl⟩
    obtain⟨v,hv⟩:∃v,q.l[k].2.1=v:=⟨_,rfl⟩
    obtain⟨wo,hwo⟩:∃wo,q.l[k].2.2=wo:=⟨_,rfl⟩
    rw [hcurd] at c3 hcd
    rw [hgrd] at c0
    (try rw [hgrd] at HW0)
    rw [hn] at c2 i1
    replace r1:w.cell? ⟨g,k*3+1,none⟩=some (.int .u64 v):=r1.trans (congrArg (fun x=>some (Value.int .u64 x)) hv)
    replace r2:w.cell? ⟨g,k*3+2,none⟩=some (.int .i64 wo):=r2.trans (congrArg (fun x=>some (Value.int .i64 x)) hwo)
    replace hcd:wo≠u∧¬cur=id:=hwo ▸ hcd
    have HV:=xhd hv
    have HN:=xhd hn
    have HG:=xhd hgrd
    obtain⟨rr,hrr⟩:∃rr,q.ran=rr:=⟨_,rfl⟩
    rw [hrr] at c4
    clear hrr
    clear hcurd hgrd hn hv hwo HLEN
    obtain⟨hcd1,hcd2⟩:=hcd
    have t1:(wo != u)=true:=by simpa using hcd1
    have t2:(cur == id)=false:=by simpa using hcd2
    go_enter Tryz.func17,Tryz.ntmps17
    go_wp2_with fail
    with_reducible refine HAT.out.mono ?_
    rintro e w2 ⟨rfl,rfl⟩
    go_wp2_with fail
    with_reducible refine (HBR.out _).mono ?_
    rintro e w3 ⟨rfl,rfl⟩
    go_wp2_with fail
    obtain⟨W2,hW2⟩:=HW0.out
    have hW3:=hW2
    (try rw [←HG.out] at hW3)
    rw [hW3] at HM
    rw [hW2]
    clear hW2 hW3 HW0 c0 c2 c3 c4 r1 r2 frz frz1 frz2 cf4 hgl hbl
    obtain⟨hm1,hm2,d2⟩:=HM.out
    have hkk:=HKL.out
    have hkl2:k < (q.l.set k (q.l[k].1,q.l[k].2.1,u)).length:=by rw [List.length_set];exact hkk
    obtain⟨g2,cap2,e2,x0,e1,x2,efr,xb⟩:=hm1.task (k:=k) hkl2
    have hge:g2=g∧cap2=cap:=by
     have hh:=e2.symm.trans d2
     simp only [Option.some.injEq,Value.slice.injEq,Addr.mk.injEq,and_true] at hh
     first|exact⟨hh.1,hh.2⟩ |exact⟨hh.1,hh.2.2⟩
    obtain⟨rfl,rfl⟩:=hge
    replace e1:W2.cell? ⟨g2,k*3+1,none⟩=some (.int .u64 v):=by
     rw [e1]
     simp [HV.out]
    have frz1:=efr (k*3+1)
    have hbl2:b < W2.heap.size:=World.block_lt_of_cell? _ _ d2
    have hgl2:g2 < W2.heap.size:=World.block_lt_of_cell? _ _ e1
    have HPL:=xhd (rplace_any (w:=W2.drew) (q:= { q with l:=q.l.set k (q.l[k].1,q.l[k].2.1,u),ran:=q.ran }) hm1 HF.out v u)
    have hpp:Rq.place { q with l:=q.l.set k (q.l[k].1,q.l[k].2.1,u),ran:=q.ran } v u=q.place v u:=by
     have:=HQQ.out
     rw [HV.out] at this
     exact this
    rw [hpp] at HPL
    obtain⟨p,hp⟩:∃p,q.place v u=p:=⟨_,rfl⟩
    rw [hp] at HPL
    have HPP:=xhd hp
    rw [HN.out] at d2
    clear x0 x2 xb hm1 hm2 e2 efr hkk hkl2 hpp hp
    have hmix:Tryz.prog.follows .mixedOrders=true:=by kernel_rfl
    refine wp_region_noPanic ?_
    refine wp_region_lastF (fun V=>V.cell? ⟨b,2,none⟩=some (.slice (some ⟨g2,0,none⟩) n cap2)∧V.cell? ⟨g2,k*3+1,none⟩=some (.int .u64 v)) 18 hmix ⟨d2,e1⟩ (fun hS0=>?_)
    refine wpAnyF_free (i:=0) (v:=?_) rfl (by kernel_rfl) (by decide) (fun _ _ _ h=>h) (by kernel_rfl) (by kernel_rfl) (Or.inl ⟨by rfl,?hy⟩) (by assumption) ?_
    case hy=>
     intro w _
     go_simp
     try with_reducible rfl
    try simp only [xga];try simp only [xgs];try simp only [xgz];try simp only [Act.put];try simp only [xsa];try simp only [xss];try simp only [xsz]
    refine wpAnyF_free (i:=1) (v:=?_) rfl (by kernel_rfl) (by decide) (fun _ _ _ h=>h) (by kernel_rfl) (by kernel_rfl) (Or.inl ⟨by rfl,?hy⟩) (by assumption) ?_
    case hy=>
     intro w _
     go_simp
     try with_reducible rfl
    try simp only [xga];try simp only [xgs];try simp only [xgz];try simp only [Act.put];try simp only [xsa];try simp only [xss];try simp only [xsz]
    refine wpAnyF_free (i:=2) (v:=?_) rfl (by kernel_rfl) (by decide) (fun _ _ _ h=>h) (by kernel_rfl) (by kernel_rfl) (Or.inl ⟨by rfl,?hy⟩) (by assumption) ?_
    case hy=>
     intro w _
     go_simp
     try with_reducible rfl
    try simp only [xga];try simp only [xgs];try simp only [xgz];try simp only [Act.put];try simp only [xsa];try simp only [xss];try simp only [xsz]
    refine wpAnyF_take (i:=3) (v:=?_) rfl (by kernel_rfl) (by kernel_rfl) (fun _ _ _ h=>h) (by kernel_rfl) (by kernel_rfl) (by kernel_rfl) (Or.inl ⟨by rfl,?hy⟩) (by assumption) ?_
    case hy=>
     intro w hSw
     (try dsimp only at hSw)
     obtain⟨s0,s1⟩:=hSw
     go_simp
     try with_reducible rfl
    try simp only [xga];try simp only [xgs];try simp only [xgz];try simp only [Act.put];try simp only [xsa];try simp only [xss];try simp only [xsz]
    refine wpAnyF_free (i:=4) (v:=?_) rfl (by kernel_rfl) (by decide) (fun _ _ _ h=>h) (by kernel_rfl) (by kernel_rfl) (Or.inl ⟨by rfl,?hy⟩) (by assumption) ?_
    case hy=>
     intro w _
     go_simp
     try with_reducible rfl
    try simp only [xga];try simp only [xgs];try simp only [xgz];try simp only [Act.put];try simp only [xsa];try simp only [xss];try simp only [xsz]
    refine wpAnyF_free (i:=5) (v:=?_) rfl (by kernel_rfl) (by decide) (fun _ _ _ h=>h) (by kernel_rfl) (by kernel_rfl) (Or.inl ⟨by rfl,?hy⟩) (by assumption) ?_
    case hy=>
     intro w _
     go_simp
     try with_reducible rfl
    try simp only [xga];try simp only [xgs];try simp only [xgz];try simp only [Act.put];try simp only [xsa];try simp only [xss];try simp only [xsz]
    refine wpAnyF_free (i:=6) (v:=?_) rfl (by kernel_rfl) (by decide) (fun _ _ _ h=>h) (by kernel_rfl) (by kernel_rfl) (Or.inl ⟨by rfl,?hy⟩) (by assumption) ?_
    case hy=>
     intro w _
     go_simp
     try with_reducible rfl
    try simp only [xga];try simp only [xgs];try simp only [xgz];try simp only [Act.put];try simp only [xsa];try simp only [xss];try simp only [xsz]
    refine wpAnyF_free (i:=7) (v:=?_) rfl (by kernel_rfl) (by decide) (fun _ _ _ h=>h) (by kernel_rfl) (by kernel_rfl) (Or.inl ⟨by rfl,?hy⟩) (by assumption) ?_
    case hy=>
     intro w _
     go_simp
     try with_reducible rfl
    try simp only [xga];try simp only [xgs];try simp only [xgz];try simp only [Act.put];try simp only [xsa];try simp only [xss];try simp only [xsz]
    refine wpAnyF_free (i:=8) (v:=?_) rfl (by kernel_rfl) (by decide) (fun _ _ _ h=>h) (by kernel_rfl) (by kernel_rfl) (Or.inl ⟨by rfl,?hy⟩) (by assumption) ?_
    case hy=>
     intro w _
     go_simp
     try with_reducible rfl
    try simp only [xga];try simp only [xgs];try simp only [xgz];try simp only [Act.put];try simp only [xsa];try simp only [xss];try simp only [xsz]
    refine wpAnyF_take (i:=9) (v:=?_) rfl (by kernel_rfl) (by kernel_rfl) (fun _ _ _ h=>h) (by kernel_rfl) (by kernel_rfl) (by kernel_rfl) (Or.inl ⟨by rfl,?hy⟩) (by assumption) ?_
    case hy=>
     intro w hSw
     (try dsimp only at hSw)
     obtain⟨s0,s1⟩:=hSw
     go_simp
     try with_reducible rfl
    try simp only [xga];try simp only [xgs];try simp only [xgz];try simp only [Act.put];try simp only [xsa];try simp only [xss];try simp only [xsz]
    refine wpAnyF_free (i:=10) (v:=?_) rfl (by kernel_rfl) (by decide) (fun _ _ _ h=>h) (by kernel_rfl) (by kernel_rfl) (Or.inl ⟨by rfl,?hy⟩) (by assumption) ?_
    case hy=>
     intro w _
     go_simp
     try with_reducible rfl
    try simp only [xga];try simp only [xgs];try simp only [xgz];try simp only [Act.put];try simp only [xsa];try simp only [xss];try simp only [xsz]
    refine wpAnyF_free (i:=11) (v:=?_) rfl (by kernel_rfl) (by decide) (fun _ _ _ h=>h) (by kernel_rfl) (by kernel_rfl) (Or.inl ⟨by rfl,?hy⟩) (by assumption) ?_
    case hy=>
     intro w _
     go_simp
     try with_reducible rfl
    try simp only [xga];try simp only [xgs];try simp only [xgz];try simp only [Act.put];try simp only [xsa];try simp only [xss];try simp only [xsz]
    refine wpAnyF_free (i:=12) (v:=?_) rfl (by kernel_rfl) (by decide) (fun _ _ _ h=>h) (by kernel_rfl) (by kernel_rfl) (Or.inl ⟨by rfl,?hy⟩) (by assumption) ?_
    case hy=>
     intro w _
     go_simp
     try with_reducible rfl
    try simp only [xga];try simp only [xgs];try simp only [xgz];try simp only [Act.put];try simp only [xsa];try simp only [xss];try simp only [xsz]
    refine wpAnyF_take (i:=13) (v:=?_) rfl (by kernel_rfl) (by kernel_rfl) (fun _ _ _ h=>h) (by kernel_rfl) (by kernel_rfl) (by kernel_rfl) (Or.inl ⟨by rfl,?hy⟩) (by assumption) ?_
    case hy=>
     intro w hSw
     (try dsimp only at hSw)
     obtain⟨s0,s1⟩:=hSw
     go_simp
     try with_reducible rfl
    try simp only [xga];try simp only [xgs];try simp only [xgz];try simp only [Act.put];try simp only [xsa];try simp only [xss];try simp only [xsz]
    refine wpAnyF_free (i:=14) (v:=?_) rfl (by kernel_rfl) (by decide) (fun _ _ _ h=>h) (by kernel_rfl) (by kernel_rfl) (Or.inl ⟨by rfl,?hy⟩) (by assumption) ?_
    case hy=>
     intro w _
     go_simp
     try with_reducible rfl
    try simp only [xga];try simp only [xgs];try simp only [xgz];try simp only [Act.put];try simp only [xsa];try simp only [xss];try simp only [xsz]
    refine wpAnyF_ready (rs:=[15]) (by kernel_rfl) (by simp) ?_
    refine ReadyF.cons rfl (fun K' hK=>?_) ReadyF.nil
    go_simp
    with_reducible refine (HPL.out).mono ?_
    rintro e w4 ⟨rfl,hb⟩
    have HB:=xhd hb
    clear hb
    have d2':=((HB.out.cell (p:=⟨b,2,none⟩) hbl2).trans d2)
    have e1':=((HB.out.cell (p:=⟨g2,k*3+1,none⟩) hgl2).trans e1)
    have fg:=((HB.out.frozen (p:=⟨g2,k*3+1,none⟩) hgl2).trans frz1)
    have hS1:(fun V:World=>V.cell? ⟨b,2,none⟩=some (.slice (some ⟨g2,0,none⟩) n cap2)∧V.cell? ⟨g2,k*3+1,none⟩=some (.int .u64 v)) w4:=⟨d2',e1'⟩
    go_wp2_with fail
    refine hK.out _ _ (.inr ?_) ?_
    ·exact hS1
    clear hK K'
    try simp only [xga];try simp only [xgs];try simp only [xgz];try simp only [Act.put];try simp only [xsa];try simp only [xss];try simp only [xsz]
    refine wpAnyF_free (i:=16) (v:=?_) rfl (by kernel_rfl) (by decide) (fun _ _ _ h=>h) (by kernel_rfl) (by kernel_rfl) (Or.inl ⟨by rfl,?hy⟩) (by assumption) ?_
    case hy=>
     intro w _
     go_simp
     try with_reducible rfl
    try simp only [xga];try simp only [xgs];try simp only [xgz];try simp only [Act.put];try simp only [xsa];try simp only [xss];try simp only [xsz]
    refine wpAnyF_free (i:=17) (v:=?_) rfl (by kernel_rfl) (by decide) (fun _ _ _ h=>h) (by kernel_rfl) (by kernel_rfl) (Or.inl ⟨by rfl,?hy⟩) (by assumption) ?_
    case hy=>
     intro w _
     go_simp
     try with_reducible rfl
    try simp only [xga];try simp only [xgs];try simp only [xgz];try simp only [Act.put];try simp only [xsa];try simp only [xss];try simp only [xsz]
    refine wpAnyF_ready (rs:=[18]) (by kernel_rfl) (by simp) ?_
    refine ReadyF.cons rfl (fun K' hK=>?_) ReadyF.nil
    go_simp
    refine hK.out _ _ (.inl (by kernel_rfl)) ?_
    clear hK K'
    try simp only [xga];try simp only [xgs];try simp only [xgz];try simp only [Act.put];try simp only [xsa];try simp only [xss];try simp only [xsz]
    refine wpAnyF_done (by kernel_rfl) ?_ _
    refine NoPanic.normal ?_
    try simp only [xga];try simp only [xgs];try simp only [xgz];try simp only [Act.put];try simp only [xsa];try simp only [xss];try simp only [xsz]
    have HFIN:Hid (R16 (w4.setCell ⟨g2,k*3+1,none⟩ (.int .u64 p)) b X { q with l:=q.l.set k (q.l[k].1,q.place q.l[k].2.1 u,u),ran:=q.ran } ∧Turned X w3 (w4.setCell ⟨g2,k*3+1,none⟩ (.int .u64 p))):=by
     have hW4:Below W2.heap.size W2 w4:=((Below.refl _ W2).drew).trans (HB.out.mono (Nat.le_refl _))
     have hkk:k < (q.l.set k (q.l[k].1,q.l[k].2.1,u)).length:=by rw [List.length_set];exact HKL.out
     obtain⟨s1,s2⟩:=(HM.out.1.below hW4).store (k:=k) ((hW4.cell (p:=⟨b,2,none⟩) hbl2).trans HM.out.2.2) hkk (v:=p)
     refine⟨?_,(HM.out.2.1.trans (turned_below hW4) (Newer.refl _ _)).trans s2 (Newer.refl _ _)⟩
     have e:q.l.set k (q.l[k].1,q.place q.l[k].2.1 u,u)=(q.l.set k (q.l[k].1,q.l[k].2.1,u)).set k (((q.l.set k (q.l[k].1,q.l[k].2.1,u))[k]'hkk).1,p,((q.l.set k (q.l[k].1,q.l[k].2.1,u))[k]'hkk).2.2):=by
      rw [List.set_set,List.getElem_set_self, ←HPP.out, ←HV.out]
     rw [e]
     exact s1
    go_wp2
    go_ret
    exact⟨rfl,HFIN.out⟩
  ·rw [if_neg (fun hh=>hcw hh.1)]
   have hcd:q.l[k].2.2=u∧q.cur=q.cur:=⟨by simpa using hcw,rfl⟩
   clear hcw
   have HW0:Hid (∃W,w.setCell ⟨g,k*3+2,none⟩ (.int .i64 u)=W):=⟨_,rfl⟩
   have HM:Hid (R16 (w.setCell ⟨g,k*3+2,none⟩ (.int .i64 u)) b X { q with l:=q.l.set k (q.l[k].1,q.l[k].2.1,u),ran:=q.ran } ∧Turned X w (w.setCell ⟨g,k*3+2,none⟩ (.int .i64 u))∧(w.setCell ⟨g,k*3+2,none⟩ (.int .i64 u)).cell? ⟨b,2,none⟩=some (.slice (some ⟨g,0,none⟩) q.l.length cap)):=HMB
   clear HMA HMB
   have HQQ:=xhd (HQ2.out (q.ran))
   clear HQ2
   obtain⟨cur,hcurd⟩:∃cur,q.cur=cur:=⟨_,rfl⟩
   obtain⟨gr,hgrd⟩:∃gr,q.g=gr:=⟨_,rfl⟩
   have HLEN:Hid (q.l.length=q.l.length):=xhd rfl
   obtain⟨n,hn⟩:∃n,q.l.length=n:=⟨_,rfl⟩
   obtain⟨v,hv⟩:∃v,q.l[k].2.1=v:=⟨_,rfl⟩
   obtain⟨wo,hwo⟩:∃wo,q.l[k].2.2=wo:=⟨_,rfl⟩
   rw [hcurd] at c3 hcd
   rw [hgrd] at c0
   (try rw [hgrd] at HW0)
   rw [hn] at c2 i1
   replace r1:w.cell? ⟨g,k*3+1,none⟩=some (.int .u64 v):=r1.trans (congrArg (fun x=>some (Value.int .u64 x)) hv)
   replace r2:w.cell? ⟨g,k*3+2,none⟩=some (.int .i64 wo):=r2.trans (congrArg (fun x=>some (Value.int .i64 x)) hwo)
   replace hcd:wo=u∧cur=cur:=hwo ▸ hcd
   have HV:=xhd hv
   have HN:=xhd hn
   have HG:=xhd hgrd
   obtain⟨rr,hrr⟩:∃rr,q.ran=rr:=⟨_,rfl⟩
   rw [hrr] at c4
   clear hrr
   clear hcurd hgrd hn hv hwo HLEN
   obtain rfl:u=wo:=hcd.1.symm
   go_enter Tryz.func17,Tryz.ntmps17
   go_wp2_with fail
   with_reducible refine HAT.out.mono ?_
   rintro e w2 ⟨rfl,rfl⟩
   go_wp2_with fail
   with_reducible refine (HBR.out _).mono ?_
   rintro e w3 ⟨rfl,rfl⟩
   go_wp2_with fail
   obtain⟨W2,hW2⟩:=HW0.out
   have hW3:=hW2
   (try rw [←HG.out] at hW3)
   rw [hW3] at HM
   rw [hW2]
   clear hW2 hW3 HW0 c0 c2 c3 c4 r1 r2 frz frz1 frz2 cf4 hgl hbl
   obtain⟨hm1,hm2,d2⟩:=HM.out
   have hkk:=HKL.out
   have hkl2:k < (q.l.set k (q.l[k].1,q.l[k].2.1,u)).length:=by rw [List.length_set];exact hkk
   obtain⟨g2,cap2,e2,x0,e1,x2,efr,xb⟩:=hm1.task (k:=k) hkl2
   have hge:g2=g∧cap2=cap:=by
    have hh:=e2.symm.trans d2
    simp only [Option.some.injEq,Value.slice.injEq,Addr.mk.injEq,and_true] at hh
    first|exact⟨hh.1,hh.2⟩ |exact⟨hh.1,hh.2.2⟩
   obtain⟨rfl,rfl⟩:=hge
   replace e1:W2.cell? ⟨g2,k*3+1,none⟩=some (.int .u64 v):=by
    rw [e1]
    simp [HV.out]
   have frz1:=efr (k*3+1)
   have hbl2:b < W2.heap.size:=World.block_lt_of_cell? _ _ d2
   have hgl2:g2 < W2.heap.size:=World.block_lt_of_cell? _ _ e1
   have HPL:=xhd (rplace_any (w:=W2.drew) (q:= { q with l:=q.l.set k (q.l[k].1,q.l[k].2.1,u),ran:=q.ran }) hm1 HF.out v u)
   have hpp:Rq.place { q with l:=q.l.set k (q.l[k].1,q.l[k].2.1,u),ran:=q.ran } v u=q.place v u:=by
    have:=HQQ.out
    rw [HV.out] at this
    exact this
   rw [hpp] at HPL
   obtain⟨p,hp⟩:∃p,q.place v u=p:=⟨_,rfl⟩
   rw [hp] at HPL
   have HPP:=xhd hp
   rw [HN.out] at d2
   clear x0 x2 xb hm1 hm2 e2 efr hkk hkl2 hpp hp
   have hmix:Tryz.prog.follows .mixedOrders=true:=by kernel_rfl
   refine wp_region_noPanic ?_
   refine wp_region_lastF (fun V=>V.cell? ⟨b,2,none⟩=some (.slice (some ⟨g2,0,none⟩) n cap2)∧V.cell? ⟨g2,k*3+1,none⟩=some (.int .u64 v)) 18 hmix ⟨d2,e1⟩ (fun hS0=>?_)
   refine wpAnyF_free (i:=0) (v:=?_) rfl (by kernel_rfl) (by decide) (fun _ _ _ h=>h) (by kernel_rfl) (by kernel_rfl) (Or.inl ⟨by rfl,?hy⟩) (by assumption) ?_
   case hy=>
    intro w _
    go_simp
    try with_reducible rfl
   try simp only [xga];try simp only [xgs];try simp only [xgz];try simp only [Act.put];try simp only [xsa];try simp only [xss];try simp only [xsz]
   refine wpAnyF_free (i:=1) (v:=?_) rfl (by kernel_rfl) (by decide) (fun _ _ _ h=>h) (by kernel_rfl) (by kernel_rfl) (Or.inl ⟨by rfl,?hy⟩) (by assumption) ?_
   case hy=>
    intro w _
    go_simp
    try with_reducible rfl
   try simp only [xga];try simp only [xgs];try simp only [xgz];try simp only [Act.put];try simp only [xsa];try simp only [xss];try simp only [xsz]
   refine wpAnyF_free (i:=2) (v:=?_) rfl (by kernel_rfl) (by decide) (fun _ _ _ h=>h) (by kernel_rfl) (by kernel_rfl) (Or.inl ⟨by rfl,?hy⟩) (by assumption) ?_
   case hy=>
    intro w _
    go_simp
    try with_reducible rfl
   try simp only [xga];try simp only [xgs];try simp only [xgz];try simp only [Act.put];try simp only [xsa];try simp only [xss];try simp only [xsz]
   refine wpAnyF_take (i:=3) (v:=?_) rfl (by kernel_rfl) (by kernel_rfl) (fun _ _ _ h=>h) (by kernel_rfl) (by kernel_rfl) (by kernel_rfl) (Or.inl ⟨by rfl,?hy⟩) (by assumption) ?_
   case hy=>
    intro w hSw
    (try dsimp only at hSw)
    obtain⟨s0,s1⟩:=hSw
    go_simp
    try with_reducible rfl
   try simp only [xga];try simp only [xgs];try simp only [xgz];try simp only [Act.put];try simp only [xsa];try simp only [xss];try simp only [xsz]
   refine wpAnyF_free (i:=4) (v:=?_) rfl (by kernel_rfl) (by decide) (fun _ _ _ h=>h) (by kernel_rfl) (by kernel_rfl) (Or.inl ⟨by rfl,?hy⟩) (by assumption) ?_
   case hy=>
    intro w _
    go_simp
    try with_reducible rfl
   try simp only [xga];try simp only [xgs];try simp only [xgz];try simp only [Act.put];try simp only [xsa];try simp only [xss];try simp only [xsz]
   refine wpAnyF_free (i:=5) (v:=?_) rfl (by kernel_rfl) (by decide) (fun _ _ _ h=>h) (by kernel_rfl) (by kernel_rfl) (Or.inl ⟨by rfl,?hy⟩) (by assumption) ?_
   case hy=>
    intro w _
    go_simp
    try with_reducible rfl
   try simp only [xga];try simp only [xgs];try simp only [xgz];try simp only [Act.put];try simp only [xsa];try simp only [xss];try simp only [xsz]
   refine wpAnyF_free (i:=6) (v:=?_) rfl (by kernel_rfl) (by decide) (fun _ _ _ h=>h) (by kernel_rfl) (by kernel_rfl) (Or.inl ⟨by rfl,?hy⟩) (by assumption) ?_
   case hy=>
    intro w _
    go_simp
    try with_reducible rfl
   try simp only [xga];try simp only [xgs];try simp only [xgz];try simp only [Act.put];try simp only [xsa];try simp only [xss];try simp only [xsz]
   refine wpAnyF_free (i:=7) (v:=?_) rfl (by kernel_rfl) (by decide) (fun _ _ _ h=>h) (by kernel_rfl) (by kernel_rfl) (Or.inl ⟨by rfl,?hy⟩) (by assumption) ?_
   case hy=>
    intro w _
    go_simp
    try with_reducible rfl
   try simp only [xga];try simp only [xgs];try simp only [xgz];try simp only [Act.put];try simp only [xsa];try simp only [xss];try simp only [xsz]
   refine wpAnyF_free (i:=8) (v:=?_) rfl (by kernel_rfl) (by decide) (fun _ _ _ h=>h) (by kernel_rfl) (by kernel_rfl) (Or.inl ⟨by rfl,?hy⟩) (by assumption) ?_
   case hy=>
    intro w _
    go_simp
    try with_reducible rfl
   try simp only [xga];try simp only [xgs];try simp only [xgz];try simp only [Act.put];try simp only [xsa];try simp only [xss];try simp only [xsz]
   refine wpAnyF_take (i:=9) (v:=?_) rfl (by kernel_rfl) (by kernel_rfl) (fun _ _ _ h=>h) (by kernel_rfl) (by kernel_rfl) (by kernel_rfl) (Or.inl ⟨by rfl,?hy⟩) (by assumption) ?_
   case hy=>
    intro w hSw
    (try dsimp only at hSw)
    obtain⟨s0,s1⟩:=hSw
    go_simp
    try with_reducible rfl
   try simp only [xga];try simp only [xgs];try simp only [xgz];try simp only [Act.put];try simp only [xsa];try simp only [xss];try simp only [xsz]
   refine wpAnyF_free (i:=10) (v:=?_) rfl (by kernel_rfl) (by decide) (fun _ _ _ h=>h) (by kernel_rfl) (by kernel_rfl) (Or.inl ⟨by rfl,?hy⟩) (by assumption) ?_
   case hy=>
    intro w _
    go_simp
    try with_reducible rfl
   try simp only [xga];try simp only [xgs];try simp only [xgz];try simp only [Act.put];try simp only [xsa];try simp only [xss];try simp only [xsz]
   refine wpAnyF_free (i:=11) (v:=?_) rfl (by kernel_rfl) (by decide) (fun _ _ _ h=>h) (by kernel_rfl) (by kernel_rfl) (Or.inl ⟨by rfl,?hy⟩) (by assumption) ?_
   case hy=>
    intro w _
    go_simp
    try with_reducible rfl
   try simp only [xga];try simp only [xgs];try simp only [xgz];try simp only [Act.put];try simp only [xsa];try simp only [xss];try simp only [xsz]
   refine wpAnyF_free (i:=12) (v:=?_) rfl (by kernel_rfl) (by decide) (fun _ _ _ h=>h) (by kernel_rfl) (by kernel_rfl) (Or.inl ⟨by rfl,?hy⟩) (by assumption) ?_
   case hy=>
    intro w _
    go_simp
    try with_reducible rfl
   try simp only [xga];try simp only [xgs];try simp only [xgz];try simp only [Act.put];try simp only [xsa];try simp only [xss];try simp only [xsz]
   refine wpAnyF_take (i:=13) (v:=?_) rfl (by kernel_rfl) (by kernel_rfl) (fun _ _ _ h=>h) (by kernel_rfl) (by kernel_rfl) (by kernel_rfl) (Or.inl ⟨by rfl,?hy⟩) (by assumption) ?_
   case hy=>
    intro w hSw
    (try dsimp only at hSw)
    obtain⟨s0,s1⟩:=hSw
    go_simp
    try with_reducible rfl
   try simp only [xga];try simp only [xgs];try simp only [xgz];try simp only [Act.put];try simp only [xsa];try simp only [xss];try simp only [xsz]
   refine wpAnyF_free (i:=14) (v:=?_) rfl (by kernel_rfl) (by decide) (fun _ _ _ h=>h) (by kernel_rfl) (by kernel_rfl) (Or.inl ⟨by rfl,?hy⟩) (by assumption) ?_
   case hy=>
    intro w _
    go_simp
    try with_reducible rfl
   try simp only [xga];try simp only [xgs];try simp only [xgz];try simp only [Act.put];try simp only [xsa];try simp only [xss];try simp only [xsz]
   refine wpAnyF_ready (rs:=[15]) (by kernel_rfl) (by simp) ?_
   refine ReadyF.cons rfl (fun K' hK=>?_) ReadyF.nil
   go_simp
   with_reducible refine (HPL.out).mono ?_
   rintro e w4 ⟨rfl,hb⟩
   have HB:=xhd hb
   clear hb
   have d2':=((HB.out.cell (p:=⟨b,2,none⟩) hbl2).trans d2)
   have e1':=((HB.out.cell (p:=⟨g2,k*3+1,none⟩) hgl2).trans e1)
   have fg:=((HB.out.frozen (p:=⟨g2,k*3+1,none⟩) hgl2).trans frz1)
   have hS1:(fun V:World=>V.cell? ⟨b,2,none⟩=some (.slice (some ⟨g2,0,none⟩) n cap2)∧V.cell? ⟨g2,k*3+1,none⟩=some (.int .u64 v)) w4:=⟨d2',e1'⟩
   go_wp2_with fail
   refine hK.out _ _ (.inr ?_) ?_
   ·exact hS1
   clear hK K'
   try simp only [xga];try simp only [xgs];try simp only [xgz];try simp only [Act.put];try simp only [xsa];try simp only [xss];try simp only [xsz]
   refine wpAnyF_free (i:=16) (v:=?_) rfl (by kernel_rfl) (by decide) (fun _ _ _ h=>h) (by kernel_rfl) (by kernel_rfl) (Or.inl ⟨by rfl,?hy⟩) (by assumption) ?_
   case hy=>
    intro w _
    go_simp
    try with_reducible rfl
   try simp only [xga];try simp only [xgs];try simp only [xgz];try simp only [Act.put];try simp only [xsa];try simp only [xss];try simp only [xsz]
   refine wpAnyF_free (i:=17) (v:=?_) rfl (by kernel_rfl) (by decide) (fun _ _ _ h=>h) (by kernel_rfl) (by kernel_rfl) (Or.inl ⟨by rfl,?hy⟩) (by assumption) ?_
   case hy=>
    intro w _
    go_simp
    try with_reducible rfl
   try simp only [xga];try simp only [xgs];try simp only [xgz];try simp only [Act.put];try simp only [xsa];try simp only [xss];try simp only [xsz]
   refine wpAnyF_ready (rs:=[18]) (by kernel_rfl) (by simp) ?_
   refine ReadyF.cons rfl (fun K' hK=>?_) ReadyF.nil
   go_simp
   refine hK.out _ _ (.inl (by kernel_rfl)) ?_
   clear hK K'
   try simp only [xga];try simp only [xgs];try simp only [xgz];try simp only [Act.put];try simp only [xsa];try simp only [xss];try simp only [xsz]
   refine wpAnyF_done (by kernel_rfl) ?_ _
   refine NoPanic.normal ?_
   try simp only [xga];try simp only [xgs];try simp only [xgz];try simp only [Act.put];try simp only [xsa];try simp only [xss];try simp only [xsz]
   have HFIN:Hid (R16 (w4.setCell ⟨g2,k*3+1,none⟩ (.int .u64 p)) b X { q with l:=q.l.set k (q.l[k].1,q.place q.l[k].2.1 u,u),ran:=q.ran } ∧Turned X w3 (w4.setCell ⟨g2,k*3+1,none⟩ (.int .u64 p))):=by
    have hW4:Below W2.heap.size W2 w4:=((Below.refl _ W2).drew).trans (HB.out.mono (Nat.le_refl _))
    have hkk:k < (q.l.set k (q.l[k].1,q.l[k].2.1,u)).length:=by rw [List.length_set];exact HKL.out
    obtain⟨s1,s2⟩:=(HM.out.1.below hW4).store (k:=k) ((hW4.cell (p:=⟨b,2,none⟩) hbl2).trans HM.out.2.2) hkk (v:=p)
    refine⟨?_,(HM.out.2.1.trans (turned_below hW4) (Newer.refl _ _)).trans s2 (Newer.refl _ _)⟩
    have e:q.l.set k (q.l[k].1,q.place q.l[k].2.1 u,u)=(q.l.set k (q.l[k].1,q.l[k].2.1,u)).set k (((q.l.set k (q.l[k].1,q.l[k].2.1,u))[k]'hkk).1,p,((q.l.set k (q.l[k].1,q.l[k].2.1,u))[k]'hkk).2.2):=by
     rw [List.set_set,List.getElem_set_self, ←HPP.out, ←HV.out]
    rw [e]
    exact s1
   go_wp2
   go_ret
   exact⟨rfl,HFIN.out⟩
end Go.Proofs.YtfmciiffcmfagaaGreat
