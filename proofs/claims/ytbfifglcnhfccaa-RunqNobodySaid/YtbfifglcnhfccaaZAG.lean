/-
  The document's Due.
  What holds of every queue, whatever is done to it. No program.
  Shares by weight, plainly, where costs are rounded down: who is, ahead of and behind a stretch, ahead of a floor by no more than a reach, has a fair share of the stretch's ticks. No program.
  Goes between which nothing is done, plainly: who has the ticks; the ticks are fair. No program.
  The document's Go.
  A loop over a function that turns memory of its own between two rounds, and may move to new memory: its contract, and the caller's law. No program.
  A loop over a function that leans on memory which nobody turns while it runs, and turns memory of its own, which may move. No program.
  What is to be said of the program's queues, for the laws of stage 16. (Made by gen_rqsaid.py.)
  The program's queue and the document's, side by side.
  Stage 16's arguments, opened to their cells.
-/
import Derived.Test.YtbfifglcnhfccaaZAF
import Derived.Test.YtbfifglcnhfccaaZAB
import Derived.Test.YtbfifglcnhfccaaZAA
import Derived.Test.YtbfifglcnhfccaaZAl
set_option maxRecDepth 100000
set_option maxHeartbeats 25600000
namespace Go.Proofs.Ytbfifglcnhfccaa
open Go.RowKit
theorem due_free {q:Rq} (h:¬0≤q.cur):q.due=false:=by
 unfold Rq.due
 split
 ·rfl
 ·rw [decide_eq_false h,Bool.false_and,Bool.false_and]
theorem due_new {q:Rq} (h:¬q.g≤q.ran):q.due=false:=by
 unfold Rq.due
 split
 ·rfl
 ·rw [decide_eq_false h,Bool.and_false,Bool.false_and]
theorem due_alone {q:Rq} (h:sortQ q.ready=[]):q.due=false:=by
 unfold Rq.due
 split
 ·rfl
 ·rw [any_head,h,Bool.and_false]
theorem due_head {q:Rq} (hu:(q.l.map (·.1)).Nodup) (h0:0≤q.cur) (hg:q.g≤q.ran) {k:Nat} (hk:k < q.l.length) (he:q.l[k].1=q.cur) {x:Tk} {r:List Tk} (h:sortQ q.ready=x::r):q.due=decide (x.2.1 < q.l[k].2.1):=by
 unfold Rq.due
 rw [find_at hu hk he]
 dsimp only
 rw [any_head,h,decide_eq_true h0,decide_eq_true hg]
 rfl
theorem rdue_any {w:World} {b:Nat} {X:List Nat} {q:Rq} (h:R16 w b X q) (hu:(q.l.map (·.1)).Nodup) (hc:0≤q.cur→∃x ∈ q.l,x.1=q.cur) (hL:q.l.length≤1000):
  Calls Try.prog 56 #[.pointer (some ⟨b,0,none⟩)] w fun e w'=>e= .returned (.bool q.due)∧Below w.heap.size w w':=by
 have HR:=xhd (rready_any h hL)
 have HQ:=xhd (fun V (hV:Below w.heap.size w V)=>h.below hV)
 have D1:=xhd (fun h0=>due_free (q:=q) h0)
 have D2:=xhd (fun h0=>due_new (q:=q) h0)
 have D3:=xhd (fun h0=>due_alone (q:=q) h0)
 have D4:=xhd (fun h0 hg (k:Nat) (hk:k < q.l.length) he (x:Tk) r hs=>due_head (q:=q) hu h0 hg hk he (x:=x) (r:=r) hs)
 obtain⟨S,hS⟩:∃S,sortQ q.ready=S:=⟨_,rfl⟩
 rw [hS] at HR D3 D4
 have HC:=xhd hc
 clear h hu hL hS hc
 go_enter Try.func56,Try.ntmps56
 go_wp2_with fail
 with_reducible refine HR.out.mono ?_
 rintro e V ⟨v,rfl,hrow,hb⟩
 have HQV:=xhd (HQ.out V hb)
 have HB:=xhd hb
 obtain⟨v5,p1,p2,p3⟩:=HQV.out
 obtain⟨c0,z1,z2,c3,c4,z5⟩:=cells5q p1
 clear z1 z2 p2 p3 p1 z5 hb
 have HDW:=xhd (fun nq=>HB.out.trans (below_drawn V nq |>.mono HB.out.size))
 by_cases hc0:0≤q.cur
 ·by_cases hg:q.g≤q.ran
  ·obtain⟨x0,hx0,hx1⟩:=HC.out hc0
   obtain⟨k,hk,hat,hid⟩:∃k:Nat,∃hk:k < q.l.length,atQ q.l q.cur=k∧q.l[k].1=q.cur:=by
    rcases atQ_cases q.l q.cur with⟨_,h2⟩ |h2
    ·exact absurd hx1 (h2 x0 hx0)
    ·exact h2
   have HD4:=D4.out hc0 hg k hk hid
   have HAT:=xhd (fun nq=>rat_any (w:=V.drewN nq) (b:=b) (X:=X) (q:=q) HQV.out q.cur)
   rw [hat] at HAT
   obtain⟨g,cap,c2,t0,t1,t2,_,_⟩:=HQV.out.task hk
   obtain⟨cur,hcur⟩:∃c,q.cur=c:=⟨_,rfl⟩
   obtain⟨gr,hgr⟩:∃c,q.g=c:=⟨_,rfl⟩
   obtain⟨ran,hran⟩:∃c,q.ran=c:=⟨_,rfl⟩
   obtain⟨n,hn⟩:∃c,q.l.length=c:=⟨_,rfl⟩
   have hvv:∃c,q.l[k].2.1=c:=⟨_,rfl⟩
   obtain⟨vk,hvk⟩:=hvv
   have kz0:(0:Int)≤k:=by omega
   have kz1:(k:Int) < n:=by omega
   replace t1:V.cell? ⟨g,k*3+1,none⟩=some (.int .u64 vk):=t1.trans (congrArg (fun x=>some (Value.int .u64 x)) hvk)
   rw [hcur] at c3 hc0 HAT
   rw [hgr] at c0 hg
   rw [hran] at c4 hg
   rw [hn] at c2
   have HVK:=xhd hvk
   have HD4:=xhd HD4
   have dc:decide (0≤cur)=true:=by simpa using hc0
   have dg:decide (gr≤ran)=true:=by simpa using hg
   clear hcur hgr hran hn hvk hx0 hx1 hat hid t0 t2
   cases hSe:S with
   |nil=>
    have HD:=xhd (D3.out hSe)
    subst hSe
    obtain⟨av,cv,rfl,_,_⟩:=ownsRow_shape hrow
    clear hrow
    simp only [List.length_nil]
    go_wp2_with fail
    go_big_quiet (fail)
    go_wp2
    go_ret
    exact⟨by rw [HD.out];rfl,HDW.out _⟩
   |cons x r=>
    have HD:Hid (q.due=decide (x.2.1 < vk)):=xhd (by rw [←HVK.out];exact HD4.out x r hSe)
    subst hSe
    obtain⟨g2,cv,rfl,_,_⟩:=ownsRow_pos hrow (by simp)
    have rc:=row_cells encTk_len (L:=x::r) (ownsRow_base hrow (Nat.zero_le _)) (j:=0) (by simp)
    have r0:=(rc 1 (by omega)).1
    simp only [encTk,List.getElem_cons_zero,List.getElem?_cons_zero,List.getElem?_cons_succ,Nat.zero_mul,Nat.zero_add] at r0
    have hnx:∃c,(x::r).length=c∧0 < c:=⟨_,rfl,by simp⟩
    obtain⟨nx,hnx,hn0⟩:=hnx
    rw [hnx]
    obtain⟨x1,x2,x3⟩:=x
    simp only at r0 HD
    have nz:(0:Int) < nx:=by omega
    have dn:decide ((0:Int) < nx)=true:=by simpa using nz
    have dn2:decide (0 < nx)=true:=by simpa using hn0
    clear hrow rc hnx
    by_cases hlt:x2 < vk
    ·have HE:Hid (q.due=true):=xhd (by rw [HD.out];simpa using hlt)
     have dl:decide (x2 < vk)=true:=by simpa using hlt
     go_wp2_with fail
     go_big_quiet ((go_at_call 44;exact Calls.quiet_of_same ((HAT.out _).mono fun _ _ h=>⟨h.1,h.2.symm⟩)))
     go_wp2
     go_ret
     exact⟨by rw [HE.out];rfl,HDW.out _⟩
    ·have HE:Hid (q.due=false):=xhd (by rw [HD.out];simpa using hlt)
     have dl:decide (x2 < vk)=false:=by simpa using hlt
     go_wp2_with fail
     go_big_quiet ((go_at_call 44;exact Calls.quiet_of_same ((HAT.out _).mono fun _ _ h=>⟨h.1,h.2.symm⟩)))
     go_wp2
     go_ret
     exact⟨by rw [HE.out];rfl,HDW.out _⟩
  ·have HD:=xhd (D2.out (by omega))
   obtain⟨cur,hcur⟩:∃c,q.cur=c:=⟨_,rfl⟩
   obtain⟨gr,hgr⟩:∃c,q.g=c:=⟨_,rfl⟩
   obtain⟨ran,hran⟩:∃c,q.ran=c:=⟨_,rfl⟩
   rw [hcur] at c3 hc0
   rw [hgr] at c0 hg
   rw [hran] at c4 hg
   have dc:decide (0≤cur)=true:=by simpa using hc0
   have dg:decide (gr≤ran)=false:=by simpa using hg
   clear hcur hgr hran
   obtain⟨av,cv,rfl,_,_⟩:=ownsRow_shape hrow
   clear hrow
   go_wp2_with fail
   go_big_quiet (fail)
   go_wp2
   go_ret
   exact⟨by rw [HD.out];rfl,HDW.out _⟩
 ·have HD:=xhd (D1.out (by omega))
  obtain⟨cur,hcur⟩:∃c,q.cur=c:=⟨_,rfl⟩
  rw [hcur] at c3 hc0
  have dc:decide (0≤cur)=false:=by simpa using hc0
  clear hcur
  obtain⟨av,cv,rfl,_,_⟩:=ownsRow_shape hrow
  clear hrow
  go_wp2_with fail
  go_big_quiet (fail)
  go_wp2
  go_ret
  exact⟨by rw [HD.out];rfl,HDW.out _⟩
end Go.Proofs.Ytbfifglcnhfccaa
namespace Go.Proofs.Ytbfifglcnhfccaa
structure QOk (q:Rq) (c:Int):Prop where
 g:1≤q.g∧q.g≤8
 f:Word q.f
 ids:∀x ∈ q.l,0≤x.1
 uniq:(q.l.map (·.1)).Nodup
 wt:∀x ∈ q.l,1≤x.2.2∧x.2.2≤4096
 v:∀x ∈ q.l,Word x.2.1
 len:q.l.length≤16
 cur:0≤q.cur→∃x ∈ q.l,x.1=q.cur
 idle:q.cur < 0→q.cur= -1∧q.ran=0
 ran:0≤q.ran∧q.ran≤c
theorem sat_word {x:Int} (h:0≤x):Word (satV x):=by
 unfold satV Word
 split<;>omega
theorem clamp_word {v f r:Int} (hv:Word v) (hf:Word f) (hr:0≤r):Word (clampR v f r):=by
 have:=sat_word (x:=f+r) (by have:=hf.1;omega)
 unfold clampR
 split
 ·exact hf
 ·split
  ·exact this
  ·exact hv
section
variable {q:Rq} {c:Int}
theorem QOk.place (h:QOk q c) {v:Int} (hv:Word v) (w:Int):Word (q.place v w):=clamp_word hv h.f (reach_range w q.g).1
theorem QOk.later (h:QOk q c) {d:Int} (hd:c≤d):QOk q d:=⟨h.g,h.f,h.ids,h.uniq,h.wt,h.v,h.len,h.cur,h.idle,h.ran.1,by have:=h.ran.2;omega⟩
theorem QOk.new (grain:Int):QOk (Rq.new grain) 8:=by
 unfold Rq.new
 exact⟨bring_range (by decide),⟨by show (0:Int)≤0;omega,by show (0:Int)≤18446744073709551615;omega⟩,fun x hx=>(by cases hx),List.nodup_nil,fun x hx=>(by cases hx),fun x hx=>(by cases hx),Nat.zero_le _,fun h=>(by have:(0:Int)≤ -1:=h;omega),fun _=>⟨rfl,rfl⟩,by show (0:Int)≤0∧(0:Int)≤8;omega⟩
theorem QOk.add (h:QOk q c) (id:Int) {v:Int} (hv:Word v) (w:Int):QOk (q.add id v w) c:=by
 unfold Rq.add
 split
 ·exact h
 ·next hc=>
  have hw:=bring_range (n:=w) (lo:=1) (hi:=4096) (by decide)
  have hid:0≤id:=by omega
  have hnone:findQ q.l id=none:=by
   cases he:findQ q.l id with
   |none=>rfl
   |some x=>exact absurd (.inr (.inl (by rw [he];rfl))) hc
  have hne:=findQ_none hnone
  refine⟨h.g,h.f,?_,?_,?_,?_,?_,?_,h.idle,h.ran⟩
  ·intro x hx
   rcases List.mem_append.1 hx with hx|hx
   ·exact h.ids x hx
   ·simp at hx;subst hx;exact hid
  ·simp only [List.map_append,List.map_cons,List.map_nil]
   rw [List.nodup_append]
   refine⟨h.uniq,by simp,fun a ha b hb=>?_⟩
   obtain⟨x,hx,rfl⟩:=List.mem_map.1 ha
   simp at hb
   subst hb
   exact hne x hx
  ·intro x hx
   rcases List.mem_append.1 hx with hx|hx
   ·exact h.wt x hx
   ·simp at hx;subst hx;exact hw
  ·intro x hx
   rcases List.mem_append.1 hx with hx|hx
   ·exact h.v x hx
   ·simp at hx;subst hx;exact h.place hv _
  ·simp only [List.length_append,List.length_cons,List.length_nil]
   omega
  ·intro h0
   obtain⟨x,hx,e⟩:=h.cur h0
   exact⟨x,List.mem_append_left _ hx,e⟩
theorem QOk.remove (h:QOk q c) (id:Int):QOk (q.remove id) c:=by
 unfold Rq.remove
 split
 ·have sub:∀x ∈ q.l.filter (fun x=>decide (x.1≠id)),x ∈ q.l∧x.1≠id:=fun x hx=>by
    have:=List.mem_filter.1 hx
    exact⟨this.1,by simpa using this.2⟩
  refine⟨h.g,h.f,fun x hx=>h.ids x (sub x hx).1,(List.filter_sublist.map _).nodup h.uniq,fun x hx=>h.wt x (sub x hx).1,fun x hx=>h.v x (sub x hx).1,Nat.le_trans (List.length_filter_le _ _) h.len,?_,?_,?_⟩
  ·intro h0
   dsimp only at h0 ⊢
   by_cases hc:q.cur=id
   ·rw [if_pos hc] at h0
    omega
   ·rw [if_neg hc] at h0 ⊢
    obtain⟨x,hx,e⟩:=h.cur h0
    exact⟨x,List.mem_filter.2 ⟨hx,by simp;omega⟩,e⟩
  ·intro h0
   dsimp only at h0 ⊢
   by_cases hc:q.cur=id
   ·rw [if_pos hc,if_pos hc]
    exact⟨rfl,rfl⟩
   ·rw [if_neg hc] at h0
    rw [if_neg hc,if_neg hc]
    exact h.idle h0
  ·dsimp only
   have:=h.ran
   split<;>omega
 ·exact h
theorem QOk.weigh (h:QOk q c) (hc:8≤c) (id w:Int):QOk (q.weigh id w) c:=by
 unfold Rq.weigh
 cases he:findQ q.l id with
 |none=>exact h
 |some x0=>
  have hm:=findQ_mem he
  have hid:=h.ids _ hm
  have hw:=bring_range (n:=w) (lo:=1) (hi:=4096) (by decide)
  generalize bringR w 1 4096=w' at hw
  have get:∀x ∈ q.l.map (fun y=>if y.1=id then (y.1,q.place y.2.1 w',w') else y),∃y ∈ q.l,x.1=y.1∧((y.1=id∧x=(y.1,q.place y.2.1 w',w'))∨(y.1≠id∧x=y)):=fun x hx=>by
   obtain⟨y,hy,rfl⟩:=List.mem_map.1 hx
   by_cases hc:y.1=id
   ·rw [if_pos hc]
    exact⟨y,hy,rfl, .inl ⟨hc,rfl⟩⟩
   ·rw [if_neg hc]
    exact⟨y,hy,rfl, .inr ⟨hc,rfl⟩⟩
  have names:(q.l.map (fun y=>if y.1=id then (y.1,q.place y.2.1 w',w') else y)).map (·.1)=q.l.map (·.1):=by
   rw [List.map_map]
   refine List.map_congr_left fun y _=>?_
   simp only [Function.comp]
   split<;>rfl
  refine⟨h.g,h.f,?_,?_,?_,?_,?_,?_,?_,?_⟩
  ·intro x hx
   obtain⟨y,hy,e,_⟩:=get x hx
   rw [e]
   exact h.ids y hy
  ·show (List.map _ (List.map _ q.l)).Nodup
   rw [names]
   exact h.uniq
  ·intro x hx
   obtain⟨y,hy,_,⟨_,rfl⟩ |⟨_,rfl⟩⟩:=get x hx
   ·exact hw
   ·exact h.wt _ hy
  ·intro x hx
   obtain⟨y,hy,_,⟨_,rfl⟩ |⟨_,rfl⟩⟩:=get x hx
   ·exact h.place (h.v _ hy) _
   ·exact h.v _ hy
  ·rw [List.length_map]
   exact h.len
  ·intro h0
   obtain⟨y,hy,e⟩:=h.cur h0
   by_cases hc:y.1=id
   ·exact⟨(y.1,q.place y.2.1 w',w'),List.mem_map.2 ⟨y,hy,by rw [if_pos hc]⟩,e⟩
   ·exact⟨y,List.mem_map.2 ⟨y,hy,by rw [if_neg hc]⟩,e⟩
  ·intro h0
   dsimp only at h0 ⊢
   obtain⟨e1,e2⟩:=h.idle h0
   have:¬(x0.2≠w'∧q.cur=id):=fun hh=>by have:=hh.2;simp only at hid;omega
   rw [if_neg this]
   exact⟨e1,e2⟩
  ·dsimp only
   have:=h.ran
   have:=h.g
   split<;>omega
theorem QOk.back (h:QOk q c):QOk q.back c:=by
 refine⟨h.g,h.f,h.ids,h.uniq,h.wt,h.v,h.len,fun h0=>?_,fun _=>⟨rfl,rfl⟩,?_⟩
 ·have:(0:Int)≤ -1:=h0
  omega
 ·have:=h.ran
  show (0:Int)≤0∧(0:Int)≤c
  omega
theorem QOk.pick (h:QOk q c):QOk q.pick c:=by
 unfold Rq.pick
 split
 ·exact h
 ·next hc=>
  cases hl:leastQ q.ready with
  |none=>exact h
  |some x=>
   have hx:=(leastQ_le hl).1
   have hxl:x ∈ q.l:=(List.mem_filter.1 hx).1
   have h0:=h.ids x hxl
   refine⟨h.g,h.f,h.ids,h.uniq,h.wt,h.v,h.len,fun _=>⟨x,hxl,rfl⟩,fun h1=>?_,?_⟩
   ·have:x.1 < 0:=h1
    omega
   ·have:=h.ran
    show (0:Int)≤0∧(0:Int)≤c
    omega
theorem QOk.tick (h:QOk q c):QOk q.tick (c+1):=by
 unfold Rq.tick
 split
 ·next hc=>
  have get:∀x ∈ q.l.map (tickT q.cur),∃y ∈ q.l,x.1=y.1∧x.2.2=y.2.2∧(x.2.1=satV (y.2.1+coreR y.2.2)∨x.2.1=y.2.1):=fun x hx=>by
   obtain⟨y,hy,rfl⟩:=List.mem_map.1 hx
   refine⟨y,hy,?_⟩
   unfold tickT
   split
   ·exact⟨rfl,rfl, .inl rfl⟩
   ·exact⟨rfl,rfl, .inr rfl⟩
  refine⟨h.g,h.f,?_,?_,?_,?_,?_,?_,fun h1=>?_,?_⟩
  ·intro x hx
   obtain⟨y,hy,e,_⟩:=get x hx
   rw [e]
   exact h.ids y hy
  ·show (List.map _ (List.map _ q.l)).Nodup
   rw [List.map_map]
   have:List.map ((fun x=>x.1) ∘ tickT q.cur) q.l=q.l.map (·.1):=List.map_congr_left fun y _=>by
    simp only [Function.comp]
    unfold tickT
    split<;>rfl
   rw [this]
   exact h.uniq
  ·intro x hx
   obtain⟨y,hy,_,e,_⟩:=get x hx
   rw [e]
   exact h.wt y hy
  ·intro x hx
   obtain⟨y,hy,_,_,e|e⟩:=get x hx
   ·rw [e]
    exact sat_word (by have:=(h.v y hy).1;have:=core_range y.2.2;omega)
   ·rw [e]
    exact h.v y hy
  ·rw [List.length_map]
   exact h.len
  ·intro h0
   obtain⟨y,hy,e⟩:=h.cur h0
   refine⟨tickT q.cur y,List.mem_map.2 ⟨y,hy,rfl⟩,?_⟩
   unfold tickT
   split<;>exact e
  ·have:q.cur < 0:=h1
   omega
  ·have:=h.ran
   show (0:Int)≤q.ran+1∧q.ran+1≤c+1
   omega
 ·exact h.later (by omega)
theorem minQ_word:∀(l:List (Int×Int×Int)) {m:Int},Word m→(∀x ∈ l,Word x.2.1)→Word (minQ l m)
 |[],_,h,_=>h
 |x::l,m,h,hl=>by
  unfold minQ
  refine minQ_word l ?_ (fun y hy=>hl y (by simp [hy]))
  split
  ·exact hl x (by simp)
  ·exact h
theorem QOk.settle (h:QOk q c):QOk q.settle c:=by
 obtain⟨_,e2,e3,e4,e5⟩:=settle_ge q
 have hf:Word q.settle.f:=by
  have hv:=h.v
  unfold Rq.settle
  cases hl:q.l with
  |nil=>exact h.f
  |cons x l=>
   rw [hl] at hv
   dsimp only
   split
   ·exact minQ_word l (hv x (by simp)) (fun y hy=>hv y (by simp [hy]))
   ·exact h.f
 exact⟨by rw [e2];exact h.g,hf,by rw [e3];exact h.ids,by rw [e3];exact h.uniq,by rw [e3];exact h.wt,by rw [e3];exact h.v,by rw [e3];exact h.len,by rw [e3,e4];exact h.cur,by rw [e4,e5];exact h.idle,by rw [e5];exact h.ran⟩
theorem QOk.go0 (h:QOk q c):QOk q.go0 c:=by
 unfold Rq.go0
 split
 ·exact h.back
 ·exact h
theorem QOk.go1 (h:QOk q c):QOk q.go1 c:=by
 unfold Rq.go1
 split
 ·exact h.go0.pick
 ·exact h.go0
theorem QOk.go (h:QOk q c):QOk q.go (c+1):=h.go1.tick.settle
end
end Go.Proofs.Ytbfifglcnhfccaa
namespace Go.Proofs.Ytbfifglcnhfccaa
def nearR (N g B D:Int) (x:Int×Int):Prop:=0 < x.2∧0≤x.1∧x.2*x.1≤B∧∃c a,0≤c∧c*x.2≤N∧N≤c*x.2+x.2∧x.1*c=D+a∧ -(c*g)≤a∧a≤c*g
theorem near_two {N g B D:Int} (hg:0≤g) {x y:Int×Int} (hx:nearR N g B D x) (hy:nearR N g B D y):
  N*(x.1*y.2 - x.2*y.1)≤N*g*(y.2+x.2)+B*y.2∧ -(N*g*(y.2+x.2)+B*x.2)≤N*(x.1*y.2 - x.2*y.1):=by
 obtain⟨t,w⟩:=x
 obtain⟨s,u⟩:=y
 obtain⟨hw,ht,hwt,c,a,hc,hc1,hc2,ha,ha1,ha2⟩:=hx
 obtain⟨hu,hs,hus,d,b,hd,hd1,hd2,hb,hb1,hb2⟩:=hy
 simp only at hw ht hwt hc1 hc2 ha hu hs hus hd1 hd2 hb ⊢
 obtain⟨r,hr⟩:∃r,N=c*w+r:=⟨N - c*w,by omega⟩
 obtain⟨r',hr'⟩:∃r',N=d*u+r':=⟨N - d*u,by omega⟩
 have r0:0≤r:=by omega
 have r1:r≤w:=by omega
 have q0:0≤r':=by omega
 have q1:r'≤u:=by omega
 have e1:N*(t*u)=w*u*a+w*u*D+r*t*u:=by
  have:w*u*(D+a)=c*w*(t*u):=by
   rw [←ha,Int.mul_assoc c w,Int.mul_left_comm w t u,Int.mul_left_comm c t,Int.mul_comm c (w*u),Int.mul_left_comm t (w*u) c]
  rw [Int.mul_add] at this
  rw [hr,Int.add_mul, ←this,Int.mul_assoc r t u]
  omega
 have e2:N*(w*s)=w*u*b+w*u*D+r'*s*w:=by
  have:w*u*(D+b)=d*u*(w*s):=by
   rw [←hb,Int.mul_assoc d u,Int.mul_left_comm u w s,Int.mul_left_comm d w,Int.mul_assoc w u,Int.mul_left_comm d u s,Int.mul_comm d s]
  rw [Int.mul_add] at this
  rw [hr',Int.add_mul, ←this,Int.mul_comm w s,Int.mul_assoc r' s w]
  omega
 have b1:r*t≤B:=Int.le_trans (Int.mul_le_mul_of_nonneg_right r1 ht) hwt
 have b2:r'*s≤B:=Int.le_trans (Int.mul_le_mul_of_nonneg_right q1 hs) hus
 have b3:r*t*u≤B*u:=Int.mul_le_mul_of_nonneg_right b1 (by omega)
 have b4:r'*s*w≤B*w:=Int.mul_le_mul_of_nonneg_right b2 (by omega)
 have p3:0≤r*t*u:=Int.mul_nonneg (Int.mul_nonneg r0 ht) (by omega)
 have p4:0≤r'*s*w:=Int.mul_nonneg (Int.mul_nonneg q0 hs) (by omega)
 have hwu:0≤w*u:=Int.mul_nonneg (by omega) (by omega)
 have f1:w*u*(c*g)≤N*g*u:=by
  have:w*u*(c*g)=c*w*(g*u):=by rw [Int.mul_comm w u,Int.mul_assoc u w,Int.mul_left_comm w c g, ←Int.mul_assoc c w g,Int.mul_left_comm u (c*w) g,Int.mul_comm u g]
  rw [this,Int.mul_assoc N]
  exact Int.mul_le_mul_of_nonneg_right hc1 (Int.mul_nonneg hg (by omega))
 have f2:w*u*(d*g)≤N*g*w:=by
  have:w*u*(d*g)=d*u*(g*w):=by rw [Int.mul_assoc w u,Int.mul_left_comm u d g, ←Int.mul_assoc d u g,Int.mul_left_comm w (d*u) g,Int.mul_comm w g]
  rw [this,Int.mul_assoc N]
  exact Int.mul_le_mul_of_nonneg_right hd1 (Int.mul_nonneg hg (by omega))
 have g1:w*u*a≤w*u*(c*g):=Int.mul_le_mul_of_nonneg_left ha2 hwu
 have g2:w*u*(-(c*g))≤w*u*a:=Int.mul_le_mul_of_nonneg_left ha1 hwu
 have g3:w*u*b≤w*u*(d*g):=Int.mul_le_mul_of_nonneg_left hb2 hwu
 have g4:w*u*(-(d*g))≤w*u*b:=Int.mul_le_mul_of_nonneg_left hb1 hwu
 rw [Int.mul_neg] at g2 g4
 rw [Int.mul_sub,e1,e2,Int.mul_add]
 exact⟨by omega,by omega⟩
theorem near_range {N g B D:Int} (hg:0≤g) {x:Int×Int} (hx:nearR N g B D x):∀P:List (Int×Int),(∀y ∈ P,nearR N g B D y)→
  N*crossR x.1 x.2 P≤N*g*(sumR (P.map (·.2))+x.2*P.length)+B*sumR (P.map (·.2))∧ -(N*g*(sumR (P.map (·.2))+x.2*P.length)+B*(x.2*P.length))≤N*crossR x.1 x.2 P
 |[],_=>by simp [crossR,sumR]
 |y::P,h=>by
  obtain⟨i1,i2⟩:=near_range hg hx P (fun z hz=>h z (by simp [hz]))
  obtain⟨a1,a2⟩:=near_two hg hx (h y (by simp))
  have e1:crossR x.1 x.2 (y::P)=(x.1*y.2 - x.2*y.1)+crossR x.1 x.2 P:=by simp [crossR,sumR]
  have e2:sumR ((y::P).map (·.2))=y.2+sumR (P.map (·.2)):=by simp [sumR]
  have e3:x.2*((y::P).length:Int)=x.2+x.2*(P.length:Int):=by
   simp only [List.length_cons,Int.natCast_add,Int.mul_add]
   omega
  rw [e1,e2,e3]
  have e4:N*g*(y.2+sumR (P.map (·.2))+(x.2+x.2*(P.length:Int)))=N*g*(y.2+x.2)+N*g*(sumR (P.map (·.2))+x.2*(P.length:Int)):=by
   rw [←Int.mul_add]
   congr 1
   omega
  rw [e4,Int.mul_add N,Int.mul_add B,Int.mul_add B]
  exact⟨by omega,by omega⟩
theorem cross_split (t w:Int) (A:List (Int×Int)) (y:Int×Int) (C:List (Int×Int)):crossR t w (A++y::C)=(t*y.2 - w*y.1)+crossR t w (A++C):=by
 induction A with
 |nil=>simp [crossR,sumR]
 |cons z A ih=>
  have e1:crossR t w (z::A++y::C)=(t*z.2 - w*z.1)+crossR t w (A++y::C):=by simp [crossR,sumR]
  have e2:crossR t w (z::A++C)=(t*z.2 - w*z.1)+crossR t w (A++C):=by simp [crossR,sumR]
  rw [e1,e2,ih]
  omega
theorem sum_split (A:List (Int×Int)) (y:Int×Int) (C:List (Int×Int)):sumR ((A++y::C).map (·.2))=y.2+sumR ((A++C).map (·.2)):=by
 induction A with
 |nil=>simp [sumR]
 |cons z A ih=>
  have e1:sumR ((z::A++y::C).map (·.2))=z.2+sumR ((A++y::C).map (·.2)):=by simp [sumR]
  have e2:sumR ((z::A++C).map (·.2))=z.2+sumR ((A++C).map (·.2)):=by simp [sumR]
  rw [e1,e2,ih]
  omega
theorem near_apart {N g B D:Int} (hN:0 < N) (hg:1≤g) (hB:0≤B) {P:List (Int×Int)} (hBN:B*(P.length:Int)≤N) (h:∀y ∈ P,nearR N g B D y) {x:Int×Int} (hx:x ∈ P):
  ((x.1*sumR (P.map (·.2)) - x.2*sumR (P.map (·.1))).natAbs:Int)≤(((P.length:Int) - 1)*g+1)*sumR (P.map (·.2)):=by
 rw [←cross_sum]
 obtain⟨A,C,rfl⟩:=List.append_of_mem hx
 have hAC:∀y ∈ A++C,nearR N g B D y:=fun y hy=>h y (by
  rcases List.mem_append.1 hy with e|e
  ·simp [e]
  ·simp [e])
 have e1:crossR x.1 x.2 (A++x::C)=crossR x.1 x.2 (A++C):=by
  rw [cross_split,Int.mul_comm x.1 x.2]
  omega
 have e2:=sum_split A x C
 have e3:(((A++x::C).length:Nat):Int)=((A++C).length:Int)+1:=by
  simp only [List.length_append,List.length_cons]
  omega
 obtain⟨i1,i2⟩:=near_range (by omega) (h x hx) (A++C) hAC
 obtain⟨s1,_⟩:=sum_pos (P:=A++C) (fun y hy=>(hAC y hy).1)
 have hw:=(h x hx).1
 rw [e1,e2]
 rw [e3] at hBN ⊢
 generalize crossR x.1 x.2 (A++C)=X at i1 i2 ⊢
 have hm:0≤((A++C).length:Int):=by omega
 have hm0:((A++C).length:Int)=0→sumR ((A++C).map (·.2))=0∧X=0→True:=fun _ _=>trivial
 clear hm0
 have hlen0:((A++C).length:Int)=0→sumR ((A++C).map (·.2))=0:=fun e=>by
  have:A++C=[]:=List.eq_nil_of_length_eq_zero (by omega)
  rw [this]
  simp [sumR]
 generalize sumR ((A++C).map (·.2))=S at i1 i2 s1 hlen0 ⊢
 generalize ((A++C).length:Int)=m at i1 i2 hBN hm hlen0 ⊢
 generalize x.2=w at i1 i2 hw ⊢
 have k1:B*S≤N*(w+S):=by
  rcases Int.lt_or_le 0 m with hm1|hm1
  ·have a1:B≤B*(m+1):=by
     have:B*1≤B*(m+1):=Int.mul_le_mul_of_nonneg_left (by omega) hB
     omega
   have a2:B*S≤N*S:=Int.mul_le_mul_of_nonneg_right (by omega) s1
   have a3:N*S≤N*(w+S):=Int.mul_le_mul_of_nonneg_left (by omega) (by omega)
   omega
  ·have:S=0:=hlen0 (by omega)
   subst this
   have:=Int.mul_nonneg (show 0≤N by omega) (show 0≤w+0 by omega)
   omega
 have k2:B*(w*m)≤N*(w+S):=by
  have a1:B*(w*m)=B*m*w:=by rw [Int.mul_comm w m,Int.mul_assoc]
  have a2:B*m≤N:=by
   rw [Int.mul_add] at hBN
   omega
  have a3:B*m*w≤N*w:=Int.mul_le_mul_of_nonneg_right a2 (by omega)
  have a4:N*w≤N*(w+S):=Int.mul_le_mul_of_nonneg_left (by omega) (by omega)
  omega
 have k3:S+w*m≤m*(w+S):=by
  rcases Int.lt_or_le 0 m with hm1|hm1
  ·rw [Int.mul_add,Int.mul_comm m w]
   have:1*S≤m*S:=Int.mul_le_mul_of_nonneg_right (by omega) s1
   omega
  ·have hmz:m=0:=by omega
   have:S=0:=hlen0 hmz
   subst this hmz
   simp
 have k4:N*g*(S+w*m)≤N*(m*g*(w+S)):=by
  have a1:N*(m*g*(w+S))=N*g*(m*(w+S)):=by rw [Int.mul_comm m g,Int.mul_assoc g m, ←Int.mul_assoc N g]
  rw [a1]
  exact Int.mul_le_mul_of_nonneg_left k3 (Int.mul_nonneg (by omega) (by omega))
 have k5:N*((m*g+1)*(w+S))=N*(m*g*(w+S))+N*(w+S):=by
  rw [Int.add_mul,Int.one_mul,Int.mul_add]
 have u1:X≤(m*g+1)*(w+S):=Int.le_of_mul_le_mul_left (by omega) hN
 have u2: -((m*g+1)*(w+S))≤X:=Int.le_of_mul_le_mul_left (by rw [Int.mul_neg];omega) hN
 rw [show m+1 - 1=m by omega]
 omega
theorem near_fair {N g B D:Int} (hN:0 < N) (hg:1≤g) (hg8:g≤8) (hB:0≤B) {ts ws:List Int} (hl:ts.length=ws.length) (h0:0 < ts.length) (h64:ts.length≤64) (hBN:B*(ts.length:Int)≤N) (ht:∀t ∈ ts,0≤t∧t≤2147483648) (hw:∀w ∈ ws,1≤w∧w≤4096)
  (h:∀y ∈ ts.zip ws,nearR N g B D y):fairR ts ws (((ts.length:Int) - 1)*g+1)=true:=by
 have e1:ticksR ts=ts:=by
  unfold ticksR
  have:ts.map (fun t=>bringR t 0 2147483648)=ts.map id:=List.map_congr_left fun t h=>bring_in (ht t h).1 (ht t h).2
  rw [this,List.map_id]
 have e2:weightsR ws=ws:=by
  unfold weightsR
  have:ws.map (fun w=>bringR w 1 4096)=ws.map id:=List.map_congr_left fun w h=>bring_in (hw w h).1 (hw w h).2
  rw [this,List.map_id]
 have z1:(ts.zip ws).map (·.1)=ts:=List.map_fst_zip (by omega)
 have z2:(ts.zip ws).map (·.2)=ws:=List.map_snd_zip (by omega)
 have hzl:(ts.zip ws).length=ts.length:=by rw [List.length_zip];omega
 have hk0:0≤((ts.length:Int) - 1)*g:=Int.mul_nonneg (by omega) (by omega)
 have hk1:((ts.length:Int) - 1)*g≤63*8:=Int.mul_le_mul (by omega) hg8 (by omega) (by omega)
 have hsum:0 < sumR (weightsR ws):=by
  rw [e2]
  obtain⟨s1,s2⟩:=sum_pos (P:=ts.zip ws) (fun y hy=>(h y hy).1)
  rw [z2] at s1 s2
  have hx:(ts.zip ws)[0]'(by omega) ∈ ts.zip ws:=List.getElem_mem _
  have h1:=s2 _ hx
  have h2:=(h _ hx).1
  omega
 obtain⟨w0,w1⟩:=worst_le (ts:=ts) (ws:=ws) hsum (show 0≤((ts.length:Int) - 1)*g+1 by omega) ts.length (fun i hi=>by
  unfold offR
  rw [e1,e2,List.getElem?_eq_getElem hi,List.getElem?_eq_getElem (by omega),Option.getD_some,Option.getD_some]
  have hx:(ts[i],ws[i]'(by omega)) ∈ ts.zip ws:=by
   rw [List.mem_iff_getElem]
   exact⟨i,by omega,by rw [List.getElem_zip]⟩
  have hr:=near_apart hN hg hB (by rw [hzl];exact hBN) h hx
  rw [z1,z2,hzl] at hr
  exact hr)
 unfold fairR worstR
 rw [if_neg (by omega),bring_in (by omega) (by omega)]
 simp [w0,w1]
def goesQ (q:Rq):Nat→Rq
 |0=>q
 |n+1=>(goesQ q n).go
def Rq.who (q:Rq):Int:=q.go1.cur
def ticksQ (q:Rq) (id:Int):Nat→Int
 |0=>0
 |n+1=>ticksQ q id n+(if (goesQ q n).who=id then 1 else 0)
theorem ticks_range (q:Rq) (id:Int):∀n:Nat,0≤ticksQ q id n∧ticksQ q id n≤n
 |0=>⟨Int.le_refl _,Int.le_refl _⟩
 |n+1=>by
  obtain⟨a,b⟩:=ticks_range q id n
  unfold ticksQ
  split<;>omega
theorem goes_lag {q:Rq} {B:Int} (h:Lag q B) (h0:0≤q.ran) (hB:0≤B):∀n:Nat,B+17592186044416*(n:Int)≤9223372036854775808→Lag (goesQ q n) (B+17592186044416*(n:Int))∧0≤(goesQ q n).ran
 |0,_=>by
  have e:B+17592186044416*((0:Nat):Int)=B:=by omega
  rw [e]
  exact⟨h,h0⟩
 |n+1,hn=>by
  obtain⟨a,b⟩:=goes_lag h h0 hB n (by omega)
  have:=a.go b (by omega)
  have e:B+17592186044416*((n+1:Nat):Int)=B+17592186044416*(n:Int)+17592186044416:=by omega
  rw [e]
  exact this
theorem go0_same (q:Rq):q.go0.l=q.l∧q.go0.f=q.f∧q.go0.g=q.g:=by
 unfold Rq.go0 Rq.back
 split<;>exact⟨rfl,rfl,rfl⟩
theorem pick_same (q:Rq):q.pick.l=q.l∧q.pick.f=q.f∧q.pick.g=q.g:=by
 unfold Rq.pick
 split
 ·exact⟨rfl,rfl,rfl⟩
 ·split<;>exact⟨rfl,rfl,rfl⟩
theorem go1_same (q:Rq):q.go1.l=q.l∧q.go1.f=q.f∧q.go1.g=q.g:=by
 obtain⟨a,b,c⟩:=go0_same q
 unfold Rq.go1
 split
 ·obtain⟨d,e,f⟩:=pick_same q.go0
  exact⟨d.trans a,e.trans b,f.trans c⟩
 ·exact⟨a,b,c⟩
theorem go_g (q:Rq):q.go.g=q.g:=by
 unfold Rq.go
 rw [(settle_ge _).2.1]
 unfold Rq.tick
 split<;>exact (go1_same q).2.2
theorem goes_g (q:Rq):∀n,(goesQ q n).g=q.g
 |0=>rfl
 |n+1=>(go_g _).trans (goes_g q n)
theorem go_list {q:Rq} {B:Int} (h:Lag q B) (h0:0≤q.ran) (hB:B≤9223372036854775808):q.go.l=q.l.map (fun x=>(x.1,x.2.1+(if q.who=x.1 then 1 else 0)*coreR x.2.2,x.2.2)):=by
 have hr:=h.ripe h0
 have hl:=(go1_same q).1
 unfold Rq.go Rq.who
 rw [(settle_ge _).2.2.1]
 unfold Rq.tick
 by_cases hc:0≤q.go1.cur
 ·rw [if_pos hc]
  show q.go1.l.map (tickT q.go1.cur)=_
  rw [hl]
  refine List.map_congr_left fun x hx=>?_
  have a:=h.hi x hx
  have b:=core_range x.2.2
  have c:=reach_range x.2.2 q.g
  have d:=h.fB
  rw [reach_in h.g1 h.g8] at c
  unfold tickT
  by_cases e:x.1=q.go1.cur
  ·rw [if_pos e,if_pos e.symm,satV_fit (by omega),Int.one_mul]
  ·rw [if_neg e,if_neg (fun e2=>e e2.symm),Int.zero_mul,Int.add_zero]
 ·rw [if_neg hc,hl]
  have:q.l=[]:=by
   cases e:q.l with
   |nil=>rfl
   |cons a l=>exact absurd (hr.busy (by rw [hl,e];simp)) hc
  rw [this]
  rfl
theorem goes_list {q:Rq} {B:Int} (h:Lag q B) (h0:0≤q.ran) (hB:0≤B):∀n:Nat,B+17592186044416*(n:Int)≤9223372036854775808→(goesQ q n).l=q.l.map (fun x=>(x.1,x.2.1+ticksQ q x.1 n*coreR x.2.2,x.2.2))
 |0,_=>by
  have:(fun x:Int×Int×Int=>(x.1,x.2.1+ticksQ q x.1 0*coreR x.2.2,x.2.2))=id:=by
   funext x
   show (x.1,x.2.1+0*coreR x.2.2,x.2.2)=x
   rw [Int.zero_mul,Int.add_zero]
  rw [this,List.map_id]
  rfl
 |n+1,hn=>by
  obtain⟨a,b⟩:=goes_lag h h0 hB n (by omega)
  have ih:=goes_list h h0 hB n (by omega)
  show (goesQ q n).go.l=_
  rw [go_list a b (by omega),ih,List.map_map]
  refine List.map_congr_left fun x _=>?_
  show (x.1,x.2.1+ticksQ q x.1 n*coreR x.2.2+(if (goesQ q n).who=x.1 then 1 else 0)*coreR x.2.2,x.2.2)=(x.1,x.2.1+(ticksQ q x.1 n+(if (goesQ q n).who=x.1 then 1 else 0))*coreR x.2.2,x.2.2)
  rw [Int.add_mul,Int.add_assoc]
theorem who_in {q:Rq} {B:Int} (h:Lag q B) (h0:0≤q.ran) (hl:q.l≠[]):0≤q.who∧∃x ∈ q.l,x.1=q.who:=by
 have hr:=h.ripe h0
 have e:=(go1_same q).1
 have hc:=hr.busy (by rw [e];exact hl)
 obtain⟨x,hx,ex⟩:=hr.cur hc
 exact⟨hc,x,by rw [←e];exact hx,ex⟩
theorem who_none {q:Rq} {B:Int} (h:Lag q B) (hl:q.l=[]):q.who < 0:=by
 have hc:q.cur < 0:=by
  rcases Int.lt_or_le q.cur 0 with hc|hc
  ·exact hc
  ·obtain⟨x,hx,_⟩:=h.cur hc
   rw [hl] at hx
   cases hx
 have hd:q.due=false:=by
  unfold Rq.due
  rw [hl]
  rfl
 have e0:q.go0=q:=by
  unfold Rq.go0
  rw [hd]
  rfl
 unfold Rq.who Rq.go1
 rw [e0,if_pos hc]
 unfold Rq.pick Rq.ready
 rw [hl,if_neg (by omega)]
 exact hc
theorem core_weight {w:Int} (h1:1≤w) (h2:w≤4096):coreR w*w≤1099511627776∧1099511627776≤coreR w*w+w:=by
 unfold coreR
 rw [bring_in h1 h2]
 have a:=Int.mul_ediv_add_emod 1099511627776 w
 have b:=Int.emod_nonneg 1099511627776 (show w≠0 by omega)
 have c:=Int.emod_lt_of_pos 1099511627776 (show 0 < w by omega)
 rw [Int.mul_comm] at a
 omega
theorem goes_fair {q:Rq} {B:Int} (h:Lag q B) (h0:0≤q.ran) (hB:0≤B) {n:Nat} (hn:n≤300) (hBn:B+17592186044416*(n:Int)≤9223372036854775808) (hl:q.l≠[]) (h16:q.l.length≤16):
  fairR (q.l.map (fun x=>ticksQ q x.1 n)) (q.l.map (·.2.2)) (((q.l.length:Int) - 1)*q.g+1)=true:=by
 obtain⟨hz,_⟩:=goes_lag h h0 hB n hBn
 have hlist:=goes_list h h0 hB n hBn
 have hlen:0 < q.l.length:=List.length_pos_iff.2 hl
 have e:=near_fair (N:=1099511627776) (g:=q.g) (B:=1228800) (D:=(goesQ q n).f - q.f) (ts:=q.l.map (fun x=>ticksQ q x.1 n)) (ws:=q.l.map (·.2.2)) (by decide) h.g1 h.g8 (by decide) (by simp) (by simpa using hlen) (by simp;omega) (by simp;omega) (fun t ht=>by
  obtain⟨x,_,rfl⟩:=List.mem_map.1 ht
  have:=ticks_range q x.1 n
  omega) (fun w hw=>by
  obtain⟨x,hx,rfl⟩:=List.mem_map.1 hw
  exact h.wt x hx) (fun y hy=>by
  rw [List.zip_map',List.mem_map] at hy
  obtain⟨x,hx,rfl⟩:=hy
  obtain⟨w1,w2⟩:=h.wt x hx
  obtain⟨t1,t2⟩:=ticks_range q x.1 n
  obtain⟨c1,c2⟩:=core_weight w1 w2
  have hx':(x.1,x.2.1+ticksQ q x.1 n*coreR x.2.2,x.2.2) ∈ (goesQ q n).l:=by
   rw [hlist]
   exact List.mem_map.2 ⟨x,hx,rfl⟩
  have l1:=hz.lo _ hx'
  have l2:=hz.hi _ hx'
  have l3:=h.lo x hx
  have l4:=h.hi x hx
  rw [goes_g] at l2
  dsimp only at l1 l2
  have p:x.2.2*ticksQ q x.1 n≤4096*300:=Int.mul_le_mul w2 (by omega) t1 (by omega)
  refine⟨by dsimp only;omega,t1,by dsimp only;omega,coreR x.2.2,ticksQ q x.1 n*coreR x.2.2 - ((goesQ q n).f - q.f),(core_range _).1,c1,c2,by dsimp only;omega,by omega,by omega⟩)
 simpa using e
end Go.Proofs.Ytbfifglcnhfccaa
namespace Go.Proofs.Ytbfifglcnhfccaa
open Go.RowKit
theorem R16.later {w w':World} {b:Nat} {X:List Nat} {q:Rq} (h:R16 w b X q) (hb:Below w.heap.size w w'):R16 w' b X q:=h.below hb
theorem rgo_any {w:World} {b:Nat} {X:List Nat} {q:Rq} {c:Int} (h:R16 w b X q) (hq:QOk q c) (hc:c≤10000):
  Calls Try.prog 26 #[.pointer (some ⟨b,0,none⟩)] w fun e w'=>e= .returned (.int .i64 q.who)∧R16 w' b X q.go∧Turned X w w':=by
 have hlen:q.l.length≤1000:=Nat.le_trans hq.len (by decide)
 have HD:=xhd (rdue_any h hq.uniq hq.cur hlen)
 have H:=xhd h
 have e0:q.go0=if q.due=true then q.back else q:=rfl
 have hq0:=hq.go0
 have hl0:q.go0.l.length≤1000:=Nat.le_trans hq0.len (by decide)
 have hq1:=hq.go1
 have HB:=xhd (fun (V:World) (hV:R16 V b X q)=>rback_any hV)
 have HP:=xhd (fun (V:World) (hV:R16 V b X q.go0)=>rpick_any hV hq0.uniq hl0)
 have HT:=xhd (fun (V:World) (hV:R16 V b X q.go1)=>rtick_any hV hq1.uniq hq1.cur hq1.v hq1.ran.1 (by have:=hq1.ran.2;omega))
 have HS:=xhd (fun (V:World) (hV:R16 V b X q.go1.tick)=>rsettle_any hV)
 have tail:∀(V:World),R16 V b X q.go1→Turned X w V→Turned X w V:=fun _ _ h=>h
 have E0:=xhd e0
 have E1:Hid (q.go1=if q.go0.cur < 0 then q.go0.pick else q.go0):=xhd rfl
 clear h hq hlen e0 hq0 hl0 hq1 hc tail
 go_enter Try.func26,Try.ntmps26
 go_wp2_with fail
 with_reducible refine HD.out.mono ?_
 rintro e V ⟨rfl,hb⟩
 have HV:=xhd (H.out.later hb)
 have HTV:=xhd (turned_below (X:=X) hb)
 clear hb
 by_cases hd:q.due=true
 ·have E0':=E0.out
  rw [if_pos hd] at E0'
  have HE0:=xhd E0'
  rw [hd]
  clear E0' E0 hd
  go_wp2_with fail
  with_reducible refine (HB.out _ HV.out).mono ?_
  rintro e V2 ⟨rfl,hv2,ht2⟩
  have HV2:Hid (R16 V2 b X q.go0):=xhd (by rw [HE0.out];exact hv2)
  have HT2:=xhd (HTV.out.trans ht2 (Newer.refl _ _))
  clear hv2 ht2
  obtain⟨v5,p1,p2,p3⟩:=HV2.out
  obtain⟨z0,z1,z2,c3,z4,z5⟩:=cells5q p1
  have hcur:q.go0.cur < 0:=by rw [HE0.out];show (-1:Int) < 0;omega
  have E1':=E1.out
  rw [if_pos hcur] at E1'
  have HE1:=xhd E1'
  clear z0 z1 z2 z4 z5 p1 p2 p3 E1'
  obtain⟨cur,hcd⟩:∃c,q.go0.cur=c:=⟨_,rfl⟩
  rw [hcd] at c3 hcur
  clear hcd
  go_wp2_with fail
  with_reducible refine (HP.out _ HV2.out).mono ?_
  rintro e V3 ⟨rfl,hv3,ht3⟩
  have HV3:Hid (R16 V3 b X q.go1):=xhd (by rw [HE1.out];exact hv3)
  have HT3:=xhd (HT2.out.trans ht3 (Newer.refl _ _))
  clear hv3 ht3 c3
  go_wp2_with fail
  with_reducible refine (HT.out _ HV3.out).mono ?_
  rintro e V4 ⟨rfl,hv4,ht4⟩
  have HV4:=xhd hv4
  have HT4:=xhd (HT3.out.trans ht4 (Newer.refl _ _))
  clear hv4 ht4
  go_wp2_with fail
  with_reducible refine (HS.out _ HV4.out).mono ?_
  rintro e V5 ⟨rfl,hv5,ht5⟩
  have HV5:=xhd hv5
  have HT5:=xhd (HT4.out.trans ht5 (Newer.refl _ _))
  clear hv5 ht5
  go_wp2
  go_ret
  exact⟨rfl,HV5.out,HT5.out⟩
 ·have E0':=E0.out
  rw [if_neg hd] at E0'
  have HE0:=xhd E0'
  have hd':q.due=false:=by simpa using hd
  rw [hd']
  clear E0' E0 hd hd'
  have HV2:Hid (R16 V b X q.go0):=xhd (by rw [HE0.out];exact HV.out)
  obtain⟨v5,p1,p2,p3⟩:=HV2.out
  obtain⟨z0,z1,z2,c3,z4,z5⟩:=cells5q p1
  clear z0 z1 z2 z4 z5 p1 p2 p3
  by_cases hcur:q.go0.cur < 0
  ·have E1':=E1.out
   rw [if_pos hcur] at E1'
   have HE1:=xhd E1'
   obtain⟨cur,hcd⟩:∃c,q.go0.cur=c:=⟨_,rfl⟩
   rw [hcd] at c3 hcur
   clear hcd E1'
   go_wp2_with fail
   with_reducible refine (HP.out _ HV2.out).mono ?_
   rintro e V3 ⟨rfl,hv3,ht3⟩
   have HV3:Hid (R16 V3 b X q.go1):=xhd (by rw [HE1.out];exact hv3)
   have HT3:=xhd (HTV.out.trans ht3 (Newer.refl _ _))
   clear hv3 ht3 c3
   go_wp2_with fail
   with_reducible refine (HT.out _ HV3.out).mono ?_
   rintro e V4 ⟨rfl,hv4,ht4⟩
   have HV4:=xhd hv4
   have HT4:=xhd (HT3.out.trans ht4 (Newer.refl _ _))
   clear hv4 ht4
   go_wp2_with fail
   with_reducible refine (HS.out _ HV4.out).mono ?_
   rintro e V5 ⟨rfl,hv5,ht5⟩
   have HV5:=xhd hv5
   have HT5:=xhd (HT4.out.trans ht5 (Newer.refl _ _))
   clear hv5 ht5
   go_wp2
   go_ret
   exact⟨rfl,HV5.out,HT5.out⟩
  ·have E1':=E1.out
   rw [if_neg hcur] at E1'
   have HE1:=xhd E1'
   have HV3:Hid (R16 V b X q.go1):=xhd (by rw [HE1.out];exact HV2.out)
   obtain⟨cur,hcd⟩:∃c,q.go0.cur=c:=⟨_,rfl⟩
   rw [hcd] at c3 hcur
   clear hcd E1'
   go_wp2_with fail
   with_reducible refine (HT.out _ HV3.out).mono ?_
   rintro e V4 ⟨rfl,hv4,ht4⟩
   have HV4:=xhd hv4
   have HT4:=xhd (HTV.out.trans ht4 (Newer.refl _ _))
   clear hv4 ht4
   go_wp2_with fail
   with_reducible refine (HS.out _ HV4.out).mono ?_
   rintro e V5 ⟨rfl,hv5,ht5⟩
   have HV5:=xhd hv5
   have HT5:=xhd (HT4.out.trans ht5 (Newer.refl _ _))
   clear hv5 ht5
   go_wp2
   go_ret
   exact⟨rfl,HV5.out,HT5.out⟩
end Go.Proofs.Ytbfifglcnhfccaa
namespace Go.Proofs.Ytbfifglcnhfccaa
open Go.RowKit
def TurnSeqZ {α:Type} (F:Fence) (n:Nat) (P:Program) (g:Nat) (lb:Array Value) (encs:α→Array Value) (X:List Nat) (Sp:List α→Prop) (S Sx:List α→List Nat→World→Prop) (w:World):Prop:=
 ∀(l:Nat) (J Jx:List α→List Nat→World→Prop) (W:World),Turned [] w W→(∀xs Z Z' A B,J xs Z A→Turned Z A B→Newer Z A.heap.size Z'→(∀k ∈ Z',k < B.heap.size)→J xs Z' B)→(∀xs Z Z' A B,Jx xs Z A→Turned Z A B→Newer Z A.heap.size Z'→(∀k ∈ Z',k < B.heap.size)→Jx xs Z' B)→
  (∀pre x Z A,J pre Z A→Sp (pre++[x])→YieldAt F (n - 1) P l (encs x) A fun e B=>
    SameAt Z A B∧A.heap.size≤B.heap.size∧((e= .returned (.bool true)∧J (pre++[x]) Z B)∨(e= .returned (.bool false)∧Jx (pre++[x]) Z B)))→
  J [] X W→
  CallsIn F n P g (#[.func (.yield l) #[] #[]]++lb) W fun e W'=>(∃v,e= .returned v)∧((∃xs Z,S xs Z W'∧J xs Z W')∨(∃xs Z,Sx xs Z W'∧Jx xs Z W'))
variable {F:Fence} {n:Nat} {P:Program}
theorem TurnSeq.z {α:Type} {g:Nat} {lb:Array Value} {encs:α→Array Value} {X Y:List Nat} {Sp:List α→Prop} {S Sx:List α→World→Prop} {w:World} (h:TurnSeq F n P g lb encs X Y Sp S Sx w) (hXY:∀k ∈ X++Y,k < w.heap.size):
  TurnSeqZ F n P g lb encs (X++Y) Sp (fun xs Z W=>Z=X++Y∧S xs W) (fun xs Z W=>Z=X++Y∧Sx xs W) w:=by
 intro l J Jx W hW hJ _ hY hj
 have hb:∀A B:World,w.heap.size≤A.heap.size→Turned X A B→∀k ∈ X++Y,k < B.heap.size:=fun A B hA ht k hk=>by have:=hXY k hk;have:=ht.size;omega
 refine (h l (fun xs A=>J xs (X++Y) A∧w.heap.size≤A.heap.size) (fun xs A=>Jx xs (X++Y) A) W hW (fun xs A B hj ht=>⟨hJ xs _ _ A B hj.1 (ht.mono (fun k hk=> .inl (List.mem_append_left _ hk))) (Newer.refl _ _) (hb A B hj.2 ht),Nat.le_trans hj.2 ht.size⟩) (fun pre x A hj hsp=>?_) ⟨hj,hW.size⟩).mono ?_
 ·obtain⟨fn,tmps,asg,bd,hy,hR⟩:=hY pre x _ A hj.1 hsp
  refine⟨fn,tmps,asg,bd,hy,hR.mono ?_⟩
  rintro e B ⟨hs,hz,hr⟩
  refine⟨fun k hk=>hs k (List.mem_append_right _ hk),hz,?_⟩
  rcases hr with⟨h1,h2⟩ |hr
  ·exact .inl ⟨h1,h2,Nat.le_trans hj.2 hz⟩
  ·exact .inr hr
 ·rintro e W' ⟨hv,⟨xs,h1,h2,_⟩ |⟨xs,h1,h2⟩⟩
  ·exact⟨hv, .inl ⟨xs,_,⟨rfl,h1⟩,h2⟩⟩
  ·exact⟨hv, .inr ⟨xs,_,⟨rfl,h1⟩,h2⟩⟩
end Go.Proofs.Ytbfifglcnhfccaa
namespace Go.Proofs.Ytbfifglcnhfccaa
open Go.RowKit
def TurnSeqY {α:Type} (F:Fence) (n:Nat) (P:Program) (g:Nat) (lb:Array Value) (encs:α→Array Value) (Y X:List Nat) (Sp:List α→Prop) (S Sx:List α→List Nat→World→Prop) (w:World):Prop:=
 ∀(l:Nat) (J Jx:List α→List Nat→World→Prop) (W:World),Turned [] w W→(∀xs Z A,J xs Z A→SameAt Y W A)→(∀xs Z A,Jx xs Z A→SameAt Y W A)→(∀xs Z Z' A B,J xs Z A→Turned Z A B→Newer Z A.heap.size Z'→(∀k ∈ Z',k < B.heap.size)→J xs Z' B)→(∀xs Z Z' A B,Jx xs Z A→Turned Z A B→Newer Z A.heap.size Z'→(∀k ∈ Z',k < B.heap.size)→Jx xs Z' B)→
  (∀pre x Z A,J pre Z A→Sp (pre++[x])→YieldAt F (n - 1) P l (encs x) A fun e B=>
    SameAt Z A B∧A.heap.size≤B.heap.size∧((e= .returned (.bool true)∧J (pre++[x]) Z B)∨(e= .returned (.bool false)∧Jx (pre++[x]) Z B)))→
  J [] X W→
  CallsIn F n P g (#[.func (.yield l) #[] #[]]++lb) W fun e W'=>(∃v,e= .returned v)∧((∃xs Z,S xs Z W'∧J xs Z W')∨(∃xs Z,Sx xs Z W'∧Jx xs Z W'))
variable {F:Fence} {n:Nat} {P:Program}
theorem range_turnsY {α:Type} {g:Operand} {ps:Array Tmp} {assign body:Code} {Q:Exit→Act→World→Prop} {a:Act} {w:World}
  (hro:F.round=none) (h1:1≤n) {gf:Nat} {lb:Array Value} (hg:a.eval g= .func (.func gf) #[] lb) (hFg:F.fn gf) (eg:∀args w,(callFunc gf args).run P w= .ok (.enter gf args) w)
  {encs:α→Array Value} {Y X:List Nat} {Sp:List α→Prop} {S Sx:List α→List Nat→World→Prop} (hX:∀k ∈ X,k < w.heap.size) (hYl:∀k ∈ Y,k < w.heap.size)
  (hseq:TurnSeqY F (n - 1) P gf lb encs Y X Sp S Sx w) (hps:∀x,(encs x).size=ps.size)
  (hS:∀xs Z A B,S xs Z A→SameAt Z A B→S xs Z B) (hSx:∀xs Z A B,Sx xs Z A→SameAt Z A B→Sx xs Z B)
  (I:List α→List Nat→World→Prop) (Ix:Code→List α→List Nat→World→Prop) (hI:∀xs Z Z' A B,I xs Z A→Mild Z w.heap.size A B→Newer Z A.heap.size Z'→(∀k ∈ Z',k < B.heap.size)→I xs Z' B)
  (hIx:∀c xs Z Z' A B,Ix c xs Z A→Mild Z w.heap.size A B→Newer Z A.heap.size Z'→(∀k ∈ Z',k < B.heap.size)→Ix c xs Z' B) (h0:I [] X w) (hIY:∀xs Z W,I xs Z W→SameAt Y w W) (hIxY:∀c xs Z W,Ix c xs Z W→SameAt Y w W)
  (Ax:α→Act→World→Prop) (hAx:∀x a' A B,Ax x a' A→Mild [] w.heap.size A B→Ax x a' B)
  (hassign:∀(l:Nat) (pre:List α) (x:α) (Z:List Nat) (W:World) (K:Act→World→Prop),I pre Z W→(∀a' W',KeepsFrom w.heap.size W W'→SameAt Z W W'→I pre Z W'→Ax x a' W'→K a' W')→
    assign.wpIn (F.inRound l) (n - 1 - 1) P (Exit.then K (fun _ _ _=>False)) { tmps:=(ps.zip (encs x)).foldl (fun t (p,v)=>t.setIfInBounds p v) a.tmps,defers:=[] } W)
  (hbody:∀(l:Nat) (pre:List α) (x:α) (Z:List Nat) (a':Act) (W:World),I pre Z W→Ax x a' W→Sp (pre++[x])→body.wpIn (F.inRound l) (n - 1 - 1) P (leftPost w.heap.size Z (fun xs V=>I xs Z V) (fun c xs V=>Ix c xs Z V) (pre++[x]) W) a' W)
  (hdone:∀(D:Nat) (xs:List α) (Z:List Nat) (W:World),w.heap.size≤D→(∀k ∈ Z,k≠D)→S xs Z W→I xs Z W→W.heap[D]?=some (.deferred (some []))→Q .normal { a with defers:= { target:= .collected D,args:= #[] } ::a.defers } W)
  (hstop:∀(D:Nat) (c:Code) (xs:List α) (Z:List Nat) (W:World),w.heap.size≤D→(∀k ∈ Z,k≠D)→Sx xs Z W→Ix c xs Z W→W.heap[D]?=some (.deferred (some []))→c.wpIn F n P Q { a with defers:= { target:= .collected D,args:= #[] } ::a.defers } W):
  (Code.rangeFunc g ps assign body).wpIn F n P Q a w:=by
 refine wpIn_rangeFunc fun fn hfn=>?_
 rw [hro]
 obtain⟨N,hN⟩:∃N,w.heap.size=N:=⟨_,rfl⟩
 obtain⟨R,hR⟩:∃R:LoopState→Option Code→Loop,∀st pe,R st pe= { state:=st,pending:=pe,fn,tmps:=a.tmps,params:=ps,assign,body,defers:=N } :=⟨_,fun _ _=>rfl⟩
 obtain⟨W0,hW0⟩:∃W0,(w.alloc (.deferred (some []))).alloc (.loop (R .ready none))=W0:=⟨_,rfl⟩
 have two:Turned [] w W0:=hW0 ▸ ((Turned.refl [] w).alloc _).alloc _
 have recL:W0.heap[N+1]?=some (.loop (R .ready none)):=by
  have h:=World.alloc_heap_new (w.alloc (.deferred (some []))) (.loop (R .ready none))
  rw [World.size_alloc,hN] at h
  rw [←hW0]
  exact h
 have recD:W0.heap[N]?=some (.deferred (some [])):=by
  have h:=World.alloc_heap_new w (.deferred (some []))
  rw [hN] at h
  rw [←hW0]
  exact (Below.heap_alloc _ _ _ (by simp;omega)).trans h
 rw [hN] at hI hIx hAx hassign hbody hdone hstop hX
 have hsW0:N+2≤W0.heap.size:=(Array.getElem?_eq_some_iff.1 recL).1
 have offX:∀k ∈ X,(k≠N∧k≠N+1)∧k < W0.heap.size:=fun k hk=>by have:=hX k hk;omega
 have turnZ:∀(Z:List Nat) (W:World) (o:Obj),(∀k ∈ Z,(k≠N∧k≠N+1))→SameAt Z W (W.putObj (N+1) o):=fun Z W o hz k hk=>World.putObj_heap_other (hz k hk).2
 have done:∀(jump:Option Code) (W:World) (st:LoopState),W.heap[N+1]?=some (.loop (R st none))→W.heap[N]?=some (.deferred (some []))→∀st',(W.putObj (N+1) (.loop (R st' jump))).heap[N+1]?=some (.loop (R st' jump))∧(W.putObj (N+1) (.loop (R st' jump))).heap[N]?=some (.deferred (some [])):=
  fun jump W st hl hd st'=>⟨World.putObj_heap_same (Array.getElem?_eq_some_iff.1 hl).1,(World.putObj_heap_other (by omega)).trans hd⟩
 refine⟨N+1,[{ target:= .collected N,args:= #[] }],W0, { target:= .fn (.func gf) lb,args:= #[.func (.yield (N+1)) #[] #[]] },W0,gf, #[.func (.yield (N+1)) #[] #[]]++lb,W0,?_,?_,?_,?_,fun _=>h1,?_⟩
 ·rw [←hW0,hR, ←hN]
  exact run_enterLoop_outer _ _ _ _ _
 ·simp only [resolve,hg]
  simp [go_sem]
 ·intro f' hf'
  simp [Target.leads] at hf'
  subst hf'
  exact hFg
 ·simp [invoke,go_sem,eg]
 have hIx':∀c xs Z A B,Ix c xs Z A→(∀k ∈ Z,k < A.heap.size)→Mild Z N A B→Ix c xs Z B:=fun c xs Z A B h hz m=>hIx c xs Z Z A B h m (Newer.refl _ _) (fun k hk=>Nat.lt_of_lt_of_le (hz k hk) m.size)
 have hI':∀xs Z A B,I xs Z A→(∀k ∈ Z,k < A.heap.size)→Mild Z N A B→I xs Z B:=fun xs Z A B h hz m=>hI xs Z Z A B h m (Newer.refl _ _) (fun k hk=>Nat.lt_of_lt_of_le (hz k hk) m.size)
 refine (hseq (N+1) (fun xs Z W=>((I xs Z W∧W.heap[N+1]?=some (.loop (R .ready none)))∧W.heap[N]?=some (.deferred (some [])))∧∀k ∈ Z,(k≠N∧k≠N+1)∧k < W.heap.size)
  (fun xs Z W=>(∃c,(Ix c xs Z W∧W.heap[N+1]?=some (.loop (R .done (some c))))∧W.heap[N]?=some (.deferred (some [])))∧∀k ∈ Z,(k≠N∧k≠N+1)∧k < W.heap.size) W0 two (fun xs Z A h k hk=>(hIY _ _ _ h.1.1.1 k hk).trans (two.block k (hYl k hk) (by simp)).symm) (fun xs Z A h k hk=>by
    obtain⟨⟨c,⟨hi,_⟩,_⟩,_⟩:=h
    exact (hIxY _ _ _ _ hi k hk).trans (two.block k (hYl k hk) (by simp)).symm) ?_ ?_ ?_ ⟨⟨⟨hI' _ _ _ _ h0 (hN ▸ hX) (Mild.of_turned (two.mono (fun k hk=>by simp at hk))),recL⟩,recD⟩,offX⟩).mono ?_
 ·
  rintro xs Z Z' A B ⟨⟨⟨hi,hl⟩,hd⟩,hz⟩ ht hnew hub
  have hsz:N+1 < A.heap.size:=(Array.getElem?_eq_some_iff.1 hl).1
  exact⟨⟨⟨hI _ _ _ _ _ hi (Mild.of_turned ht) hnew hub,ht.same hl (fun hx=>(hz _ hx).1.2 rfl)⟩,ht.same hd (fun hx=>(hz _ hx).1.1 rfl)⟩,fun k hk=>by
   have hk':=hub k hk
   rcases hnew k hk with h|h
   ·exact⟨(hz k h).1,hk'⟩
   ·omega⟩
 ·rintro xs Z Z' A B ⟨⟨c,⟨hi,hl⟩,hd⟩,hz⟩ ht hnew hub
  have hsz:N+1 < A.heap.size:=(Array.getElem?_eq_some_iff.1 hl).1
  exact⟨⟨c,⟨hIx _ _ _ _ _ _ hi (Mild.of_turned ht) hnew hub,ht.same hl (fun hx=>(hz _ hx).1.2 rfl)⟩,ht.same hd (fun hx=>(hz _ hx).1.1 rfl)⟩,fun k hk=>by
   have hk':=hub k hk
   rcases hnew k hk with h|h
   ·exact⟨(hz k h).1,hk'⟩
   ·omega⟩
 ·
  rintro pre x Z A ⟨⟨⟨hi,hl⟩,hd⟩,hz⟩ hsp
  have hy:=run_yield (P:=P) (args:=encs x) hl (by rw [hR];exact hps x)
  rw [hR] at hy
  refine⟨fn,_,assign,body,hy,roundIn_of_wpIn hfn (hassign _ pre x Z A _ hi ?_)⟩
  intro a' B hka hya hia hax
  have hlB:=hka.same _ _ (by omega) hl rfl
  have hdB:=hka.same _ _ (Nat.le_refl _) hd rfl
  refine⟨_,run_beginRound hlB (by rw [hR]),?_⟩
  have hbusy:({ R .ready none with state:= .busy } :Loop)=R .busy none:=by rw [hR,hR]
  rw [hbusy]
  obtain⟨hlC,hdC⟩:=done none B .ready hlB hdB .busy
  have mB:∀Y,Mild Y N B (B.putObj (N+1) (.loop (R .busy none))):=fun Y=>Mild.of_put hlB rfl (by omega) _
  have hzo:∀k ∈ Z,k≠N∧k≠N+1:=fun k hk=>(hz k hk).1
  have hzA:∀k ∈ Z,k < A.heap.size:=fun k hk=>(hz k hk).2
  have hzB:∀k ∈ Z,k < B.heap.size:=fun k hk=>Nat.lt_of_lt_of_le (hzA k hk) hka.size
  refine wpIn_mono (hbody _ pre x Z a' _ (hI' _ _ _ _ hia hzB (mB Z)) (hAx _ _ _ _ hax (mB [])) hsp) ?_
  have fin:∀(jump:Option Code) (C:World),KeepsFrom N (B.putObj (N+1) (.loop (R .busy none))) C→SameAt Z (B.putObj (N+1) (.loop (R .busy none))) C→
    (Instr.endRound (N+1) jump).run P C= .ok (.bool jump.isNone) (C.putObj (N+1) (.loop (R (if jump.isNone then .ready else .done) jump)))∧C.heap[N+1]?=some (.loop (R .busy none))∧C.heap[N]?=some (.deferred (some []))∧
    SameAt Z A (C.putObj (N+1) (.loop (R (if jump.isNone then .ready else .done) jump)))∧A.heap.size≤(C.putObj (N+1) (.loop (R (if jump.isNone then .ready else .done) jump))).heap.size:=by
   intro jump C hk hyc
   have hl3:=hk.same _ _ (by omega) hlC rfl
   have hr:=run_endRound (P:=P) jump hl3
   rw [hR] at hr
   refine⟨?_,hl3,hk.same _ _ (Nat.le_refl _) hdC rfl,((hya.trans (turnZ Z B _ hzo)).trans hyc).trans (turnZ Z C _ hzo),?_⟩
   ·rw [hR]
    exact hr
   ·have h3:=hka.size
    have h4:=hk.size
    simp at h4 ⊢
    omega
  rintro e a3 C hp
  cases e with
  |normal=>
   obtain⟨hk,hyc,hi3⟩:=hp
   obtain⟨hr,hl3,hd3,hyy,hsz⟩:=fin none C hk hyc
   obtain⟨e1,e2⟩:=done none C .busy hl3 hd3 .ready
   exact⟨_,_,hr,hyy,hsz, .inl ⟨rfl,⟨⟨hI' _ _ _ _ hi3 (fun k hk'=>by have:=hzB k hk';have:=hk.size;simp at this;omega) (Mild.of_put hl3 rfl (by omega) _),e1⟩,e2⟩,fun k hk'=>⟨hzo k hk',Nat.lt_of_lt_of_le (hzA k hk') hsz⟩⟩⟩
  |ret=>
   obtain⟨hk,hyc,hi3⟩:=hp
   obtain⟨hr,hl3,hd3,hyy,hsz⟩:=fin (some .ret) C hk hyc
   obtain⟨e1,e2⟩:=done (some .ret) C .busy hl3 hd3 .done
   exact⟨_,_,hr,hyy,hsz, .inr ⟨rfl,⟨.ret,⟨hIx' _ _ _ _ _ hi3 (fun k hk'=>by have:=hzB k hk';have:=hk.size;simp at this;omega) (Mild.of_put hl3 rfl (by omega) _),e1⟩,e2⟩,fun k hk'=>⟨hzo k hk',Nat.lt_of_lt_of_le (hzA k hk') hsz⟩⟩⟩
  |exit id=>
   obtain⟨hk,hyc,hi3⟩:=hp
   obtain⟨hr,hl3,hd3,hyy,hsz⟩:=fin (some (.exit id)) C hk hyc
   obtain⟨e1,e2⟩:=done (some (.exit id)) C .busy hl3 hd3 .done
   exact⟨_,_,hr,hyy,hsz, .inr ⟨rfl,⟨.exit id,⟨hIx' _ _ _ _ _ hi3 (fun k hk'=>by have:=hzB k hk';have:=hk.size;simp at this;omega) (Mild.of_put hl3 rfl (by omega) _),e1⟩,e2⟩,fun k hk'=>⟨hzo k hk',Nat.lt_of_lt_of_le (hzA k hk') hsz⟩⟩⟩
  |goto t=>
   obtain⟨hk,hyc,hi3⟩:=hp
   obtain⟨hr,hl3,hd3,hyy,hsz⟩:=fin (some (.goto t)) C hk hyc
   obtain⟨e1,e2⟩:=done (some (.goto t)) C .busy hl3 hd3 .done
   exact⟨_,_,hr,hyy,hsz, .inr ⟨rfl,⟨.goto t,⟨hIx' _ _ _ _ _ hi3 (fun k hk'=>by have:=hzB k hk';have:=hk.size;simp at this;omega) (Mild.of_put hl3 rfl (by omega) _),e1⟩,e2⟩,fun k hk'=>⟨hzo k hk',Nat.lt_of_lt_of_le (hzA k hk') hsz⟩⟩⟩
  |panic ch=>exact hp.elim
  |outgrown=>exact hp.elim
 ·
  rintro e W2 ⟨⟨v,rfl⟩,⟨xs,Z,hs,⟨⟨hi,hl⟩,hd⟩,hz⟩ |⟨xs,Z,hs,⟨c,⟨hi,hl⟩,hd⟩,hz⟩⟩
  ·have hr:=run_endLoop (P:=P) hl (by rw [hR];simp)
   rw [hR] at hr
   exact⟨none,_,hr,hdone _ xs Z _ (Nat.le_refl _) (fun k hk=>(hz k hk).1.1) (hS _ _ _ _ hs (turnZ Z W2 _ (fun k hk=>(hz k hk).1))) (hI' _ _ _ _ hi (fun k hk=>(hz k hk).2) (Mild.of_put hl rfl (by omega) _)) ((World.putObj_heap_other (by omega)).trans hd)⟩
  ·have hr:=run_endLoop (P:=P) hl (by rw [hR];simp)
   rw [hR] at hr
   exact⟨some c,_,hr,hstop _ c xs Z _ (Nat.le_refl _) (fun k hk=>(hz k hk).1.1) (hSx _ _ _ _ hs (turnZ Z W2 _ (fun k hk=>(hz k hk).1))) (hIx' _ _ _ _ _ hi (fun k hk=>(hz k hk).2) (Mild.of_put hl rfl (by omega) _)) ((World.putObj_heap_other (by omega)).trans hd)⟩
theorem range_turnsY_plain {α:Type} {g:Operand} {ps:Array Tmp} {assign body:Code} {Q:Exit→Act→World→Prop} {a:Act} {w:World}
  (hro:F.round=none) (h1:1≤n) {gf:Nat} {lb:Array Value} (hg:a.eval g= .func (.func gf) #[] lb) (hFg:F.fn gf) (eg:∀args w,(callFunc gf args).run P w= .ok (.enter gf args) w)
  {encs:α→Array Value} {Y X:List Nat} {Sp:List α→Prop} {S Sx:List α→List Nat→World→Prop} (hX:∀k ∈ X,k < w.heap.size) (hYl:∀k ∈ Y,k < w.heap.size)
  (hseq:TurnSeqY F (n - 1) P gf lb encs Y X Sp S Sx w) (hps:∀x,(encs x).size=ps.size)
  (hS:∀xs Z A B,S xs Z A→SameAt Z A B→S xs Z B) (hSx:∀xs Z A B,Sx xs Z A→SameAt Z A B→Sx xs Z B)
  (I:List α→List Nat→World→Prop) (Ix:Code→List α→List Nat→World→Prop) (hI:∀xs Z Z' A B,I xs Z A→Mild Z w.heap.size A B→Newer Z A.heap.size Z'→(∀k ∈ Z',k < B.heap.size)→I xs Z' B)
  (hIx:∀c xs Z Z' A B,Ix c xs Z A→Mild Z w.heap.size A B→Newer Z A.heap.size Z'→(∀k ∈ Z',k < B.heap.size)→Ix c xs Z' B) (h0:I [] X w) (hIY:∀xs Z W,I xs Z W→SameAt Y w W) (hIxY:∀c xs Z W,Ix c xs Z W→SameAt Y w W)
  (a₁:α→Act)
  (hassign:∀(l:Nat) (x:α) (W:World) (K:Act→World→Prop),K (a₁ x) W→
    assign.wpIn (F.inRound l) (n - 1 - 1) P (Exit.then K (fun _ _ _=>False)) { tmps:=(ps.zip (encs x)).foldl (fun t (p,v)=>t.setIfInBounds p v) a.tmps,defers:=[] } W)
  (hbody:∀(l:Nat) (pre:List α) (x:α) (Z:List Nat) (W:World),I pre Z W→Sp (pre++[x])→body.wpIn (F.inRound l) (n - 1 - 1) P (leftPost w.heap.size Z (fun xs V=>I xs Z V) (fun c xs V=>Ix c xs Z V) (pre++[x]) W) (a₁ x) W)
  (hdone:∀(D:Nat) (xs:List α) (Z:List Nat) (W:World),w.heap.size≤D→(∀k ∈ Z,k≠D)→S xs Z W→I xs Z W→W.heap[D]?=some (.deferred (some []))→Q .normal { a with defers:= { target:= .collected D,args:= #[] } ::a.defers } W)
  (hstop:∀(D:Nat) (c:Code) (xs:List α) (Z:List Nat) (W:World),w.heap.size≤D→(∀k ∈ Z,k≠D)→Sx xs Z W→Ix c xs Z W→W.heap[D]?=some (.deferred (some []))→c.wpIn F n P Q { a with defers:= { target:= .collected D,args:= #[] } ::a.defers } W):
  (Code.rangeFunc g ps assign body).wpIn F n P Q a w:=by
 refine range_turnsY hro h1 hg hFg eg hX hYl hseq hps hS hSx I Ix hI hIx h0 hIY hIxY (fun x a' _=>a'=a₁ x) (fun x a' A B h _=>h) ?_ ?_ hdone hstop
 ·intro l pre x Z W K hi hK
  exact hassign l x W K (hK _ _ (KeepsOthers.refl _ |>.from _) (SameAt.refl _ _) hi rfl)
 ·rintro l pre x Z a' W hi rfl hsp
  exact hbody l pre x Z W hi hsp
theorem TurnSeqZ.y {α:Type} {g:Nat} {lb:Array Value} {encs:α→Array Value} {X:List Nat} {Sp:List α→Prop} {S Sx:List α→List Nat→World→Prop} {w:World} (h:TurnSeqZ F n P g lb encs X Sp S Sx w) (Y:List Nat):TurnSeqY F n P g lb encs Y X Sp S Sx w:=
 fun l J Jx W hW _ _=>h l J Jx W hW
end Go.Proofs.Ytbfifglcnhfccaa
namespace Go.Proofs.Ytbfifglcnhfccaa
open Go.RowKit
def isI (i:Int):Prop:= -9223372036854775808≤i∧i≤9223372036854775807
def rdyL (q:Rq):List (Int×Int):=(sortQ q.ready).map fun x=>(x.1,x.2.1)
abbrev encR (x:Int×Int):Array Value:= #[.int .i64 x.1, .int .u64 x.2]
structure RqSaid where
 At:World→Nat→List Nat→Rq→Prop
 tn:TypeId→Bool
 offQ:tn tQ16=false
 offT:tn tT16=false
 offI:tn 3=false
 offB:tn 4=false
 offU:tn 28=false
 keep:∀ {w w':World} {b:Nat} {X Y:List Nat} {q:Rq},At w b X q→Turned Y w w'→(∀k ∈ X,k ∉ Y)→(∀k ∈ Y,∀cs t fz,w.heap[k]?=some (.cells cs t fz)→tn t=false)→At w' b X q
 lt:∀ {w:World} {b:Nat} {X:List Nat} {q:Rq},At w b X q→∀k ∈ X,k < w.heap.size
 own:∀ {w:World} {b:Nat} {X:List Nat} {q:Rq},At w b X q→∀k ∈ X,∀cs t fz,w.heap[k]?=some (.cells cs t fz)→tn t=false
 new:∀(g:Int) (w:World),isI g→Calls Try.prog 9 #[.int .i64 g] w fun e w'=>∃b X,e= .returned (.pointer (some ⟨b,0,none⟩))∧At w' b X (Rq.new g)∧Turned [] w w'∧∀k ∈ X,w.heap.size≤k
 add:∀ {w:World} {b:Nat} {X:List Nat} {q:Rq} {c:Int} (id v wt:Int),At w b X q→QOk q c→c≤10000→isI id→isI wt→Word v→Calls Try.prog 11 #[.pointer (some ⟨b,0,none⟩), .int .i64 id, .int .u64 v, .int .i64 wt] w fun e w'=>e= .returned (.tuple #[.int .u64 (addV q id v wt), .int .i64 (addE q id)])∧∃X',At w' b X' (q.add id v wt)∧Turned X w w'∧Newer X w.heap.size X'
 remove:∀ {w:World} {b:Nat} {X:List Nat} {q:Rq} {c:Int} (id:Int),At w b X q→QOk q c→c≤10000→isI id→Calls Try.prog 13 #[.pointer (some ⟨b,0,none⟩), .int .i64 id] w fun e w'=>e= .returned (.tuple #[.int .u64 (remV q id), .bool (findQ q.l id).isSome])∧∃X',At w' b X' (q.remove id)∧Turned X w w'∧Newer X w.heap.size X'
 pick:∀ {w:World} {b:Nat} {X:List Nat} {q:Rq} {c:Int},At w b X q→QOk q c→c≤10000→Calls Try.prog 15 #[.pointer (some ⟨b,0,none⟩)] w fun e w'=>e= .returned (.tuple #[.int .i64 (pickV q), .bool (decide (0≤pickV q))])∧∃X',At w' b X' q.pick∧Turned X w w'∧Newer X w.heap.size X'
 back:∀ {w:World} {b:Nat} {X:List Nat} {q:Rq} {c:Int},At w b X q→QOk q c→c≤10000→Calls Try.prog 17 #[.pointer (some ⟨b,0,none⟩)] w fun e w'=>e= .returned (.tuple #[.int .i64 q.cur, .bool (decide (0≤q.cur))])∧∃X',At w' b X' q.back∧Turned X w w'∧Newer X w.heap.size X'
 tick:∀ {w:World} {b:Nat} {X:List Nat} {q:Rq} {c:Int},At w b X q→QOk q c→c≤10000→Calls Try.prog 19 #[.pointer (some ⟨b,0,none⟩)] w fun e w'=>e= .returned (.tuple #[.int .i64 q.cur, .bool (decide (0≤q.cur))])∧∃X',At w' b X' q.tick∧Turned X w w'∧Newer X w.heap.size X'
 weigh:∀ {w:World} {b:Nat} {X:List Nat} {q:Rq} {c:Int} (id wt:Int),At w b X q→QOk q c→c≤10000→isI id→isI wt→Calls Try.prog 21 #[.pointer (some ⟨b,0,none⟩), .int .i64 id, .int .i64 wt] w fun e w'=>e= .returned (.bool (findQ q.l id).isSome)∧∃X',At w' b X' (q.weigh id wt)∧Turned X w w'∧Newer X w.heap.size X'
 settle:∀ {w:World} {b:Nat} {X:List Nat} {q:Rq} {c:Int},At w b X q→QOk q c→c≤10000→Calls Try.prog 23 #[.pointer (some ⟨b,0,none⟩)] w fun e w'=>e= .returned (.tuple #[])∧∃X',At w' b X' q.settle∧Turned X w w'∧Newer X w.heap.size X'
 due:∀ {w:World} {b:Nat} {X:List Nat} {q:Rq} {c:Int},At w b X q→QOk q c→c≤10000→Calls Try.prog 35 #[.pointer (some ⟨b,0,none⟩)] w fun e w'=>e= .returned (.bool q.due)∧Turned [] w w'
 vv:∀ {w:World} {b:Nat} {X:List Nat} {q:Rq} {c:Int} (id:Int),At w b X q→QOk q c→c≤10000→isI id→Calls Try.prog 28 #[.pointer (some ⟨b,0,none⟩), .int .i64 id] w fun e w'=>e= .returned (.tuple #[.int .u64 (remV q id), .bool (findQ q.l id).isSome])∧Turned [] w w'
 current:∀ {w:World} {b:Nat} {X:List Nat} {q:Rq} {c:Int},At w b X q→QOk q c→c≤10000→Calls Try.prog 33 #[.pointer (some ⟨b,0,none⟩)] w fun e w'=>e= .returned (.tuple #[.int .i64 q.cur, .int .i64 q.ran, .bool (decide (0≤q.cur))])∧Turned [] w w'
 floor:∀ {w:World} {b:Nat} {X:List Nat} {q:Rq} {c:Int},At w b X q→QOk q c→c≤10000→Calls Try.prog 29 #[.pointer (some ⟨b,0,none⟩)] w fun e w'=>e= .returned (.int .u64 q.f)∧Turned [] w w'
 len:∀ {w:World} {b:Nat} {X:List Nat} {q:Rq} {c:Int},At w b X q→QOk q c→c≤10000→Calls Try.prog 36 #[.pointer (some ⟨b,0,none⟩)] w fun e w'=>e= .returned (.int .i64 (q.l.length:Nat))∧Turned [] w w'
 load:∀ {w:World} {b:Nat} {X:List Nat} {q:Rq} {c:Int},At w b X q→QOk q c→c≤10000→Calls Try.prog 37 #[.pointer (some ⟨b,0,none⟩)] w fun e w'=>e= .returned (.int .i64 (sumR (q.l.map (·.2.2))))∧Turned [] w w'
 ready:∀ {w:World} {b:Nat} {X:List Nat} {q:Rq} {c:Int},At w b X q→QOk q c→c≤10000→Calls Try.prog 34 #[.pointer (some ⟨b,0,none⟩)] w fun r w'=>∃f lb,r= .returned (.func (.func f) #[] lb)∧Turned [] w w'∧(∀args W,(callFunc f args).run Try.prog W= .ok (.enter f args) W)∧
  ∃Y Z,(∀k ∈ Y,k < w'.heap.size∧(k ∈ X∨w.heap.size≤k∨∃cs t fz,w'.heap[k]?=some (.cells cs t fz)∧tn t=true))∧(∀k ∈ Z,k < w'.heap.size∧w.heap.size≤k∧k ∉ Y)∧
   ∀n,1≤n→TurnSeqY Fence.wide n Try.prog f lb encR Y Z (fun xs=>xs <+:rdyL q) (fun xs _ _=>xs=rdyL q) (fun xs _ _=>xs <+:rdyL q) w'
theorem RqSaid.keep0 (S:RqSaid) {w w':World} {b:Nat} {X:List Nat} {q:Rq} (h:S.At w b X q) (ht:Turned [] w w'):S.At w' b X q:=
 S.keep h ht (by simp) (fun k hk=>by simp at hk)
theorem RqSaid.keepR (S:RqSaid) {w w':World} {b d:Nat} {X Y:List Nat} {q r:Rq} (h:S.At w b X q) (hr:R16 w d Y r) (ht:Turned Y w w') (hd:∀k ∈ X,k ∉ Y):S.At w' b X q:=by
 refine S.keep h ht hd (fun k hk cs t fz ho=>?_)
 obtain⟨v,h1,h2,rfl⟩:=hr
 rcases List.mem_cons.1 hk with rfl|hk
 ·rw [h1] at ho
  simp only [Option.some.injEq,Obj.cells.injEq] at ho
  rw [←ho.2.1]
  exact S.offQ
 ·obtain⟨cur,hc⟩:=ownsRow_type h2 k hk
  rw [hc] at ho
  simp only [Option.some.injEq,Obj.cells.injEq] at ho
  rw [←ho.2.1]
  exact S.offT
theorem Turned.also {X:List Nat} {a b c:World} (h:Turned X a b) (g:Turned [] b c):Turned X a c:=h.trans g (fun k hk=>by simp at hk)
theorem Newer.low {X Y:List Nat} {n m:Nat} (h:Newer X n Y) (hm:m≤n):Newer X m Y:=h.mono hm
theorem goon_any (S:RqSaid) {w:World} {b:Nat} {X:List Nat} {q:Rq} {c:Int} (h:S.At w b X q) (hq:QOk q c) (hc:c≤5000):
  Calls Try.prog 25 #[.pointer (some ⟨b,0,none⟩)] w fun e w'=>e= .returned (.int .i64 q.who)∧∃X',S.At w' b X' q.go∧Turned X w w'∧Newer X w.heap.size X':=by
 have E0:=xhd (show q.go0=if q.due=true then q.back else q from rfl)
 have E1:Hid (q.go1=if q.go0.cur < 0 then q.go0.pick else q.go0):=xhd rfl
 have hq0:=hq.go0
 have hq1:=hq.go1
 have hq2:=hq1.tick
 have HD:=xhd (S.due h hq (by omega))
 have HB:=xhd (S.back h hq (by omega))
 have HBK:=xhd (fun V (hV:Turned [] w V)=>S.back (S.keep0 h hV) hq (by omega))
 have HCU:=xhd (fun V Y (hV:S.At V b Y q.go0)=>S.current hV hq0 (by omega))
 have HP:=xhd (fun V Y (hV:S.At V b Y q.go0)=>S.pick hV hq0 (by omega))
 have HTK:=xhd (fun V Y (hV:S.At V b Y q.go1)=>S.tick hV hq1 (by omega))
 have HST:=xhd (fun V Y (hV:S.At V b Y q.go1.tick)=>S.settle hV hq2 (by omega))
 have H:=xhd h
 clear h hq hq0 hq1 hq2 hc HB
 go_enter Try.func25,Try.ntmps25
 go_wp2_with fail
 with_reducible refine HD.out.mono ?_
 rintro e V ⟨rfl,ht⟩
 have HT:=xhd ht
 clear ht
 by_cases hd:q.due=true
 ·have E0':=E0.out
  rw [if_pos hd] at E0'
  have HE0:=xhd E0'
  rw [hd]
  clear E0' E0 hd
  go_wp2_with fail
  with_reducible refine (HBK.out _ HT.out).mono ?_
  rintro e V1 ⟨rfl,Y1,hv1,ht1,hn1⟩
  have HVB:Hid (S.At V1 b Y1 q.go0):=xhd (by rw [HE0.out];exact hv1)
  have HTB:Hid (Turned X w V1):=xhd ((HT.out.mono (fun k hk=>by simp at hk)).trans ht1 (Newer.refl _ _))
  have HNB:Hid (Newer X w.heap.size Y1):=xhd (hn1.mono HT.out.size)
  clear hv1 ht1 hn1 HBK
  have E1':=E1.out
  by_cases hcur:q.go0.cur < 0
  ·rw [if_pos hcur] at E1'
   have HE1:=xhd E1'
   have hdc:decide (0≤q.go0.cur)=false:=by simpa using hcur
   rw [hdc] at HCU
   clear E1' hcur hdc
   go_wp2_with fail
   with_reducible refine (HCU.out _ _ HVB.out).mono ?_
   rintro e V2 ⟨rfl,ht2⟩
   have HVC:=xhd (S.keep0 HVB.out ht2)
   have HTC:=xhd (HTB.out.also ht2)
   clear ht2
   go_wp2_with fail
   with_reducible refine (HP.out _ _ HVC.out).mono ?_
   rintro e V3 ⟨rfl,Y3,hv3,ht3,hn3⟩
   have HVP:Hid (S.At V3 b Y3 q.go1):=xhd (by rw [HE1.out];exact hv3)
   have HTP:=xhd (HTC.out.trans ht3 HNB.out)
   have HNP:=xhd (HNB.out.trans hn3 HTC.out.size)
   clear hv3 ht3 hn3
   go_wp2_with fail
   with_reducible refine (HTK.out _ _ HVP.out).mono ?_
   rintro e V4 ⟨rfl,Y4,hv4,ht4,hn4⟩
   have HV4:=xhd hv4
   have HT4:=xhd (HTP.out.trans ht4 HNP.out)
   have HN4:=xhd (HNP.out.trans hn4 HTP.out.size)
   clear hv4 ht4 hn4
   go_wp2_with fail
   with_reducible refine (HST.out _ _ HV4.out).mono ?_
   rintro e V5 ⟨rfl,Y5,hv5,ht5,hn5⟩
   have HV5:=xhd hv5
   have HT5:=xhd (HT4.out.trans ht5 HN4.out)
   have HN5:=xhd (HN4.out.trans hn5 HT4.out.size)
   clear hv5 ht5 hn5
   go_wp2
   go_ret
   exact⟨rfl,Y5,HV5.out,HT5.out,HN5.out⟩
  ·rw [if_neg hcur] at E1'
   have HE1:=xhd E1'
   have hdc:decide (0≤q.go0.cur)=true:=by simpa using hcur
   rw [hdc] at HCU
   clear E1' hcur hdc
   go_wp2_with fail
   with_reducible refine (HCU.out _ _ HVB.out).mono ?_
   rintro e V2 ⟨rfl,ht2⟩
   have HVP:Hid (S.At V2 b _ q.go1):=xhd (by rw [HE1.out];exact S.keep0 HVB.out ht2)
   have HTP:=xhd (HTB.out.also ht2)
   have HNP:=HNB
   clear ht2
   go_wp2_with fail
   with_reducible refine (HTK.out _ _ HVP.out).mono ?_
   rintro e V4 ⟨rfl,Y4,hv4,ht4,hn4⟩
   have HV4:=xhd hv4
   have HT4:=xhd (HTP.out.trans ht4 HNP.out)
   have HN4:=xhd (HNP.out.trans hn4 HTP.out.size)
   clear hv4 ht4 hn4
   go_wp2_with fail
   with_reducible refine (HST.out _ _ HV4.out).mono ?_
   rintro e V5 ⟨rfl,Y5,hv5,ht5,hn5⟩
   have HV5:=xhd hv5
   have HT5:=xhd (HT4.out.trans ht5 HN4.out)
   have HN5:=xhd (HN4.out.trans hn5 HT4.out.size)
   clear hv5 ht5 hn5
   go_wp2
   go_ret
   exact⟨rfl,Y5,HV5.out,HT5.out,HN5.out⟩
 ·have E0':=E0.out
  rw [if_neg hd] at E0'
  have hd':q.due=false:=by simpa using hd
  rw [hd']
  have HVB:Hid (S.At V b X q.go0):=xhd (by rw [E0'];exact S.keep0 H.out HT.out)
  have HTB:Hid (Turned X w V):=xhd (HT.out.mono (fun k hk=>by simp at hk))
  have HNB:Hid (Newer X w.heap.size X):=xhd (Newer.refl _ _)
  clear E0' E0 hd hd' HBK
  have E1':=E1.out
  by_cases hcur:q.go0.cur < 0
  ·rw [if_pos hcur] at E1'
   have HE1:=xhd E1'
   have hdc:decide (0≤q.go0.cur)=false:=by simpa using hcur
   rw [hdc] at HCU
   clear E1' hcur hdc
   go_wp2_with fail
   with_reducible refine (HCU.out _ _ HVB.out).mono ?_
   rintro e V2 ⟨rfl,ht2⟩
   have HVC:=xhd (S.keep0 HVB.out ht2)
   have HTC:=xhd (HTB.out.also ht2)
   clear ht2
   go_wp2_with fail
   with_reducible refine (HP.out _ _ HVC.out).mono ?_
   rintro e V3 ⟨rfl,Y3,hv3,ht3,hn3⟩
   have HVP:Hid (S.At V3 b Y3 q.go1):=xhd (by rw [HE1.out];exact hv3)
   have HTP:=xhd (HTC.out.trans ht3 HNB.out)
   have HNP:=xhd (HNB.out.trans hn3 HTC.out.size)
   clear hv3 ht3 hn3
   go_wp2_with fail
   with_reducible refine (HTK.out _ _ HVP.out).mono ?_
   rintro e V4 ⟨rfl,Y4,hv4,ht4,hn4⟩
   have HV4:=xhd hv4
   have HT4:=xhd (HTP.out.trans ht4 HNP.out)
   have HN4:=xhd (HNP.out.trans hn4 HTP.out.size)
   clear hv4 ht4 hn4
   go_wp2_with fail
   with_reducible refine (HST.out _ _ HV4.out).mono ?_
   rintro e V5 ⟨rfl,Y5,hv5,ht5,hn5⟩
   have HV5:=xhd hv5
   have HT5:=xhd (HT4.out.trans ht5 HN4.out)
   have HN5:=xhd (HN4.out.trans hn5 HT4.out.size)
   clear hv5 ht5 hn5
   go_wp2
   go_ret
   exact⟨rfl,Y5,HV5.out,HT5.out,HN5.out⟩
  ·rw [if_neg hcur] at E1'
   have HE1:=xhd E1'
   have hdc:decide (0≤q.go0.cur)=true:=by simpa using hcur
   rw [hdc] at HCU
   clear E1' hcur hdc
   go_wp2_with fail
   with_reducible refine (HCU.out _ _ HVB.out).mono ?_
   rintro e V2 ⟨rfl,ht2⟩
   have HVP:Hid (S.At V2 b _ q.go1):=xhd (by rw [HE1.out];exact S.keep0 HVB.out ht2)
   have HTP:=xhd (HTB.out.also ht2)
   have HNP:=HNB
   clear ht2
   go_wp2_with fail
   with_reducible refine (HTK.out _ _ HVP.out).mono ?_
   rintro e V4 ⟨rfl,Y4,hv4,ht4,hn4⟩
   have HV4:=xhd hv4
   have HT4:=xhd (HTP.out.trans ht4 HNP.out)
   have HN4:=xhd (HNP.out.trans hn4 HTP.out.size)
   clear hv4 ht4 hn4
   go_wp2_with fail
   with_reducible refine (HST.out _ _ HV4.out).mono ?_
   rintro e V5 ⟨rfl,Y5,hv5,ht5,hn5⟩
   have HV5:=xhd hv5
   have HT5:=xhd (HT4.out.trans ht5 HN4.out)
   have HN5:=xhd (HN4.out.trans hn5 HT4.out.size)
   clear hv5 ht5 hn5
   go_wp2
   go_ret
   exact⟨rfl,Y5,HV5.out,HT5.out,HN5.out⟩
end Go.Proofs.Ytbfifglcnhfccaa
namespace Go.Proofs.Ytbfifglcnhfccaa
open Go.RowKit
abbrev Dq:=Int×Int×Int×Int
def wfD (x:Dq):Prop:=0≤x.1∧isI x.2.1∧Word x.2.2.1∧isI x.2.2.2
theorem cells4q {w:World} {b:Nat} {x y z u:Value} {t:TypeId} (h:w.heap[b]?=some (.cells #[x,y,z,u] t (0,0))):
  w.cell? ⟨b,0,none⟩=some x∧w.cell? ⟨b,1,none⟩=some y∧w.cell? ⟨b,2,none⟩=some z∧w.cell? ⟨b,3,none⟩=some u:=by
 refine⟨?_,?_,?_,?_⟩<;>simp [World.cell?,h]
structure DuoR (S:RqSaid) (w W:World) (b:Nat) (X:List Nat) (d:Nat) (Y:List Nat) (qp qd:Rq):Prop where
 at_:S.At W b X qp
 ref:R16 W d Y qd
 dj:∀k ∈ X,k ∉ Y
 lx:∀k ∈ X,w.heap.size≤k
 ly:∀k ∈ Y,w.heap.size≤k
 t:Turned [] w W
section
variable {S:RqSaid} {w W W':World} {b d:Nat} {X Y X' Y':List Nat} {qp qd q2:Rq}
theorem DuoR.later (h:DuoR S w W b X d Y qp qd) (t:Turned [] W W'):DuoR S w W' b X d Y qp qd:=
 ⟨S.keep0 h.at_ t,LAt.keep h.ref t (by simp),h.dj,h.lx,h.ly,h.t.trans t (Newer.refl _ _)⟩
theorem DuoR.prog (h:DuoR S w W b X d Y qp qd) (a:S.At W' b X' q2) (t:Turned X W W') (n:Newer X W.heap.size X'):DuoR S w W' b X' d Y q2 qd:=by
 have hs:=h.t.size
 refine⟨a,LAt.keep h.ref t (fun k hk hx=>h.dj k hx hk),fun k hk hy=>?_,fun k hk=>?_,h.ly,h.t.trans t (fun k hk=> .inr (h.lx k hk))⟩
 ·rcases n k hk with h1|h1
  ·exact h.dj k h1 hy
  ·have:=LAt.lt h.ref k hy
   omega
 ·rcases n k hk with h1|h1
  ·exact h.lx k h1
  ·omega
theorem DuoR.doc (h:DuoR S w W b X d Y qp qd) (r:R16 W' d Y' q2) (t:Turned Y W W') (n:Newer Y W.heap.size Y'):DuoR S w W' b X d Y' qp q2:=by
 have hs:=h.t.size
 refine⟨S.keepR h.at_ h.ref t h.dj,r,fun k hk hy=>?_,h.lx,fun k hk=>?_,h.t.trans t (fun k hk=> .inr (h.ly k hk))⟩
 ·rcases n k hy with h1|h1
  ·exact h.dj k hk h1
  ·have:=S.lt h.at_ k hk
   omega
 ·rcases n k hk with h1|h1
  ·exact h.ly k h1
  ·omega
end
end Go.Proofs.Ytbfifglcnhfccaa
namespace Go.Proofs.Ytbfifglcnhfccaa
open Go.ChangeShapes Go.WideShapes Go.ChangeAt Go.RowKit Go.Deep
section
variable {H:Type} {enc:TypeId×Value→H} {P:Program}
variable {w:World} {base:Nat} {spare:Nat→Bool} {held:Bool}
theorem cut_one {cs:List Value} {j:Nat} {v:Value} (h:(cs.drop j).take 1=[v]):cs[j]?=some v:=by
 have h1:((cs.drop j).take 1)[0]?=some v:=by rw [h];rfl
 rw [List.getElem?_take_of_lt (by omega),List.getElem?_drop] at h1
 simpa using h1
theorem u8_low {x:Int} (h:(Lit.int .u8 x).wf=true):0≤x∧x≤255:=by
 simp [Lit.wf,IntKind.min,IntKind.max,IntKind.signed,IntKind.bits] at h
 exact⟨by omega,by omega⟩
theorem u64_word {x:Int} (h:(Lit.int .u64 x).wf=true):Word x:=by
 simp [Lit.wf,IntKind.min,IntKind.max,IntKind.signed,IntKind.bits] at h
 exact⟨by omega,by omega⟩
theorem u16_low {x:Int} (h:(Lit.int .u16 x).wf=true):0≤x∧x≤65535:=by
 simp [Lit.wf,IntKind.min,IntKind.max,IntKind.signed,IntKind.bits] at h
 exact⟨by omega,by omega⟩
theorem isI_of {x:Int} (h:(Lit.int .i64 x).wf=true):isI x:=by
 simp [Lit.wf,IntKind.min,IntKind.max,IntKind.signed,IntKind.bits] at h
 exact⟨by omega,by omega⟩
theorem open_deeds16 {t e:TypeId} {f0 f1 f2 f3:Field} (ht:P.underlying t=some (.slice e)) (he:P.underlying e=some (.struct #[f0,f1,f2,f3])) (hC:P.cellsOf e=4)
  (o0:f0.offset=0) (o1:f1.offset=1) (o2:f2.offset=2) (o3:f3.offset=3) (c0:P.cellsOf f0.type=1) (c1:P.cellsOf f1.type=1) (c2:P.cellsOf f2.type=1) (c3:P.cellsOf f3.type=1)
  (k0:P.underlying f0.type=some (.int .u8)) (k1:P.underlying f1.type=some (.int .i64)) (k2:P.underlying f2.type=some (.int .u64)) (k3:P.underlying f3.type=some (.int .i64))
  {v:Value} {d:DataW H} {p:List MemPlace} {r:Reach} {b0:Nat} (hok:Value.okWide P w r b0 t v) (h:DataW.Trod enc P w base spare held t v d p):
  ∃(ao:Option Addr) (b off n cap:Nat) (E:Nat→Dq),v= .slice ao n cap∧n≤maxLen∧(0 < n→ao=some ⟨b,off,none⟩∧b < w.heap.size)∧
   (∀i,i < n→w.cell? ⟨b,off+i*4,none⟩=some (.int .u8 (E i).1)∧w.cell? ⟨b,off+i*4+1,none⟩=some (.int .i64 (E i).2.1)∧w.cell? ⟨b,off+i*4+2,none⟩=some (.int .u64 (E i).2.2.1)∧w.cell? ⟨b,off+i*4+3,none⟩=some (.int .i64 (E i).2.2.2))∧
   (∀i,i < n→wfD (E i)):=by
 obtain⟨fuel,hf⟩:=h
 obtain⟨a',len',cap',rfl⟩:=okWide_slice ht hok
 rcases open_slice ht hf with⟨hcs,_⟩ |⟨a,len,cap,m,n,D,Pl,hcs,hb,hl,hm,hmm,hx,hi⟩
 ·have hv:Value.slice a' len' cap'= .slice none 0 0:=by simpa [Value.cells] using hcs
  exact⟨none,0,0,0,0,fun _=>(0,0,0,0),hv,Nat.zero_le _,fun h=>by omega,fun i h=>by omega,fun i h=>by omega⟩
 ·have hv:Value.slice a' len' cap'= .slice (some a) len cap:=by simpa [Value.cells] using hcs
  have hlm:len≤m:=by rw [hmm];split<;>omega
  have each:∀i,∃x:Dq,i < len→(w.cell? (a.add (i*4))=some (.int .u8 x.1)∧w.cell? ((a.add (i*4)).add 1)=some (.int .i64 x.2.1)∧w.cell? ((a.add (i*4)).add 2)=some (.int .u64 x.2.2.1)∧w.cell? ((a.add (i*4)).add 3)=some (.int .i64 x.2.2.2))∧wfD x:=by
   intro i
   by_cases hil:i < len
   ·obtain⟨cs',hc,ht'⟩:=hi i (by omega)
    rw [hC] at hc
    obtain⟨ys,n',hn',hy,hlen,hyl,hg⟩:=DataW.trod_struct he ht'
    simp only [List.size_toArray,List.length_cons,List.length_nil] at hyl
    obtain⟨_,hcl,hat⟩:=World.cells?_some hc
    have t0:=hg 0 f0 rfl
    have t1:=hg 1 f1 rfl
    have t2:=hg 2 f2 rfl
    have t3:=hg 3 f3 rfl
    rw [o0,c0,List.getElem?_eq_getElem (by omega)] at t0
    rw [o1,c1,List.getElem?_eq_getElem (by omega)] at t1
    rw [o2,c2,List.getElem?_eq_getElem (by omega)] at t2
    rw [o3,c3,List.getElem?_eq_getElem (by omega)] at t3
    obtain⟨x0,e0,_,w0⟩:=DataW.trod_int k0 t0
    obtain⟨x1,e1,_,w1⟩:=DataW.trod_int k1 t1
    obtain⟨x2,e2,_,w2⟩:=DataW.trod_int k2 t2
    obtain⟨x3,e3,_,w3⟩:=DataW.trod_int k3 t3
    have e0:=cut_one e0
    have e1:=cut_one e1
    have e2:=cut_one e2
    have e3:=cut_one e3
    refine⟨(x0,x1,x2,x3),fun _=>⟨⟨?_,?_,?_,?_⟩,(u8_low w0).1,isI_of w1,u64_word w2,isI_of w3⟩⟩
    ·have h0:=hat 0 (by omega)
     rw [e0] at h0
     have:a.add (i*4)=(a.add (i*4)).add 0:=by
      unfold Addr.add
      simp
     rw [this]
     exact h0
    ·rw [hat 1 (by omega),e1]
    ·rw [hat 2 (by omega),e2]
    ·rw [hat 3 (by omega),e3]
   ·exact⟨(0,0,0,0),fun h=>absurd h hil⟩
  obtain⟨G,hG⟩:=Classical.axiomOfChoice each
  by_cases h0:0 < len
  ·obtain⟨⟨c0,_⟩,_⟩:=hG 0 h0
   have ha0:a.add (0*4)=a:=by
    unfold Addr.add
    simp
   rw [ha0] at c0
   obtain⟨b,off,rfl,hbl⟩:=spot_none c0
   refine⟨_,b,off,len,cap,G,hv,by omega,fun _=>⟨rfl,hbl⟩,fun i hil=>?_,fun i hil=>(hG i hil).2⟩
   obtain⟨⟨g0,g1,g2,g3⟩,_⟩:=hG i hil
   simp only [Addr.add_lit] at g0 g1 g2 g3
   exact⟨g0,g1,g2,g3⟩
  ·exact⟨some a,0,0,len,cap,G,hv,by omega,fun h=>absurd h h0,fun i hil=>by omega,fun i hil=>by omega⟩
end
end Go.Proofs.Ytbfifglcnhfccaa
