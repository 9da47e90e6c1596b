/-
  A queue, plainly: who is added, removed, weighed, picked, ticked, settled; each task is, behind each go, from the floor up to that and its reach. No program.
  Who is ready, in order, plainly: the first in order is the least. No program.
  Memory of one's own, told by the numbers of its blocks: what a call may have turned, and what stays. No program.
  append onto a row of one's own: where the longer row lies. No program.
  A list of like things, its cells in a row of one's own that a field of a block holds: what appends, removals and stores make of it. No program.
  The document's queue in memory: New, At, Load, Back.
  Sums of brought ticks and weights, as they grow; how great they are. No program.
  The document's queue in memory: New, place, Load, Tick.
  The document's queue in memory: Settle.
  The document's queue in memory: Add.
  A tick turns one task of a queue's list. No program.
  What a round of a loop over a function may turn. No program.
  A loop over a function that turns memory of its own between two rounds (a heap that is popped): its contract, and the caller's law. No program.
  Inside a round of a loop over a function: a region that draws its order, walked as outside of it. No program.
  What is told of cells abides the steps of a loop over a function; a region with calls in a round; a bool that is answered out of a cell. No program.
-/
import Derived.Test.YtbfifglcnhfccaaZAA
import Derived.WalkKit
import Derived.OneCell
import Derived.WalkSmall
import Derived.OwnWalk
import Derived.ArgAppend
import Derived.Laws.AppendOwnNone
import Derived.Maps.AppendAt
import Derived.RegionTactic
import Derived.Lib.Hide
import Derived.Deep.QuietTactic
import Derived.BigQuiet
import Derived.Deep.RegionHeld3
import Derived.Deep.RegionWith
import Derived.RangeFuncNested
import Derived.RangeFuncBound
import Derived.RangeFuncCalls
import Derived.RangeFuncLeaves
import Derived.RangeFuncBox
import Derived.RangeFuncWrites
import Derived.StillTailTactics
import Derived.OrdersIn
import Derived.Test.YtbfifglcnhfccaaChecked
import Derived.Shelf.Abstract
import Derived.Test.YtbfifglcnhfccaaZAl
set_option maxRecDepth 100000
set_option maxHeartbeats 25600000
namespace Go.Proofs.Ytbfifglcnhfccaa
structure Rq where
 g:Int
 f:Int
 l:List (Int×Int×Int)
 cur:Int
 ran:Int
def findQ:List (Int×Int×Int)→Int→Option (Int×Int)
 |[],_=>none
 |x::l,id=>if x.1=id then some x.2 else findQ l id
def leastQ:List (Int×Int×Int)→Option (Int×Int×Int)
 |[]=>none
 |x::l=>match leastQ l with
  |none=>some x
  |some y=>if x.2.1 < y.2.1∨(x.2.1=y.2.1∧x.1 < y.1) then some x else some y
def minQ:List (Int×Int×Int)→Int→Int
 |[],m=>m
 |x::l,m=>minQ l (if x.2.1 < m then x.2.1 else m)
def Rq.new (grain:Int):Rq:=⟨bringR grain 1 8,0,[], -1,0⟩
def Rq.place (q:Rq) (v w:Int):Int:=clampR v q.f (reachR w q.g)
def Rq.add (q:Rq) (id v w:Int):Rq:=if id < 0∨(findQ q.l id).isSome=true∨16≤q.l.length then q else { q with l:=q.l++[(id,q.place v (bringR w 1 4096),bringR w 1 4096)] }
def Rq.remove (q:Rq) (id:Int):Rq:=if (findQ q.l id).isSome=true then { q with l:=q.l.filter (fun x=>decide (x.1≠id)),cur:=if q.cur=id then -1 else q.cur,ran:=if q.cur=id then 0 else q.ran } else q
def Rq.weigh (q:Rq) (id w:Int):Rq:=match findQ q.l id with
 |none=>q
 |some x=> { q with l:=q.l.map (fun y=>if y.1=id then (y.1,q.place y.2.1 (bringR w 1 4096),bringR w 1 4096) else y),ran:=if x.2≠bringR w 1 4096∧q.cur=id then q.g else q.ran }
def Rq.ready (q:Rq):List (Int×Int×Int):=q.l.filter (fun x=>decide (x.1≠q.cur))
def Rq.pick (q:Rq):Rq:=if 0≤q.cur then q else match leastQ q.ready with
 |none=>q
 |some x=> { q with cur:=x.1,ran:=0 }
def Rq.due (q:Rq):Bool:=match findQ q.l q.cur with
 |none=>false
 |some x=>decide (0≤q.cur)&&decide (q.g≤q.ran)&&q.ready.any (fun y=>decide (y.2.1 < x.1))
def Rq.back (q:Rq):Rq:= { q with cur:= -1,ran:=0 }
def tickT (c:Int) (x:Int×Int×Int):Int×Int×Int:=if x.1=c then (x.1,satV (x.2.1+coreR x.2.2),x.2.2) else x
def Rq.tick (q:Rq):Rq:=if 0≤q.cur then { q with l:=q.l.map (tickT q.cur),ran:=q.ran+1 } else q
def Rq.settle (q:Rq):Rq:=match q.l with
 |[]=>q
 |x::l=> { q with f:=if q.f < minQ l x.2.1 then minQ l x.2.1 else q.f }
def Rq.go0 (q:Rq):Rq:=if q.due=true then q.back else q
def Rq.go1 (q:Rq):Rq:=if q.go0.cur < 0 then q.go0.pick else q.go0
def Rq.go (q:Rq):Rq:=q.go1.tick.settle
theorem minQ_le:∀(l:List (Int×Int×Int)) (m:Int),minQ l m≤m∧∀x ∈ l,minQ l m≤x.2.1
 |[],m=>⟨Int.le_refl _,fun x hx=>by cases hx⟩
 |y::l,m=>by
  have hk:(if y.2.1 < m then y.2.1 else m)≤m∧(if y.2.1 < m then y.2.1 else m)≤y.2.1:=by split<;>omega
  obtain⟨a,b⟩:=minQ_le l (if y.2.1 < m then y.2.1 else m)
  unfold minQ
  generalize (if y.2.1 < m then y.2.1 else m)=k at hk a b
  refine⟨by omega,fun x hx=>?_⟩
  rcases List.mem_cons.1 hx with rfl|hx
  ·omega
  ·exact b x hx
theorem minQ_ge:∀(l:List (Int×Int×Int)) (m c:Int),c≤m→(∀x ∈ l,c≤x.2.1)→c≤minQ l m
 |[],_,_,h,_=>h
 |y::l,m,c,h,h2=>by
  unfold minQ
  refine minQ_ge l _ c ?_ (fun x hx=>h2 x (by simp [hx]))
  have:=h2 y (by simp)
  split<;>omega
theorem leastQ_le:∀ {l:List (Int×Int×Int)} {x:Int×Int×Int},leastQ l=some x→x ∈ l∧∀y ∈ l,x.2.1≤y.2.1
 |y::l,x,h=>by
  unfold leastQ at h
  cases hz:leastQ l with
  |none=>
   rw [hz] at h
   simp only [Option.some.injEq] at h
   subst h
   have:l=[]:=by
    cases l with
    |nil=>rfl
    |cons a l=>
     exfalso
     unfold leastQ at hz
     split at hz
     ·cases hz
     ·split at hz<;>cases hz
   subst this
   exact⟨by simp,fun z hz=>by simp at hz;subst hz;exact Int.le_refl _⟩
  |some z=>
   rw [hz] at h
   obtain⟨a,b⟩:=leastQ_le hz
   simp only at h
   split at h
   ·next hc=>
    simp only [Option.some.injEq] at h
    subst h
    refine⟨by simp,fun u hu=>?_⟩
    rcases List.mem_cons.1 hu with rfl|hu
    ·exact Int.le_refl _
    ·have:=b u hu
     omega
   ·next hc=>
    simp only [Option.some.injEq] at h
    subst h
    refine⟨by simp [a],fun u hu=>?_⟩
    rcases List.mem_cons.1 hu with rfl|hu
    ·omega
    ·exact b u hu
theorem leastQ_none {l:List (Int×Int×Int)} (h:leastQ l=none):l=[]:=by
 cases l with
 |nil=>rfl
 |cons a l=>
  exfalso
  unfold leastQ at h
  split at h
  ·cases h
  ·split at h<;>cases h
theorem findQ_mem:∀ {l:List (Int×Int×Int)} {id:Int} {x:Int×Int},findQ l id=some x→(id,x) ∈ l
 |y::l,id,x,h=>by
  unfold findQ at h
  split at h
  ·next hc=>
   simp only [Option.some.injEq] at h
   subst h hc
   simp
  ·exact List.mem_cons_of_mem _ (findQ_mem h)
theorem findQ_none:∀ {l:List (Int×Int×Int)} {id:Int},findQ l id=none→∀x ∈ l,x.1≠id
 |y::l,id,h,x,hx=>by
  unfold findQ at h
  split at h
  ·cases h
  ·next hc=>
   rcases List.mem_cons.1 hx with rfl|hx
   ·exact hc
   ·exact findQ_none h x hx
theorem findQ_one {l:List (Int×Int×Int)} (hu:(l.map (·.1)).Nodup):∀ {x y:Int×Int×Int},x ∈ l→y ∈ l→x.1=y.1→x=y:=by
 induction l with
 |nil=>intro x y hx;cases hx
 |cons z l ih=>
  intro x y hx hy e
  simp only [List.map_cons,List.nodup_cons] at hu
  rcases List.mem_cons.1 hx with hx1|hx1
  ·rcases List.mem_cons.1 hy with hy1|hy1
   ·rw [hx1,hy1]
   ·exact absurd (List.mem_map.2 ⟨y,hy1,by rw [←e,hx1]⟩) hu.1
  ·rcases List.mem_cons.1 hy with hy1|hy1
   ·exact absurd (List.mem_map.2 ⟨x,hx1,by rw [e,hy1]⟩) hu.1
   ·exact ih hu.2 hx1 hy1 e
structure Lag (q:Rq) (B:Int):Prop where
 g1:1≤q.g
 g8:q.g≤8
 f0:0≤q.f
 fB:q.f≤B
 ids:∀x ∈ q.l,0≤x.1
 uniq:(q.l.map (·.1)).Nodup
 wt:∀x ∈ q.l,1≤x.2.2∧x.2.2≤4096
 lo:∀x ∈ q.l,q.f≤x.2.1
 hi:∀x ∈ q.l,x.2.1≤q.f+coreR x.2.2*q.g
 cur:0≤q.cur→∃x ∈ q.l,x.1=q.cur
 run:∀x ∈ q.l,x.1=q.cur→q.ran≤q.g→x.2.1≤q.f+coreR x.2.2*q.ran
theorem reach_in {w g:Int} (h1:1≤g) (h8:g≤8):reachR w g=coreR w*g:=by
 unfold reachR
 rw [bring_in h1 h8]
theorem clamp_in {v f r:Int} (hr:0≤r) (h:f+r≤18446744073709551615):f≤clampR v f r∧clampR v f r≤f+r:=by
 have e:satV (f+r)=f+r:=by unfold satV;omega
 unfold clampR
 rw [e]
 split
 ·omega
 ·split<;>omega
theorem Lag.place {q:Rq} {B:Int} (h:Lag q B) (hB:B≤9223372036854775808) (v w:Int):q.f≤q.place v w∧q.place v w≤q.f+coreR w*q.g:=by
 have hr:=reach_range w q.g
 have h0:=h.f0
 have h1:=h.fB
 unfold Rq.place
 rw [reach_in h.g1 h.g8] at hr ⊢
 exact clamp_in hr.1 (by omega)
theorem Lag.add {q:Rq} {B:Int} (h:Lag q B) (hB:B≤9223372036854775808) (id v w:Int):Lag (q.add id v w) B:=by
 unfold Rq.add
 split
 ·exact h
 ·next hc=>
  obtain⟨p1,p2⟩:=h.place hB v (bringR w 1 4096)
  have hw:=bring_range (n:=w) (lo:=1) (hi:=4096) (by decide)
  have hid:0≤id:=by omega
  have hnone:findQ q.l id=none:=by
   cases he:findQ q.l id with
   |none=>rfl
   |some x=>exact absurd (.inr (.inl (by rw [he];rfl))) hc
  have hne:=findQ_none hnone
  refine⟨h.g1,h.g8,h.f0,h.fB,?_,?_,?_,?_,?_,?_,?_⟩
  ·intro x hx
   rcases List.mem_append.1 hx with hx|hx
   ·exact h.ids x hx
   ·simp at hx;subst hx;exact hid
  ·simp only [List.map_append,List.map_cons,List.map_nil]
   rw [List.nodup_append]
   refine⟨h.uniq,by simp,fun a ha b hb=>?_⟩
   obtain⟨x,hx,rfl⟩:=List.mem_map.1 ha
   simp at hb
   subst hb
   exact hne x hx
  ·intro x hx
   rcases List.mem_append.1 hx with hx|hx
   ·exact h.wt x hx
   ·simp at hx;subst hx;exact hw
  ·intro x hx
   rcases List.mem_append.1 hx with hx|hx
   ·exact h.lo x hx
   ·simp at hx;subst hx;exact p1
  ·intro x hx
   rcases List.mem_append.1 hx with hx|hx
   ·exact h.hi x hx
   ·simp at hx;subst hx;exact p2
  ·intro h0
   obtain⟨x,hx,e⟩:=h.cur h0
   exact⟨x,List.mem_append_left _ hx,e⟩
  ·intro x hx e hr
   rcases List.mem_append.1 hx with hx|hx
   ·exact h.run x hx e hr
   ·simp at hx
    subst hx
    exfalso
    obtain⟨y,hy,e2⟩:=h.cur (show 0≤q.cur by rw [←e];exact hid)
    exact hne y hy (e2.trans e.symm)
theorem Lag.remove {q:Rq} {B:Int} (h:Lag q B) (id:Int):Lag (q.remove id) B:=by
 unfold Rq.remove
 split
 ·have sub:∀x ∈ q.l.filter (fun x=>decide (x.1≠id)),x ∈ q.l∧x.1≠id:=fun x hx=>by
    have:=List.mem_filter.1 hx
    exact⟨this.1,by simpa using this.2⟩
  refine⟨h.g1,h.g8,h.f0,h.fB,fun x hx=>h.ids x (sub x hx).1,?_,fun x hx=>h.wt x (sub x hx).1,fun x hx=>h.lo x (sub x hx).1,fun x hx=>h.hi x (sub x hx).1,?_,?_⟩
  ·exact (List.filter_sublist.map _).nodup h.uniq
  ·intro h0
   dsimp only at h0 ⊢
   by_cases hc:q.cur=id
   ·rw [if_pos hc] at h0
    omega
   ·rw [if_neg hc] at h0 ⊢
    obtain⟨x,hx,e⟩:=h.cur h0
    exact⟨x,List.mem_filter.2 ⟨hx,by simp;omega⟩,e⟩
  ·intro x hx e hr
   dsimp only at e hr ⊢
   have hs:=sub x hx
   by_cases hc:q.cur=id
   ·rw [if_pos hc] at e
    have:=h.ids x hs.1
    omega
   ·rw [if_neg hc] at e hr ⊢
    exact h.run x hs.1 e hr
 ·exact h
theorem Lag.weigh {q:Rq} {B:Int} (h:Lag q B) (hB:B≤9223372036854775808) (id w:Int):Lag (q.weigh id w) B:=by
 unfold Rq.weigh
 cases he:findQ q.l id with
 |none=>exact h
 |some x0=>
  have hm:=findQ_mem he
  have hw:=bring_range (n:=w) (lo:=1) (hi:=4096) (by decide)
  generalize bringR w 1 4096=w' at hw
  have get:∀x ∈ q.l.map (fun y=>if y.1=id then (y.1,q.place y.2.1 w',w') else y),∃y ∈ q.l,x.1=y.1∧((y.1=id∧x=(y.1,q.place y.2.1 w',w'))∨(y.1≠id∧x=y)):=fun x hx=>by
   obtain⟨y,hy,rfl⟩:=List.mem_map.1 hx
   by_cases hc:y.1=id
   ·rw [if_pos hc]
    exact⟨y,hy,rfl, .inl ⟨hc,rfl⟩⟩
   ·rw [if_neg hc]
    exact⟨y,hy,rfl, .inr ⟨hc,rfl⟩⟩
  have names:(q.l.map (fun y=>if y.1=id then (y.1,q.place y.2.1 w',w') else y)).map (·.1)=q.l.map (·.1):=by
   rw [List.map_map]
   refine List.map_congr_left fun y _=>?_
   simp only [Function.comp]
   split<;>rfl
  refine⟨h.g1,h.g8,h.f0,h.fB,?_,?_,?_,?_,?_,?_,?_⟩
  ·intro x hx
   obtain⟨y,hy,e,_⟩:=get x hx
   rw [e]
   exact h.ids y hy
  ·show (List.map _ (List.map _ q.l)).Nodup
   rw [names]
   exact h.uniq
  ·intro x hx
   obtain⟨y,hy,_,⟨_,rfl⟩ |⟨_,rfl⟩⟩:=get x hx
   ·exact hw
   ·exact h.wt _ hy
  ·intro x hx
   obtain⟨y,hy,_,⟨_,rfl⟩ |⟨_,rfl⟩⟩:=get x hx
   ·exact (h.place hB _ _).1
   ·exact h.lo _ hy
  ·intro x hx
   obtain⟨y,hy,_,⟨_,rfl⟩ |⟨_,rfl⟩⟩:=get x hx
   ·exact (h.place hB _ _).2
   ·exact h.hi _ hy
  ·intro h0
   obtain⟨y,hy,e⟩:=h.cur h0
   by_cases hc:y.1=id
   ·exact⟨(y.1,q.place y.2.1 w',w'),List.mem_map.2 ⟨y,hy,by rw [if_pos hc]⟩,e⟩
   ·exact⟨y,List.mem_map.2 ⟨y,hy,by rw [if_neg hc]⟩,e⟩
  ·intro x hx e hr
   obtain⟨y,hy,e1,⟨hc,rfl⟩ |⟨hc,rfl⟩⟩:=get x hx
   ·have ex:y=(id,x0):=findQ_one h.uniq hy hm hc
    subst ex
    simp only at e hr ⊢
    have hp:=h.place hB x0.1 w'
    by_cases hw2:x0.2≠w'
    ·rw [if_pos ⟨hw2,e.symm⟩]
     exact hp.2
    ·have hw3:x0.2=w':=by omega
     have hne:¬(x0.2≠w'∧q.cur=id):=fun hh=>hw2 hh.1
     rw [if_neg hne] at hr ⊢
     have hrun:=h.run _ hm e hr
     have hlo:=h.lo _ hm
     have hhi:=h.hi _ hm
     simp only [hw3] at hrun hhi
     have e3:q.place x0.1 w'=x0.1:=by
      unfold Rq.place
      rw [reach_in h.g1 h.g8]
      have hr2:=reach_range w' q.g
      rw [reach_in h.g1 h.g8] at hr2
      have hf:=h.fB
      have es:satV (q.f+coreR w'*q.g)=q.f+coreR w'*q.g:=by
       unfold satV
       omega
      unfold clampR
      simp only at hlo
      rw [es,if_neg (by omega),if_neg (by omega)]
     rw [e3]
     exact hrun
   ·have hne:¬(x0.2≠w'∧q.cur=id):=fun hh=>hc (e.trans hh.2)
    simp only at hr e ⊢
    rw [if_neg hne] at hr ⊢
    exact h.run _ hy e hr
theorem settle_ge (q:Rq):q.f≤q.settle.f∧q.settle.g=q.g∧q.settle.l=q.l∧q.settle.cur=q.cur∧q.settle.ran=q.ran:=by
 unfold Rq.settle
 cases hl:q.l with
 |nil=>exact⟨Int.le_refl _,rfl,hl,rfl,rfl⟩
 |cons x l=>
  dsimp only
  exact⟨by split<;>omega,rfl,rfl,rfl,rfl⟩
theorem settle_lo (q:Rq) (h:∀x ∈ q.l,q.f≤x.2.1):∀x ∈ q.l,q.settle.f≤x.2.1:=by
 unfold Rq.settle
 cases hl:q.l with
 |nil=>intro x hx;cases hx
 |cons y l=>
  intro x hx
  dsimp only
  obtain⟨a,b⟩:=minQ_le l y.2.1
  have h1:=h x (by rw [hl];exact hx)
  split
  ·rcases List.mem_cons.1 hx with rfl|hx
   ·exact a
   ·exact b x hx
  ·exact h1
theorem settle_min (q:Rq) (c:Int) {x:Int×Int×Int} (hx:x ∈ q.l) (h:∀y ∈ q.l,c≤y.2.1):c≤q.settle.f:=by
 unfold Rq.settle
 cases hl:q.l with
 |nil=>rw [hl] at hx;cases hx
 |cons y l=>
  dsimp only
  have:=minQ_ge l y.2.1 c (h y (by rw [hl];simp)) (fun z hz=>h z (by rw [hl];simp [hz]))
  split<;>omega
theorem settle_le (q:Rq) (B:Int) (hB:q.f≤B) {x:Int×Int×Int} (hx:x ∈ q.l) (h:∀y ∈ q.l,y.2.1≤B):q.settle.f≤B:=by
 unfold Rq.settle
 cases hl:q.l with
 |nil=>rw [hl] at hx;cases hx
 |cons y l=>
  dsimp only
  have h1:=h y (by rw [hl];simp)
  have h2:=(minQ_le l y.2.1).1
  split<;>omega
structure Ripe (q:Rq) (B:Int):Prop where
 g1:1≤q.g
 g8:q.g≤8
 f0:0≤q.f
 fB:q.f≤B
 ids:∀x ∈ q.l,0≤x.1
 uniq:(q.l.map (·.1)).Nodup
 wt:∀x ∈ q.l,1≤x.2.2∧x.2.2≤4096
 lo:∀x ∈ q.l,q.f≤x.2.1
 hi:∀x ∈ q.l,x.2.1≤q.f+coreR x.2.2*q.g
 cur:0≤q.cur→∃x ∈ q.l,x.1=q.cur
 step:∀x ∈ q.l,x.1=q.cur→(∀y ∈ q.l,x.2.1≤y.2.1)∨(q.ran < q.g∧x.2.1≤q.f+coreR x.2.2*q.ran)
 ran0:0≤q.ran
 busy:q.l≠[]→0≤q.cur
theorem ready_all {q:Rq} {B:Int} (h:Lag q B) (hc:q.cur < 0):q.ready=q.l:=by
 unfold Rq.ready
 rw [List.filter_eq_self]
 intro x hx
 have:=h.ids x hx
 simp only [ne_eq,decide_not,Bool.not_eq_eq_eq_not,Bool.not_true,decide_eq_false_iff_not]
 omega
theorem Lag.picked {q:Rq} {B:Int} (h:Lag q B) (hc:q.cur < 0) (h0:0≤q.ran):Ripe q.pick B:=by
 have hr:=ready_all h hc
 unfold Rq.pick
 rw [if_neg (by omega),hr]
 cases hl:leastQ q.l with
 |none=>
  have e:=leastQ_none hl
  refine⟨h.g1,h.g8,h.f0,h.fB,h.ids,h.uniq,h.wt,h.lo,h.hi,h.cur,fun x hx=>?_,h0,fun hh=>absurd e hh⟩
  dsimp only at hx
  rw [e] at hx
  cases hx
 |some x=>
  obtain⟨hx,hmin⟩:=leastQ_le hl
  refine⟨h.g1,h.g8,h.f0,h.fB,h.ids,h.uniq,h.wt,h.lo,h.hi,fun _=>⟨x,hx,rfl⟩,fun y hy e=> .inl ?_,Int.le_refl _,fun _=>h.ids x hx⟩
  have:y=x:=findQ_one h.uniq hy hx e
  subst this
  exact hmin
theorem Lag.backed {q:Rq} {B:Int} (h:Lag q B):Lag q.back B:=by
 refine⟨h.g1,h.g8,h.f0,h.fB,h.ids,h.uniq,h.wt,h.lo,h.hi,fun h0=>?_,fun x hx e=>?_⟩
 ·have:(0:Int)≤ -1:=h0
  omega
 ·have:=h.ids x hx
  have e2:x.1= -1:=e
  omega
theorem Lag.ripe {q:Rq} {B:Int} (h:Lag q B) (h0:0≤q.ran):Ripe q.go1 B:=by
 unfold Rq.go1 Rq.go0
 by_cases hd:q.due=true
 ·rw [if_pos hd]
  have hb:q.back.cur < 0:=by
   show (-1:Int) < 0
   omega
  rw [if_pos hb]
  exact h.backed.picked hb (Int.le_refl _)
 ·rw [if_neg hd]
  by_cases hc:q.cur < 0
  ·rw [if_pos hc]
   exact h.picked hc h0
  ·rw [if_neg hc]
   refine⟨h.g1,h.g8,h.f0,h.fB,h.ids,h.uniq,h.wt,h.lo,h.hi,h.cur,fun x hx e=>?_,h0,fun _=>by omega⟩
   rcases Int.lt_or_le q.ran q.g with hr|hr
   ·exact .inr ⟨hr,h.run x hx e (by omega)⟩
   ·refine .inl fun y hy=>?_
    by_cases hyc:y.1=q.cur
    ·rw [findQ_one h.uniq hy hx (hyc.trans e.symm)]
     exact Int.le_refl _
    ·unfold Rq.due at hd
     cases he:findQ q.l q.cur with
     |none=>exact absurd e (findQ_none he x hx)
     |some x0=>
      have ex:x=(q.cur,x0):=findQ_one h.uniq hx (findQ_mem he) e
      rw [he] at hd
      rcases Int.lt_or_le y.2.1 x.2.1 with hlt|hle
      ·exfalso
       refine hd ?_
       have hany:q.ready.any (fun y=>decide (y.2.1 < x0.1))=true:=by
        rw [List.any_eq_true]
        refine⟨y,List.mem_filter.2 ⟨hy,by simpa using hyc⟩,?_⟩
        rw [ex] at hlt
        simpa using hlt
       simp only [hany,Bool.and_true,Bool.and_eq_true,decide_eq_true_eq]
       omega
      ·exact hle
theorem Ripe.ticked {q:Rq} {B:Int} (h:Ripe q B) (hB:B≤9223372036854775808):Lag q.tick.settle (B+17592186044416)∧0≤q.tick.settle.ran:=by
 have hf0:=h.f0
 have hfB:=h.fB
 have hr0:=h.ran0
 unfold Rq.tick
 by_cases hc:0≤q.cur
 ·rw [if_pos hc]
  have sv:∀x ∈ q.l,satV (x.2.1+coreR x.2.2)=x.2.1+coreR x.2.2:=fun x hx=>by
   have a:=h.hi x hx
   have b:=core_range x.2.2
   have c:=reach_range x.2.2 q.g
   rw [reach_in h.g1 h.g8] at c
   unfold satV
   omega
  have get:∀y ∈ q.l.map (tickT q.cur),∃x ∈ q.l,y.1=x.1∧y.2.2=x.2.2∧((x.1=q.cur∧y.2.1=x.2.1+coreR x.2.2)∨(x.1≠q.cur∧y.2.1=x.2.1)):=fun y hy=>by
   obtain⟨x,hx,rfl⟩:=List.mem_map.1 hy
   refine⟨x,hx,?_⟩
   unfold tickT
   by_cases e:x.1=q.cur
   ·rw [if_pos e]
    exact⟨rfl,rfl, .inl ⟨e,sv x hx⟩⟩
   ·rw [if_neg e]
    exact⟨rfl,rfl, .inr ⟨e,rfl⟩⟩
  have names:(q.l.map (tickT q.cur)).map (·.1)=q.l.map (·.1):=by
   rw [List.map_map]
   refine List.map_congr_left fun y _=>?_
   simp only [Function.comp]
   unfold tickT
   split<;>rfl
  have hge:∀y ∈ q.l.map (tickT q.cur),q.f≤y.2.1∧y.2.1≤B+17592186044416:=fun y hy=>by
   obtain⟨x,hx,_,_,d⟩:=get y hy
   have a:=h.lo x hx
   have b:=core_range x.2.2
   have e:=h.hi x hx
   have c:=reach_range x.2.2 q.g
   rw [reach_in h.g1 h.g8] at c
   rcases d with⟨_,d⟩ |⟨_,d⟩<;>rw [d]<;>omega
  obtain⟨s1,s2,s3,s4,s5⟩:=settle_ge { q with l:=q.l.map (tickT q.cur),ran:=q.ran+1 }
  have lo:=settle_lo { q with l:=q.l.map (tickT q.cur),ran:=q.ran+1 } (fun y hy=>(hge y hy).1)
  have mn:=fun c x hx hh=>settle_min { q with l:=q.l.map (tickT q.cur),ran:=q.ran+1 } c (x:=x) hx hh
  have le:=fun x hx=>settle_le { q with l:=q.l.map (tickT q.cur),ran:=q.ran+1 } (B+17592186044416) (by dsimp only;omega) (x:=x) hx (fun y hy=>(hge y hy).2)
  obtain⟨x0,hx0,ex0⟩:=h.cur hc
  have hx0':tickT q.cur x0 ∈ q.l.map (tickT q.cur):=List.mem_map.2 ⟨x0,hx0,rfl⟩
  have lf:=le _ hx0'
  have ahead:x0.2.1+coreR x0.2.2≤(Rq.settle { q with l:=q.l.map (tickT q.cur),ran:=q.ran+1 }).f+coreR x0.2.2*(q.ran+1)∧x0.2.1+coreR x0.2.2≤(Rq.settle { q with l:=q.l.map (tickT q.cur),ran:=q.ran+1 }).f+coreR x0.2.2*q.g:=by
   have b:=core_range x0.2.2
   have hg:=h.g1
   rcases h.step x0 hx0 ex0 with hl|⟨hl,hv⟩
   ·have m:=mn x0.2.1 _ hx0' (fun y hy=>by
      obtain⟨x,hx,_,_,d⟩:=get y hy
      have a:=hl x hx
      have bb:=core_range x.2.2
      rcases d with⟨_,d⟩ |⟨_,d⟩<;>rw [d]<;>omega)
    have k1:coreR x0.2.2*1≤coreR x0.2.2*(q.ran+1):=Int.mul_le_mul_of_nonneg_left (by omega) b.1
    have k2:coreR x0.2.2*1≤coreR x0.2.2*q.g:=Int.mul_le_mul_of_nonneg_left (by omega) b.1
    omega
   ·have s1':q.f≤(Rq.settle { q with l:=q.l.map (tickT q.cur),ran:=q.ran+1 }).f:=s1
    have k1:coreR x0.2.2*(q.ran+1)=coreR x0.2.2*q.ran+coreR x0.2.2:=by rw [Int.mul_add,Int.mul_one]
    have k2:coreR x0.2.2*(q.ran+1)≤coreR x0.2.2*q.g:=Int.mul_le_mul_of_nonneg_left (by omega) b.1
    omega
  generalize Rq.settle { q with l:=q.l.map (tickT q.cur),ran:=q.ran+1 } =z at s1 s2 s3 s4 s5 lo mn le lf ahead ⊢
  dsimp only at s1 s2 s3 s4 s5 lo
  refine⟨⟨by rw [s2];exact h.g1,by rw [s2];exact h.g8,by omega,lf,?_,?_,?_,?_,?_,?_,?_⟩,by rw [s5];omega⟩
  ·intro y hy
   rw [s3] at hy
   obtain⟨x,hx,e,_⟩:=get y hy
   rw [e]
   exact h.ids x hx
  ·rw [s3,names]
   exact h.uniq
  ·intro y hy
   rw [s3] at hy
   obtain⟨x,hx,_,e,_⟩:=get y hy
   rw [e]
   exact h.wt x hx
  ·intro y hy
   rw [s3] at hy
   exact lo y hy
  ·intro y hy
   rw [s3] at hy
   obtain⟨x,hx,_,e,d⟩:=get y hy
   rw [e,s2]
   rcases d with⟨d1,d⟩ |⟨_,d⟩
   ·have:x=x0:=findQ_one h.uniq hx hx0 (d1.trans ex0.symm)
    subst this
    rw [d]
    exact ahead.2
   ·rw [d]
    have:=h.hi x hx
    omega
  ·intro _
   rw [s3,s4]
   refine⟨_,hx0',?_⟩
   unfold tickT
   rw [if_pos ex0]
   exact ex0
  ·intro y hy ey hr
   rw [s3] at hy
   rw [s4] at ey
   obtain⟨x,hx,e1,e,d⟩:=get y hy
   rw [e,s5]
   rcases d with⟨d1,d⟩ |⟨d1,d⟩
   ·have:x=x0:=findQ_one h.uniq hx hx0 (d1.trans ex0.symm)
    subst this
    rw [d]
    exact ahead.1
   ·exact absurd (e1.symm.trans ey) d1
 ·rw [if_neg hc]
  have hnil:q.l=[]:=by
   cases hl:q.l with
   |nil=>rfl
   |cons a l=>exact absurd (h.busy (by rw [hl];simp)) hc
  have e:q.settle=q:=by
   unfold Rq.settle
   rw [hnil]
  rw [e]
  refine⟨⟨h.g1,h.g8,h.f0,by omega,h.ids,h.uniq,h.wt,h.lo,h.hi,h.cur,fun x hx=>?_⟩,h.ran0⟩
  rw [hnil] at hx
  cases hx
theorem Lag.go {q:Rq} {B:Int} (h:Lag q B) (h0:0≤q.ran) (hB:B≤9223372036854775808):Lag q.go (B+17592186044416)∧0≤q.go.ran:=(h.ripe h0).ticked hB
theorem Lag.start (grain:Int):Lag (Rq.new grain) 0:=by
 have hg:=bring_range (n:=grain) (lo:=1) (hi:=8) (by decide)
 refine⟨hg.1,hg.2,Int.le_refl _,Int.le_refl _,?_,List.nodup_nil,?_,?_,?_,fun h=>?_,?_⟩
 ·intro x hx;cases hx
 ·intro x hx;cases hx
 ·intro x hx;cases hx
 ·intro x hx;cases hx
 ·have:(0:Int)≤ -1:=h
  omega
 ·intro x hx;cases hx
def ltQ (a b:Int×Int×Int):Bool:=decide (a.2.1 < b.2.1)||(decide (a.2.1=b.2.1)&&decide (a.1 < b.1))
theorem ltQ_iff {a b:Int×Int×Int} :ltQ a b=true↔a.2.1 < b.2.1∨(a.2.1=b.2.1∧a.1 < b.1):=by simp [ltQ]
theorem ltQ_not {a b:Int×Int×Int} :ltQ a b=false↔b.2.1 < a.2.1∨(a.2.1=b.2.1∧b.1≤a.1):=by
 cases h:ltQ a b with
 |true=>
  have:=ltQ_iff.1 h
  simp only [Bool.true_eq_false,false_iff]
  omega
 |false=>
  simp only [true_iff]
  have:¬(a.2.1 < b.2.1∨(a.2.1=b.2.1∧a.1 < b.1)):=fun hh=>by rw [ltQ_iff.2 hh] at h;cases h
  omega
def insQ (x:Int×Int×Int):List (Int×Int×Int)→List (Int×Int×Int)
 |[]=>[x]
 |y::l=>if ltQ y x=true then y::insQ x l else x::y::l
def sortQ (l:List (Int×Int×Int)):List (Int×Int×Int):=l.foldl (fun out x=>insQ x out) []
theorem mem_ins {x z:Int×Int×Int} :∀ {l:List (Int×Int×Int)},z ∈ insQ x l↔z=x∨z ∈ l
 |[]=>by simp [insQ]
 |y::l=>by
  unfold insQ
  split
  ·rw [List.mem_cons,mem_ins,List.mem_cons]
   constructor
   ·rintro (h|h|h)
    ·exact .inr (.inl h)
    ·exact .inl h
    ·exact .inr (.inr h)
   ·rintro (h|h|h)
    ·exact .inr (.inl h)
    ·exact .inl h
    ·exact .inr (.inr h)
  ·rw [List.mem_cons]
theorem len_ins (x:Int×Int×Int):∀l:List (Int×Int×Int),(insQ x l).length=l.length+1
 |[]=>rfl
 |y::l=>by
  unfold insQ
  split
  ·rw [List.length_cons,len_ins x l,List.length_cons]
  ·rfl
theorem ins_sorted {x:Int×Int×Int} :∀ {l:List (Int×Int×Int)},l.Pairwise (fun a b=>ltQ b a=false)→(insQ x l).Pairwise (fun a b=>ltQ b a=false)
 |[],_=>by simp [insQ]
 |y::l,h=>by
  obtain⟨h1,h2⟩:=List.pairwise_cons.1 h
  unfold insQ
  split
  ·next hc=>
   refine List.pairwise_cons.2 ⟨fun z hz=>?_,ins_sorted h2⟩
   rcases mem_ins.1 hz with rfl|hz
   ·have:=ltQ_iff.1 hc
    rw [ltQ_not]
    omega
   ·exact h1 z hz
  ·next hc=>
   have hc':ltQ y x=false:=by simpa using hc
   refine List.pairwise_cons.2 ⟨fun z hz=>?_,h⟩
   rcases List.mem_cons.1 hz with rfl|hz
   ·exact hc'
   ·have a:=ltQ_not.1 hc'
    have b:=ltQ_not.1 (h1 z hz)
    rw [ltQ_not]
    omega
theorem fold_sorted:∀(l out:List (Int×Int×Int)),out.Pairwise (fun a b=>ltQ b a=false)→(l.foldl (fun out x=>insQ x out) out).Pairwise (fun a b=>ltQ b a=false)∧(∀z,z ∈ l.foldl (fun out x=>insQ x out) out↔z ∈ l∨z ∈ out)∧(l.foldl (fun out x=>insQ x out) out).length=l.length+out.length
 |[],out,h=>⟨h,fun z=>by simp,by simp⟩
 |x::l,out,h=>by
  obtain⟨a,b,c⟩:=fold_sorted l (insQ x out) (ins_sorted h)
  refine⟨a,fun z=>?_,?_⟩
  ·rw [List.foldl_cons,b,mem_ins,List.mem_cons]
   constructor
   ·rintro (h|h|h)
    ·exact .inl (.inr h)
    ·exact .inl (.inl h)
    ·exact .inr h
   ·rintro ((h|h) |h)
    ·exact .inr (.inl h)
    ·exact .inl h
    ·exact .inr (.inr h)
  ·rw [List.foldl_cons,c,len_ins,List.length_cons]
   omega
theorem sort_sorted (l:List (Int×Int×Int)):(sortQ l).Pairwise (fun a b=>ltQ b a=false):=(fold_sorted l [] List.Pairwise.nil).1
theorem mem_sort {l:List (Int×Int×Int)} {z:Int×Int×Int} :z ∈ sortQ l↔z ∈ l:=by
 have:=(fold_sorted l [] List.Pairwise.nil).2.1 z
 simpa [sortQ] using this
theorem len_sort (l:List (Int×Int×Int)):(sortQ l).length=l.length:=by
 have:=(fold_sorted l [] List.Pairwise.nil).2.2
 simpa [sortQ] using this
theorem leastQ_lt:∀ {l:List (Int×Int×Int)} {x:Int×Int×Int},leastQ l=some x→∀y ∈ l,ltQ y x=false
 |y::l,x,h=>by
  unfold leastQ at h
  cases hz:leastQ l with
  |none=>
   rw [hz] at h
   simp only [Option.some.injEq] at h
   subst h
   rw [leastQ_none hz]
   intro z hz
   simp at hz
   subst hz
   rw [ltQ_not]
   omega
  |some z=>
   rw [hz] at h
   have b:=leastQ_lt hz
   simp only at h
   split at h
   ·next hc=>
    simp only [Option.some.injEq] at h
    subst h
    intro u hu
    rw [ltQ_not]
    rcases List.mem_cons.1 hu with rfl|hu
    ·omega
    ·have:=ltQ_not.1 (b u hu)
     omega
   ·next hc=>
    simp only [Option.some.injEq] at h
    subst h
    intro u hu
    rcases List.mem_cons.1 hu with rfl|hu
    ·rw [ltQ_not]
     omega
    ·exact b u hu
theorem sort_head {l:List (Int×Int×Int)} (hu:(l.map (·.1)).Nodup):(sortQ l).head?=leastQ l:=by
 cases hs:sortQ l with
 |nil=>
  have:l=[]:=List.eq_nil_of_length_eq_zero (by rw [←len_sort,hs];rfl)
  subst this
  rfl
 |cons x r=>
  have hsorted:=sort_sorted l
  rw [hs] at hsorted
  have hx:x ∈ l:=mem_sort.1 (by rw [hs];simp)
  cases hl:leastQ l with
  |none=>
   rw [leastQ_none hl] at hx
   cases hx
  |some y=>
   have hy:=(leastQ_le hl).1
   have a:=ltQ_not.1 (leastQ_lt hl x hx)
   have b:ltQ y x=false:=by
    have:y ∈ x::r:=by rw [←hs];exact mem_sort.2 hy
    rcases List.mem_cons.1 this with rfl|h
    ·rw [ltQ_not];omega
    ·exact (List.pairwise_cons.1 hsorted).1 y h
   have b:=ltQ_not.1 b
   have:x=y:=findQ_one hu hx hy (by omega)
   rw [List.head?_cons,this]
theorem any_head (l:List (Int×Int×Int)) (v:Int):l.any (fun y=>decide (y.2.1 < v))=(match sortQ l with
  |[]=>false
  |y::_=>decide (y.2.1 < v)):=by
 cases hs:sortQ l with
 |nil=>
  have:l=[]:=List.eq_nil_of_length_eq_zero (by rw [←len_sort,hs];rfl)
  subst this
  rfl
 |cons x r=>
  have hsorted:=sort_sorted l
  rw [hs] at hsorted
  have hx:x ∈ l:=mem_sort.1 (by rw [hs];simp)
  by_cases hc:x.2.1 < v
  ·dsimp only
   rw [decide_eq_true hc,List.any_eq_true]
   exact⟨x,hx,by simpa using hc⟩
  ·dsimp only
   rw [decide_eq_false hc,List.any_eq_false]
   intro y hy
   have:y ∈ x::r:=by rw [←hs];exact mem_sort.2 hy
   rcases List.mem_cons.1 this with rfl|h
   ·simpa using hc
   ·have:=ltQ_not.1 ((List.pairwise_cons.1 hsorted).1 y h)
    simp only [decide_eq_true_eq]
    omega
end Go.Proofs.Ytbfifglcnhfccaa
namespace Go.Proofs.Ytbfifglcnhfccaa
open Go.RowKit
structure Turned (X:List Nat) (w w':World):Prop where
 os:w'.os=w.os
 tape:w'.tape=w.tape
 output:w'.output=w.output
 size:w.heap.size≤w'.heap.size
 block:∀k,k < w.heap.size→k ∉ X→w'.heap[k]?=w.heap[k]?
def Newer (X:List Nat) (n:Nat) (Y:List Nat):Prop:=∀k ∈ Y,k ∈ X∨n≤k
theorem Newer.refl (X:List Nat) (n:Nat):Newer X n X:=fun _ h=> .inl h
theorem Newer.trans {X Y Z:List Nat} {n m:Nat} (h:Newer X n Y) (g:Newer Y m Z) (hn:n≤m):Newer X n Z:=fun k hk=>by
 rcases g k hk with h1|h1
 ·exact h k h1
 ·exact .inr (by omega)
theorem Newer.mono {X Y:List Nat} {n m:Nat} (h:Newer X n Y) (hn:m≤n):Newer X m Y:=fun k hk=>by
 rcases h k hk with h1|h1
 ·exact .inl h1
 ·exact .inr (by omega)
theorem Turned.refl (X:List Nat) (w:World):Turned X w w:=⟨rfl,rfl,rfl,Nat.le_refl _,fun _ _ _=>rfl⟩
theorem Turned.trans {X Y:List Nat} {a b c:World} (h:Turned X a b) (g:Turned Y b c) (hs:Newer X a.heap.size Y):Turned X a c:=
 ⟨g.os.trans h.os,g.tape.trans h.tape,g.output.trans h.output,Nat.le_trans h.size g.size,fun k hk hx=>
   (g.block k (Nat.lt_of_lt_of_le hk h.size) (fun hy=>by rcases hs k hy with h1|h1;exact hx h1;omega)).trans (h.block k hk hx)⟩
theorem Turned.mono {X Y:List Nat} {a b:World} (h:Turned Y a b) (hs:Newer X a.heap.size Y):Turned X a b:=(Turned.refl X a).trans h hs
theorem Turned.drewN {X:List Nat} {a b:World} (h:Turned X a b) (n:Nat):Turned X a (b.drewN n):=⟨h.os,h.tape,h.output,h.size,h.block⟩
theorem Turned.drew {X:List Nat} {a b:World} (h:Turned X a b):Turned X a b.drew:=⟨h.os,h.tape,h.output,h.size,h.block⟩
theorem Turned.alloc {X:List Nat} {a b:World} (h:Turned X a b) (o:Obj):Turned X a (b.alloc o):=
 ⟨h.os,h.tape,h.output,Nat.le_trans h.size (by simp),fun k hk hx=>(Below.heap_alloc b o k (Nat.lt_of_lt_of_le hk h.size)).trans (h.block k hk hx)⟩
theorem Turned.setCell {X:List Nat} {a b:World} (h:Turned X a b) {p:Addr} (hp:p.block ∈ X∨a.heap.size≤p.block) (u:Value):Turned X a (b.setCell p u):=
 ⟨h.os,h.tape,h.output,Nat.le_trans h.size (by simp [World.setCell]),fun k hk hx=>
   (Below.heap_setCell b p u k (fun e=>by subst e;rcases hp with h1|h1;exact hx h1;omega)).trans (h.block k hk hx)⟩
theorem Turned.grown {X:List Nat} {a b c:World} {row:Option Nat} (h:Turned X a b) (hg:b.grownBy c row) (hr:∀k,row=some k→k ∈ X∨a.heap.size≤k):Turned X a c:=
 ⟨hg.os.trans h.os,hg.tape.trans h.tape,hg.output.trans h.output,Nat.le_trans h.size hg.size,fun k hk hx=>
   (hg.block k (Nat.lt_of_lt_of_le hk h.size) (fun e=>by rcases hr k e.symm with h1|h1;exact hx h1;omega)).trans (h.block k hk hx)⟩
theorem Turned.below {X:List Nat} {a b:World} {B:Nat} (h:Turned X a b) (hX:∀k ∈ X,B≤k) (hB:B≤a.heap.size):Below B a b:=
 ⟨h.os,h.tape,h.output,h.size,fun k hk=>h.block k (by omega) (fun hx=>by have:=hX k hx;omega)⟩
theorem Turned.same {X:List Nat} {a b:World} (h:Turned X a b) {k:Nat} {o:Obj} (ho:a.heap[k]?=some o) (hx:k ∉ X):b.heap[k]?=some o:=
 (h.block k (lt_of_block ho) hx).trans ho
theorem ownsRow_same {w w':World} {base:Nat} {e:TypeId} {size:Nat} {v:Value} {n:Nat} {xs:List Value} (h:w.ownsRow base e size v n xs)
  (hs:∀k ∈ v.ownBlock.toList,k < w.heap.size→w'.heap[k]?=w.heap[k]?):w'.ownsRow base e size v n xs:=by
 refine⟨h.1,?_⟩
 rcases h.2 with h2|⟨g,cap,cur,rfl,hb,hg,rest⟩
 ·exact .inl h2
 ·exact .inr ⟨g,cap,cur,rfl,hb,(hs g (by simp [Value.ownBlock]) (lt_of_block hg)).trans hg,rest⟩
theorem ownsRow_lt {w:World} {base:Nat} {e:TypeId} {size:Nat} {v:Value} {n:Nat} {xs:List Value} (h:w.ownsRow base e size v n xs):∀k ∈ v.ownBlock.toList,k < w.heap.size:=by
 intro k hk
 exact (h.lt k (by simpa using hk)).2
theorem ownsRow_type {w:World} {base:Nat} {e:TypeId} {size:Nat} {v:Value} {n:Nat} {xs:List Value} (h:w.ownsRow base e size v n xs):∀k ∈ v.ownBlock.toList,∃cur,w.heap[k]?=some (.cells cur e (0,0)):=by
 intro k hk
 rcases h.2 with⟨rfl,_⟩ |⟨g,cap,cur,rfl,hb,hg,_⟩
 ·simp [Value.ownBlock] at hk
 ·simp [Value.ownBlock] at hk
  subst hk
  exact⟨cur,hg⟩
theorem ownsRow_shape {w:World} {base:Nat} {e:TypeId} {size:Nat} {v:Value} {n:Nat} {xs:List Value} (h:w.ownsRow base e size v n xs):∃a cap,v= .slice a n cap∧n≤cap∧cap≤maxLen:=by
 rcases h.2 with⟨rfl,rfl⟩ |⟨g,cap,cur,rfl,_,_,h1,h2,_⟩
 ·exact⟨none,0,rfl,Nat.le_refl _,by simp [maxLen]⟩
 ·exact⟨_,cap,rfl,h1,h2⟩
theorem ownsRow_pos {w:World} {base:Nat} {e:TypeId} {size:Nat} {v:Value} {n:Nat} {xs:List Value} (h:w.ownsRow base e size v n xs) (hn:0 < n):∃g cap,v= .slice (some ⟨g,0,none⟩) n cap∧n≤cap∧cap≤maxLen:=by
 rcases h.2 with⟨rfl,rfl⟩ |⟨g,cap,cur,rfl,_,_,h1,h2,_⟩
 ·omega
 ·exact⟨g,cap,rfl,h1,h2⟩
theorem ownsRow_base {w:World} {base base':Nat} {e:TypeId} {size:Nat} {v:Value} {n:Nat} {xs:List Value} (h:w.ownsRow base e size v n xs) (hb:base'≤base):w.ownsRow base' e size v n xs:=by
 refine⟨h.1,?_⟩
 rcases h.2 with h2|⟨g,cap,cur,rfl,h1,h2⟩
 ·exact .inl h2
 ·exact .inr ⟨g,cap,cur,rfl,by omega,h2⟩
theorem wpList_append_at {P:Program} (w:World) {ops:Array Oper} {rest:List Oper} {o:Oper} {a:Act} {Q:Exit→Act→World→Prop} (hgd:o.guard=none) (s x:Operand) (t:TypeId)
  (ho:o.op= .call { callee:= .builtin .append,args:= #[s,x],argTypes:= #[t,t] })
  (e:TypeId) (i:TypeInfo) (z:Value) (size bytes:Nat) (ht:P.underlying t=some (.slice e)) (hi:P.info? e=some i) (hz:i.zero=some z)
  (hsize:i.size=size) (hby:i.bytes=bytes) (hzs:z.cells.size=size) (hsz:0 < size)
  (v:Value) (n:Nat) (xs:List Value) (hs:a.eval s=v) (hown:w.ownsRow 0 e size v n xs)
  (ad:Addr) (m c:Nat) (news:List Value) (hx:a.eval x= .slice (some ad) m c) (hm:0 < m) (hl:news.length=m*size) (hnews:∀j u,news[j]?=some u→w.cell? (ad.add j)=some u) (h1:∀u ∈ news,u.oneCell'=true)
  (h63:n+m≤maxLen) (hbytes:(n+m)*bytes≤140737488355328)
  (h:∀g cap' w',w'.ownsRow 0 e size (.slice (some ⟨g,0,none⟩) (n+m) cap') (n+m) (xs++news)→w.grownBy w' v.ownBlock→(v.ownBlock=some g∨w.heap.size≤g)→n+m≤cap'→cap'≤maxLen→
    wpList P ops Q rest (a.put o.dst (.slice (some ⟨g,0,none⟩) (n+m) cap')) w'):wpList P ops Q (o::rest) a w:=by
 have fresh:∀ {v':Value} {w':World} {row:Option Nat},w'.ownsRow w.heap.size e size v' (n+m) (xs++news)→w.grownBy w' row→(∀k,row=some k→v.ownBlock=some k)→wpList P ops Q rest (a.put o.dst v') w':=by
  intro v' w' row r1 r2 r3
  obtain⟨g,cap',rfl,hc1,hc2⟩:=ownsRow_pos r1 (by omega)
  refine h g cap' w' (ownsRow_base r1 (Nat.zero_le _)) ⟨r2.os,r2.tape,r2.output,r2.size,fun k hk hne=>r2.block k hk (fun e=>hne (r3 k e.symm).symm)⟩ (.inr ((r1.lt g (by simp [Value.ownBlock])).1)) hc1 hc2
 rcases hown.2 with⟨hv,hn⟩ |⟨g,cap,cur,hv,hb,hg,hnc,hcm,hcs,htake⟩
 ·subst hv hn
  obtain rfl:xs=[]:=List.eq_nil_of_length_eq_zero (by simpa using hown.1)
  refine wpList_append_own w hgd s x t ho w.heap.size e i z size bytes ht hi hz hsize hby hzs hsz (.slice none 0 0) 0 [] hs (World.ownsRow_nil _ _ _ _) ad m c news hx hl hnews h1 h63 hbytes (Nat.le_refl _) ?_
  intro v' w' r1 r2 _
  exact fresh r1 r2 (fun k hk=>by simp [Value.ownBlock] at hk)
 ·subst hv
  by_cases hroom:n+m≤cap
  ·refine wpList_append_fits w hgd s x t ho 0 e i size ht hi hsize g n cap xs hs hown ad m c news hx hl hnews h1 hroom ?_
   intro w' r1 r2
   exact h g cap w' r1 r2 (.inl rfl) hroom hcm
  ·refine wpList_append_grows w hgd s x t ho e i z size bytes ht hi hz hsize hby hzs hsz (some ⟨g,0,none⟩) n cap xs hs (fun h=>by cases h) hown.1 (fun b hb'=>?_) ad m c news hx hl hnews h1 (by omega) h63 hbytes ?_
   ·cases hb'
    exact hown.cells (g:=g) rfl
   ·intro v' w' r1 r2
    exact fresh r1 r2 (fun k hk=>by cases hk)
theorem block_off {w:World} {b:Nat} {cs:Array Value} {t e:TypeId} {base size n:Nat} {v:Value} {xs:List Value} (hb:w.heap[b]?=some (.cells cs t (0,0))) (hr:w.ownsRow base e size v n xs) (hne:t≠e):some b≠v.ownBlock:=by
 intro h
 obtain⟨cur,hc⟩:=ownsRow_type hr b (by simp [←h])
 rw [hb] at hc
 simp at hc
 exact hne hc.2
end Go.Proofs.Ytbfifglcnhfccaa
namespace Go.Proofs.Ytbfifglcnhfccaa
open Go.RowKit
section
variable {α:Type}
def cellsOf (enc:α→List Value) (L:List α):List Value:=L.flatMap enc
section
variable {enc:α→List Value} {k:Nat}
theorem cellsOf_len (hk:∀x,(enc x).length=k) (L:List α):(cellsOf enc L).length=L.length*k:=by
 induction L with
 |nil=>simp [cellsOf]
 |cons s L ih=>
  simp only [cellsOf,List.flatMap_cons,List.length_append,List.length_cons,hk] at ih ⊢
  rw [ih,Nat.add_mul]
  omega
theorem cellsOf_append (L M:List α):cellsOf enc (L++M)=cellsOf enc L++cellsOf enc M:=by simp [cellsOf]
theorem cellsOf_snoc (L:List α) (x:α):cellsOf enc (L++[x])=cellsOf enc L++enc x:=by simp [cellsOf]
theorem cellsOf_take (hk:∀x,(enc x).length=k):∀(L:List α) (j:Nat),cellsOf enc (L.take j)=(cellsOf enc L).take (j*k)
 |[],j=>by simp [cellsOf]
 |s::L,0=>by simp [cellsOf]
 |s::L,j+1=>by
  have ih:=cellsOf_take hk L j
  have e:(j+1)*k=(enc s).length+j*k:=by rw [hk,Nat.add_mul];omega
  simp only [cellsOf,List.take_succ_cons,List.flatMap_cons] at ih ⊢
  rw [ih,e,List.take_length_add_append]
theorem cellsOf_drop (hk:∀x,(enc x).length=k):∀(L:List α) (j:Nat),cellsOf enc (L.drop j)=(cellsOf enc L).drop (j*k)
 |[],j=>by simp [cellsOf]
 |s::L,0=>by simp [cellsOf]
 |s::L,j+1=>by
  have ih:=cellsOf_drop hk L j
  have e:(j+1)*k=(enc s).length+j*k:=by rw [hk,Nat.add_mul];omega
  simp only [cellsOf,List.drop_succ_cons,List.flatMap_cons] at ih ⊢
  rw [ih,e,List.drop_length_add_append]
theorem cellsOf_get (hk:∀x,(enc x).length=k) (L:List α) (j i:Nat) (hj:j < L.length) (hi:i < k):(cellsOf enc L)[j*k+i]?=(enc L[j])[i]?:=by
 have h:=cellsOf_drop hk L j
 rw [List.drop_eq_getElem_cons hj] at h
 have h2:((cellsOf enc L).drop (j*k))[i]?=(enc L[j])[i]?:=by
  rw [←h]
  simp only [cellsOf,List.flatMap_cons]
  rw [List.getElem?_append_left (by rw [hk];exact hi)]
 rw [←h2,List.getElem?_drop]
theorem cellsOf_set (hk:∀x,(enc x).length=k):∀(L:List α) (j i:Nat) (x:α) (u:Value) (hj:j < L.length),i < k→enc x=(enc L[j]).set i u→cellsOf enc (L.set j x)=(cellsOf enc L).set (j*k+i) u
 |s::L,0,i,x,u,_,hi,he=>by
  simp only [List.getElem_cons_zero] at he
  simp only [cellsOf,List.set_cons_zero,List.flatMap_cons,Nat.zero_mul,Nat.zero_add,he]
  rw [List.set_append_left _ _ (by rw [hk];exact hi)]
 |s::L,j+1,i,x,u,hj,hi,he=>by
  have ih:=cellsOf_set hk L j i x u (by simpa using hj) hi (by simpa using he)
  have e:(j+1)*k+i=(enc s).length+(j*k+i):=by rw [hk,Nat.add_mul];omega
  simp only [cellsOf,List.set_cons_succ,List.flatMap_cons] at ih ⊢
  rw [ih,e,List.set_append_right _ _ (by omega)]
  congr 2
  omega
theorem take_drop_erase (L:List α) (i:Nat):L.take i++L.drop (i+1)=L.eraseIdx i:=(List.eraseIdx_eq_take_drop_succ ..).symm
end
def LAt (tS tE:TypeId) (k:Nat) (enc:α→List Value) (cs:Value→Array Value) (w:World) (b:Nat) (X:List Nat) (L:List α):Prop:=
 ∃v,w.heap[b]?=some (.cells (cs v) tS (0,0))∧w.ownsRow 0 tE k v L.length (cellsOf enc L)∧X=b::v.ownBlock.toList
section
variable {tS tE:TypeId} {k:Nat} {enc:α→List Value} {cs:Value→Array Value} {w w':World} {b:Nat} {X Y:List Nat} {L:List α}
theorem LAt.keep (h:LAt tS tE k enc cs w b X L) (ht:Turned Y w w') (hd:∀k ∈ X,k ∉ Y):LAt tS tE k enc cs w' b X L:=by
 obtain⟨v,h1,h2,rfl⟩:=h
 exact⟨v,ht.same h1 (hd _ (by simp)),ownsRow_same h2 (fun k hk hl=>ht.block k hl (hd k (List.mem_cons_of_mem _ hk))),rfl⟩
theorem LAt.lt (h:LAt tS tE k enc cs w b X L):∀k ∈ X,k < w.heap.size:=by
 obtain⟨v,h1,h2,rfl⟩:=h
 intro k hk
 rcases List.mem_cons.1 hk with rfl|hk
 ·exact lt_of_block h1
 ·exact ownsRow_lt h2 k hk
theorem LAt.head (h:LAt tS tE k enc cs w b X L):b ∈ X:=by
 obtain⟨v,h1,h2,rfl⟩:=h
 simp
theorem LAt.drewN (h:LAt tS tE k enc cs w b X L) (n:Nat):LAt tS tE k enc cs (w.drewN n) b X L:=h
theorem LAt.stored {w1:World} {v v':Value} {i:Nat} {M:List α} (hne:tS≠tE) (hcs:(cs v).setIfInBounds i v'=cs v')
  (hb:w1.heap[b]?=some (.cells (cs v) tS (0,0))) (ho:w1.ownsRow 0 tE k v' M.length (cellsOf enc M)) (hX:b ∈ X) (hT:Turned X w w1) (hN:∀g ∈ v'.ownBlock.toList,g ∈ X∨w.heap.size≤g):
  LAt tS tE k enc cs (w1.setCell ⟨b,i,none⟩ v') b (b::v'.ownBlock.toList) M∧Turned X w (w1.setCell ⟨b,i,none⟩ v')∧Newer X w.heap.size (b::v'.ownBlock.toList):=by
 refine⟨⟨v',?_,ownsRow_setCell_other ho (a:=⟨b,i,none⟩) (fun e=>block_off hb ho hne e.symm) _,rfl⟩,hT.setCell (.inl hX) _,?_⟩
 ·rw [heap_setCell_same w1 b i _ _ _ hb,hcs]
 ·intro j hj
  rcases List.mem_cons.1 hj with rfl|hj
  ·exact .inl hX
  ·exact hN j hj
theorem LAt.appended {W W2 W1:World} {v v':Value} {i:Nat} {M:List α} {n:Nat} {xs:List Value} (hne:tS≠tE) (hcs:(cs v).setIfInBounds i v'=cs v')
  (hb:W.heap[b]?=some (.cells (cs v) tS (0,0))) (ho:W.ownsRow 0 tE k v n xs) (hT2:Turned [] W W2) (hg:W2.grownBy W1 v.ownBlock)
  (hown:W1.ownsRow 0 tE k v' M.length (cellsOf enc M)) (hnew:∀g ∈ v'.ownBlock.toList,g ∈ v.ownBlock.toList∨W2.heap.size≤g):
  W1.heap[b]?=some (.cells (cs v) tS (0,0))∧LAt tS tE k enc cs (W1.setCell ⟨b,i,none⟩ v') b (b::v'.ownBlock.toList) M∧Turned (b::v.ownBlock.toList) W (W1.setCell ⟨b,i,none⟩ v')∧
   Newer (b::v.ownBlock.toList) W.heap.size (b::v'.ownBlock.toList):=by
 have hb2:=hT2.same hb (by simp)
 have hbl:=lt_of_block hb2
 have hb1:W1.heap[b]?=some (.cells (cs v) tS (0,0)):=(hg.block b hbl (block_off hb ho hne)).trans hb2
 have hs:=hT2.size
 have hT:Turned (b::v.ownBlock.toList) W W1:=Turned.grown (hT2.mono (fun k hk=>by simp at hk)) hg (fun k hk=> .inl (List.mem_cons_of_mem _ (by simp [hk])))
 obtain⟨h1,h2,h3⟩:=LAt.stored (w:=W) hne hcs hb1 hown (X:=b::v.ownBlock.toList) (by simp) hT (fun g hg'=>by
  rcases hnew g hg' with h|h
  ·exact .inl (List.mem_cons_of_mem _ h)
  ·exact .inr (by omega))
 exact⟨hb1,h1,h2,h3⟩
theorem LAt.field {cs':Value→Array Value} {i:Nat} {u:Value} (h:LAt tS tE k enc cs w b X L) (hne:tS≠tE) (hcs:∀v,(cs v).setIfInBounds i u=cs' v):
  LAt tS tE k enc cs' (w.setCell ⟨b,i,none⟩ u) b X L∧Turned X w (w.setCell ⟨b,i,none⟩ u):=by
 obtain⟨v,h1,h2,rfl⟩:=h
 refine⟨⟨v,?_,ownsRow_setCell_other h2 (a:=⟨b,i,none⟩) (fun e=>block_off h1 h2 hne e.symm) _,rfl⟩,(Turned.refl _ w).setCell (.inl (by simp)) _⟩
 rw [heap_setCell_same w b i _ _ _ h1,hcs]
theorem LAt.cellSet {g n cap:Nat} (hk:∀x,(enc x).length=k) (hne:tS≠tE) (hb:w.heap[b]?=some (.cells (cs (.slice (some ⟨g,0,none⟩) n cap)) tS (0,0))) (ho:w.ownsRow 0 tE k (.slice (some ⟨g,0,none⟩) n cap) L.length (cellsOf enc L))
  {j i:Nat} {x:α} {u:Value} (hj:j < L.length) (hi:i < k) (he:enc x=(enc L[j]).set i u):
  LAt tS tE k enc cs (w.setCell ⟨g,j*k+i,none⟩ u) b [b,g] (L.set j x)∧Turned [b,g] w (w.setCell ⟨g,j*k+i,none⟩ u):=by
 have hbg:b≠g:=fun h=>block_off hb ho hne (by simp [Value.ownBlock,h])
 refine⟨⟨.slice (some ⟨g,0,none⟩) n cap,(Below.heap_setCell _ _ _ _ hbg).trans hb,?_,by simp [Value.ownBlock]⟩,(Turned.refl _ w).setCell (.inl (by simp)) _⟩
 have hn:n=L.length:=by
  obtain⟨_,_,h1,_⟩:=ownsRow_shape ho
  simp at h1
  exact h1.2.1
 subst hn
 have h1:=(ho.stored (j*k+i) u).1
 rw [cellsOf_set hk L j i x u hj hi he,List.length_set]
 exact h1
theorem row_cells {g n cap:Nat} (hk:∀x,(enc x).length=k) (ho:w.ownsRow 0 tE k (.slice (some ⟨g,0,none⟩) n cap) L.length (cellsOf enc L)) {j:Nat} (hj:j < L.length):
  ∀i,i < k→w.cell? ⟨g,j*k+i,none⟩=(enc L[j])[i]?∧w.frozen? ⟨g,j*k+i,none⟩=false:=by
 intro i hi
 have hn:n=L.length:=by
  obtain⟨_,_,h1,_⟩:=ownsRow_shape ho
  simp at h1
  exact h1.2.1
 subst hn
 have hlt:j*k+i < L.length*k:=by
  have:(j+1)*k≤L.length*k:=Nat.mul_le_mul_right _ hj
  rw [Nat.add_mul] at this
  omega
 exact⟨by rw [ho.cellAt _ hlt];exact cellsOf_get hk L j i hj hi,ho.frozenAt _⟩
end
end
section
variable {α:Type} {tE:TypeId} {k:Nat} {enc:α→List Value} {W W':World} {g n cap:Nat} {L:List α}
theorem cells_take (hk:∀x,(enc x).length=k) (h:W.ownsRow 0 tE k (.slice (some ⟨g,0,none⟩) n cap) n (cellsOf enc L)) (hT:Turned [] W W') (j:Nat):
  ∀i u,(cellsOf enc (L.take j))[i]?=some u→W'.cell? ((⟨g,0,none⟩:Addr).add i)=some u:=by
 intro i u hu
 rw [cellsOf_take hk,List.getElem?_take] at hu
 by_cases hi:i < j*k
 ·rw [if_pos hi] at hu
  have h':=ownsRow_same (w':=W') h fun k' _ hl=>hT.block k' hl (by simp)
  exact h'.cells (g:=g) rfl i u hu
 ·rw [if_neg hi] at hu
  cases hu
theorem cells_drop (hk:∀x,(enc x).length=k) (h:W.ownsRow 0 tE k (.slice (some ⟨g,0,none⟩) n cap) n (cellsOf enc L)) (hT:Turned [] W W') (j:Nat):
  ∀i u,(cellsOf enc (L.drop j))[i]?=some u→W'.cell? ((⟨g,j*k,none⟩:Addr).add i)=some u:=by
 intro i u hu
 rw [cellsOf_drop hk,List.getElem?_drop] at hu
 have h':=ownsRow_same (w':=W') h fun k' _ hl=>hT.block k' hl (by simp)
 have h2:=h'.cells (g:=g) rfl _ u hu
 rw [Addr.add_lit] at h2 ⊢
 simpa using h2
theorem cells_tail (hk:∀x,(enc x).length=k) (h:W.ownsRow 0 tE k (.slice (some ⟨g,0,none⟩) n cap) n (cellsOf enc L)) (hT:Turned [] W W') (j:Nat) (hc:L.length≤cap):
  ∀ad,(if cap=j then (some ⟨g,0,none⟩:Option Addr) else some ⟨g,j*k,none⟩)=some ad→∀i u,(cellsOf enc (L.drop j))[i]?=some u→W'.cell? (ad.add i)=some u:=by
 intro ad had
 by_cases hcc:cap=j
 ·rw [List.drop_eq_nil_of_le (by omega)]
  intro i u hu
  simp [cellsOf] at hu
 ·rw [if_neg hcc] at had
  cases had
  exact cells_drop hk h hT j
theorem cells_one (h1:∀x,∀u ∈ enc x,u.oneCell'=true) (L:List α):∀u ∈ cellsOf enc L,u.oneCell'=true:=by
 intro u hu
 obtain⟨x,_,hx⟩:=List.mem_flatMap.1 hu
 exact h1 x u hx
end
theorem LAt.view {α:Type} {tS tE:TypeId} {k:Nat} {enc:α→List Value} {cs:Value→Array Value} {w:World} {b:Nat} {X:List Nat} {L:List α} (h:LAt tS tE k enc cs w b X L):
  ∃a cap,w.heap[b]?=some (.cells (cs (.slice a L.length cap)) tS (0,0))∧w.ownsRow 0 tE k (.slice a L.length cap) L.length (cellsOf enc L)∧X=b::(Value.slice a L.length cap).ownBlock.toList∧L.length≤cap∧cap≤maxLen∧
   ∀j,j < L.length→∃g,a=some ⟨g,0,none⟩∧b≠g∨tS=tE:=by
 obtain⟨v,h1,h2,h3⟩:=h
 obtain⟨a,cap,rfl,hc,hm⟩:=ownsRow_shape h2
 refine⟨a,cap,h1,h2,h3,hc,hm,fun j hj=>?_⟩
 obtain⟨g,cap',hv,_,_⟩:=ownsRow_pos h2 (by omega)
 simp only [Value.slice.injEq] at hv
 by_cases e:tS=tE
 ·exact⟨g, .inr e⟩
 ·exact⟨g, .inl ⟨hv.1,fun hg=>block_off h1 h2 e (by simp [Value.ownBlock,hv.1,hg])⟩⟩
section
variable {α:Type}
def placeI (p:α→Bool) (L:List α):Int:=match L.findIdx? p with|some j=>j|none=> -1
theorem place_none {p:α→Bool} {L:List α} (h:∀j (hj:j < L.length),p L[j]=false):placeI p L= -1:=by
 have:L.findIdx? p=none:=by
  rw [List.findIdx?_eq_none_iff]
  intro x hx
  obtain⟨j,hj,rfl⟩:=List.getElem_of_mem hx
  exact h j hj
 simp [placeI,this]
theorem place_some {p:α→Bool} {L:List α} {k:Nat} (hk:k < L.length) (hp:p L[k]=true) (h:∀j (hj:j < L.length),j < k→p L[j]=false):placeI p L=k:=by
 have:L.findIdx? p=some k:=by
  rw [List.findIdx?_eq_some_iff_getElem]
  exact⟨hk,hp,fun j hj=>by simpa using h j (by omega) hj⟩
 simp [placeI,this]
theorem place_cases (p:α→Bool) (L:List α):placeI p L= -1∧(∀x ∈ L,p x=false)∨∃k:Nat,∃hk:k < L.length,placeI p L=k∧p L[k]=true:=by
 cases h:L.findIdx? p with
 |none=>
  left
  rw [List.findIdx?_eq_none_iff] at h
  exact⟨place_none fun j hj=>h _ (List.getElem_mem hj),fun x hx=>h x hx⟩
 |some k=>
  right
  rw [List.findIdx?_eq_some_iff_getElem] at h
  obtain⟨hk,h1,h2⟩:=h
  exact⟨k,hk,place_some hk h1 fun j hj hjk=>by simpa using h2 j hjk,h1⟩
end
theorem ownsRow_empty (w:World) (e:TypeId) (size:Nat):(w.alloc (.cells #[] e (0,0))).ownsRow 0 e size (.slice (some ⟨w.heap.size,0,none⟩) 0 0) 0 []:=
 ⟨by simp, .inr ⟨w.heap.size,0, #[],rfl,Nat.zero_le _,heap_alloc_new w _,Nat.le_refl _,by simp [maxLen],by simp,by simp⟩⟩
section
variable {P:Program} (w:World)
theorem run_append_any (t ty e:TypeId) (i:TypeInfo) (z:Value) (size bytes:Nat) (ht:P.underlying t=some (.slice e)) (hi:P.info? e=some i) (hz:i.zero=some z)
  (hsize:i.size=size) (hby:i.bytes=bytes) (hzs:z.cells.size=size) (hsz:0 < size)
  (v:Value) (n:Nat) (xs:List Value) (hown:w.ownsRow 0 e size v n xs)
  (ao:Option Addr) (m c:Nat) (news:List Value) (hl:news.length=m*size) (hnone:ao=none→m=0∧c=0) (hnews:∀ad,ao=some ad→∀j u,news[j]?=some u→w.cell? (ad.add j)=some u) (h1:∀u ∈ news,u.oneCell'=true)
  (h63:n+m≤maxLen) (hbytes:(n+m)*bytes≤140737488355328):
  ∃a' cap' w',(Builtin.append_ #[t,t] ty #[v, .slice ao m c]).run P w= .ok (.slice a' (n+m) cap') w'∧w'.ownsRow 0 e size (.slice a' (n+m) cap') (n+m) (xs++news)∧w.grownBy w' v.ownBlock∧
   (∀g ∈ (Value.slice a' (n+m) cap').ownBlock.toList,g ∈ v.ownBlock.toList∨w.heap.size≤g):=by
 cases hao:ao with
 |none=>
  obtain⟨rfl,rfl⟩:=hnone hao
  have hn:news=[]:=List.eq_nil_of_length_eq_zero (by simpa using hl)
  subst hn
  have hr:=run_append_owned_none (P:=P) (w:=w) 0 t ty e i size ht hi v n xs hown
  obtain⟨a',cap',rfl,hc1,hc2⟩:=ownsRow_shape hown
  exact⟨a',cap',w,hr,by simpa using hown,⟨rfl,rfl,rfl,Nat.le_refl _,fun _ _ _=>rfl⟩,fun g hg=> .inl hg⟩
 |some ad=>
  obtain⟨v',w',hr,h2,h3,_,h5⟩:=run_append_own_at (P:=P) w 0 t ty e i z size bytes ht hi hz hsize hby hzs hsz v n xs hown ad m c news hl (hnews ad hao) h1 h63 hbytes (Nat.zero_le _)
  obtain⟨a',cap',rfl,hc1,hc2⟩:=ownsRow_shape h2
  refine⟨a',cap',w',hr,h2,h3,fun g hg=>?_⟩
  rcases h5 with h5|h5
  ·exact .inl (by rw [←h5];exact hg)
  ·rw [h5] at hg
   simp at hg
   exact .inr (by omega)
theorem wp_append_any {o:Oper} {a:Act} {K:Act→World→Prop} {Q:Exit→Act→World→Prop} (s x:Operand) (t:TypeId)
  (ho:o.op= .call { callee:= .builtin .append,args:= #[s,x],argTypes:= #[t,t] })
  (e:TypeId) (i:TypeInfo) (z:Value) (size bytes:Nat) (ht:P.underlying t=some (.slice e)) (hi:P.info? e=some i) (hz:i.zero=some z)
  (hsize:i.size=size) (hby:i.bytes=bytes) (hzs:z.cells.size=size) (hsz:0 < size)
  (v:Value) (n:Nat) (xs:List Value) (hs:a.eval s=v) (hown:w.ownsRow 0 e size v n xs)
  (ao:Option Addr) (m c:Nat) (news:List Value) (hx:a.eval x= .slice ao m c) (hl:news.length=m*size) (hnone:ao=none→m=0∧c=0) (hnews:∀ad,ao=some ad→∀j u,news[j]?=some u→w.cell? (ad.add j)=some u) (h1:∀u ∈ news,u.oneCell'=true)
  (h63:n+m≤maxLen) (hbytes:(n+m)*bytes≤140737488355328)
  (h:∀a' cap' w',w'.ownsRow 0 e size (.slice a' (n+m) cap') (n+m) (xs++news)→w.grownBy w' v.ownBlock→(∀g ∈ (Value.slice a' (n+m) cap').ownBlock.toList,g ∈ v.ownBlock.toList∨w.heap.size≤g)→
    K (a.put o.dst (.slice a' (n+m) cap')) w'):o.wp P a w K Q:=by
 obtain⟨a',cap',w',hr,h2,h3,h4⟩:=run_append_any (P:=P) w t o.type e i z size bytes ht hi hz hsize hby hzs hsz v n xs hown ao m c news hl hnone hnews h1 h63 hbytes
 unfold Oper.wp execOp
 simp only [ho,resolve,invoke,builtin,Sem.run_bind,Sem.run_pure,Result.andThen_ok,List.map_toArray,List.map_cons,List.map_nil,hs,hx,hr]
 exact h a' cap' w' h2 h3 h4
theorem wpList_append_any {ops:Array Oper} {rest:List Oper} {o:Oper} {a:Act} {Q:Exit→Act→World→Prop} (hgd:o.guard=none) (s x:Operand) (t:TypeId)
  (ho:o.op= .call { callee:= .builtin .append,args:= #[s,x],argTypes:= #[t,t] })
  (e:TypeId) (i:TypeInfo) (z:Value) (size bytes:Nat) (ht:P.underlying t=some (.slice e)) (hi:P.info? e=some i) (hz:i.zero=some z)
  (hsize:i.size=size) (hby:i.bytes=bytes) (hzs:z.cells.size=size) (hsz:0 < size)
  (v:Value) (n:Nat) (xs:List Value) (hs:a.eval s=v) (hown:w.ownsRow 0 e size v n xs)
  (ao:Option Addr) (m c:Nat) (news:List Value) (hx:a.eval x= .slice ao m c) (hl:news.length=m*size) (hnone:ao=none→m=0∧c=0) (hnews:∀ad,ao=some ad→∀j u,news[j]?=some u→w.cell? (ad.add j)=some u) (h1:∀u ∈ news,u.oneCell'=true)
  (h63:n+m≤maxLen) (hbytes:(n+m)*bytes≤140737488355328)
  (h:∀a' cap' w',w'.ownsRow 0 e size (.slice a' (n+m) cap') (n+m) (xs++news)→w.grownBy w' v.ownBlock→(∀g ∈ (Value.slice a' (n+m) cap').ownBlock.toList,g ∈ v.ownBlock.toList∨w.heap.size≤g)→
    wpList P ops Q rest (a.put o.dst (.slice a' (n+m) cap')) w'):wpList P ops Q (o::rest) a w:=
 wpList_plain hgd fun _ hK=>wp_append_any w s x t ho e i z size bytes ht hi hz hsize hby hzs hsz v n xs hs hown ao m c news hx hl hnone hnews h1 h63 hbytes fun a' cap' w' h2 h3 h4=>hK _ _ (h a' cap' w' h2 h3 h4)
theorem step_append_any {ops:Array Oper} {o:Oper} {a:Act} {K:Act→World→Prop} {Q:Exit→Act→World→Prop} {E:Prop} (hgd:o.guard=none) (s x:Operand) (t:TypeId)
  (ho:o.op= .call { callee:= .builtin .append,args:= #[s,x],argTypes:= #[t,t] })
  (e:TypeId) (i:TypeInfo) (z:Value) (size bytes:Nat) (ht:P.underlying t=some (.slice e)) (hi:P.info? e=some i) (hz:i.zero=some z)
  (hsize:i.size=size) (hby:i.bytes=bytes) (hzs:z.cells.size=size) (hsz:0 < size)
  (v:Value) (n:Nat) (xs:List Value) (hs:a.eval s=v) (hown:w.ownsRow 0 e size v n xs)
  (ao:Option Addr) (m c:Nat) (news:List Value) (hx:a.eval x= .slice ao m c) (hl:news.length=m*size) (hnone:ao=none→m=0∧c=0) (hnews:∀ad,ao=some ad→∀j u,news[j]?=some u→w.cell? (ad.add j)=some u) (h1:∀u ∈ news,u.oneCell'=true)
  (h63:n+m≤maxLen) (hbytes:(n+m)*bytes≤140737488355328)
  (h:∀a' cap' w',w'.ownsRow 0 e size (.slice a' (n+m) cap') (n+m) (xs++news)→w.grownBy w' v.ownBlock→(∀g ∈ (Value.slice a' (n+m) cap').ownBlock.toList,g ∈ v.ownBlock.toList∨w.heap.size≤g)→
    K (a.put o.dst (.slice a' (n+m) cap')) w'):if Region.wanted o (yielded ops a.tmps)=true then Oper.wp P o a w K Q else E:=by
 have hw:Region.wanted o (yielded ops a.tmps)=true:=by simp [Region.wanted,hgd]
 rw [if_pos hw]
 exact wp_append_any w s x t ho e i z size bytes ht hi hz hsize hby hzs hsz v n xs hs hown ao m c news hx hl hnone hnews h1 h63 hbytes h
end
end Go.Proofs.Ytbfifglcnhfccaa
namespace Go.Proofs.Ytbfifglcnhfccaa
open Go.RowKit
abbrev Tk:=Int×Int×Int
abbrev encTk (x:Tk):List Value:=[.int .i64 x.1, .int .u64 x.2.1, .int .i64 x.2.2]
theorem encTk_len (x:Tk):(encTk x).length=3:=rfl
theorem cells5q {w:World} {b:Nat} {x y z u v:Value} {t:TypeId} (h:w.heap[b]?=some (.cells #[x,y,z,u,v] t (0,0))):
  w.cell? ⟨b,0,none⟩=some x∧w.cell? ⟨b,1,none⟩=some y∧w.cell? ⟨b,2,none⟩=some z∧w.cell? ⟨b,3,none⟩=some u∧w.cell? ⟨b,4,none⟩=some v∧∀i,w.frozen? ⟨b,i,none⟩=false:=
 ⟨by simp [World.cell?,h],by simp [World.cell?,h],by simp [World.cell?,h],by simp [World.cell?,h],by simp [World.cell?,h],fun i=>frozen_of_row w b i _ t h⟩
abbrev tQ16:TypeId:=72
abbrev tT16:TypeId:=82
def R16 (w:World) (b:Nat) (X:List Nat) (q:Rq):Prop:=LAt tQ16 tT16 3 encTk (fun v=> #[.int .i64 q.g, .int .u64 q.f,v, .int .i64 q.cur, .int .i64 q.ran]) w b X q.l
def atQ (l:List Tk) (id:Int):Int:=placeI (fun x=>decide (x.1=id)) l
theorem atQ_none {l:List Tk} {id:Int} (h:∀j (hj:j < l.length),l[j].1≠id):atQ l id= -1:=place_none fun j hj=>by simpa using h j hj
theorem atQ_some {l:List Tk} {id:Int} {k:Nat} (hk:k < l.length) (hid:l[k].1=id) (h:∀j (hj:j < l.length),j < k→l[j].1≠id):atQ l id=k:=
 place_some hk (by simpa using hid) fun j hj hjk=>by simpa using h j hj hjk
theorem atQ_cases (l:List Tk) (id:Int):atQ l id= -1∧(∀x ∈ l,x.1≠id)∨∃k:Nat,∃hk:k < l.length,atQ l id=k∧l[k].1=id:=by
 rcases place_cases (fun x:Tk=>decide (x.1=id)) l with⟨h1,h2⟩ |⟨k,hk,h1,h2⟩
 ·exact .inl ⟨h1,fun x hx=>by simpa using h2 x hx⟩
 ·exact .inr ⟨k,hk,h1,by simpa using h2⟩
theorem R16.rows {w:World} {b:Nat} {X:List Nat} {q:Rq} (h:R16 w b X q):
  ∃a cap,(w.cell? ⟨b,0,none⟩=some (.int .i64 q.g)∧w.cell? ⟨b,1,none⟩=some (.int .u64 q.f)∧w.cell? ⟨b,2,none⟩=some (.slice a q.l.length cap)∧w.cell? ⟨b,3,none⟩=some (.int .i64 q.cur)∧w.cell? ⟨b,4,none⟩=some (.int .i64 q.ran)∧∀i,w.frozen? ⟨b,i,none⟩=false)∧q.l.length≤maxLen∧
   ∀j (hj:j < q.l.length),∃g,a=some ⟨g,0,none⟩∧w.cell? ⟨g,j*3,none⟩=some (.int .i64 q.l[j].1)∧w.cell? ⟨g,j*3+1,none⟩=some (.int .u64 q.l[j].2.1)∧w.cell? ⟨g,j*3+2,none⟩=some (.int .i64 q.l[j].2.2):=by
 obtain⟨a,cap,h1,h2,h3,hc,hm,hg⟩:=LAt.view h
 refine⟨a,cap,cells5q h1,by omega,fun j hj=>?_⟩
 obtain⟨g,hg|hg⟩:=hg j hj
 ·obtain⟨rfl,hbg⟩:=hg
  have r:=row_cells encTk_len h2 hj
  exact⟨g,rfl,(r 0 (by omega)).1,(r 1 (by omega)).1,(r 2 (by omega)).1⟩
 ·exact absurd hg (by decide)
theorem rat_any {w:World} {b:Nat} {X:List Nat} {q:Rq} (h:R16 w b X q) (id:Int):
  Calls Try.prog 44 #[.pointer (some ⟨b,0,none⟩), .int .i64 id] w fun e w'=>e= .returned (.int .i64 (atQ q.l id))∧w=w':=by
 obtain⟨a,cap,⟨_,_,c2,_⟩,hlen,hr⟩:=h.rows
 have HR:=xhd hr
 unfold maxLen at hlen
 generalize q.l=L at c2 hlen HR ⊢
 clear h hr
 go_enter Try.func44,Try.ntmps44
 go_wp2
 go_loop [5] (fun i=>∃k:Nat,i= .int .i64 k∧k≤L.length∧Hid (∀j (hj:j < L.length),j < k→L[j].1≠id)) (fun i=>L.length - (intOf i).toNat)
 case atStart=>exact⟨0,rfl,by omega,xhd fun j hj h=>by omega⟩
 case round=>
  obtain⟨k,rfl,hk,HP⟩:=hrel
  by_cases hlt:k < L.length
  ·obtain⟨g,rfl,r0,r1,r2⟩:=HR.out k hlt
   have i0:(0:Int)≤k:=by omega
   have i1:(k:Int) < L.length:=by omega
   obtain⟨y,hy⟩:∃y,L[k].1=y:=⟨_,rfl⟩
   rw [hy] at r0
   have HY:=xhd hy
   clear hy r1 r2
   by_cases hp:y=id
   ·subst hp
    go_wp2
    go_ret
    rw [atQ_some hlt HY.out HP.out]
    exact⟨rfl,rfl⟩
   ·go_wp2
    go_round
    case rel=>
     refine⟨k+1,by go_num,by omega,xhd fun j hj hjk=>?_⟩
     by_cases e:j=k
     ·subst e
      rw [HY.out]
      exact hp
     ·exact HP.out j hj (by omega)
    case measure=>simp [intOf];omega
  ·have hk':k=L.length:=by omega
   subst hk'
   go_wp2
   go_ret
   rw [atQ_none fun j hj=>HP.out j hj hj]
   exact⟨rfl,rfl⟩
theorem rback_any {w:World} {b:Nat} {X:List Nat} {q:Rq} (h:R16 w b X q):
  Calls Try.prog 18 #[.pointer (some ⟨b,0,none⟩)] w fun e w'=>e= .returned (.int .i64 q.cur)∧R16 w' b X q.back∧Turned X w w':=by
 obtain⟨v,h1,h2,h3⟩:=id h
 obtain⟨c0,c1,c2,c3,c4,cf⟩:=cells5q h1
 have hne:some b≠v.ownBlock:=block_off h1 h2 (by decide)
 have HFIN:Hid (R16 ((w.setCell ⟨b,3,none⟩ (.int .i64 (-1))).setCell ⟨b,4,none⟩ (.int .i64 0)) b X q.back∧Turned X w ((w.setCell ⟨b,3,none⟩ (.int .i64 (-1))).setCell ⟨b,4,none⟩ (.int .i64 0))):=by
  have e1:(w.setCell ⟨b,3,none⟩ (.int .i64 (-1))).heap[b]?=some (.cells #[.int .i64 q.g, .int .u64 q.f,v, .int .i64 (-1), .int .i64 q.ran] tQ16 (0,0)):=by
   rw [heap_setCell_same w b 3 _ _ _ h1]
   rfl
  have e2:((w.setCell ⟨b,3,none⟩ (.int .i64 (-1))).setCell ⟨b,4,none⟩ (.int .i64 0)).heap[b]?=some (.cells #[.int .i64 q.g, .int .u64 q.f,v, .int .i64 (-1), .int .i64 0] tQ16 (0,0)):=by
   rw [heap_setCell_same _ b 4 _ _ _ e1]
   rfl
  refine⟨⟨v,e2,ownsRow_setCell_other (ownsRow_setCell_other h2 (a:=⟨b,3,none⟩) (fun e=>hne e.symm) _) (a:=⟨b,4,none⟩) (fun e=>hne e.symm) _,h3⟩,?_⟩
  exact ((Turned.refl X w).setCell (.inl (by simp [h3])) _).setCell (.inl (by simp [h3])) _
 obtain⟨f0,hf0⟩:∃x,q.cur=x:=⟨_,rfl⟩
 rw [hf0] at c3 ⊢
 have f3:=cf 3
 have f4:=cf 4
 clear h h1 h2 h3 hne
 go_enter Try.func18,Try.ntmps18
 go_wp2
 go_ret
 exact⟨rfl,HFIN.out⟩
end Go.Proofs.Ytbfifglcnhfccaa
namespace Go.Proofs.Ytbfifglcnhfccaa
def psum (f:Int→Int) (l:List Int) (k:Nat):Int:=sumR ((l.take k).map f)
theorem psum_zero (f:Int→Int) (l:List Int):psum f l 0=0:=by simp [psum,sumR]
theorem sum_append (a b:List Int):sumR (a++b)=sumR a+sumR b:=by
 induction a with
 |nil=>simp [sumR]
 |cons x a ih=>
  have e1:sumR (x::a++b)=x+sumR (a++b):=rfl
  have e2:sumR (x::a)=x+sumR a:=rfl
  rw [e1,e2,ih]
  omega
theorem psum_succ (f:Int→Int) {l:List Int} {k:Nat} (h:k < l.length):psum f l (k+1)=psum f l k+f l[k]:=by
 unfold psum
 rw [List.take_succ_eq_append_getElem h,List.map_append,sum_append]
 simp [sumR]
theorem psum_all (f:Int→Int) (l:List Int):psum f l l.length=sumR (l.map f):=by
 unfold psum
 rw [List.take_length]
theorem psum_range {f:Int→Int} {lo hi:Int} (hf:∀x,lo≤f x∧f x≤hi) {l:List Int} :∀ {k:Nat},k≤l.length→lo*k≤psum f l k∧psum f l k≤hi*k
 |0,_=>by rw [psum_zero];simp
 |k+1,h=>by
  obtain⟨a,b⟩:=psum_range hf (l:=l) (k:=k) (by omega)
  obtain⟨c,d⟩:=hf (l[k]'(by omega))
  rw [psum_succ f (by omega)]
  have e1:lo*((k+1:Nat):Int)=lo*k+lo:=by rw [Int.natCast_add,Int.mul_add];omega
  have e2:hi*((k+1:Nat):Int)=hi*k+hi:=by rw [Int.natCast_add,Int.mul_add];omega
  rw [e1,e2]
  exact⟨by omega,by omega⟩
def bt (t:Int):Int:=bringR t 0 2147483648
def bw (t:Int):Int:=bringR t 1 4096
theorem bt_range (t:Int):0≤bt t∧bt t≤2147483648:=bring_range (by decide)
theorem bw_range (t:Int):1≤bw t∧bw t≤4096:=bring_range (by decide)
theorem tsum_range {l:List Int} {k:Nat} (h:k≤l.length) (h64:l.length≤64):0≤psum bt l k∧psum bt l k≤137438953472:=by
 obtain⟨a,b⟩:=psum_range bt_range (l:=l) h
 omega
theorem wsum_range {l:List Int} {k:Nat} (h:k≤l.length) (h64:l.length≤64):(k:Int)≤psum bw l k∧psum bw l k≤262144:=by
 obtain⟨a,b⟩:=psum_range bw_range (l:=l) h
 omega
theorem off_of {ts ws:List Int} {i:Nat} (h1:i < ts.length) (h2:i < ws.length):offR ts ws i=((bt ts[i]*psum bw ws ws.length - bw ws[i]*psum bt ts ts.length).natAbs:Nat):=by
 unfold offR ticksR weightsR
 rw [psum_all,psum_all,List.getElem?_map,List.getElem?_map,List.getElem?_eq_getElem h1,List.getElem?_eq_getElem h2]
 rfl
end Go.Proofs.Ytbfifglcnhfccaa
namespace Go.Proofs.Ytbfifglcnhfccaa
open Go.RowKit
theorem rnew_any (grain:Int) (w:World):Calls Try.prog 10 #[.int .i64 grain] w fun e w'=>e= .returned (.pointer (some ⟨w.heap.size,0,none⟩))∧R16 w' w.heap.size [w.heap.size] (Rq.new grain)∧Below w.heap.size w w':=by
 have HB:=xhd (bring_any grain 1 8 w)
 have HFIN:=xhd (show ∀g,g=bringR grain 1 8→R16 (w.alloc (.cells #[.int .i64 g, .int .u64 0, .slice none 0 0, .int .i64 (-1), .int .i64 0] tQ16)) w.heap.size [w.heap.size] (Rq.new grain) from fun g hg=>by
  subst hg
  exact⟨.slice none 0 0,heap_alloc_new w _,World.ownsRow_nil _ _ _ _,rfl⟩)
 go_enter Try.func10,Try.ntmps10
 go_wp2_with fail
 with_reducible refine HB.out.mono ?_
 rintro e w1 ⟨rfl,rfl⟩
 go_wp2
 go_ret
 exact⟨rfl,HFIN.out _ rfl,(Below.refl _ _).alloc (Nat.le_refl _) _⟩
theorem rplace_any {w:World} {b:Nat} {X:List Nat} {q:Rq} (h:R16 w b X q) (hf:Word q.f) (v wt:Int):
  Calls Try.prog 45 #[.pointer (some ⟨b,0,none⟩), .int .u64 v, .int .i64 wt] w fun e w'=>e= .returned (.int .u64 (q.place v wt))∧Below w.heap.size w w':=by
 obtain⟨_,h1,_,_⟩:=id h
 have hlt:=lt_of_block h1
 obtain⟨c0,c1,_⟩:=cells5q h1
 have hr:=reach_range wt q.g
 have hw:Word (reachR wt q.g):=⟨by omega,by omega⟩
 have HR:=xhd (fun V=>rreach_any wt q.g V)
 have HC:=xhd (fun V=>rclamp_any v q.f (reachR wt q.g) hf hw V)
 unfold Rq.place
 generalize reachR wt q.g=r at HR HC ⊢
 generalize clampR v q.f r=z at HC ⊢
 generalize q.f=f at c1 HC
 generalize q.g=g at c0 HR
 have HK:=xhd (fun (V V':World) (e0:V.cell? ⟨b,0,none⟩=some (.int .i64 g)∧V.cell? ⟨b,1,none⟩=some (.int .u64 f)) (hV:w.heap.size≤V.heap.size) (hb:Below V.heap.size V V')=>
  show V'.cell? ⟨b,0,none⟩=some (.int .i64 g)∧V'.cell? ⟨b,1,none⟩=some (.int .u64 f) from
   ⟨(hb.cell (p:=⟨b,0,none⟩) (Nat.lt_of_lt_of_le hlt hV)).trans e0.1,(hb.cell (p:=⟨b,1,none⟩) (Nat.lt_of_lt_of_le hlt hV)).trans e0.2⟩)
 have HC0:=xhd (And.intro c0 c1)
 clear h h1 hr hf hw hlt
 go_enter Try.func45,Try.ntmps45
 go_wp2_with fail
 go_region_held3 (fun V=>V.cell? ⟨b,0,none⟩=some (.int .i64 g)∧V.cell? ⟨b,1,none⟩=some (.int .u64 f))
  (first|exact HK.out _ _ HC0.out (Nat.le_refl _) hb1|exact HC0.out)
  (first
    |(go_at_call 69;with_reducible refine (HR.out _).mono ?_;rintro e w1 ⟨rfl,rfl⟩)
    |(go_at_call 68;with_reducible refine (HC.out _).mono ?_;rintro e w2 ⟨rfl,hb⟩;have hb1:Below w.heap.size w w2:=((Below.refl _ w).drew).trans (hb.mono (Nat.le_refl _));have HB1:=xhd hb1)
    |fail)
 all_goals (go_wp2;go_ret;exact⟨rfl,HB1.out⟩)
theorem rload_any {w:World} {b:Nat} {X:List Nat} {q:Rq} (h:R16 w b X q) (hl:q.l.length≤1000) (hw:∀x ∈ q.l,1≤x.2.2∧x.2.2≤4096):
  Calls Try.prog 57 #[.pointer (some ⟨b,0,none⟩)] w fun e w'=>e= .returned (.int .i64 (sumR (q.l.map (·.2.2))))∧w=w':=by
 obtain⟨a,cap,⟨_,_,c2,_⟩,_,hr⟩:=h.rows
 have HR:=xhd hr
 have HW:=xhd hw
 generalize q.l=L at c2 hl HR HW ⊢
 have hall:psum id (L.map (·.2.2)) L.length=sumR (L.map (·.2.2)):=by
  have:=psum_all id (L.map (·.2.2))
  rw [List.length_map,List.map_id] at this
  exact this
 have hrng:∀k,k≤L.length→0≤psum id (L.map (·.2.2)) k∧psum id (L.map (·.2.2)) k≤4096*k:=by
  intro k
  induction k with
  |zero=>intro _;rw [psum_zero];simp
  |succ k ih=>
   intro hk
   obtain⟨a1,a2⟩:=ih (by omega)
   rw [psum_succ id (by rw [List.length_map];omega)]
   have:=HW.out L[k] (List.getElem_mem _)
   simp only [List.getElem_map,id]
   omega
 have HRN:=xhd hrng
 clear h hr hw hrng
 go_enter Try.func57,Try.ntmps57
 go_wp2
 go_loop [3,4] (fun s i=>∃k:Nat,i= .int .i64 k∧k≤L.length∧s= .int .i64 (psum id (L.map (·.2.2)) k)) (fun _ i=>L.length - (intOf i).toNat)
 case atStart=>exact⟨0,rfl,by omega,by rw [psum_zero]⟩
 case round=>
  obtain⟨k,rfl,hk,rfl⟩:=hrel
  by_cases hlt:k < L.length
  ·obtain⟨g,rfl,r0,r1,r2⟩:=HR.out k hlt
   have i0:(0:Int)≤k:=by omega
   have i1:(k:Int) < L.length:=by omega
   have s1:=psum_succ id (l:=L.map (·.2.2)) (k:=k) (by simpa using hlt)
   simp only [List.getElem_map,id] at s1
   obtain⟨a1,a2⟩:=HRN.out (k+1) (by omega)
   have e1:IntKind.i64.wrap (psum id (L.map (·.2.2)) k+L[k].2.2)=psum id (L.map (·.2.2)) (k+1):=by rw [←s1,IntKind.wrap_i64];omega
   have HS1:=xhd s1
   clear r0 r1 s1
   go_wp2
   go_round
   case rel=>exact⟨k+1,by go_num,by omega,by first|rfl|trivial|rw [HS1.out]⟩
   case measure=>simp [intOf];omega
  ·have hk':k=L.length:=by omega
   subst hk'
   rw [hall]
   go_wp2
   go_ret
   exact⟨rfl,rfl⟩
theorem minQ_snoc:∀(l:List Tk) (m:Int) (y:Tk),minQ (l++[y]) m=if y.2.1 < minQ l m then y.2.1 else minQ l m
 |[],_,_=>rfl
 |x::l,m,y=>by
  show minQ (l++[y]) (if x.2.1 < m then x.2.1 else m)=_
  rw [minQ_snoc l]
  rfl
theorem minQ_take {l:List Tk} {m:Int} {k:Nat} (h:k < l.length):minQ (l.take (k+1)) m=if l[k].2.1 < minQ (l.take k) m then l[k].2.1 else minQ (l.take k) m:=by
 rw [List.take_succ_eq_append_getElem h,minQ_snoc]
theorem R16.setF {w:World} {b:Nat} {X:List Nat} {q:Rq} (h:R16 w b X q) (f:Int):R16 (w.setCell ⟨b,1,none⟩ (.int .u64 f)) b X { q with f:=f } ∧Turned X w (w.setCell ⟨b,1,none⟩ (.int .u64 f)):=by
 obtain⟨v,h1,h2,h3⟩:=h
 have hne:some b≠v.ownBlock:=block_off h1 h2 (by decide)
 refine⟨⟨v,?_,ownsRow_setCell_other h2 (a:=⟨b,1,none⟩) (fun e=>hne e.symm) _,h3⟩,(Turned.refl X w).setCell (.inl (by simp [h3])) _⟩
 rw [heap_setCell_same w b 1 _ _ _ h1]
 rfl
theorem rsettle_any {w:World} {b:Nat} {X:List Nat} {q:Rq} (h:R16 w b X q):
  Calls Try.prog 24 #[.pointer (some ⟨b,0,none⟩)] w fun e w'=>e= .returned (.tuple #[])∧R16 w' b X q.settle∧Turned X w w':=by
 obtain⟨a,cap,⟨c0,c1,c2,c3,c4,cf⟩,hlen,hr⟩:=h.rows
 have HR:=xhd hr
 have f1:=cf 1
 unfold maxLen at hlen
 cases hl:q.l with
 |nil=>
  have HFIN:Hid (R16 w b X q.settle∧Turned X w w):=by
   have e:q.settle=q:=by
    unfold Rq.settle
    rw [hl]
   rw [e]
   exact⟨h,Turned.refl _ _⟩
  rw [hl] at c2
  clear h hr hl HR hlen
  go_enter Try.func24,Try.ntmps24
  go_wp2
  refine bodyPost_ret (results_none rfl _ _ _) rfl ?_
  exact⟨rfl,HFIN.out⟩
 |cons x r=>
  have hset:q.settle= { q with f:=if q.f < minQ r x.2.1 then minQ r x.2.1 else q.f } :=by
   unfold Rq.settle
   rw [hl]
  have HFIN:Hid ((q.f < minQ r x.2.1→R16 (w.setCell ⟨b,1,none⟩ (.int .u64 (minQ r x.2.1))) b X q.settle∧Turned X w (w.setCell ⟨b,1,none⟩ (.int .u64 (minQ r x.2.1))))∧(¬q.f < minQ r x.2.1→R16 w b X q.settle∧Turned X w w)):=by
   refine⟨fun hc=>?_,fun hc=>?_⟩
   ·rw [hset,if_pos hc]
    exact h.setF _
   ·rw [hset,if_neg hc]
    exact⟨h,Turned.refl _ _⟩
  have hn:q.l.length=r.length+1:=by rw [hl];rfl
  have HG:Hid (∀j (hj:j < r.length),∃g,a=some ⟨g,0,none⟩∧w.cell? ⟨g,(j+1)*3+1,none⟩=some (.int .u64 r[j].2.1)):=by
   refine xhd fun j hj=>?_
   obtain⟨g,hg,_,hv,_⟩:=hr (j+1) (by omega)
   refine⟨g,hg,hv.trans ?_⟩
   congr 3
   simp [hl]
  obtain⟨g,rfl,hv0⟩:∃g,a=some ⟨g,0,none⟩∧w.cell? ⟨g,1,none⟩=some (.int .u64 x.2.1):=by
   obtain⟨g,hg,_,hv,_⟩:=hr 0 (by omega)
   have e:(0:Nat)*3+1=1:=rfl
   rw [e] at hv
   refine⟨g,hg,hv.trans ?_⟩
   congr 3
   simp [hl]
  rw [hn] at c2 hlen
  generalize q.settle=z at HFIN ⊢
  generalize q.f=f at c1 HFIN
  have hz:¬((r.length:Int)+1=0):=by omega
  clear h hr hl HR hn hset c0 c3 c4
  go_enter Try.func24,Try.ntmps24
  go_wp2
  go_loop [2,3] (fun v i=>∃j:Nat,i= .int .i64 ((j:Int)+1)∧j≤r.length∧v= .int .u64 (minQ (r.take j) x.2.1)) (fun _ i=>r.length+1 - (intOf i).toNat)
  case atStart=>exact⟨0,rfl,by omega,rfl⟩
  case round=>
   obtain⟨j,rfl,hj,rfl⟩:=hrel
   by_cases hlt:j < r.length
   ·obtain⟨g',hg',rv⟩:=HG.out j hlt
    simp only [Option.some.injEq,Addr.mk.injEq,and_true] at hg'
    subst hg'
    have i0:(0:Int)≤(j:Int)+1:=by omega
    have i1:(j:Int)+1 < (r.length:Int)+1:=by omega
    have i2:j+1 < r.length+1:=by omega
    have hm:=minQ_take (m:=x.2.1) hlt
    have HM:=xhd hm
    clear hm
    generalize minQ (r.take j) x.2.1=m at HM ⊢
    obtain⟨y,hy⟩:∃y,r[j].2.1=y:=⟨_,rfl⟩
    rw [hy] at rv HM
    clear hy
    by_cases hc:y < m
    ·have hM:=HM.out
     rw [if_pos hc] at hM
     have HM1:=xhd hM
     clear hM
     go_wp2
     go_round
     case rel=>exact⟨j+1,by go_num,by omega,by rw [HM1.out]⟩
     case measure=>simp [intOf];omega
    ·have hM:=HM.out
     rw [if_neg hc] at hM
     have HM1:=xhd hM
     clear hM
     go_wp2
     go_round
     case rel=>exact⟨j+1,by go_num,by omega,by rw [HM1.out]⟩
     case measure=>simp [intOf];omega
   ·have hk':j=r.length:=by omega
    subst hk'
    rw [List.take_length]
    by_cases hc:f < minQ r x.2.1
    ·have HF:=xhd (HFIN.out.1 hc)
     generalize minQ r x.2.1=m at hc HF ⊢
     go_wp2
     go_end0
     exact⟨rfl,HF.out⟩
    ·have HF:=xhd (HFIN.out.2 (by omega))
     generalize minQ r x.2.1=m at hc ⊢
     go_wp2
     go_end0
     exact⟨rfl,HF.out⟩
def addE (q:Rq) (id:Int):Int:=if id < 0 then 1 else if (findQ q.l id).isSome=true then 12 else if 16≤q.l.length then 3 else 0
def addV (q:Rq) (id v w:Int):Int:=if addE q id=0 then q.place v (bringR w 1 4096) else 0
theorem atQ_find (l:List Tk) (id:Int):(findQ l id).isSome=true↔0≤atQ l id:=by
 rcases atQ_cases l id with⟨h1,h2⟩ |⟨k,hk,h1,h2⟩
 ·rw [h1]
  cases he:findQ l id with
  |none=>simp
  |some x=>exact absurd rfl (h2 _ (findQ_mem he))
 ·rw [h1]
  cases he:findQ l id with
  |none=>exact absurd h2 (findQ_none he _ (List.getElem_mem hk))
  |some x=>simp
theorem infoTk:(Try.prog.info? tT16).map (fun i=>(i.zero,i.size,i.bytes))=some (some (.agg #[.int .i64 0, .int .u64 0, .int .i64 0]),3,24):=by kernel_rfl
theorem R16.below {w w':World} {b:Nat} {X:List Nat} {q:Rq} (h:R16 w b X q) (hb:Below w.heap.size w w'):R16 w' b X q:=
 LAt.keep h (Y:=[]) ⟨hb.os,hb.tape,hb.output,hb.size,fun k hk _=>hb.block k hk⟩ (fun _ _ h=>by cases h)
theorem turned_below {w w':World} {X:List Nat} (hb:Below w.heap.size w w'):Turned X w w':=⟨hb.os,hb.tape,hb.output,hb.size,fun k hk _=>hb.block k hk⟩
theorem three_new (W:World) (x y z:Value) (t:TypeId):∀(j:Nat) (u:Value),[x,y,z][j]?=some u→(W.alloc (.cells #[x,y,z] t)).cell? ((⟨W.heap.size,0,none⟩:Addr).add j)=some u:=by
 intro j u hj
 have hh:=heap_alloc_new W (.cells #[x,y,z] t)
 rw [Addr.add_lit]
 simp only [World.cell?,hh]
 match j,hj with
 |0,hj=>simpa using hj
 |1,hj=>simpa using hj
 |2,hj=>simpa using hj
theorem radd_any {w:World} {b:Nat} {X:List Nat} {q:Rq} (h:R16 w b X q) (hf:Word q.f) (id v wt:Int):
  Calls Try.prog 12 #[.pointer (some ⟨b,0,none⟩), .int .i64 id, .int .u64 v, .int .i64 wt] w fun e w'=>e= .returned (.tuple #[.int .u64 (addV q id v wt), .int .i64 (addE q id)])∧∃X',R16 w' b X' (q.add id v wt)∧Turned X w w'∧Newer X w.heap.size X':=by
 have hsame:addE q id≠0→addV q id v wt=0∧q.add id v wt=q:=fun he=>by
  refine⟨if_neg he,?_⟩
  unfold Rq.add
  refine if_pos ?_
  unfold addE at he
  by_cases c1:id < 0
  ·exact .inl c1
  ·rw [if_neg c1] at he
   by_cases c2:(findQ q.l id).isSome=true
   ·exact .inr (.inl c2)
   ·rw [if_neg c2] at he
    by_cases c3:16≤q.l.length
    ·exact .inr (.inr c3)
    ·rw [if_neg c3] at he
     exact absurd rfl he
 have HA:=xhd (rat_any h id)
 have hfa:=atQ_find q.l id
 by_cases c1:id < 0
 ·have e:addE q id=1:=if_pos c1
  obtain⟨e1,e2⟩:=hsame (by omega)
  rw [e,e1,e2]
  have HFIN:=xhd h
  clear h hsame
  go_enter Try.func12,Try.ntmps12
  go_wp2
  go_ret2
  exact⟨rfl,X,HFIN.out,Turned.refl _ _,Newer.refl _ _⟩
 ·by_cases c2:(findQ q.l id).isSome=true
  ·have e:addE q id=12:=by unfold addE;rw [if_neg c1,if_pos c2]
   obtain⟨e1,e2⟩:=hsame (by omega)
   have h0:=hfa.1 c2
   rw [e,e1,e2]
   have HFIN:=xhd h
   generalize atQ q.l id=k at HA h0
   clear h hsame hfa
   go_enter Try.func12,Try.ntmps12
   go_wp2_with fail
   with_reducible refine HA.out.mono ?_
   rintro e w1 ⟨rfl,rfl⟩
   go_wp2
   go_ret2
   exact⟨rfl,X,HFIN.out,Turned.refl _ _,Newer.refl _ _⟩
  ·have h0:¬0≤atQ q.l id:=fun hh=>c2 (hfa.2 hh)
   by_cases c3:16≤q.l.length
   ·have e:addE q id=3:=by unfold addE;rw [if_neg c1,if_neg c2,if_pos c3]
    obtain⟨e1,e2⟩:=hsame (by omega)
    rw [e,e1,e2]
    have HFIN:=xhd h
    obtain⟨a,cap,⟨_,_,k2,_⟩,_,_⟩:=h.rows
    have c3z:(16:Int)≤(q.l.length:Int):=by omega
    generalize q.l.length=n at k2 c3z
    generalize atQ q.l id=k at HA h0
    clear h hsame hfa c3
    go_enter Try.func12,Try.ntmps12
    go_wp2_with fail
    with_reducible refine HA.out.mono ?_
    rintro e w1 ⟨rfl,rfl⟩
    go_wp2
    go_ret2
    exact⟨rfl,X,HFIN.out,Turned.refl _ _,Newer.refl _ _⟩
   ·have e:addE q id=0:=by unfold addE;rw [if_neg c1,if_neg c2,if_neg c3]
    have ev:addV q id v wt=q.place v (bringR wt 1 4096):=if_pos e
    have eq:q.add id v wt= { q with l:=q.l++[(id,q.place v (bringR wt 1 4096),bringR wt 1 4096)] } :=by
     unfold Rq.add
     refine if_neg ?_
     rintro (hh|hh|hh)
     ·exact c1 hh
     ·exact c2 hh
     ·exact c3 hh
    rw [e,ev,eq]
    have HBR:=xhd (fun V=>bring_any wt 1 4096 V)
    have HPL:=xhd (rplace_any h hf v (bringR wt 1 4096))
    generalize bringR wt 1 4096=u at HBR HPL ⊢
    generalize q.place v u=p at HPL ⊢
    obtain⟨a,cap,⟨_,_,k2,_⟩,_,_⟩:=h.rows
    have c3z:¬(16:Int)≤(q.l.length:Int):=by omega
    have HR:=xhd h
    have HL:Hid (q.l.length < 16):=xhd (by omega)
    obtain⟨i0,hi0,hz0,hz1,hz2⟩:=info_parts infoTk
    generalize atQ q.l id=k at HA h0
    clear h hsame hfa c3 c2 hf
    obtain⟨n,hn⟩:∃n,q.l.length=n:=⟨_,rfl⟩
    have HN:=xhd hn
    rw [hn] at k2 c3z HL
    clear hn
    go_enter Try.func12,Try.ntmps12
    go_wp2_with fail
    with_reducible refine HA.out.mono ?_
    rintro e w1 ⟨rfl,rfl⟩
    go_wp2_with fail
    with_reducible refine (HBR.out _).mono ?_
    rintro e w2 ⟨rfl,rfl⟩
    go_wp2_with fail
    with_reducible refine HPL.out.mono ?_
    rintro e w3 ⟨rfl,hb3⟩
    have HB3:=xhd hb3
    clear k2 hb3
    obtain⟨vv,g1,g2,g3⟩:=HR.out.below HB3.out
    obtain⟨a3,cap3,rfl,hcap,hmax⟩:=ownsRow_shape g2
    obtain⟨k0,k1,k2,k3,k4,kf⟩:=cells5q g1
    rw [HN.out] at k2
    have kf2:=kf 2
    have G1:=xhd g1
    have G2:=xhd g2
    have G3:=xhd g3
    have HLN:=HL.out
    clear g1 g2 g3 hcap hmax k0 k1 k3 k4 kf
    go_wp2_with (at_builtin;refine wpList_append_any _ rfl _ _ 70 rfl tT16 i0 (.agg #[.int .i64 0, .int .u64 0, .int .i64 0]) 3 24 Try.underlying70 hi0 hz0 hz1 hz2 rfl (by decide) (.slice a3 n cap3) n (cellsOf encTk q.l) rfl (by have:=G2.out;rw [HN.out] at this;exact this.alloc _) (some ⟨w3.heap.size,0,none⟩) 1 1 [.int .i64 id, .int .u64 p, .int .i64 u] rfl rfl (by intro h;cases h) (by intro ad had;cases had;exact three_new _ _ _ _ _) (by intro y hy;simp at hy;rcases hy with rfl|rfl|rfl<;>rfl) (by unfold maxLen;omega) (by omega) ?_)
    intro a5 cap5 W5 hown hgb hnew
    have R:=LAt.appended (W:=w3) (W2:=w3.alloc (.cells #[.int .i64 id, .int .u64 p, .int .i64 u] tT16)) (W1:=W5) (tS:=tQ16) (tE:=tT16) (k:=3) (enc:=encTk) (cs:=fun v=> #[.int .i64 q.g, .int .u64 q.f,v, .int .i64 q.cur, .int .i64 q.ran]) (v:= .slice a3 q.l.length cap3) (i:=2) (v':= .slice a5 (n+1) cap5) (M:=q.l++[(id,p,u)]) (by decide) rfl G1.out G2.out ((Turned.refl [] _).alloc _) (by rw [HN.out];exact hgb) (by
     rw [cellsOf_snoc,List.length_append,HN.out]
     exact hown) (by rw [HN.out];simpa using hnew)
    obtain⟨r1,r2,r3,r4⟩:=R
    have f5:=(cells5q r1).2.2.2.2.2 2
    have k5:=(cells5q r1).2.2.1
    have HR2:=xhd r2
    have HT:Hid (Turned X w2 (W5.setCell ⟨b,2,none⟩ (.slice a5 (n+1) cap5))∧Newer X w2.heap.size (b::(Value.slice a5 (n+1) cap5).ownBlock.toList)):=by
     refine⟨(turned_below HB3.out).trans r3 ?_,?_⟩
     ·rw [←G3.out]
      exact Newer.refl _ _
     ·have:=r4.mono HB3.out.size
      rw [←G3.out] at this
      exact this
    clear r1 r2 r3 r4 hown hgb hnew
    go_wp2
    go_ret2
    exact⟨rfl,_,HR2.out,HT.out.1,HT.out.2⟩
theorem tick_set {l:List Tk} {c:Int} (hu:(l.map (·.1)).Nodup) {k:Nat} (hk:k < l.length) (he:l[k].1=c):l.map (tickT c)=l.set k (l[k].1,satV (l[k].2.1+coreR l[k].2.2),l[k].2.2):=by
 refine List.ext_getElem (by simp) fun i h1 h2=>?_
 rw [List.length_map] at h1
 rw [List.getElem_map,List.getElem_set]
 by_cases e:k=i
 ·subst e
  rw [if_pos rfl]
  unfold tickT
  rw [if_pos he]
 ·rw [if_neg e]
  unfold tickT
  have hne:l[i].1≠c:=fun h=>by
   have h3:(l.map (·.1))[i]'(by simpa using h1)=(l.map (·.1))[k]'(by simpa using hk):=by
    rw [List.getElem_map,List.getElem_map,h,he]
   exact e ((List.getElem_inj hu).1 h3).symm
  rw [if_neg hne]
structure Kept (X:List Nat) (n₀:Nat) (w w':World):Prop where
 os:w'.os=w.os
 tape:w'.tape=w.tape
 output:w'.output=w.output
 size:w.heap.size≤w'.heap.size
 block:∀k,k < n₀→k ∉ X→w'.heap[k]?=w.heap[k]?
theorem Kept.refl (X:List Nat) (n₀:Nat) (w:World):Kept X n₀ w w:=⟨rfl,rfl,rfl,Nat.le_refl _,fun _ _ _=>rfl⟩
theorem Kept.trans {X:List Nat} {n₀:Nat} {a b c:World} (h:Kept X n₀ a b) (g:Kept X n₀ b c):Kept X n₀ a c:=
 ⟨g.os.trans h.os,g.tape.trans h.tape,g.output.trans h.output,Nat.le_trans h.size g.size,fun k hk hx=>(g.block k hk hx).trans (h.block k hk hx)⟩
theorem Kept.drewN {X:List Nat} {n₀:Nat} {a b:World} (h:Kept X n₀ a b) (n:Nat):Kept X n₀ a (b.drewN n):=⟨h.os,h.tape,h.output,h.size,h.block⟩
theorem Kept.alloc {X:List Nat} {n₀:Nat} {a b:World} (h:Kept X n₀ a b) (hn:n₀≤b.heap.size) (o:Obj):Kept X n₀ a (b.alloc o):=
 ⟨h.os,h.tape,h.output,Nat.le_trans h.size (by simp),fun k hk hx=>(Below.heap_alloc b o k (by omega)).trans (h.block k hk hx)⟩
theorem Kept.setCell {X:List Nat} {n₀:Nat} {a b:World} (h:Kept X n₀ a b) {p:Addr} (hp:p.block ∈ X∨n₀≤p.block) (u:Value):Kept X n₀ a (b.setCell p u):=
 ⟨h.os,h.tape,h.output,Nat.le_trans h.size (by simp [World.setCell]),fun k hk hx=>
   (Below.heap_setCell b p u k (fun e=>by subst e;rcases hp with h1|h1;exact hx h1;omega)).trans (h.block k hk hx)⟩
theorem Kept.of_turned {X:List Nat} {n₀:Nat} {a b:World} (h:Turned X a b) (hn:n₀≤a.heap.size):Kept X n₀ a b:=⟨h.os,h.tape,h.output,h.size,fun k hk hx=>h.block k (by omega) hx⟩
theorem Kept.row {X:List Nat} {n₀:Nat} {a b:World} (h:Kept X n₀ a b) {base:Nat} {e:TypeId} {size:Nat} {v:Value} {n:Nat} {xs:List Value} (hr:a.ownsRow base e size v n xs) (hk:∀k ∈ v.ownBlock.toList,k < n₀∧k ∉ X):b.ownsRow base e size v n xs:=
 ownsRow_same hr fun k hv _=>h.block k (hk k hv).1 (hk k hv).2
theorem Kept.at {X:List Nat} {n₀:Nat} {a b:World} (h:Kept X n₀ a b) {k:Nat} {o:Obj} (ho:a.heap[k]?=some o) (hk:k < n₀) (hx:k ∉ X):b.heap[k]?=some o:=(h.block k hk hx).trans ho
end Go.Proofs.Ytbfifglcnhfccaa
namespace Go.Proofs.Ytbfifglcnhfccaa
open Go.RowKit
def SameAt (X:List Nat) (W W':World):Prop:=∀k ∈ X,W'.heap[k]?=W.heap[k]?
theorem SameAt.refl (X:List Nat) (W:World):SameAt X W W:=fun _ _=>rfl
theorem SameAt.trans {X:List Nat} {A B C:World} (h:SameAt X A B) (g:SameAt X B C):SameAt X A C:=fun k hk=>(g k hk).trans (h k hk)
theorem SameAt.of_turned {X Y:List Nat} {A B:World} (h:Turned Y A B) (hx:∀k ∈ X,k < A.heap.size∧k ∉ Y):SameAt X A B:=fun k hk=>h.block k (hx k hk).1 (hx k hk).2
structure Mild (X:List Nat) (B:Nat) (W W':World):Prop where
 os:W'.os=W.os
 tape:W'.tape=W.tape
 output:W'.output=W.output
 size:W.heap.size≤W'.heap.size
 same:∀(k:Nat) (o:Obj),W.heap[k]?=some o→k ∉ X→k < B∨o.isCells=true→W'.heap[k]?=some o
theorem Mild.of_turned {X:List Nat} {B:Nat} {W W':World} (h:Turned X W W'):Mild X B W W':=
 ⟨h.os,h.tape,h.output,h.size,fun _ _ ho hx _=>h.same ho hx⟩
theorem Mild.of_put {X:List Nat} {B l:Nat} {W:World} {o:Obj} (hl:W.heap[l]?=some o) (ho:o.isCells=false) (hB:B≤l) (o':Obj):Mild X B W (W.putObj l o'):=
 ⟨rfl,rfl,rfl,by simp,fun k u hu _ hk=>by
   have hne:k≠l:=by
    rintro rfl
    rw [hl] at hu
    cases hu
    rcases hk with h|h
    ·omega
    ·rw [ho] at h
     cases h
   exact (World.putObj_heap_other hne).trans hu⟩
def leftPost {α:Type} (B:Nat) (Y:List Nat) (I:List α→World→Prop) (Ix:Code→List α→World→Prop) (xs:List α) (W:World):Exit→Act→World→Prop
 | .normal,_,W'=>KeepsFrom B W W'∧SameAt Y W W'∧I xs W'
 | .ret,_,W'=>KeepsFrom B W W'∧SameAt Y W W'∧Ix .ret xs W'
 | .exit id,_,W'=>KeepsFrom B W W'∧SameAt Y W W'∧Ix (.exit id) xs W'
 | .goto t,_,W'=>KeepsFrom B W W'∧SameAt Y W W'∧Ix (.goto t) xs W'
 | .panic _,_,_=>False
 | .outgrown,_,_=>False
def TurnSeq {α:Type} (F:Fence) (n:Nat) (P:Program) (g:Nat) (lb:Array Value) (encs:α→Array Value) (X Y:List Nat) (Sp:List α→Prop) (S Sx:List α→World→Prop) (w:World):Prop:=
 ∀(l:Nat) (J Jx:List α→World→Prop) (W:World),Turned [] w W→(∀xs A B,J xs A→Turned X A B→J xs B)→
  (∀pre x A,J pre A→Sp (pre++[x])→YieldAt F (n - 1) P l (encs x) A fun e B=>
    SameAt Y A B∧A.heap.size≤B.heap.size∧((e= .returned (.bool true)∧J (pre++[x]) B)∨(e= .returned (.bool false)∧Jx (pre++[x]) B)))→
  J [] W→
  CallsIn F n P g (#[.func (.yield l) #[] #[]]++lb) W fun e W'=>(∃v,e= .returned v)∧((∃xs,S xs W'∧J xs W')∨(∃xs,Sx xs W'∧Jx xs W'))
variable {F:Fence} {n:Nat} {P:Program}
theorem range_turns {α:Type} {g:Operand} {ps:Array Tmp} {assign body:Code} {Q:Exit→Act→World→Prop} {a:Act} {w:World}
  (hro:F.round=none) (h1:1≤n) {gf:Nat} {lb:Array Value} (hg:a.eval g= .func (.func gf) #[] lb) (hFg:F.fn gf) (eg:∀args w,(callFunc gf args).run P w= .ok (.enter gf args) w)
  {encs:α→Array Value} {X Y:List Nat} {Sp:List α→Prop} {S Sx:List α→World→Prop} (hX:∀k ∈ X,k < w.heap.size) (hY:∀k ∈ Y,k < w.heap.size)
  (hseq:TurnSeq F (n - 1) P gf lb encs X Y Sp S Sx w) (hps:∀x,(encs x).size=ps.size)
  (hS:∀xs A B,S xs A→SameAt Y A B→S xs B) (hSx:∀xs A B,Sx xs A→SameAt Y A B→Sx xs B)
  (I:List α→World→Prop) (Ix:Code→List α→World→Prop) (hI:∀xs A B,I xs A→Mild X w.heap.size A B→I xs B) (hIx:∀c xs A B,Ix c xs A→Mild [] w.heap.size A B→Ix c xs B) (h0:I [] w)
  (Ax:α→Act→World→Prop) (hAx:∀x a' A B,Ax x a' A→Mild [] w.heap.size A B→Ax x a' B)
  (hassign:∀(l:Nat) (pre:List α) (x:α) (W:World) (K:Act→World→Prop),I pre W→(∀a' W',KeepsFrom w.heap.size W W'→SameAt Y W W'→I pre W'→Ax x a' W'→K a' W')→
    assign.wpIn (F.inRound l) (n - 1 - 1) P (Exit.then K (fun _ _ _=>False)) { tmps:=(ps.zip (encs x)).foldl (fun t (p,v)=>t.setIfInBounds p v) a.tmps,defers:=[] } W)
  (hbody:∀(l:Nat) (pre:List α) (x:α) (a':Act) (W:World),I pre W→Ax x a' W→Sp (pre++[x])→body.wpIn (F.inRound l) (n - 1 - 1) P (leftPost w.heap.size Y I Ix (pre++[x]) W) a' W)
  (hdone:∀(D:Nat) (xs:List α) (W:World),w.heap.size≤D→S xs W→I xs W→W.heap[D]?=some (.deferred (some []))→Q .normal { a with defers:= { target:= .collected D,args:= #[] } ::a.defers } W)
  (hstop:∀(D:Nat) (c:Code) (xs:List α) (W:World),w.heap.size≤D→Sx xs W→Ix c xs W→W.heap[D]?=some (.deferred (some []))→c.wpIn F n P Q { a with defers:= { target:= .collected D,args:= #[] } ::a.defers } W):
  (Code.rangeFunc g ps assign body).wpIn F n P Q a w:=by
 refine wpIn_rangeFunc fun fn hfn=>?_
 rw [hro]
 obtain⟨N,hN⟩:∃N,w.heap.size=N:=⟨_,rfl⟩
 obtain⟨R,hR⟩:∃R:LoopState→Option Code→Loop,∀st pe,R st pe= { state:=st,pending:=pe,fn,tmps:=a.tmps,params:=ps,assign,body,defers:=N } :=⟨_,fun _ _=>rfl⟩
 obtain⟨W0,hW0⟩:∃W0,(w.alloc (.deferred (some []))).alloc (.loop (R .ready none))=W0:=⟨_,rfl⟩
 have two:Turned [] w W0:=hW0 ▸ ((Turned.refl [] w).alloc _).alloc _
 have recL:W0.heap[N+1]?=some (.loop (R .ready none)):=by
  have h:=World.alloc_heap_new (w.alloc (.deferred (some []))) (.loop (R .ready none))
  rw [World.size_alloc,hN] at h
  rw [←hW0]
  exact h
 have recD:W0.heap[N]?=some (.deferred (some [])):=by
  have h:=World.alloc_heap_new w (.deferred (some []))
  rw [hN] at h
  rw [←hW0]
  exact (Below.heap_alloc _ _ _ (by simp;omega)).trans h
 rw [hN] at hI hIx hAx hassign hbody hdone hstop hX hY
 have offX:∀k,N≤k→k ∉ X:=fun k hk hx=>by have:=hX k hx;omega
 have offY:∀k ∈ Y,k≠N+1:=fun k hk e=>by have:=hY k hk;omega
 have turnY:∀(W:World) (o:Obj),SameAt Y W (W.putObj (N+1) o):=fun W o k hk=>World.putObj_heap_other (offY k hk)
 have done:∀(jump:Option Code) (W:World) (st:LoopState),W.heap[N+1]?=some (.loop (R st none))→W.heap[N]?=some (.deferred (some []))→∀st',(W.putObj (N+1) (.loop (R st' jump))).heap[N+1]?=some (.loop (R st' jump))∧(W.putObj (N+1) (.loop (R st' jump))).heap[N]?=some (.deferred (some [])):=
  fun jump W st hl hd st'=>⟨World.putObj_heap_same (Array.getElem?_eq_some_iff.1 hl).1,(World.putObj_heap_other (by omega)).trans hd⟩
 refine⟨N+1,[{ target:= .collected N,args:= #[] }],W0, { target:= .fn (.func gf) lb,args:= #[.func (.yield (N+1)) #[] #[]] },W0,gf, #[.func (.yield (N+1)) #[] #[]]++lb,W0,?_,?_,?_,?_,fun _=>h1,?_⟩
 ·rw [←hW0,hR, ←hN]
  exact run_enterLoop_outer _ _ _ _ _
 ·simp only [resolve,hg]
  simp [go_sem]
 ·intro f' hf'
  simp [Target.leads] at hf'
  subst hf'
  exact hFg
 ·simp [invoke,go_sem,eg]
 refine (hseq (N+1) (fun xs W=>(I xs W∧W.heap[N+1]?=some (.loop (R .ready none)))∧W.heap[N]?=some (.deferred (some [])))
  (fun xs W=>∃c,(Ix c xs W∧W.heap[N+1]?=some (.loop (R .done (some c))))∧W.heap[N]?=some (.deferred (some []))) W0 two ?_ ?_ ⟨⟨hI _ _ _ h0 (Mild.of_turned (two.mono (fun k hk=>by simp at hk))),recL⟩,recD⟩).mono ?_
 ·
  rintro xs A B ⟨⟨hi,hl⟩,hd⟩ ht
  exact⟨⟨hI _ _ _ hi (Mild.of_turned ht),ht.same hl (offX _ (by omega))⟩,ht.same hd (offX _ (Nat.le_refl _))⟩
 ·
  rintro pre x A ⟨⟨hi,hl⟩,hd⟩ hsp
  have hy:=run_yield (P:=P) (args:=encs x) hl (by rw [hR];exact hps x)
  rw [hR] at hy
  refine⟨fn,_,assign,body,hy,roundIn_of_wpIn hfn (hassign _ pre x A _ hi ?_)⟩
  intro a' B hka hya hia hax
  have hlB:=hka.same _ _ (by omega) hl rfl
  have hdB:=hka.same _ _ (Nat.le_refl _) hd rfl
  refine⟨_,run_beginRound hlB (by rw [hR]),?_⟩
  have hbusy:({ R .ready none with state:= .busy } :Loop)=R .busy none:=by rw [hR,hR]
  rw [hbusy]
  obtain⟨hlC,hdC⟩:=done none B .ready hlB hdB .busy
  have mB:∀Z,Mild Z N B (B.putObj (N+1) (.loop (R .busy none))):=fun Z=>Mild.of_put hlB rfl (by omega) _
  refine wpIn_mono (hbody _ pre x a' _ (hI _ _ _ hia (mB X)) (hAx _ _ _ _ hax (mB [])) hsp) ?_
  have fin:∀(jump:Option Code) (C:World),KeepsFrom N (B.putObj (N+1) (.loop (R .busy none))) C→SameAt Y (B.putObj (N+1) (.loop (R .busy none))) C→
    (Instr.endRound (N+1) jump).run P C= .ok (.bool jump.isNone) (C.putObj (N+1) (.loop (R (if jump.isNone then .ready else .done) jump)))∧C.heap[N+1]?=some (.loop (R .busy none))∧C.heap[N]?=some (.deferred (some []))∧
    SameAt Y A (C.putObj (N+1) (.loop (R (if jump.isNone then .ready else .done) jump)))∧A.heap.size≤(C.putObj (N+1) (.loop (R (if jump.isNone then .ready else .done) jump))).heap.size:=by
   intro jump C hk hyc
   have hl3:=hk.same _ _ (by omega) hlC rfl
   have hr:=run_endRound (P:=P) jump hl3
   rw [hR] at hr
   refine⟨?_,hl3,hk.same _ _ (Nat.le_refl _) hdC rfl,((hya.trans (turnY B _)).trans hyc).trans (turnY C _),?_⟩
   ·rw [hR]
    exact hr
   ·have h3:=hka.size
    have h4:=hk.size
    simp at h4 ⊢
    omega
  rintro e a3 C hp
  cases e with
  |normal=>
   obtain⟨hk,hyc,hi3⟩:=hp
   obtain⟨hr,hl3,hd3,hyy,hsz⟩:=fin none C hk hyc
   obtain⟨e1,e2⟩:=done none C .busy hl3 hd3 .ready
   exact⟨_,_,hr,hyy,hsz, .inl ⟨rfl,⟨hI _ _ _ hi3 (Mild.of_put hl3 rfl (by omega) _),e1⟩,e2⟩⟩
  |ret=>
   obtain⟨hk,hyc,hi3⟩:=hp
   obtain⟨hr,hl3,hd3,hyy,hsz⟩:=fin (some .ret) C hk hyc
   obtain⟨e1,e2⟩:=done (some .ret) C .busy hl3 hd3 .done
   exact⟨_,_,hr,hyy,hsz, .inr ⟨rfl, .ret,⟨hIx _ _ _ _ hi3 (Mild.of_put hl3 rfl (by omega) _),e1⟩,e2⟩⟩
  |exit id=>
   obtain⟨hk,hyc,hi3⟩:=hp
   obtain⟨hr,hl3,hd3,hyy,hsz⟩:=fin (some (.exit id)) C hk hyc
   obtain⟨e1,e2⟩:=done (some (.exit id)) C .busy hl3 hd3 .done
   exact⟨_,_,hr,hyy,hsz, .inr ⟨rfl, .exit id,⟨hIx _ _ _ _ hi3 (Mild.of_put hl3 rfl (by omega) _),e1⟩,e2⟩⟩
  |goto t=>
   obtain⟨hk,hyc,hi3⟩:=hp
   obtain⟨hr,hl3,hd3,hyy,hsz⟩:=fin (some (.goto t)) C hk hyc
   obtain⟨e1,e2⟩:=done (some (.goto t)) C .busy hl3 hd3 .done
   exact⟨_,_,hr,hyy,hsz, .inr ⟨rfl, .goto t,⟨hIx _ _ _ _ hi3 (Mild.of_put hl3 rfl (by omega) _),e1⟩,e2⟩⟩
  |panic ch=>exact hp.elim
  |outgrown=>exact hp.elim
 ·
  rintro e W2 ⟨⟨v,rfl⟩,⟨xs,hs,⟨hi,hl⟩,hd⟩ |⟨xs,hs,c,⟨hi,hl⟩,hd⟩⟩
  ·have hr:=run_endLoop (P:=P) hl (by rw [hR];simp)
   rw [hR] at hr
   exact⟨none,_,hr,hdone _ xs _ (Nat.le_refl _) (hS _ _ _ hs (turnY W2 _)) (hI _ _ _ hi (Mild.of_put hl rfl (by omega) _)) ((World.putObj_heap_other (by omega)).trans hd)⟩
  ·have hr:=run_endLoop (P:=P) hl (by rw [hR];simp)
   rw [hR] at hr
   exact⟨some c,_,hr,hstop _ c xs _ (Nat.le_refl _) (hSx _ _ _ hs (turnY W2 _)) (hIx _ _ _ _ hi (Mild.of_put hl rfl (by omega) _)) ((World.putObj_heap_other (by omega)).trans hd)⟩
end Go.Proofs.Ytbfifglcnhfccaa
namespace Go.Proofs.Ytbfifglcnhfccaa
open Go
def noDefer (l:List Oper):Bool:=l.all fun o=>match o.op with| .defer _=>false|_=>true
theorem noDefer_spec {ops:Array Oper} (h:noDefer ops.toList=true) {i:Nat} {o:Oper} (hi:ops[i]?=some o):∀c,o.op≠ .defer c:=by
 intro c hc
 have h1:=List.all_eq_true.1 h o (by rw [←Array.getElem?_toList] at hi;exact List.mem_of_getElem? hi)
 rw [hc] at h1
 simp at h1
theorem Oper.wpIn_of_wp {P:Program} {o:Oper} {a:Act} {w:World} {K K':Act→World→Prop} {Q:Exit→Act→World→Prop} {l n:Nat} (hnd:∀c,o.op≠ .defer c) (hK:∀a w,K a w→K' a w)
  (h:o.wp P a w K Q):o.wpIn (Fence.wide.inRound l) n P a w K' Q:=by
 unfold Oper.wp at h
 unfold Oper.wpIn
 refine⟨fun _ _=>trivial,?_⟩
 rw [Oper.semAt_eq _ _ _ hnd]
 generalize (execOp a.eval o).run P w=r at*
 cases r with
 |ok x w'=>
  cases x<;>simp only [Oper.upon] at h<;>simp only [Oper.uponIn]
  case value v=>exact hK _ _ h
  case skip=>exact hK _ _ h
  case defer d=>exact hK _ _ h
  case enter f args=>
   refine⟨fun e=>by simp [Fence.wide] at e,CallsIn.inRound l (callsIn_wide.2 (h.mono ?_))⟩
   intro e w'' he
   cases e with
   |returned v=>exact hK _ _ he
   |panicked c=>exact he
   |outgrown=>exact he
  case row row args=>
   refine⟨fun e=>by simp [Fence.wide] at e,?_⟩
   have hr:RowsIn Fence.wide (n - 1) P row args w' (fun v w''=>K' (a.put o.dst v) w''):=fun c cs _=>let ⟨v,w'',r,s⟩:=h c cs;⟨v,w'',hK _ _ r,stepsIn_wide.2 s⟩
   exact hr
 |halt x w'=>
  cases x<;>simp only [Oper.upon] at h<;>simp only [Oper.uponIn]
  exact h
section
variable {P:Program} {ops:Array Oper} {md:Region.Mode} {Q:Exit→Act→World→Prop} {r n:Nat}
theorem wpOpIn_of_wpOp (hnd:noDefer ops.toList=true) (hQ:¬LetsOut Q) {i:Nat} {K K':Act→World→Prop} {a:Act} {w:World} (hK:∀a w,K a w→K' a w) (h:wpOp P ops Q i K a w):
  wpOpIn (Fence.wide.inRound r) n P ops Q i K' a w:=by
 unfold wpOp at h
 unfold wpOpIn
 cases ho:ops[i]? with
 |none=>simp only [ho] at h ⊢;exact hK _ _ h
 |some o=>
  simp only [ho] at h ⊢
  by_cases hw:Region.wanted o (yielded ops a.tmps)=true
  ·simp only [hw,if_true] at h ⊢
   rcases h with h|h
   ·exact Oper.wpIn_of_wp (noDefer_spec hnd ho) hK h
   ·exact absurd h.2 hQ
  ·simp only [hw] at h ⊢
   exact⟨fun _ _=>trivial,hK _ _ h⟩
theorem wpAnyIn_of_wpAny (hnd:noDefer ops.toList=true) (hQ:¬LetsOut Q):∀(fuel:Nat) (listed:Array Bool) (a:Act) (w:World),wpAny P md ops Q fuel listed a w→wpAnyIn (Fence.wide.inRound r) n P md ops Q fuel listed a w
 |0,_,_,_,h=>h
 |fuel+1,_,_,_,h=>⟨h.1,fun i hi=>wpOpIn_of_wpOp hnd hQ (fun a' w' h'=>wpAnyIn_of_wpAny hnd hQ fuel _ a' w' h') (h.2 i hi)⟩
end
theorem wpStill_of_quiet {P:Program} {ops:Array Oper} {W:World} {Q:Act→Prop} :∀(l:List Oper) (a:Act),wpQuiet P ops (fun w'=>w'=W) Q l a→wpStill P ops W Q l a
 |[],_,h=>h
 |o::l,a,h=>by
  unfold wpQuiet at h
  unfold wpStill
  by_cases hw:Region.wanted o (yielded ops a.tmps)=true
  ·simp only [hw,if_true] at h ⊢
   obtain⟨v,h1,h2⟩:=h
   have h3:=h1 W rfl
   have h4:=wpStill_of_quiet l _ h2
   unfold Oper.quietAt at h3
   unfold Oper.still
   generalize (execOp a.eval o).run P W=r at*
   cases r with
   |ok x w'=>
    cases x<;>simp only [Oper.quietUpon] at h3<;>simp only [Oper.stillUpon]
    case value u=>
     obtain⟨rfl,rfl⟩:=h3
     exact⟨rfl,h4⟩
    case skip=>
     obtain⟨rfl,rfl⟩:=h3
     exact⟨rfl,h4⟩
    case enter f args=>
     obtain⟨rfl,hc⟩:=h3
     exact⟨rfl,v,hc,h4⟩
   |halt x w'=>simp only [Oper.quietUpon] at h3
  ·simp only [hw] at h ⊢
   exact wpStill_of_quiet l _ h
theorem wpRound_tail {P:Program} {id r q:Nat} {Q:Exit→Act→World→Prop} {a:Act} {w:World} {l:List Oper} (n:Nat) (hnd:noDefer l=true) (hQ:¬LetsOut Q) (hm:P.follows .mixedOrders=true) (hB:Region.lexTailB .any l.toArray n=true)
  (h0:wpQuiet P l.toArray (fun w'=>w'=w.drew) (fun a'=>wpList P l.toArray Q (l.drop n) a' w.drew) (l.take n) a):(Code.region id l.toArray true).wpIn (Fence.wide.inRound r) q P Q a w:=by
 simp only [Region.lexTailB,Bool.and_eq_true,decide_eq_true_eq] at hB
 obtain⟨⟨⟨⟨hsel,hn⟩,hs⟩,hc⟩,hlex⟩:=hB
 have h:=wpStill_of_quiet _ _ h0
 have hn':n < l.length:=by simpa using hn
 have htl:(l.take n).length=n:=by simp;omega
 have hdl:(l.drop n).length=l.toArray.size - n:=by simp
 have inv:HeadInv .any l.toArray n (Array.replicate l.toArray.size false):=
  ⟨by simp,fun j oj _ hl=>(by rw [getD_replicate_false] at hl;cases hl),fun t _ ht=>getD_in (by simpa using ht) (getD_replicate_false _ _)⟩
 have H:=wpAnyL_lex (md:= .any) (g:=l.toArray.size - n) hsel hs hc hn (l.take n) 0 _ a (fun j hj=>by
  have hj':j < n:=by rw [htl] at hj;exact hj
  simp [hj']) (by simpa using htl) inv (by rw [htl];exact hlex) h
 refine wpIn_region_any hm (wpAnyIn_of_wpAny (by simpa using hnd) hQ _ _ _ _ ?_)
 have G:=wpAny_of_head (Q':=Q) (g:=l.toArray.size - n) (fun listed a' hL=>by
  have:=wpAny_of_seq (md:= .any) (Q':=Q) (l.drop n) n listed a' w.drew (fun j=>by simp [List.getElem?_drop]) (by rw [hdl];exact hL.1) hL.2
  rwa [hdl] at this) _ _ _ H
 rw [htl,show n+(l.toArray.size - n)=l.toArray.size by omega] at G
 exact G
end Go.Proofs.Ytbfifglcnhfccaa
namespace Go.Proofs.Ytbfifglcnhfccaa
open Go.RowKit
theorem cell1 {w:World} {b:Nat} {x:Value} {t:TypeId} (h:w.heap[b]?=some (.cells #[x] t (0,0))):w.cell? ⟨b,0,none⟩=some x:=by simp [World.cell?,h]
theorem Turned.mild {X Y:List Nat} {N:Nat} {w A B:World} (h:Turned Y w A) (m:Mild X N A B) (hN:w.heap.size≤N) (hX:∀k ∈ X,w.heap.size≤k):Turned Y w B:=
 ⟨m.os.trans h.os,m.tape.trans h.tape,m.output.trans h.output,Nat.le_trans h.size m.size,fun k hk hy=>by
   have h1:=h.block k hk hy
   have h2:A.heap[k]?=some (A.heap[k]'(by have:=h.size;omega)):=Array.getElem?_eq_getElem _
   rw [m.same k _ h2 (fun hx=>by have:=hX k hx;omega) (.inl (by omega)), ←h2,h1]⟩
theorem Mild.cells {X:List Nat} {N k:Nat} {A B:World} {cs:Array Value} {t:TypeId} {f:Nat×Nat} (m:Mild X N A B) (h:A.heap[k]?=some (.cells cs t f)) (hx:k ∉ X):B.heap[k]?=some (.cells cs t f):=m.same k _ h hx (.inr rfl)
theorem Turned.trans' {X Y:List Nat} {a b c:World} (h:Turned X a b) (g:Turned Y b c) (hs:∀k ∈ Y,a.heap.size≤k):Turned X a c:=h.trans g (fun k hk=> .inr (hs k hk))
theorem Turned.put {X:List Nat} {a b:World} (h:Turned X a b) {l:Nat} (hl:a.heap.size≤l) (o:Obj):Turned X a (b.putObj l o):=
 h.grown (grownBy_putObj' b l o) (fun k e=> .inr (by cases e;exact hl))
theorem LAt.mild {α:Type} {tS tE:TypeId} {k:Nat} {enc:α→List Value} {cs:Value→Array Value} {A B:World} {b:Nat} {Z X:List Nat} {N:Nat} {L:List α} (h:LAt tS tE k enc cs A b Z L) (m:Mild X N A B) (hd:∀k ∈ Z,k ∉ X):LAt tS tE k enc cs B b Z L:=by
 obtain⟨v,h1,h2,rfl⟩:=h
 refine⟨v,m.cells h1 (hd _ (by simp)),ownsRow_same h2 (fun k hk _=>?_),rfl⟩
 obtain⟨cur,hc⟩:=ownsRow_type h2 k hk
 rw [m.cells hc (hd k (List.mem_cons_of_mem _ hk)),hc]
theorem LAt.isCells {α:Type} {tS tE:TypeId} {k:Nat} {enc:α→List Value} {cs:Value→Array Value} {A:World} {b:Nat} {Z:List Nat} {L:List α} (h:LAt tS tE k enc cs A b Z L):∀k ∈ Z,∃c t,A.heap[k]?=some (.cells c t (0,0)):=by
 obtain⟨v,h1,h2,rfl⟩:=h
 intro k hk
 rcases List.mem_cons.1 hk with rfl|hk
 ·exact⟨_,_,h1⟩
 ·obtain⟨cur,hc⟩:=ownsRow_type h2 k hk
  exact⟨cur,_,hc⟩
theorem LAt.kinds {α:Type} {tS tE:TypeId} {k:Nat} {enc:α→List Value} {cs:Value→Array Value} {A:World} {b:Nat} {Z:List Nat} {L:List α} (h:LAt tS tE k enc cs A b Z L):∀k ∈ Z,(∃c,A.heap[k]?=some (.cells c tS (0,0)))∨(∃c,A.heap[k]?=some (.cells c tE (0,0))):=by
 obtain⟨v,h1,h2,rfl⟩:=h
 intro k hk
 rcases List.mem_cons.1 hk with rfl|hk
 ·exact .inl ⟨_,h1⟩
 ·obtain⟨cur,hc⟩:=ownsRow_type h2 k hk
  exact .inr ⟨cur,hc⟩
end Go.Proofs.Ytbfifglcnhfccaa
