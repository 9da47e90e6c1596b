/-
  The document's Pick, Due, Go.
  The document's Due.
  What holds of every queue, whatever is done to it. No program.
  Shares by weight, plainly, where costs are rounded down: who is, ahead of and behind a stretch, ahead of a floor by no more than a reach, has a fair share of the stretch's ticks. No program.
  Goes between which nothing is done, plainly: who has the ticks; the ticks are fair. No program.
  The document's Go.
  A loop over a function that turns memory of its own between two rounds, and may move to new memory: its contract, and the caller's law. No program.
  A loop over a function that leans on memory which nobody turns while it runs, and turns memory of its own, which may move. No program.
  What is to be said of the program's queues, for the laws of stage 16. (Made by gen_rqsaid.py.)
  The program's queue and the document's, side by side.
  Stage 16's arguments, opened to their cells.
  Bytes and arrays by value, opened.
  Sums of squares, and a measure, where one number gives to another: no program.
  Several queues plainly; no program.
  Several queues: what moving and balancing do; no program.
  Several queues in memory, apart; the document's cores.
-/
import Derived.Test.YtfmciiffcmfagaaGreatZAE
import Derived.Test.YtfmciiffcmfagaaGreatZAA
import Derived.Test.YtfmciiffcmfagaaGreatZAB
import Derived.Test.YtfmciiffcmfagaaGreatChecked
import Derived.Test.YtfmciiffcmfagaaGreatZAl
set_option maxRecDepth 100000
set_option maxHeartbeats 25600000
namespace Go.Proofs.YtfmciiffcmfagaaGreat
open Go.RowKit
def pickV (q:Rq):Int:=if 0≤q.cur then -1 else match leastQ q.ready with
 |none=> -1
 |some x=>x.1
theorem ready_nodup {q:Rq} (hu:(q.l.map (·.1)).Nodup):(q.ready.map (·.1)).Nodup:=(List.filter_sublist.map _).nodup hu
theorem pick_none {q:Rq} (hu:(q.l.map (·.1)).Nodup) (h:sortQ q.ready=[]):pickV q= -1∧q.pick=q:=by
 have hl:leastQ q.ready=none:=by rw [←sort_head (ready_nodup hu),h];rfl
 unfold pickV Rq.pick
 rw [hl]
 constructor
 ·split<;>rfl
 ·split<;>rfl
theorem pick_busy {q:Rq} (h:0≤q.cur):pickV q= -1∧q.pick=q:=⟨if_pos h,if_pos h⟩
theorem pick_some {q:Rq} (hu:(q.l.map (·.1)).Nodup) (hc:¬0≤q.cur) {x:Tk} {r:List Tk} (h:sortQ q.ready=x::r):pickV q=x.1∧q.pick= { q with cur:=x.1,ran:=0 } :=by
 have hl:leastQ q.ready=some x:=by rw [←sort_head (ready_nodup hu),h];rfl
 unfold pickV Rq.pick
 rw [if_neg hc,if_neg hc,hl]
 exact⟨rfl,rfl⟩
theorem rpick_any {w:World} {b:Nat} {X:List Nat} {q:Rq} (h:R16 w b X q) (hu:(q.l.map (·.1)).Nodup) (hL:q.l.length≤1000):
  Calls Tryz.prog 22 #[.pointer (some ⟨b,0,none⟩)] w fun e w'=>e= .returned (.int .i64 (pickV q))∧R16 w' b X q.pick∧Turned X w w':=by
 have HR:=xhd (rready_any h hL)
 have HQ:=xhd (fun V (hV:Below w.heap.size w V)=>h.below hV)
 have HB:=xhd (fun h0=>pick_busy (q:=q) h0)
 have HNO:=xhd (fun h0=>pick_none (q:=q) hu h0)
 have HSO:=xhd (fun hc (x:Tk) r h0=>pick_some (q:=q) hu hc (x:=x) (r:=r) h0)
 obtain⟨S,hS⟩:∃S,sortQ q.ready=S:=⟨_,rfl⟩
 rw [hS] at HR HNO HSO
 clear h hu hL hS
 go_enter Tryz.func22,Tryz.ntmps22
 go_wp2_with fail
 with_reducible refine HR.out.mono ?_
 rintro e V ⟨v,rfl,hrow,hb⟩
 have HQV:=xhd (HQ.out V hb)
 have HTV:=xhd (turned_below (X:=X) hb)
 have HROW:=xhd hrow
 obtain⟨v5,p1,p2,p3⟩:=HQV.out
 obtain⟨z0,z1,z2,c3,c4,cf⟩:=cells5q p1
 have f3:=cf 3
 have f4:=cf 4
 clear z0 z1 z2 p2 p3 p1 cf hb
 by_cases hc:0≤q.cur
 ·obtain⟨e1,e2⟩:=HB.out hc
  have HE1:=xhd e1
  have HE2:=xhd e2
  clear e1 e2
  obtain⟨cur,hcur⟩:∃c,q.cur=c:=⟨_,rfl⟩
  rw [hcur] at c3 hc
  clear hcur
  obtain⟨av,cv,rfl,_,_⟩:=ownsRow_shape hrow
  clear hrow
  go_wp2
  go_ret
  exact⟨by rw [HE1.out];rfl,by rw [HE2.out];exact HQV.out,HTV.out⟩
 ·have HC:Hid (¬0≤q.cur):=xhd hc
  obtain⟨cur,hcur⟩:∃c,q.cur=c:=⟨_,rfl⟩
  rw [hcur] at c3 hc
  clear hcur
  cases hSe:S with
  |nil=>
   obtain⟨e1,e2⟩:=HNO.out hSe
   have HE1:=xhd e1
   have HE2:=xhd e2
   subst hSe
   obtain⟨av,cv,rfl,_,_⟩:=ownsRow_shape hrow
   clear hrow e1 e2 HSO HNO
   simp only [List.length_nil]
   go_wp2
   go_ret
   exact⟨by rw [HE1.out];rfl,by rw [HE2.out];exact HQV.out,HTV.out⟩
  |cons x r=>
   obtain⟨e1,e2⟩:=HSO.out (by have:=HC.out;omega) x r hSe
   have HE1:=xhd e1
   have HE2:=xhd e2
   subst hSe
   obtain⟨g,cv,rfl,_,_⟩:=ownsRow_pos hrow (by simp)
   have rc:=row_cells encTk_len (L:=x::r) (ownsRow_base hrow (Nat.zero_le _)) (j:=0) (by simp)
   have r0:=(rc 0 (by omega)).1
   simp only [encTk,List.getElem_cons_zero,List.getElem?_cons_zero,Nat.zero_mul,Nat.add_zero] at r0
   have HS3:=HQV.out.setCur x.1
   have HS4:=HS3.1.setRan 0
   have HF:=xhd (And.intro HS4.1 (HS3.2.trans HS4.2 (Newer.refl _ _)))
   have HN1:Hid ((x::r).length=r.length+1):=xhd rfl
   obtain⟨n,hn⟩:∃n,(x::r).length=n:=⟨_,rfl⟩
   rw [hn] at HN1 ⊢
   have hn0:0 < n:=by have:=HN1.out;omega
   have hnz:(0:Int) < n:=by omega
   have hne:((n:Int) == 0)=false:=by simp;omega
   obtain⟨x1,x2,x3⟩:=x
   simp only at r0 HE1 HE2 HF
   clear hrow e1 e2 HSO HNO HS3 HS4 hn rc HN1 HROW
   go_wp2
   go_ret
   refine⟨by rw [HE1.out];rfl,by rw [HE2.out];exact HF.out.1,HTV.out.trans HF.out.2 (Newer.refl _ _)⟩
end Go.Proofs.YtfmciiffcmfagaaGreat
namespace Go.Proofs.YtfmciiffcmfagaaGreat
structure QOk (q:Rq) (c:Int):Prop where
 g:1≤q.g∧q.g≤8
 f:Word q.f
 ids:∀x ∈ q.l,0≤x.1
 uniq:(q.l.map (·.1)).Nodup
 wt:∀x ∈ q.l,1≤x.2.2∧x.2.2≤4096
 v:∀x ∈ q.l,Word x.2.1
 len:q.l.length≤16
 cur:0≤q.cur→∃x ∈ q.l,x.1=q.cur
 idle:q.cur < 0→q.cur= -1∧q.ran=0
 ran:0≤q.ran∧q.ran≤c
theorem sat_word {x:Int} (h:0≤x):Word (satV x):=by
 unfold satV Word
 split<;>omega
theorem clamp_word {v f r:Int} (hv:Word v) (hf:Word f) (hr:0≤r):Word (clampR v f r):=by
 have:=sat_word (x:=f+r) (by have:=hf.1;omega)
 unfold clampR
 split
 ·exact hf
 ·split
  ·exact this
  ·exact hv
section
variable {q:Rq} {c:Int}
theorem QOk.place (h:QOk q c) {v:Int} (hv:Word v) (w:Int):Word (q.place v w):=clamp_word hv h.f (reach_range w q.g).1
theorem QOk.later (h:QOk q c) {d:Int} (hd:c≤d):QOk q d:=⟨h.g,h.f,h.ids,h.uniq,h.wt,h.v,h.len,h.cur,h.idle,h.ran.1,by have:=h.ran.2;omega⟩
theorem QOk.new (grain:Int):QOk (Rq.new grain) 8:=by
 unfold Rq.new
 exact⟨bring_range (by decide),⟨by show (0:Int)≤0;omega,by show (0:Int)≤18446744073709551615;omega⟩,fun x hx=>(by cases hx),List.nodup_nil,fun x hx=>(by cases hx),fun x hx=>(by cases hx),Nat.zero_le _,fun h=>(by have:(0:Int)≤ -1:=h;omega),fun _=>⟨rfl,rfl⟩,by show (0:Int)≤0∧(0:Int)≤8;omega⟩
theorem QOk.add (h:QOk q c) (id:Int) {v:Int} (hv:Word v) (w:Int):QOk (q.add id v w) c:=by
 unfold Rq.add
 split
 ·exact h
 ·next hc=>
  have hw:=bring_range (n:=w) (lo:=1) (hi:=4096) (by decide)
  have hid:0≤id:=by omega
  have hnone:findQ q.l id=none:=by
   cases he:findQ q.l id with
   |none=>rfl
   |some x=>exact absurd (.inr (.inl (by rw [he];rfl))) hc
  have hne:=findQ_none hnone
  refine⟨h.g,h.f,?_,?_,?_,?_,?_,?_,h.idle,h.ran⟩
  ·intro x hx
   rcases List.mem_append.1 hx with hx|hx
   ·exact h.ids x hx
   ·simp at hx;subst hx;exact hid
  ·simp only [List.map_append,List.map_cons,List.map_nil]
   rw [List.nodup_append]
   refine⟨h.uniq,by simp,fun a ha b hb=>?_⟩
   obtain⟨x,hx,rfl⟩:=List.mem_map.1 ha
   simp at hb
   subst hb
   exact hne x hx
  ·intro x hx
   rcases List.mem_append.1 hx with hx|hx
   ·exact h.wt x hx
   ·simp at hx;subst hx;exact hw
  ·intro x hx
   rcases List.mem_append.1 hx with hx|hx
   ·exact h.v x hx
   ·simp at hx;subst hx;exact h.place hv _
  ·simp only [List.length_append,List.length_cons,List.length_nil]
   omega
  ·intro h0
   obtain⟨x,hx,e⟩:=h.cur h0
   exact⟨x,List.mem_append_left _ hx,e⟩
theorem QOk.remove (h:QOk q c) (id:Int):QOk (q.remove id) c:=by
 unfold Rq.remove
 split
 ·have sub:∀x ∈ q.l.filter (fun x=>decide (x.1≠id)),x ∈ q.l∧x.1≠id:=fun x hx=>by
    have:=List.mem_filter.1 hx
    exact⟨this.1,by simpa using this.2⟩
  refine⟨h.g,h.f,fun x hx=>h.ids x (sub x hx).1,(List.filter_sublist.map _).nodup h.uniq,fun x hx=>h.wt x (sub x hx).1,fun x hx=>h.v x (sub x hx).1,Nat.le_trans (List.length_filter_le _ _) h.len,?_,?_,?_⟩
  ·intro h0
   dsimp only at h0 ⊢
   by_cases hc:q.cur=id
   ·rw [if_pos hc] at h0
    omega
   ·rw [if_neg hc] at h0 ⊢
    obtain⟨x,hx,e⟩:=h.cur h0
    exact⟨x,List.mem_filter.2 ⟨hx,by simp;omega⟩,e⟩
  ·intro h0
   dsimp only at h0 ⊢
   by_cases hc:q.cur=id
   ·rw [if_pos hc,if_pos hc]
    exact⟨rfl,rfl⟩
   ·rw [if_neg hc] at h0
    rw [if_neg hc,if_neg hc]
    exact h.idle h0
  ·dsimp only
   have:=h.ran
   split<;>omega
 ·exact h
theorem QOk.weigh (h:QOk q c) (hc:8≤c) (id w:Int):QOk (q.weigh id w) c:=by
 unfold Rq.weigh
 cases he:findQ q.l id with
 |none=>exact h
 |some x0=>
  have hm:=findQ_mem he
  have hid:=h.ids _ hm
  have hw:=bring_range (n:=w) (lo:=1) (hi:=4096) (by decide)
  generalize bringR w 1 4096=w' at hw
  have get:∀x ∈ q.l.map (fun y=>if y.1=id then (y.1,q.place y.2.1 w',w') else y),∃y ∈ q.l,x.1=y.1∧((y.1=id∧x=(y.1,q.place y.2.1 w',w'))∨(y.1≠id∧x=y)):=fun x hx=>by
   obtain⟨y,hy,rfl⟩:=List.mem_map.1 hx
   by_cases hc:y.1=id
   ·rw [if_pos hc]
    exact⟨y,hy,rfl, .inl ⟨hc,rfl⟩⟩
   ·rw [if_neg hc]
    exact⟨y,hy,rfl, .inr ⟨hc,rfl⟩⟩
  have names:(q.l.map (fun y=>if y.1=id then (y.1,q.place y.2.1 w',w') else y)).map (·.1)=q.l.map (·.1):=by
   rw [List.map_map]
   refine List.map_congr_left fun y _=>?_
   simp only [Function.comp]
   split<;>rfl
  refine⟨h.g,h.f,?_,?_,?_,?_,?_,?_,?_,?_⟩
  ·intro x hx
   obtain⟨y,hy,e,_⟩:=get x hx
   rw [e]
   exact h.ids y hy
  ·show (List.map _ (List.map _ q.l)).Nodup
   rw [names]
   exact h.uniq
  ·intro x hx
   obtain⟨y,hy,_,⟨_,rfl⟩ |⟨_,rfl⟩⟩:=get x hx
   ·exact hw
   ·exact h.wt _ hy
  ·intro x hx
   obtain⟨y,hy,_,⟨_,rfl⟩ |⟨_,rfl⟩⟩:=get x hx
   ·exact h.place (h.v _ hy) _
   ·exact h.v _ hy
  ·rw [List.length_map]
   exact h.len
  ·intro h0
   obtain⟨y,hy,e⟩:=h.cur h0
   by_cases hc:y.1=id
   ·exact⟨(y.1,q.place y.2.1 w',w'),List.mem_map.2 ⟨y,hy,by rw [if_pos hc]⟩,e⟩
   ·exact⟨y,List.mem_map.2 ⟨y,hy,by rw [if_neg hc]⟩,e⟩
  ·intro h0
   dsimp only at h0 ⊢
   obtain⟨e1,e2⟩:=h.idle h0
   have:¬(x0.2≠w'∧q.cur=id):=fun hh=>by have:=hh.2;simp only at hid;omega
   rw [if_neg this]
   exact⟨e1,e2⟩
  ·dsimp only
   have:=h.ran
   have:=h.g
   split<;>omega
theorem QOk.back (h:QOk q c):QOk q.back c:=by
 refine⟨h.g,h.f,h.ids,h.uniq,h.wt,h.v,h.len,fun h0=>?_,fun _=>⟨rfl,rfl⟩,?_⟩
 ·have:(0:Int)≤ -1:=h0
  omega
 ·have:=h.ran
  show (0:Int)≤0∧(0:Int)≤c
  omega
theorem QOk.pick (h:QOk q c):QOk q.pick c:=by
 unfold Rq.pick
 split
 ·exact h
 ·next hc=>
  cases hl:leastQ q.ready with
  |none=>exact h
  |some x=>
   have hx:=(leastQ_le hl).1
   have hxl:x ∈ q.l:=(List.mem_filter.1 hx).1
   have h0:=h.ids x hxl
   refine⟨h.g,h.f,h.ids,h.uniq,h.wt,h.v,h.len,fun _=>⟨x,hxl,rfl⟩,fun h1=>?_,?_⟩
   ·have:x.1 < 0:=h1
    omega
   ·have:=h.ran
    show (0:Int)≤0∧(0:Int)≤c
    omega
theorem QOk.tick (h:QOk q c):QOk q.tick (c+1):=by
 unfold Rq.tick
 split
 ·next hc=>
  have get:∀x ∈ q.l.map (tickT q.cur),∃y ∈ q.l,x.1=y.1∧x.2.2=y.2.2∧(x.2.1=satV (y.2.1+coreR y.2.2)∨x.2.1=y.2.1):=fun x hx=>by
   obtain⟨y,hy,rfl⟩:=List.mem_map.1 hx
   refine⟨y,hy,?_⟩
   unfold tickT
   split
   ·exact⟨rfl,rfl, .inl rfl⟩
   ·exact⟨rfl,rfl, .inr rfl⟩
  refine⟨h.g,h.f,?_,?_,?_,?_,?_,?_,fun h1=>?_,?_⟩
  ·intro x hx
   obtain⟨y,hy,e,_⟩:=get x hx
   rw [e]
   exact h.ids y hy
  ·show (List.map _ (List.map _ q.l)).Nodup
   rw [List.map_map]
   have:List.map ((fun x=>x.1) ∘ tickT q.cur) q.l=q.l.map (·.1):=List.map_congr_left fun y _=>by
    simp only [Function.comp]
    unfold tickT
    split<;>rfl
   rw [this]
   exact h.uniq
  ·intro x hx
   obtain⟨y,hy,_,e,_⟩:=get x hx
   rw [e]
   exact h.wt y hy
  ·intro x hx
   obtain⟨y,hy,_,_,e|e⟩:=get x hx
   ·rw [e]
    exact sat_word (by have:=(h.v y hy).1;have:=core_range y.2.2;omega)
   ·rw [e]
    exact h.v y hy
  ·rw [List.length_map]
   exact h.len
  ·intro h0
   obtain⟨y,hy,e⟩:=h.cur h0
   refine⟨tickT q.cur y,List.mem_map.2 ⟨y,hy,rfl⟩,?_⟩
   unfold tickT
   split<;>exact e
  ·have:q.cur < 0:=h1
   omega
  ·have:=h.ran
   show (0:Int)≤q.ran+1∧q.ran+1≤c+1
   omega
 ·exact h.later (by omega)
theorem minQ_word:∀(l:List (Int×Int×Int)) {m:Int},Word m→(∀x ∈ l,Word x.2.1)→Word (minQ l m)
 |[],_,h,_=>h
 |x::l,m,h,hl=>by
  unfold minQ
  refine minQ_word l ?_ (fun y hy=>hl y (by simp [hy]))
  split
  ·exact hl x (by simp)
  ·exact h
theorem QOk.settle (h:QOk q c):QOk q.settle c:=by
 obtain⟨_,e2,e3,e4,e5⟩:=settle_ge q
 have hf:Word q.settle.f:=by
  have hv:=h.v
  unfold Rq.settle
  cases hl:q.l with
  |nil=>exact h.f
  |cons x l=>
   rw [hl] at hv
   dsimp only
   split
   ·exact minQ_word l (hv x (by simp)) (fun y hy=>hv y (by simp [hy]))
   ·exact h.f
 exact⟨by rw [e2];exact h.g,hf,by rw [e3];exact h.ids,by rw [e3];exact h.uniq,by rw [e3];exact h.wt,by rw [e3];exact h.v,by rw [e3];exact h.len,by rw [e3,e4];exact h.cur,by rw [e4,e5];exact h.idle,by rw [e5];exact h.ran⟩
end
end Go.Proofs.YtfmciiffcmfagaaGreat
namespace Go.Proofs.YtfmciiffcmfagaaGreat
end Go.Proofs.YtfmciiffcmfagaaGreat
namespace Go.Proofs.YtfmciiffcmfagaaGreat
open Go.RowKit
theorem R16.later {w w':World} {b:Nat} {X:List Nat} {q:Rq} (h:R16 w b X q) (hb:Below w.heap.size w w'):R16 w' b X q:=h.below hb
end Go.Proofs.YtfmciiffcmfagaaGreat
namespace Go.Proofs.YtfmciiffcmfagaaGreat
open Go.RowKit
def TurnSeqZ {α:Type} (F:Fence) (n:Nat) (P:Program) (g:Nat) (lb:Array Value) (encs:α→Array Value) (X:List Nat) (Sp:List α→Prop) (S Sx:List α→List Nat→World→Prop) (w:World):Prop:=
 ∀(l:Nat) (J Jx:List α→List Nat→World→Prop) (W:World),Turned [] w W→(∀xs Z Z' A B,J xs Z A→Turned Z A B→Newer Z A.heap.size Z'→(∀k ∈ Z',k < B.heap.size)→J xs Z' B)→(∀xs Z Z' A B,Jx xs Z A→Turned Z A B→Newer Z A.heap.size Z'→(∀k ∈ Z',k < B.heap.size)→Jx xs Z' B)→
  (∀pre x Z A,J pre Z A→Sp (pre++[x])→YieldAt F (n - 1) P l (encs x) A fun e B=>
    SameAt Z A B∧A.heap.size≤B.heap.size∧((e= .returned (.bool true)∧J (pre++[x]) Z B)∨(e= .returned (.bool false)∧Jx (pre++[x]) Z B)))→
  J [] X W→
  CallsIn F n P g (#[.func (.yield l) #[] #[]]++lb) W fun e W'=>(∃v,e= .returned v)∧((∃xs Z,S xs Z W'∧J xs Z W')∨(∃xs Z,Sx xs Z W'∧Jx xs Z W'))
variable {F:Fence} {n:Nat} {P:Program}
theorem TurnSeq.z {α:Type} {g:Nat} {lb:Array Value} {encs:α→Array Value} {X Y:List Nat} {Sp:List α→Prop} {S Sx:List α→World→Prop} {w:World} (h:TurnSeq F n P g lb encs X Y Sp S Sx w) (hXY:∀k ∈ X++Y,k < w.heap.size):
  TurnSeqZ F n P g lb encs (X++Y) Sp (fun xs Z W=>Z=X++Y∧S xs W) (fun xs Z W=>Z=X++Y∧Sx xs W) w:=by
 intro l J Jx W hW hJ _ hY hj
 have hb:∀A B:World,w.heap.size≤A.heap.size→Turned X A B→∀k ∈ X++Y,k < B.heap.size:=fun A B hA ht k hk=>by have:=hXY k hk;have:=ht.size;omega
 refine (h l (fun xs A=>J xs (X++Y) A∧w.heap.size≤A.heap.size) (fun xs A=>Jx xs (X++Y) A) W hW (fun xs A B hj ht=>⟨hJ xs _ _ A B hj.1 (ht.mono (fun k hk=> .inl (List.mem_append_left _ hk))) (Newer.refl _ _) (hb A B hj.2 ht),Nat.le_trans hj.2 ht.size⟩) (fun pre x A hj hsp=>?_) ⟨hj,hW.size⟩).mono ?_
 ·obtain⟨fn,tmps,asg,bd,hy,hR⟩:=hY pre x _ A hj.1 hsp
  refine⟨fn,tmps,asg,bd,hy,hR.mono ?_⟩
  rintro e B ⟨hs,hz,hr⟩
  refine⟨fun k hk=>hs k (List.mem_append_right _ hk),hz,?_⟩
  rcases hr with⟨h1,h2⟩ |hr
  ·exact .inl ⟨h1,h2,Nat.le_trans hj.2 hz⟩
  ·exact .inr hr
 ·rintro e W' ⟨hv,⟨xs,h1,h2,_⟩ |⟨xs,h1,h2⟩⟩
  ·exact⟨hv, .inl ⟨xs,_,⟨rfl,h1⟩,h2⟩⟩
  ·exact⟨hv, .inr ⟨xs,_,⟨rfl,h1⟩,h2⟩⟩
end Go.Proofs.YtfmciiffcmfagaaGreat
namespace Go.Proofs.YtfmciiffcmfagaaGreat
open Go.RowKit
def TurnSeqY {α:Type} (F:Fence) (n:Nat) (P:Program) (g:Nat) (lb:Array Value) (encs:α→Array Value) (Y X:List Nat) (Sp:List α→Prop) (S Sx:List α→List Nat→World→Prop) (w:World):Prop:=
 ∀(l:Nat) (J Jx:List α→List Nat→World→Prop) (W:World),Turned [] w W→(∀xs Z A,J xs Z A→SameAt Y W A)→(∀xs Z A,Jx xs Z A→SameAt Y W A)→(∀xs Z Z' A B,J xs Z A→Turned Z A B→Newer Z A.heap.size Z'→(∀k ∈ Z',k < B.heap.size)→J xs Z' B)→(∀xs Z Z' A B,Jx xs Z A→Turned Z A B→Newer Z A.heap.size Z'→(∀k ∈ Z',k < B.heap.size)→Jx xs Z' B)→
  (∀pre x Z A,J pre Z A→Sp (pre++[x])→YieldAt F (n - 1) P l (encs x) A fun e B=>
    SameAt Z A B∧A.heap.size≤B.heap.size∧((e= .returned (.bool true)∧J (pre++[x]) Z B)∨(e= .returned (.bool false)∧Jx (pre++[x]) Z B)))→
  J [] X W→
  CallsIn F n P g (#[.func (.yield l) #[] #[]]++lb) W fun e W'=>(∃v,e= .returned v)∧((∃xs Z,S xs Z W'∧J xs Z W')∨(∃xs Z,Sx xs Z W'∧Jx xs Z W'))
variable {F:Fence} {n:Nat} {P:Program}
theorem range_turnsY {α:Type} {g:Operand} {ps:Array Tmp} {assign body:Code} {Q:Exit→Act→World→Prop} {a:Act} {w:World}
  (hro:F.round=none) (h1:1≤n) {gf:Nat} {lb:Array Value} (hg:a.eval g= .func (.func gf) #[] lb) (hFg:F.fn gf) (eg:∀args w,(callFunc gf args).run P w= .ok (.enter gf args) w)
  {encs:α→Array Value} {Y X:List Nat} {Sp:List α→Prop} {S Sx:List α→List Nat→World→Prop} (hX:∀k ∈ X,k < w.heap.size) (hYl:∀k ∈ Y,k < w.heap.size)
  (hseq:TurnSeqY F (n - 1) P gf lb encs Y X Sp S Sx w) (hps:∀x,(encs x).size=ps.size)
  (hS:∀xs Z A B,S xs Z A→SameAt Z A B→S xs Z B) (hSx:∀xs Z A B,Sx xs Z A→SameAt Z A B→Sx xs Z B)
  (I:List α→List Nat→World→Prop) (Ix:Code→List α→List Nat→World→Prop) (hI:∀xs Z Z' A B,I xs Z A→Mild Z w.heap.size A B→Newer Z A.heap.size Z'→(∀k ∈ Z',k < B.heap.size)→I xs Z' B)
  (hIx:∀c xs Z Z' A B,Ix c xs Z A→Mild Z w.heap.size A B→Newer Z A.heap.size Z'→(∀k ∈ Z',k < B.heap.size)→Ix c xs Z' B) (h0:I [] X w) (hIY:∀xs Z W,I xs Z W→SameAt Y w W) (hIxY:∀c xs Z W,Ix c xs Z W→SameAt Y w W)
  (Ax:α→Act→World→Prop) (hAx:∀x a' A B,Ax x a' A→Mild [] w.heap.size A B→Ax x a' B)
  (hassign:∀(l:Nat) (pre:List α) (x:α) (Z:List Nat) (W:World) (K:Act→World→Prop),I pre Z W→(∀a' W',KeepsFrom w.heap.size W W'→SameAt Z W W'→I pre Z W'→Ax x a' W'→K a' W')→
    assign.wpIn (F.inRound l) (n - 1 - 1) P (Exit.then K (fun _ _ _=>False)) { tmps:=(ps.zip (encs x)).foldl (fun t (p,v)=>t.setIfInBounds p v) a.tmps,defers:=[] } W)
  (hbody:∀(l:Nat) (pre:List α) (x:α) (Z:List Nat) (a':Act) (W:World),I pre Z W→Ax x a' W→Sp (pre++[x])→body.wpIn (F.inRound l) (n - 1 - 1) P (leftPost w.heap.size Z (fun xs V=>I xs Z V) (fun c xs V=>Ix c xs Z V) (pre++[x]) W) a' W)
  (hdone:∀(D:Nat) (xs:List α) (Z:List Nat) (W:World),w.heap.size≤D→(∀k ∈ Z,k≠D)→S xs Z W→I xs Z W→W.heap[D]?=some (.deferred (some []))→Q .normal { a with defers:= { target:= .collected D,args:= #[] } ::a.defers } W)
  (hstop:∀(D:Nat) (c:Code) (xs:List α) (Z:List Nat) (W:World),w.heap.size≤D→(∀k ∈ Z,k≠D)→Sx xs Z W→Ix c xs Z W→W.heap[D]?=some (.deferred (some []))→c.wpIn F n P Q { a with defers:= { target:= .collected D,args:= #[] } ::a.defers } W):
  (Code.rangeFunc g ps assign body).wpIn F n P Q a w:=by
 refine wpIn_rangeFunc fun fn hfn=>?_
 rw [hro]
 obtain⟨N,hN⟩:∃N,w.heap.size=N:=⟨_,rfl⟩
 obtain⟨R,hR⟩:∃R:LoopState→Option Code→Loop,∀st pe,R st pe= { state:=st,pending:=pe,fn,tmps:=a.tmps,params:=ps,assign,body,defers:=N } :=⟨_,fun _ _=>rfl⟩
 obtain⟨W0,hW0⟩:∃W0,(w.alloc (.deferred (some []))).alloc (.loop (R .ready none))=W0:=⟨_,rfl⟩
 have two:Turned [] w W0:=hW0 ▸ ((Turned.refl [] w).alloc _).alloc _
 have recL:W0.heap[N+1]?=some (.loop (R .ready none)):=by
  have h:=World.alloc_heap_new (w.alloc (.deferred (some []))) (.loop (R .ready none))
  rw [World.size_alloc,hN] at h
  rw [←hW0]
  exact h
 have recD:W0.heap[N]?=some (.deferred (some [])):=by
  have h:=World.alloc_heap_new w (.deferred (some []))
  rw [hN] at h
  rw [←hW0]
  exact (Below.heap_alloc _ _ _ (by simp;omega)).trans h
 rw [hN] at hI hIx hAx hassign hbody hdone hstop hX
 have hsW0:N+2≤W0.heap.size:=(Array.getElem?_eq_some_iff.1 recL).1
 have offX:∀k ∈ X,(k≠N∧k≠N+1)∧k < W0.heap.size:=fun k hk=>by have:=hX k hk;omega
 have turnZ:∀(Z:List Nat) (W:World) (o:Obj),(∀k ∈ Z,(k≠N∧k≠N+1))→SameAt Z W (W.putObj (N+1) o):=fun Z W o hz k hk=>World.putObj_heap_other (hz k hk).2
 have done:∀(jump:Option Code) (W:World) (st:LoopState),W.heap[N+1]?=some (.loop (R st none))→W.heap[N]?=some (.deferred (some []))→∀st',(W.putObj (N+1) (.loop (R st' jump))).heap[N+1]?=some (.loop (R st' jump))∧(W.putObj (N+1) (.loop (R st' jump))).heap[N]?=some (.deferred (some [])):=
  fun jump W st hl hd st'=>⟨World.putObj_heap_same (Array.getElem?_eq_some_iff.1 hl).1,(World.putObj_heap_other (by omega)).trans hd⟩
 refine⟨N+1,[{ target:= .collected N,args:= #[] }],W0, { target:= .fn (.func gf) lb,args:= #[.func (.yield (N+1)) #[] #[]] },W0,gf, #[.func (.yield (N+1)) #[] #[]]++lb,W0,?_,?_,?_,?_,fun _=>h1,?_⟩
 ·rw [←hW0,hR, ←hN]
  exact run_enterLoop_outer _ _ _ _ _
 ·simp only [resolve,hg]
  simp [go_sem]
 ·intro f' hf'
  simp [Target.leads] at hf'
  subst hf'
  exact hFg
 ·simp [invoke,go_sem,eg]
 have hIx':∀c xs Z A B,Ix c xs Z A→(∀k ∈ Z,k < A.heap.size)→Mild Z N A B→Ix c xs Z B:=fun c xs Z A B h hz m=>hIx c xs Z Z A B h m (Newer.refl _ _) (fun k hk=>Nat.lt_of_lt_of_le (hz k hk) m.size)
 have hI':∀xs Z A B,I xs Z A→(∀k ∈ Z,k < A.heap.size)→Mild Z N A B→I xs Z B:=fun xs Z A B h hz m=>hI xs Z Z A B h m (Newer.refl _ _) (fun k hk=>Nat.lt_of_lt_of_le (hz k hk) m.size)
 refine (hseq (N+1) (fun xs Z W=>((I xs Z W∧W.heap[N+1]?=some (.loop (R .ready none)))∧W.heap[N]?=some (.deferred (some [])))∧∀k ∈ Z,(k≠N∧k≠N+1)∧k < W.heap.size)
  (fun xs Z W=>(∃c,(Ix c xs Z W∧W.heap[N+1]?=some (.loop (R .done (some c))))∧W.heap[N]?=some (.deferred (some [])))∧∀k ∈ Z,(k≠N∧k≠N+1)∧k < W.heap.size) W0 two (fun xs Z A h k hk=>(hIY _ _ _ h.1.1.1 k hk).trans (two.block k (hYl k hk) (by simp)).symm) (fun xs Z A h k hk=>by
    obtain⟨⟨c,⟨hi,_⟩,_⟩,_⟩:=h
    exact (hIxY _ _ _ _ hi k hk).trans (two.block k (hYl k hk) (by simp)).symm) ?_ ?_ ?_ ⟨⟨⟨hI' _ _ _ _ h0 (hN ▸ hX) (Mild.of_turned (two.mono (fun k hk=>by simp at hk))),recL⟩,recD⟩,offX⟩).mono ?_
 ·
  rintro xs Z Z' A B ⟨⟨⟨hi,hl⟩,hd⟩,hz⟩ ht hnew hub
  have hsz:N+1 < A.heap.size:=(Array.getElem?_eq_some_iff.1 hl).1
  exact⟨⟨⟨hI _ _ _ _ _ hi (Mild.of_turned ht) hnew hub,ht.same hl (fun hx=>(hz _ hx).1.2 rfl)⟩,ht.same hd (fun hx=>(hz _ hx).1.1 rfl)⟩,fun k hk=>by
   have hk':=hub k hk
   rcases hnew k hk with h|h
   ·exact⟨(hz k h).1,hk'⟩
   ·omega⟩
 ·rintro xs Z Z' A B ⟨⟨c,⟨hi,hl⟩,hd⟩,hz⟩ ht hnew hub
  have hsz:N+1 < A.heap.size:=(Array.getElem?_eq_some_iff.1 hl).1
  exact⟨⟨c,⟨hIx _ _ _ _ _ _ hi (Mild.of_turned ht) hnew hub,ht.same hl (fun hx=>(hz _ hx).1.2 rfl)⟩,ht.same hd (fun hx=>(hz _ hx).1.1 rfl)⟩,fun k hk=>by
   have hk':=hub k hk
   rcases hnew k hk with h|h
   ·exact⟨(hz k h).1,hk'⟩
   ·omega⟩
 ·
  rintro pre x Z A ⟨⟨⟨hi,hl⟩,hd⟩,hz⟩ hsp
  have hy:=run_yield (P:=P) (args:=encs x) hl (by rw [hR];exact hps x)
  rw [hR] at hy
  refine⟨fn,_,assign,body,hy,roundIn_of_wpIn hfn (hassign _ pre x Z A _ hi ?_)⟩
  intro a' B hka hya hia hax
  have hlB:=hka.same _ _ (by omega) hl rfl
  have hdB:=hka.same _ _ (Nat.le_refl _) hd rfl
  refine⟨_,run_beginRound hlB (by rw [hR]),?_⟩
  have hbusy:({ R .ready none with state:= .busy } :Loop)=R .busy none:=by rw [hR,hR]
  rw [hbusy]
  obtain⟨hlC,hdC⟩:=done none B .ready hlB hdB .busy
  have mB:∀Y,Mild Y N B (B.putObj (N+1) (.loop (R .busy none))):=fun Y=>Mild.of_put hlB rfl (by omega) _
  have hzo:∀k ∈ Z,k≠N∧k≠N+1:=fun k hk=>(hz k hk).1
  have hzA:∀k ∈ Z,k < A.heap.size:=fun k hk=>(hz k hk).2
  have hzB:∀k ∈ Z,k < B.heap.size:=fun k hk=>Nat.lt_of_lt_of_le (hzA k hk) hka.size
  refine wpIn_mono (hbody _ pre x Z a' _ (hI' _ _ _ _ hia hzB (mB Z)) (hAx _ _ _ _ hax (mB [])) hsp) ?_
  have fin:∀(jump:Option Code) (C:World),KeepsFrom N (B.putObj (N+1) (.loop (R .busy none))) C→SameAt Z (B.putObj (N+1) (.loop (R .busy none))) C→
    (Instr.endRound (N+1) jump).run P C= .ok (.bool jump.isNone) (C.putObj (N+1) (.loop (R (if jump.isNone then .ready else .done) jump)))∧C.heap[N+1]?=some (.loop (R .busy none))∧C.heap[N]?=some (.deferred (some []))∧
    SameAt Z A (C.putObj (N+1) (.loop (R (if jump.isNone then .ready else .done) jump)))∧A.heap.size≤(C.putObj (N+1) (.loop (R (if jump.isNone then .ready else .done) jump))).heap.size:=by
   intro jump C hk hyc
   have hl3:=hk.same _ _ (by omega) hlC rfl
   have hr:=run_endRound (P:=P) jump hl3
   rw [hR] at hr
   refine⟨?_,hl3,hk.same _ _ (Nat.le_refl _) hdC rfl,((hya.trans (turnZ Z B _ hzo)).trans hyc).trans (turnZ Z C _ hzo),?_⟩
   ·rw [hR]
    exact hr
   ·have h3:=hka.size
    have h4:=hk.size
    simp at h4 ⊢
    omega
  rintro e a3 C hp
  cases e with
  |normal=>
   obtain⟨hk,hyc,hi3⟩:=hp
   obtain⟨hr,hl3,hd3,hyy,hsz⟩:=fin none C hk hyc
   obtain⟨e1,e2⟩:=done none C .busy hl3 hd3 .ready
   exact⟨_,_,hr,hyy,hsz, .inl ⟨rfl,⟨⟨hI' _ _ _ _ hi3 (fun k hk'=>by have:=hzB k hk';have:=hk.size;simp at this;omega) (Mild.of_put hl3 rfl (by omega) _),e1⟩,e2⟩,fun k hk'=>⟨hzo k hk',Nat.lt_of_lt_of_le (hzA k hk') hsz⟩⟩⟩
  |ret=>
   obtain⟨hk,hyc,hi3⟩:=hp
   obtain⟨hr,hl3,hd3,hyy,hsz⟩:=fin (some .ret) C hk hyc
   obtain⟨e1,e2⟩:=done (some .ret) C .busy hl3 hd3 .done
   exact⟨_,_,hr,hyy,hsz, .inr ⟨rfl,⟨.ret,⟨hIx' _ _ _ _ _ hi3 (fun k hk'=>by have:=hzB k hk';have:=hk.size;simp at this;omega) (Mild.of_put hl3 rfl (by omega) _),e1⟩,e2⟩,fun k hk'=>⟨hzo k hk',Nat.lt_of_lt_of_le (hzA k hk') hsz⟩⟩⟩
  |exit id=>
   obtain⟨hk,hyc,hi3⟩:=hp
   obtain⟨hr,hl3,hd3,hyy,hsz⟩:=fin (some (.exit id)) C hk hyc
   obtain⟨e1,e2⟩:=done (some (.exit id)) C .busy hl3 hd3 .done
   exact⟨_,_,hr,hyy,hsz, .inr ⟨rfl,⟨.exit id,⟨hIx' _ _ _ _ _ hi3 (fun k hk'=>by have:=hzB k hk';have:=hk.size;simp at this;omega) (Mild.of_put hl3 rfl (by omega) _),e1⟩,e2⟩,fun k hk'=>⟨hzo k hk',Nat.lt_of_lt_of_le (hzA k hk') hsz⟩⟩⟩
  |goto t=>
   obtain⟨hk,hyc,hi3⟩:=hp
   obtain⟨hr,hl3,hd3,hyy,hsz⟩:=fin (some (.goto t)) C hk hyc
   obtain⟨e1,e2⟩:=done (some (.goto t)) C .busy hl3 hd3 .done
   exact⟨_,_,hr,hyy,hsz, .inr ⟨rfl,⟨.goto t,⟨hIx' _ _ _ _ _ hi3 (fun k hk'=>by have:=hzB k hk';have:=hk.size;simp at this;omega) (Mild.of_put hl3 rfl (by omega) _),e1⟩,e2⟩,fun k hk'=>⟨hzo k hk',Nat.lt_of_lt_of_le (hzA k hk') hsz⟩⟩⟩
  |panic ch=>exact hp.elim
  |outgrown=>exact hp.elim
 ·
  rintro e W2 ⟨⟨v,rfl⟩,⟨xs,Z,hs,⟨⟨hi,hl⟩,hd⟩,hz⟩ |⟨xs,Z,hs,⟨c,⟨hi,hl⟩,hd⟩,hz⟩⟩
  ·have hr:=run_endLoop (P:=P) hl (by rw [hR];simp)
   rw [hR] at hr
   exact⟨none,_,hr,hdone _ xs Z _ (Nat.le_refl _) (fun k hk=>(hz k hk).1.1) (hS _ _ _ _ hs (turnZ Z W2 _ (fun k hk=>(hz k hk).1))) (hI' _ _ _ _ hi (fun k hk=>(hz k hk).2) (Mild.of_put hl rfl (by omega) _)) ((World.putObj_heap_other (by omega)).trans hd)⟩
  ·have hr:=run_endLoop (P:=P) hl (by rw [hR];simp)
   rw [hR] at hr
   exact⟨some c,_,hr,hstop _ c xs Z _ (Nat.le_refl _) (fun k hk=>(hz k hk).1.1) (hSx _ _ _ _ hs (turnZ Z W2 _ (fun k hk=>(hz k hk).1))) (hIx' _ _ _ _ _ hi (fun k hk=>(hz k hk).2) (Mild.of_put hl rfl (by omega) _)) ((World.putObj_heap_other (by omega)).trans hd)⟩
theorem range_turnsY_plain {α:Type} {g:Operand} {ps:Array Tmp} {assign body:Code} {Q:Exit→Act→World→Prop} {a:Act} {w:World}
  (hro:F.round=none) (h1:1≤n) {gf:Nat} {lb:Array Value} (hg:a.eval g= .func (.func gf) #[] lb) (hFg:F.fn gf) (eg:∀args w,(callFunc gf args).run P w= .ok (.enter gf args) w)
  {encs:α→Array Value} {Y X:List Nat} {Sp:List α→Prop} {S Sx:List α→List Nat→World→Prop} (hX:∀k ∈ X,k < w.heap.size) (hYl:∀k ∈ Y,k < w.heap.size)
  (hseq:TurnSeqY F (n - 1) P gf lb encs Y X Sp S Sx w) (hps:∀x,(encs x).size=ps.size)
  (hS:∀xs Z A B,S xs Z A→SameAt Z A B→S xs Z B) (hSx:∀xs Z A B,Sx xs Z A→SameAt Z A B→Sx xs Z B)
  (I:List α→List Nat→World→Prop) (Ix:Code→List α→List Nat→World→Prop) (hI:∀xs Z Z' A B,I xs Z A→Mild Z w.heap.size A B→Newer Z A.heap.size Z'→(∀k ∈ Z',k < B.heap.size)→I xs Z' B)
  (hIx:∀c xs Z Z' A B,Ix c xs Z A→Mild Z w.heap.size A B→Newer Z A.heap.size Z'→(∀k ∈ Z',k < B.heap.size)→Ix c xs Z' B) (h0:I [] X w) (hIY:∀xs Z W,I xs Z W→SameAt Y w W) (hIxY:∀c xs Z W,Ix c xs Z W→SameAt Y w W)
  (a₁:α→Act)
  (hassign:∀(l:Nat) (x:α) (W:World) (K:Act→World→Prop),K (a₁ x) W→
    assign.wpIn (F.inRound l) (n - 1 - 1) P (Exit.then K (fun _ _ _=>False)) { tmps:=(ps.zip (encs x)).foldl (fun t (p,v)=>t.setIfInBounds p v) a.tmps,defers:=[] } W)
  (hbody:∀(l:Nat) (pre:List α) (x:α) (Z:List Nat) (W:World),I pre Z W→Sp (pre++[x])→body.wpIn (F.inRound l) (n - 1 - 1) P (leftPost w.heap.size Z (fun xs V=>I xs Z V) (fun c xs V=>Ix c xs Z V) (pre++[x]) W) (a₁ x) W)
  (hdone:∀(D:Nat) (xs:List α) (Z:List Nat) (W:World),w.heap.size≤D→(∀k ∈ Z,k≠D)→S xs Z W→I xs Z W→W.heap[D]?=some (.deferred (some []))→Q .normal { a with defers:= { target:= .collected D,args:= #[] } ::a.defers } W)
  (hstop:∀(D:Nat) (c:Code) (xs:List α) (Z:List Nat) (W:World),w.heap.size≤D→(∀k ∈ Z,k≠D)→Sx xs Z W→Ix c xs Z W→W.heap[D]?=some (.deferred (some []))→c.wpIn F n P Q { a with defers:= { target:= .collected D,args:= #[] } ::a.defers } W):
  (Code.rangeFunc g ps assign body).wpIn F n P Q a w:=by
 refine range_turnsY hro h1 hg hFg eg hX hYl hseq hps hS hSx I Ix hI hIx h0 hIY hIxY (fun x a' _=>a'=a₁ x) (fun x a' A B h _=>h) ?_ ?_ hdone hstop
 ·intro l pre x Z W K hi hK
  exact hassign l x W K (hK _ _ (KeepsOthers.refl _ |>.from _) (SameAt.refl _ _) hi rfl)
 ·rintro l pre x Z a' W hi rfl hsp
  exact hbody l pre x Z W hi hsp
theorem TurnSeqZ.y {α:Type} {g:Nat} {lb:Array Value} {encs:α→Array Value} {X:List Nat} {Sp:List α→Prop} {S Sx:List α→List Nat→World→Prop} {w:World} (h:TurnSeqZ F n P g lb encs X Sp S Sx w) (Y:List Nat):TurnSeqY F n P g lb encs Y X Sp S Sx w:=
 fun l J Jx W hW _ _=>h l J Jx W hW
end Go.Proofs.YtfmciiffcmfagaaGreat
namespace Go.Proofs.YtfmciiffcmfagaaGreat
open Go.RowKit
def isI (i:Int):Prop:= -9223372036854775808≤i∧i≤9223372036854775807
def rdyL (q:Rq):List (Int×Int):=(sortQ q.ready).map fun x=>(x.1,x.2.1)
abbrev encR (x:Int×Int):Array Value:= #[.int .i64 x.1, .int .u64 x.2]
structure RqSaid where
 At:World→Nat→List Nat→Rq→Prop
 tn:TypeId→Bool
 offQ:tn tQ16=false
 offT:tn tT16=false
 offI:tn 3=false
 offB:tn 4=false
 offU:tn 29=false
 keep:∀ {w w':World} {b:Nat} {X Y:List Nat} {q:Rq},At w b X q→Turned Y w w'→(∀k ∈ X,k ∉ Y)→(∀k ∈ Y,∀cs t fz,w.heap[k]?=some (.cells cs t fz)→tn t=false)→At w' b X q
 lt:∀ {w:World} {b:Nat} {X:List Nat} {q:Rq},At w b X q→∀k ∈ X,k < w.heap.size
 own:∀ {w:World} {b:Nat} {X:List Nat} {q:Rq},At w b X q→∀k ∈ X,∀cs t fz,w.heap[k]?=some (.cells cs t fz)→tn t=false
 new:∀(g:Int) (w:World),isI g→Calls Tryz.prog 31 #[.int .i64 g] w fun e w'=>∃b X,e= .returned (.pointer (some ⟨b,0,none⟩))∧At w' b X (Rq.new g)∧Turned [] w w'∧∀k ∈ X,w.heap.size≤k
 add:∀ {w:World} {b:Nat} {X:List Nat} {q:Rq} {c:Int} (id v wt:Int),At w b X q→QOk q c→c≤10000→isI id→isI wt→Word v→Calls Tryz.prog 35 #[.pointer (some ⟨b,0,none⟩), .int .i64 id, .int .u64 v, .int .i64 wt] w fun e w'=>e= .returned (.tuple #[.int .u64 (addV q id v wt), .int .i64 (addE q id)])∧∃X',At w' b X' (q.add id v wt)∧Turned X w w'∧Newer X w.heap.size X'
 remove:∀ {w:World} {b:Nat} {X:List Nat} {q:Rq} {c:Int} (id:Int),At w b X q→QOk q c→c≤10000→isI id→Calls Tryz.prog 39 #[.pointer (some ⟨b,0,none⟩), .int .i64 id] w fun e w'=>e= .returned (.tuple #[.int .u64 (remV q id), .bool (findQ q.l id).isSome])∧∃X',At w' b X' (q.remove id)∧Turned X w w'∧Newer X w.heap.size X'
 pick:∀ {w:World} {b:Nat} {X:List Nat} {q:Rq} {c:Int},At w b X q→QOk q c→c≤10000→Calls Tryz.prog 21 #[.pointer (some ⟨b,0,none⟩)] w fun e w'=>e= .returned (.tuple #[.int .i64 (pickV q), .bool (decide (0≤pickV q))])∧∃X',At w' b X' q.pick∧Turned X w w'∧Newer X w.heap.size X'
 back:∀ {w:World} {b:Nat} {X:List Nat} {q:Rq} {c:Int},At w b X q→QOk q c→c≤10000→Calls Tryz.prog 23 #[.pointer (some ⟨b,0,none⟩)] w fun e w'=>e= .returned (.tuple #[.int .i64 q.cur, .bool (decide (0≤q.cur))])∧∃X',At w' b X' q.back∧Turned X w w'∧Newer X w.heap.size X'
 tick:∀ {w:World} {b:Nat} {X:List Nat} {q:Rq} {c:Int},At w b X q→QOk q c→c≤10000→Calls Tryz.prog 25 #[.pointer (some ⟨b,0,none⟩)] w fun e w'=>e= .returned (.tuple #[.int .i64 q.cur, .bool (decide (0≤q.cur))])∧∃X',At w' b X' q.tick∧Turned X w w'∧Newer X w.heap.size X'
 weigh:∀ {w:World} {b:Nat} {X:List Nat} {q:Rq} {c:Int} (id wt:Int),At w b X q→QOk q c→c≤10000→isI id→isI wt→Calls Tryz.prog 49 #[.pointer (some ⟨b,0,none⟩), .int .i64 id, .int .i64 wt] w fun e w'=>e= .returned (.bool (findQ q.l id).isSome)∧∃X',At w' b X' (q.weigh id wt)∧Turned X w w'∧Newer X w.heap.size X'
 settle:∀ {w:World} {b:Nat} {X:List Nat} {q:Rq} {c:Int},At w b X q→QOk q c→c≤10000→Calls Tryz.prog 51 #[.pointer (some ⟨b,0,none⟩)] w fun e w'=>e= .returned (.tuple #[])∧∃X',At w' b X' q.settle∧Turned X w w'∧Newer X w.heap.size X'
 vv:∀ {w:World} {b:Nat} {X:List Nat} {q:Rq} {c:Int} (id:Int),At w b X q→QOk q c→c≤10000→isI id→Calls Tryz.prog 62 #[.pointer (some ⟨b,0,none⟩), .int .i64 id] w fun e w'=>e= .returned (.tuple #[.int .u64 (remV q id), .bool (findQ q.l id).isSome])∧Turned [] w w'
 current:∀ {w:World} {b:Nat} {X:List Nat} {q:Rq} {c:Int},At w b X q→QOk q c→c≤10000→Calls Tryz.prog 69 #[.pointer (some ⟨b,0,none⟩)] w fun e w'=>e= .returned (.tuple #[.int .i64 q.cur, .int .i64 q.ran, .bool (decide (0≤q.cur))])∧Turned [] w w'
 floor:∀ {w:World} {b:Nat} {X:List Nat} {q:Rq} {c:Int},At w b X q→QOk q c→c≤10000→Calls Tryz.prog 72 #[.pointer (some ⟨b,0,none⟩)] w fun e w'=>e= .returned (.int .u64 q.f)∧Turned [] w w'
 len:∀ {w:World} {b:Nat} {X:List Nat} {q:Rq} {c:Int},At w b X q→QOk q c→c≤10000→Calls Tryz.prog 64 #[.pointer (some ⟨b,0,none⟩)] w fun e w'=>e= .returned (.int .i64 (q.l.length:Nat))∧Turned [] w w'
 load:∀ {w:World} {b:Nat} {X:List Nat} {q:Rq} {c:Int},At w b X q→QOk q c→c≤10000→Calls Tryz.prog 61 #[.pointer (some ⟨b,0,none⟩)] w fun e w'=>e= .returned (.int .i64 (sumR (q.l.map (·.2.2))))∧Turned [] w w'
 ready:∀ {w:World} {b:Nat} {X:List Nat} {q:Rq} {c:Int},At w b X q→QOk q c→c≤10000→Calls Tryz.prog 74 #[.pointer (some ⟨b,0,none⟩)] w fun r w'=>∃f lb,r= .returned (.func (.func f) #[] lb)∧Turned [] w w'∧(∀args W,(callFunc f args).run Tryz.prog W= .ok (.enter f args) W)∧
  ∃Y Z,(∀k ∈ Y,k < w'.heap.size∧(k ∈ X∨w.heap.size≤k∨∃cs t fz,w'.heap[k]?=some (.cells cs t fz)∧tn t=true))∧(∀k ∈ Z,k < w'.heap.size∧w.heap.size≤k∧k ∉ Y)∧
   ∀n,1≤n→TurnSeqY Fence.wide n Tryz.prog f lb encR Y Z (fun xs=>xs <+:rdyL q) (fun xs _ _=>xs=rdyL q) (fun xs _ _=>xs <+:rdyL q) w'
theorem RqSaid.keep0 (S:RqSaid) {w w':World} {b:Nat} {X:List Nat} {q:Rq} (h:S.At w b X q) (ht:Turned [] w w'):S.At w' b X q:=
 S.keep h ht (by simp) (fun k hk=>by simp at hk)
theorem RqSaid.keepR (S:RqSaid) {w w':World} {b d:Nat} {X Y:List Nat} {q r:Rq} (h:S.At w b X q) (hr:R16 w d Y r) (ht:Turned Y w w') (hd:∀k ∈ X,k ∉ Y):S.At w' b X q:=by
 refine S.keep h ht hd (fun k hk cs t fz ho=>?_)
 obtain⟨v,h1,h2,rfl⟩:=hr
 rcases List.mem_cons.1 hk with rfl|hk
 ·rw [h1] at ho
  simp only [Option.some.injEq,Obj.cells.injEq] at ho
  rw [←ho.2.1]
  exact S.offQ
 ·obtain⟨cur,hc⟩:=ownsRow_type h2 k hk
  rw [hc] at ho
  simp only [Option.some.injEq,Obj.cells.injEq] at ho
  rw [←ho.2.1]
  exact S.offT
theorem Turned.also {X:List Nat} {a b c:World} (h:Turned X a b) (g:Turned [] b c):Turned X a c:=h.trans g (fun k hk=>by simp at hk)
theorem Newer.low {X Y:List Nat} {n m:Nat} (h:Newer X n Y) (hm:m≤n):Newer X m Y:=h.mono hm
end Go.Proofs.YtfmciiffcmfagaaGreat
namespace Go.Proofs.YtfmciiffcmfagaaGreat
open Go.RowKit
structure DuoR (S:RqSaid) (w W:World) (b:Nat) (X:List Nat) (d:Nat) (Y:List Nat) (qp qd:Rq):Prop where
 at_:S.At W b X qp
 ref:R16 W d Y qd
 dj:∀k ∈ X,k ∉ Y
 lx:∀k ∈ X,w.heap.size≤k
 ly:∀k ∈ Y,w.heap.size≤k
 t:Turned [] w W
section
variable {S:RqSaid} {w W W':World} {b d:Nat} {X Y X' Y':List Nat} {qp qd q2:Rq}
theorem DuoR.later (h:DuoR S w W b X d Y qp qd) (t:Turned [] W W'):DuoR S w W' b X d Y qp qd:=
 ⟨S.keep0 h.at_ t,LAt.keep h.ref t (by simp),h.dj,h.lx,h.ly,h.t.trans t (Newer.refl _ _)⟩
theorem DuoR.prog (h:DuoR S w W b X d Y qp qd) (a:S.At W' b X' q2) (t:Turned X W W') (n:Newer X W.heap.size X'):DuoR S w W' b X' d Y q2 qd:=by
 have hs:=h.t.size
 refine⟨a,LAt.keep h.ref t (fun k hk hx=>h.dj k hx hk),fun k hk hy=>?_,fun k hk=>?_,h.ly,h.t.trans t (fun k hk=> .inr (h.lx k hk))⟩
 ·rcases n k hk with h1|h1
  ·exact h.dj k h1 hy
  ·have:=LAt.lt h.ref k hy
   omega
 ·rcases n k hk with h1|h1
  ·exact h.lx k h1
  ·omega
theorem DuoR.doc (h:DuoR S w W b X d Y qp qd) (r:R16 W' d Y' q2) (t:Turned Y W W') (n:Newer Y W.heap.size Y'):DuoR S w W' b X d Y' qp q2:=by
 have hs:=h.t.size
 refine⟨S.keepR h.at_ h.ref t h.dj,r,fun k hk hy=>?_,h.lx,fun k hk=>?_,h.t.trans t (fun k hk=> .inr (h.ly k hk))⟩
 ·rcases n k hy with h1|h1
  ·exact h.dj k hk h1
  ·have:=S.lt h.at_ k hk
   omega
 ·rcases n k hk with h1|h1
  ·exact h.ly k h1
  ·omega
end
end Go.Proofs.YtfmciiffcmfagaaGreat
namespace Go.Proofs.YtfmciiffcmfagaaGreat
open Go.ChangeShapes Go.WideShapes Go.ChangeAt Go.RowKit Go.Deep
section
variable {H:Type} {enc:TypeId×Value→H} {P:Program}
variable {w:World} {base:Nat} {spare:Nat→Bool} {held:Bool}
theorem cut_one {cs:List Value} {j:Nat} {v:Value} (h:(cs.drop j).take 1=[v]):cs[j]?=some v:=by
 have h1:((cs.drop j).take 1)[0]?=some v:=by rw [h];rfl
 rw [List.getElem?_take_of_lt (by omega),List.getElem?_drop] at h1
 simpa using h1
theorem u8_low {x:Int} (h:(Lit.int .u8 x).wf=true):0≤x∧x≤255:=by
 simp [Lit.wf,IntKind.min,IntKind.max,IntKind.signed,IntKind.bits] at h
 exact⟨by omega,by omega⟩
theorem u64_word {x:Int} (h:(Lit.int .u64 x).wf=true):Word x:=by
 simp [Lit.wf,IntKind.min,IntKind.max,IntKind.signed,IntKind.bits] at h
 exact⟨by omega,by omega⟩
theorem isI_of {x:Int} (h:(Lit.int .i64 x).wf=true):isI x:=by
 simp [Lit.wf,IntKind.min,IntKind.max,IntKind.signed,IntKind.bits] at h
 exact⟨by omega,by omega⟩
end
end Go.Proofs.YtfmciiffcmfagaaGreat
namespace Go.Proofs.YtfmciiffcmfagaaGreat
open Go.ChangeShapes Go.WideShapes Go.ChangeAt Go.RowKit Go.Deep
section
variable {H:Type} {enc:TypeId×Value→H} {P:Program}
variable {w:World} {base:Nat} {spare:Nat→Bool} {held:Bool}
theorem open_arr {k0:IntKind} {r:Reach} {b0:Nat} {t e:TypeId} {n:Nat} {v:Value} {d:DataW H} {p:List MemPlace} (ht:P.underlying t=some (.array n e)) (he:P.underlying e=some (.int k0)) (hC:P.cellsOf t=n) (hE:P.cellsOf e=1)
  (hv:Value.okWide P w r b0 t v) (h:DataW.Trod enc P w base spare held t v d p):
  ∃xs:List Int,xs.length=n∧v= .agg ⟨xs.map (Value.int k0)⟩∧d= .agg (xs.map fun x=>DataW.lit (.int k0 x))∧p=[]∧∀x ∈ xs,(Lit.int k0 x).wf=true:=by
 obtain⟨cs,rfl,hsz⟩:∃cs,v= .agg cs∧cs.size=P.cellsOf t:=by
  have hv':=hv
  simp [Value.okWide,ht] at hv'
  obtain⟨cs,h1,h2,_⟩:=hv'
  exact⟨cs,h1,h2⟩
 obtain⟨l⟩:=cs
 obtain⟨fuel,hf⟩:=h
 obtain⟨ys,m,_,hx,hlen,hyl,hg⟩:=DataW.trod_array ht hf
 have hl:l.length=n:=by simpa [hC] using hsz
 have each:∀i,i < n→∃x:Int,l[i]?=some (.int k0 x)∧ys[i]?=some (.lit (.int k0 x),[])∧(Lit.int k0 x).wf=true:=by
  intro i hi
  have hyi:ys[i]?=some (ys[i]'(by omega)):=List.getElem?_eq_getElem (by omega)
  have hli:l[i]?=some (l[i]'(by omega)):=List.getElem?_eq_getElem (by omega)
  have h1:=hg i hi
  rw [hE,hyi] at h1
  have hone:((l.drop (i*1)).take 1)=[l[i]'(by omega)]:=by
   rw [Nat.mul_one,List.drop_eq_getElem_cons (by omega)]
   rfl
  have h2:DataW.trod enc P w base spare held m e ((l.drop (i*1)).take 1)=some (ys[i]'(by omega)):=h1
  rw [hone] at h2
  obtain⟨x,hx1,hx2,hx3⟩:=DataW.trod_int he h2
  simp only [List.cons.injEq,and_true] at hx1
  exact⟨x,by rw [hli,hx1],by rw [hyi,hx2],hx3⟩
 have whole:∀(k:Nat) (l':List Value) (ys':List (DataW H×List MemPlace)),l'.length=k→ys'.length=k→(∀i,i < k→∃x:Int,l'[i]?=some (.int k0 x)∧ys'[i]?=some (.lit (.int k0 x),[])∧(Lit.int k0 x).wf=true)→
   ∃xs:List Int,xs.length=k∧l'=xs.map (Value.int k0)∧ys'=xs.map (fun x=>(DataW.lit (.int k0 x),[]))∧∀x ∈ xs,(Lit.int k0 x).wf=true:=by
  intro k
  induction k with
  |zero=>
   intro l' ys' a b _
   exact⟨[],rfl,List.length_eq_zero_iff.1 a,List.length_eq_zero_iff.1 b,fun x hx=>by cases hx⟩
  |succ k ih=>
   intro l' ys' a b c
   match l',ys',a,b with
   |v0::l1,y0::ys1,a,b=>
    obtain⟨x,c1,c2,c3⟩:=c 0 (by omega)
    simp only [List.getElem?_cons_zero,Option.some.injEq] at c1 c2
    obtain⟨xs,d1,d2,d3,d4⟩:=ih l1 ys1 (by simpa using a) (by simpa using b) (fun i hi=>by simpa using c (i+1) (by omega))
    refine⟨x::xs,by simp [d1],by simp [c1,d2],by simp [c2,d3],?_⟩
    intro z hz
    rcases List.mem_cons.1 hz with e|e
    ·rw [e];exact c3
    ·exact d4 z e
 obtain⟨xs,e1,e2,e3,e4⟩:=whole n l ys hl hyl each
 simp only [Prod.mk.injEq] at hx
 refine⟨xs,e1,by rw [e2],?_,?_,e4⟩
 ·rw [hx.1,e3,List.map_map]
  rfl
 ·rw [hx.2,e3]
  clear hx e1 e2 e3 e4
  induction xs with
  |nil=>rfl
  |cons z zs ih=>simp
end
end Go.Proofs.YtfmciiffcmfagaaGreat
namespace Go.Proofs.YtfmciiffcmfagaaGreat
def psq (f:Nat→Int):Nat→Int
 |0=>0
 |n+1=>psq f n+f n*f n
theorem psq_two {f f':Nat→Int} {a b:Nat} (hab:a≠b) (h3:∀i,i≠a→i≠b→f' i=f i):∀n:Nat,psq f' n=psq f n+(if a < n then f' a*f' a - f a*f a else 0)+(if b < n then f' b*f' b - f b*f b else 0)
 |0=>by simp [psq]
 |n+1=>by
  have ih:=psq_two hab h3 n
  have e1:psq f' (n+1)=psq f' n+f' n*f' n:=rfl
  have e2:psq f (n+1)=psq f n+f n*f n:=rfl
  rw [e1,e2,ih]
  by_cases ha:n=a
  ·subst ha
   rw [if_neg (Nat.lt_irrefl n),if_pos (Nat.lt_succ_self n)]
   by_cases hb:b < n
   ·rw [if_pos hb,if_pos (by omega)]
    omega
   ·rw [if_neg hb,if_neg (by omega)]
    omega
  ·by_cases hb:n=b
   ·subst hb
    rw [if_neg (Nat.lt_irrefl n),if_pos (Nat.lt_succ_self n)]
    by_cases h:a < n
    ·rw [if_pos h,if_pos (by omega)]
     omega
    ·rw [if_neg h,if_neg (by omega)]
     omega
   ·rw [h3 n ha hb]
    have c1:(a < n+1)=(a < n):=by
     apply propext
     omega
    have c2:(b < n+1)=(b < n):=by
     apply propext
     omega
    simp only [c1,c2]
    omega
theorem sq_less {f f':Nat→Int} {n a b:Nat} (ha:a < n) (hb:b < n) (hab:a≠b) {w:Int} (h1:f' a=f a - w) (h2:f' b=f b+w) (h3:∀i,i≠a→i≠b→f' i=f i) (hw:0 < w) (hd:w < f a - f b):psq f' n < psq f n:=by
 rw [psq_two hab h3 n,if_pos ha,if_pos hb,h1,h2]
 have e1:(f a - w)*(f a - w) - f a*f a+((f b+w)*(f b+w) - f b*f b)= -(2*(w*(f a - f b - w))):=by
  simp only [Int.sub_mul,Int.mul_sub,Int.add_mul,Int.mul_add]
  have c1:=Int.mul_comm w (f a)
  have c2:=Int.mul_comm w (f b)
  omega
 have e2:0 < w*(f a - f b - w):=Int.mul_pos hw (by omega)
 omega
def cntN (f:Nat→Int) (m:Int):Nat→Nat
 |0=>0
 |n+1=>cntN f m n+(if f n=m then 1 else 0)
theorem cnt_le (f:Nat→Int) (m:Int):∀n,cntN f m n≤n
 |0=>Nat.le_refl _
 |n+1=>by
  have:=cnt_le f m n
  unfold cntN
  split<;>omega
theorem cnt_mono {f f':Nat→Int} {m:Int} (h:∀i,f' i=m→f i=m):∀n,cntN f' m n≤cntN f m n
 |0=>Nat.le_refl _
 |n+1=>by
  have ih:=cnt_mono h n
  have:=h n
  unfold cntN
  by_cases h1:f' n=m
  ·rw [if_pos h1,if_pos (this h1)];omega
  ·rw [if_neg h1];omega
theorem cnt_less {f f':Nat→Int} {m:Int} (h:∀i,f' i=m→f i=m) {a:Nat} (ha:f a=m) (ha':f' a≠m):∀n,a < n→cntN f' m n < cntN f m n
 |0,hn=>absurd hn (Nat.not_lt_zero a)
 |n+1,hn=>by
  by_cases hna:n=a
  ·subst hna
   have:=cnt_mono h n
   unfold cntN
   rw [if_neg ha',if_pos ha]
   omega
  ·have ih:=cnt_less h ha ha' n (by omega)
   have:=h n
   unfold cntN
   by_cases h1:f' n=m
   ·rw [if_pos h1,if_pos (this h1)];omega
   ·rw [if_neg h1];omega
theorem cnt_one {f:Nat→Int} {m:Int} {a:Nat} (ha:f a=m):∀n,a < n→1≤cntN f m n
 |0,hn=>absurd hn (Nat.not_lt_zero a)
 |n+1,hn=>by
  unfold cntN
  by_cases hna:n=a
  ·subst hna
   rw [if_pos ha]
   omega
  ·have:=cnt_one ha n (by omega)
   omega
theorem meas_less {f f':Nat→Int} {n a b a':Nat} (hn:n≤4) (ha:a < n) (ha':a' < n) (hmax:∀i,i < n→f i≤f a) {w:Int} (h1:f' a=f a - w) (h2:f' b=f b+w) (h3:∀i,i≠a→i≠b→f' i=f i) (hw:0 < w) (hd:w < f a - f b):
  5*f' a'+cntN f' (f' a') n < 5*f a+cntN f (f a) n:=by
 have hone:=cnt_one (f:=f) rfl n ha
 have hle:f' a'≤f a:=by
  by_cases e1:a'=a
  ·rw [e1];omega
  ·by_cases e2:a'=b
   ·rw [e2];omega
   ·rw [h3 a' e1 e2];exact hmax a' ha'
 by_cases he:f' a'=f a
 ·rw [he]
  have:=cnt_less (f:=f) (f':=f') (m:=f a) (fun i hi=>by
   by_cases e1:i=a
   ·rw [e1]
   ·by_cases e2:i=b
    ·rw [e2] at hi ⊢;omega
    ·rw [←h3 i e1 e2];exact hi) (a:=a) rfl (by omega) n ha
  omega
 ·have:=cnt_le f' (f' a') n
  omega
end Go.Proofs.YtfmciiffcmfagaaGreat
namespace Go.Proofs.YtfmciiffcmfagaaGreat
def loadQ (q:Rq):Int:=sumR (q.l.map (·.2.2))
def ofN:List Rq→Int→Option Nat
 |[],_=>none
 |q::l,id=>if (findQ q.l id).isSome=true then some 0 else (ofN l id).map (· +1)
def ofC (l:List Rq) (id:Int):Int:=match ofN l id with
 |none=> -1
 |some k=>k
def allC (l:List Rq):Nat:=(l.map (fun q=>q.l.length)).foldr (· + ·) 0
def addCE (l:List Rq) (core id:Int):Int:=if core < 0∨(l.length:Int)≤core∨id < 0 then 1 else if 0≤ofC l id then 12 else if 16≤allC l then 3 else 0
def addC (l:List Rq) (core id v w:Int):List Rq:=if addCE l core id=0 then l.modify core.toNat (fun q=>q.add id v w) else l
def remC (l:List Rq) (id:Int):List Rq:=match ofN l id with
 |none=>l
 |some k=>l.modify k (fun q=>q.remove id)
def goC (l:List Rq) (id:Int) (k t:Nat):List Rq:=match l[k]? with
 |none=>l
 |some q=>match findQ q.l id with
  |none=>l
  |some x=>(l.modify k (fun q=>q.remove id)).modify t (fun r=>r.add id (satV (r.f+max 0 (x.1 - q.f))) x.2)
def moveE (l:List Rq) (id core:Int):Int:=match ofN l id with
 |none=>4
 |some k=>if core < 0∨(l.length:Int)≤core then 1 else if (k:Int)=core then 12 else if ((l[k]?).map (·.cur)).getD (-1)=id then 8 else 0
def moveC (l:List Rq) (id core:Int):List Rq:=if moveE l id core=0 then goC l id ((ofN l id).getD 0) core.toNat else l
def loadAt (l:List Rq) (i:Nat):Int:=((l[i]?).map loadQ).getD 0
def mostTo (l:List Rq):Nat→Nat
 |0=>0
 |k+1=>if loadAt l (mostTo l k) < loadAt l k then k else mostTo l k
def leastTo (l:List Rq):Nat→Nat
 |0=>0
 |k+1=>if loadAt l k < loadAt l (leastTo l k) then k else leastTo l k
def readyAt (l:List Rq) (i:Nat):List (Int×Int×Int):=((l[i]?).map (fun q=>sortQ q.ready)).getD []
def balC (l:List Rq):Option (Int×Nat×Nat):=
 ((readyAt l (mostTo l l.length)).find? (fun x=>decide (x.2.2 < loadAt l (mostTo l l.length) - loadAt l (leastTo l l.length)))).map (fun x=>(x.1,mostTo l l.length,leastTo l l.length))
def balanceC (l:List Rq):List Rq:=match balC l with
 |none=>l
 |some x=>goC l x.1 x.2.1 x.2.2
section
variable {l:List Rq}
theorem mostTo_lt:∀k:Nat,mostTo l k < k+(if k=0 then 1 else 0)
 |0=>by simp [mostTo]
 |k+1=>by
  have:=mostTo_lt k
  unfold mostTo
  rw [if_neg (Nat.succ_ne_zero k)]
  split
  ·omega
  ·split at this<;>omega
theorem most_lt (h:0 < l.length):mostTo l l.length < l.length:=by
 have:=mostTo_lt (l:=l) l.length
 rw [if_neg (by omega)] at this
 exact this
theorem leastTo_lt:∀k:Nat,leastTo l k < k+(if k=0 then 1 else 0)
 |0=>by simp [leastTo]
 |k+1=>by
  have:=leastTo_lt k
  unfold leastTo
  rw [if_neg (Nat.succ_ne_zero k)]
  split
  ·omega
  ·split at this<;>omega
theorem least_lt (h:0 < l.length):leastTo l l.length < l.length:=by
 have:=leastTo_lt (l:=l) l.length
 rw [if_neg (by omega)] at this
 exact this
theorem most_ge:∀k i:Nat,i < k→loadAt l i≤loadAt l (mostTo l k)
 |0,i,h=>absurd h (Nat.not_lt_zero i)
 |k+1,i,h=>by
  unfold mostTo
  by_cases hik:i=k
  ·subst hik
   split<;>omega
  ·have:=most_ge k i (by omega)
   split<;>omega
theorem ofN_some:∀ {l:List Rq} {id:Int} {k:Nat},ofN l id=some k→∃q,l[k]?=some q∧(findQ q.l id).isSome=true∧∀(j:Nat) (r:Rq),j < k→l[j]?=some r→(findQ r.l id).isSome=false
 |[],id,k,h=>by cases h
 |q::l,id,k,h=>by
  unfold ofN at h
  by_cases hq:(findQ q.l id).isSome=true
  ·rw [if_pos hq] at h
   cases h
   exact⟨q,rfl,hq,fun j r hj=>absurd hj (Nat.not_lt_zero j)⟩
  ·rw [if_neg hq] at h
   obtain⟨k',hk',rfl⟩:=Option.map_eq_some_iff.1 h
   obtain⟨r,h1,h2,h3⟩:=ofN_some hk'
   refine⟨r,by simpa using h1,h2,fun j s hj hs=>?_⟩
   cases j with
   |zero=>
    simp only [List.getElem?_cons_zero,Option.some.injEq] at hs
    subst hs
    simpa using hq
   |succ j=>exact h3 j s (by omega) (by simpa using hs)
theorem ofN_none:∀ {l:List Rq} {id:Int},ofN l id=none→∀q ∈ l,(findQ q.l id).isSome=false
 |[],id,h,q,hq=>by cases hq
 |q::l,id,h,r,hr=>by
  unfold ofN at h
  by_cases hq:(findQ q.l id).isSome=true
  ·rw [if_pos hq] at h
   cases h
  ·rw [if_neg hq] at h
   rcases List.mem_cons.1 hr with e|e
   ·subst e
    simpa using hq
   ·exact ofN_none (Option.map_eq_none_iff.1 h) r e
theorem sum_filter:∀ {t:List (Int×Int×Int)} {id:Int} {x:Int×Int},(t.map (·.1)).Nodup→(id,x) ∈ t→sumR ((t.filter (fun y=>decide (y.1≠id))).map (·.2.2))=sumR (t.map (·.2.2)) - x.2
 |[],id,x,hu,h=>by cases h
 |y::t,id,x,hu,h=>by
  rw [List.map_cons,List.nodup_cons] at hu
  have e0:sumR ((y::t).map (·.2.2))=y.2.2+sumR (t.map (·.2.2)):=by simp [sumR]
  rcases List.mem_cons.1 h with e|e
  ·subst e
   have:t.filter (fun z=>decide (z.1≠id))=t:=List.filter_eq_self.2 fun z hz=>by
    have:z.1≠id:=fun e=>hu.1 (List.mem_map.2 ⟨z,hz,e⟩)
    simpa using this
   rw [List.filter_cons_of_neg (by simp),this,e0]
   dsimp only
   omega
  ·have hne:y.1≠id:=fun e'=>hu.1 (List.mem_map.2 ⟨_,e,e'.symm⟩)
   have ih:=sum_filter hu.2 e
   rw [List.filter_cons_of_pos (by simpa using hne),List.map_cons,e0]
   have:sumR (y.2.2::(t.filter (fun z=>decide (z.1≠id))).map (·.2.2))=y.2.2+sumR ((t.filter (fun z=>decide (z.1≠id))).map (·.2.2)):=by simp [sumR]
   rw [this,ih]
   omega
theorem sum_snoc (t:List (Int×Int×Int)) (y:Int×Int×Int):sumR ((t++[y]).map (·.2.2))=sumR (t.map (·.2.2))+y.2.2:=by
 induction t with
 |nil=>simp [sumR]
 |cons z t ih=>
  simp only [List.cons_append,List.map_cons] at ih ⊢
  simp only [sumR,List.foldr_cons] at ih ⊢
  omega
theorem load_remove {q:Rq} {c:Int} (h:QOk q c) {id:Int} {x:Int×Int} (hf:findQ q.l id=some x):loadQ (q.remove id)=loadQ q - x.2:=by
 unfold loadQ Rq.remove
 rw [if_pos (by rw [hf];rfl)]
 exact sum_filter h.uniq (findQ_mem hf)
theorem load_add {q:Rq} {id v w:Int} (h0:0≤id) (hf:(findQ q.l id).isSome=false) (hl:q.l.length < 16) (h1:1≤w) (h2:w≤4096):loadQ (q.add id v w)=loadQ q+w:=by
 unfold loadQ Rq.add
 rw [if_neg (by
  rintro (a|a|a)
  ·omega
  ·rw [hf] at a;cases a
  ·omega)]
 dsimp only
 rw [sum_snoc,bring_in h1 h2]
structure COk (l:List Rq) (c:Int):Prop where
 len:1≤l.length∧l.length≤4
 ok:∀q ∈ l,QOk q c
 all:allC l≤16
 one:∀(i j:Nat) (q r:Rq) (id:Int),l[i]?=some q→l[j]?=some r→(findQ q.l id).isSome=true→(findQ r.l id).isSome=true→i=j
theorem modify_same (k:Nat) (f:Rq→Rq):(l.modify k f)[k]?=(l[k]?).map f:=by
 rw [List.getElem?_modify]
 cases l[k]?<;>simp
theorem modify_other {k j:Nat} (h:k≠j) (f:Rq→Rq):(l.modify k f)[j]?=l[j]?:=by
 rw [List.getElem?_modify]
 cases l[j]?<;>simp [h]
theorem allC_cons (q:Rq) (l:List Rq):allC (q::l)=q.l.length+allC l:=by simp [allC]
theorem allC_modify:∀ {l:List Rq} {k:Nat} {q:Rq} (f:Rq→Rq),l[k]?=some q→allC (l.modify k f)+q.l.length=allC l+(f q).l.length
 |[],k,q,f,h=>by cases h
 |r::l,0,q,f,h=>by
  simp only [List.getElem?_cons_zero,Option.some.injEq] at h
  subst h
  rw [List.modify_zero_cons,allC_cons,allC_cons]
  omega
 |r::l,k+1,q,f,h=>by
  have ih:=allC_modify f (l:=l) (k:=k) (q:=q) (by simpa using h)
  rw [List.modify_succ_cons,allC_cons,allC_cons]
  omega
theorem allC_ge:∀ {l:List Rq} {k:Nat} {q:Rq},l[k]?=some q→q.l.length≤allC l
 |[],k,q,h=>by cases h
 |r::l,0,q,h=>by
  simp only [List.getElem?_cons_zero,Option.some.injEq] at h
  subst h
  rw [allC_cons]
  omega
 |r::l,k+1,q,h=>by
  have ih:=allC_ge (l:=l) (k:=k) (q:=q) (by simpa using h)
  rw [allC_cons]
  omega
theorem allC_two:∀ {l:List Rq} {i j:Nat} {q r:Rq},i≠j→l[i]?=some q→l[j]?=some r→q.l.length+r.l.length≤allC l
 |[],i,j,q,r,hij,h1,h2=>by cases h1
 |s::l,0,0,q,r,hij,h1,h2=>absurd rfl hij
 |s::l,0,j+1,q,r,hij,h1,h2=>by
  simp only [List.getElem?_cons_zero,Option.some.injEq] at h1
  subst h1
  have:=allC_ge (l:=l) (k:=j) (q:=r) (by simpa using h2)
  rw [allC_cons]
  omega
 |s::l,i+1,0,q,r,hij,h1,h2=>by
  simp only [List.getElem?_cons_zero,Option.some.injEq] at h2
  subst h2
  have:=allC_ge (l:=l) (k:=i) (q:=q) (by simpa using h1)
  rw [allC_cons]
  omega
 |s::l,i+1,j+1,q,r,hij,h1,h2=>by
  have:=allC_two (l:=l) (i:=i) (j:=j) (q:=q) (r:=r) (by omega) (by simpa using h1) (by simpa using h2)
  rw [allC_cons]
  omega
theorem find_pos {q:Rq} {id:Int} (h:(findQ q.l id).isSome=true):1≤q.l.length:=by
 cases e:q.l with
 |nil=>rw [e] at h;cases h
 |cons=>simp
theorem mem_at {k:Nat} {q:Rq} (h:l[k]?=some q):q ∈ l:=List.mem_iff_getElem?.2 ⟨k,h⟩
theorem COk.modify {c c':Int} (h:COk l c) (hc:c≤c') (k:Nat) (f:Rq→Rq) (hf:∀q,l[k]?=some q→QOk (f q) c') (hl:∀q,l[k]?=some q→(f q).l.length≤q.l.length) (hs:∀q id,l[k]?=some q→(findQ (f q).l id).isSome=true→(findQ q.l id).isSome=true):COk (l.modify k f) c':=by
 have old:∀(i:Nat) (q:Rq),(l.modify k f)[i]?=some q→∃q0,l[i]?=some q0∧((i=k∧q=f q0)∨q=q0):=fun i q hq=>by
  by_cases hik:k=i
  ·subst hik
   rw [modify_same] at hq
   obtain⟨q0,h1,h2⟩:=Option.map_eq_some_iff.1 hq
   exact⟨q0,h1, .inl ⟨rfl,h2.symm⟩⟩
  ·rw [modify_other hik] at hq
   exact⟨q,hq, .inr rfl⟩
 refine⟨by rw [List.length_modify];exact h.len,fun q hq=>?_,?_,fun i j q r id h1 h2 h3 h4=>?_⟩
 ·obtain⟨i,hi⟩:=List.mem_iff_getElem?.1 hq
  obtain⟨q0,h1,h2|h2⟩:=old i q hi
  ·obtain⟨rfl,rfl⟩:=h2
   exact hf q0 h1
  ·subst h2
   exact (h.ok q (mem_at h1)).later hc
 ·cases hk:l[k]? with
  |none=>
   have:l.modify k f=l:=List.modify_eq_self (by simpa using hk)
   rw [this]
   exact h.all
  |some q=>
   have h1:=allC_modify f hk
   have h2:=hl q hk
   have:=h.all
   omega
 ·obtain⟨q0,a1,a2⟩:=old i q h1
  obtain⟨r0,b1,b2⟩:=old j r h2
  refine h.one i j q0 r0 id a1 b1 ?_ ?_
  ·rcases a2 with⟨rfl,rfl⟩ |rfl
   ·exact hs q0 id a1 h3
   ·exact h3
  ·rcases b2 with⟨rfl,rfl⟩ |rfl
   ·exact hs r0 id b1 h4
   ·exact h4
theorem find_remove {q:Rq} (id j:Int) (hj:(findQ (q.remove id).l j).isSome=true):(findQ q.l j).isSome=true∧((findQ q.l id).isSome=true→j≠id):=by
 obtain⟨y,hy⟩:=Option.isSome_iff_exists.1 hj
 have hm:=findQ_mem hy
 unfold Rq.remove at hm
 have up:(j,y) ∈ q.l→(findQ q.l j).isSome=true:=fun hm=>by
  cases hf:findQ q.l j with
  |none=>exact absurd rfl (findQ_none hf _ hm)
  |some z=>rfl
 split at hm
 ·have:=List.mem_filter.1 hm
  exact⟨up this.1,fun _=>by simpa using this.2⟩
 ·exact⟨up hm,fun h=>absurd h (by assumption)⟩
theorem remove_len (q:Rq) (id:Int):(q.remove id).l.length≤q.l.length:=by
 unfold Rq.remove
 split
 ·exact List.length_filter_le _ _
 ·exact Nat.le_refl _
end
end Go.Proofs.YtfmciiffcmfagaaGreat
namespace Go.Proofs.YtfmciiffcmfagaaGreat
section
variable {l:List Rq} {c:Int}
theorem find_add {q:Rq} {id v w j:Int} (hj:(findQ (q.add id v w).l j).isSome=true):(findQ q.l j).isSome=true∨j=id:=by
 obtain⟨y,hy⟩:=Option.isSome_iff_exists.1 hj
 have hm:=findQ_mem hy
 have up:(j,y) ∈ q.l→(findQ q.l j).isSome=true:=fun hm=>by
  cases hf:findQ q.l j with
  |none=>exact absurd rfl (findQ_none hf _ hm)
  |some z=>rfl
 unfold Rq.add at hm
 split at hm
 ·exact .inl (up hm)
 ·rcases List.mem_append.1 hm with h|h
  ·exact .inl (up h)
  ·simp only [List.mem_singleton,Prod.mk.injEq] at h
   exact .inr h.1
theorem add_len (q:Rq) (id v w:Int):(q.add id v w).l.length≤q.l.length+1:=by
 unfold Rq.add
 split<;>simp
theorem COk.addAt (h:COk l c) {id:Int} (hn:∀q ∈ l,(findQ q.l id).isSome=false) (ha:allC l < 16) (t:Nat) {vf:Rq→Int} (hv:∀q,l[t]?=some q→Word (vf q)) (w:Int):COk (l.modify t (fun r=>r.add id (vf r) w)) c:=by
 have old:∀(i:Nat) (q:Rq),(l.modify t (fun r=>r.add id (vf r) w))[i]?=some q→∃q0,l[i]?=some q0∧((i=t∧q=q0.add id (vf q0) w)∨(i≠t∧q=q0)):=fun i q hq=>by
  by_cases hik:t=i
  ·subst hik
   rw [modify_same] at hq
   obtain⟨q0,h1,h2⟩:=Option.map_eq_some_iff.1 hq
   exact⟨q0,h1, .inl ⟨rfl,h2.symm⟩⟩
  ·rw [modify_other hik] at hq
   exact⟨q,hq, .inr ⟨fun e=>hik e.symm,rfl⟩⟩
 refine⟨by rw [List.length_modify];exact h.len,fun q hq=>?_,?_,fun i j q r d h1 h2 h3 h4=>?_⟩
 ·obtain⟨i,hi⟩:=List.mem_iff_getElem?.1 hq
  obtain⟨q0,h1,h2|h2⟩:=old i q hi
  ·obtain⟨rfl,rfl⟩:=h2
   exact (h.ok q0 (mem_at h1)).add id (hv q0 h1) w
  ·obtain⟨_,rfl⟩:=h2
   exact h.ok q (mem_at h1)
 ·cases hk:l[t]? with
  |none=>
   have:l.modify t (fun r=>r.add id (vf r) w)=l:=List.modify_eq_self (by simpa using hk)
   rw [this]
   exact h.all
  |some q=>
   have h1:=allC_modify (fun r=>r.add id (vf r) w) hk
   have h2:=add_len q id (vf q) w
   omega
 ·obtain⟨q0,a1,a2⟩:=old i q h1
  obtain⟨r0,b1,b2⟩:=old j r h2
  have hnq:=hn q0 (mem_at a1)
  have hnr:=hn r0 (mem_at b1)
  rcases a2 with⟨rfl,rfl⟩ |⟨a3,rfl⟩<;>rcases b2 with⟨b3,rfl⟩ |⟨b3,rfl⟩
  ·exact b3.symm
  ·rcases find_add h3 with e|e
   ·exact h.one _ _ _ _ d a1 b1 e h4
   ·subst e
    rw [hnr] at h4
    cases h4
  ·rcases find_add h4 with e|e
   ·exact h.one _ _ _ _ d a1 b1 h3 e
   ·subst e
    rw [hnq] at h3
    cases h3
  ·exact h.one _ _ _ _ d a1 b1 h3 h4
theorem removed_none {q:Rq} {id:Int} (hf:(findQ q.l id).isSome=true):(findQ (q.remove id).l id).isSome=false:=by
 cases he:(findQ (q.remove id).l id).isSome with
 |false=>rfl
 |true=>exact absurd rfl ((find_remove id id he).2 hf)
theorem remove_less {q:Rq} {id:Int} (hf:(findQ q.l id).isSome=true):(q.remove id).l.length < q.l.length:=by
 obtain⟨x,hx⟩:=Option.isSome_iff_exists.1 hf
 have hm:=findQ_mem hx
 unfold Rq.remove
 rw [if_pos hf]
 dsimp only
 exact List.length_filter_lt_length_iff_exists.2 ⟨_,hm,by simp⟩
theorem COk.gone (h:COk l c) {id:Int} {k:Nat} {q:Rq} (hk:l[k]?=some q) (hf:(findQ q.l id).isSome=true):COk (l.modify k (fun q=>q.remove id)) c∧(∀r ∈ l.modify k (fun q=>q.remove id),(findQ r.l id).isSome=false)∧allC (l.modify k (fun q=>q.remove id)) < 16:=by
 refine⟨h.modify (Int.le_refl c) k _ (fun q hq=>(h.ok q (mem_at hq)).remove id) (fun q _=>remove_len q id) (fun q j _ hj=>(find_remove id j hj).1),fun r hr=>?_,?_⟩
 ·obtain⟨i,hi⟩:=List.mem_iff_getElem?.1 hr
  by_cases hik:k=i
  ·subst hik
   rw [modify_same,hk] at hi
   simp only [Option.map_some,Option.some.injEq] at hi
   subst hi
   exact removed_none hf
  ·rw [modify_other hik] at hi
   cases he:(findQ r.l id).isSome with
   |false=>rfl
   |true=>exact absurd (h.one k i q r id hk hi hf he) hik
 ·have h1:=allC_modify (fun q=>q.remove id) hk
  have h2:=remove_less hf
  have:=h.all
  omega
theorem goC_eq {id:Int} {k t:Nat} {q:Rq} {x:Int×Int} (hk:l[k]?=some q) (hf:findQ q.l id=some x):goC l id k t=(l.modify k (fun q=>q.remove id)).modify t (fun r=>r.add id (satV (r.f+max 0 (x.1 - q.f))) x.2):=by
 unfold goC
 simp only [hk,hf]
theorem goC_word {q r:Rq} {x:Int×Int} (hr:Word r.f):Word (satV (r.f+max 0 (x.1 - q.f))):=sat_word (by
 have:=hr.1
 have:0≤max 0 (x.1 - q.f):=Int.le_max_left _ _
 omega)
theorem COk.moved (h:COk l c) {id:Int} {k t:Nat} {q:Rq} (hk:l[k]?=some q) (hf:(findQ q.l id).isSome=true):COk (goC l id k t) c:=by
 obtain⟨x,hx⟩:=Option.isSome_iff_exists.1 hf
 obtain⟨g1,g2,g3⟩:=h.gone hk hf
 rw [goC_eq hk hx]
 exact g1.addAt g2 g3 t (vf:=fun r=>satV (r.f+max 0 (x.1 - q.f))) (fun r hr=>goC_word (g1.ok r (mem_at hr)).f) x.2
theorem loadAt_some {k:Nat} {q:Rq} (hk:l[k]?=some q):loadAt l k=loadQ q:=by
 unfold loadAt
 rw [hk]
 rfl
theorem COk.loads (h:COk l c) {id:Int} {k t:Nat} {q:Rq} {x:Int×Int} (hk:l[k]?=some q) (hx:findQ q.l id=some x) (ht:t < l.length) (hkt:k≠t):
  loadAt (goC l id k t) k=loadAt l k - x.2∧loadAt (goC l id k t) t=loadAt l t+x.2∧∀i,i≠k→i≠t→loadAt (goC l id k t) i=loadAt l i:=by
 have hf:(findQ q.l id).isSome=true:=by rw [hx];rfl
 obtain⟨g1,g2,g3⟩:=h.gone hk hf
 rw [goC_eq hk hx]
 have hr:l[t]?=some l[t]:=List.getElem?_eq_getElem ht
 have hr':(l.modify k (fun q=>q.remove id))[t]?=some l[t]:=by rw [modify_other hkt,hr]
 have hqk:=h.ok q (mem_at hk)
 have hid:=hqk.ids _ (findQ_mem hx)
 obtain⟨w1,w2⟩:=hqk.wt _ (findQ_mem hx)
 have hlen:=allC_ge hr'
 refine⟨?_,?_,fun i h1 h2=>?_⟩
 ·rw [loadAt_some (q:=q.remove id) (by rw [modify_other (fun e=>hkt e.symm),modify_same,hk];rfl),loadAt_some hk]
  exact load_remove hqk hx
 ·rw [loadAt_some (by rw [modify_same,hr'];rfl),loadAt_some hr]
  exact load_add hid (g2 _ (mem_at hr')) (by omega) w1 w2
 ·unfold loadAt
  rw [modify_other (fun e=>h2 e.symm),modify_other (fun e=>h1 e.symm)]
theorem balC_some (h:COk l c) {id:Int} {k t:Nat} (hb:balC l=some (id,k,t)):∃q x,l[k]?=some q∧findQ q.l id=some x∧t < l.length∧k=mostTo l l.length∧t=leastTo l l.length∧x.2 < loadAt l k - loadAt l t∧1≤x.2∧k≠t∧id≠q.cur:=by
 unfold balC at hb
 obtain⟨y,hy,he⟩:=Option.map_eq_some_iff.1 hb
 simp only [Prod.mk.injEq] at he
 obtain⟨rfl,rfl,rfl⟩:=he
 have hm:=List.mem_of_find?_eq_some hy
 have hp:=List.find?_some hy
 have hlt:=most_lt (l:=l) (by have:=h.len;omega)
 have hq:l[mostTo l l.length]?=some l[mostTo l l.length]:=List.getElem?_eq_getElem hlt
 unfold readyAt at hm
 rw [hq] at hm
 simp only [Option.map_some,Option.getD_some] at hm
 rw [mem_sort] at hm
 unfold Rq.ready at hm
 obtain⟨hm1,hm2⟩:=List.mem_filter.1 hm
 have hok:=h.ok _ (mem_at hq)
 have hd:y.2.2 < loadAt l (mostTo l l.length) - loadAt l (leastTo l l.length):=by simpa using hp
 have hw:=hok.wt _ hm1
 cases hf:findQ (l[mostTo l l.length]).l y.1 with
 |none=>exact absurd rfl (findQ_none hf y hm1)
 |some z=>
  have hz:(y.1,z)=y:=findQ_one hok.uniq (findQ_mem hf) hm1 rfl
  have hz2:z=y.2:=by rw [←hz]
  subst hz2
  refine⟨_,_,hq,hf,least_lt (by have:=h.len;omega),rfl,rfl,hd,hw.1,fun e=>?_,by simpa using hm2⟩
  rw [e] at hd
  omega
theorem balance_less (h:COk l c) {x:Int×Nat×Nat} (hb:balC l=some x):COk (balanceC l) c∧(balanceC l).length=l.length∧psq (loadAt (balanceC l)) l.length < psq (loadAt l) l.length∧
  5*loadAt (balanceC l) (mostTo (balanceC l) l.length)+cntN (loadAt (balanceC l)) (loadAt (balanceC l) (mostTo (balanceC l) l.length)) l.length < 5*loadAt l (mostTo l l.length)+cntN (loadAt l) (loadAt l (mostTo l l.length)) l.length:=by
 obtain⟨id,k,t⟩:=x
 obtain⟨q,x,hk,hx,ht,ek,et,hd,hw,hkt,_⟩:=balC_some h hb
 have eb:balanceC l=goC l id k t:=by
  unfold balanceC
  rw [hb]
 rw [eb]
 have hlt:=most_lt (l:=l) (by omega)
 obtain⟨l1,l2,l3⟩:=h.loads hk hx ht hkt
 have hlen:(goC l id k t).length=l.length:=by rw [goC_eq hk hx,List.length_modify,List.length_modify]
 refine⟨h.moved hk (by rw [hx];rfl),hlen,sq_less (by omega) ht hkt l1 l2 l3 (by omega) (by omega),?_⟩
 rw [←ek]
 have h':mostTo (goC l id k t) l.length < l.length:=by
  have:=most_lt (l:=goC l id k t) (by omega)
  rwa [hlen] at this
 exact meas_less h.len.2 (by omega) h' (fun i hi=>by rw [ek];exact most_ge _ i hi) l1 l2 l3 (by omega) (by omega)
end
end Go.Proofs.YtfmciiffcmfagaaGreat
namespace Go.Proofs.YtfmciiffcmfagaaGreat
open Go.RowKit
abbrev Tq:=Nat×List Nat
structure Cs (A:World→Nat→List Nat→Rq→Prop) (w:World) (T:List Tq) (l:List Rq):Prop where
 len:T.length=l.length
 at_:∀(i:Nat) (x:Tq) (q:Rq),T[i]?=some x→l[i]?=some q→A w x.1 x.2 q
 apart:∀(i j:Nat) (x y:Tq),i≠j→T[i]?=some x→T[j]?=some y→∀k ∈ x.2,k ∉ y.2
 lt:∀x ∈ T,∀k ∈ x.2,k < w.heap.size
abbrev tC17:TypeId:=34
abbrev tP17:TypeId:=50
abbrev encP (b:Nat):List Value:=[.pointer (some ⟨b,0,none⟩)]
theorem encP_len (b:Nat):(encP b).length=1:=rfl
section
variable {A:World→Nat→List Nat→Rq→Prop} {w w':World} {T:List Tq} {l:List Rq} {X Y Y':List Nat} {q q':Rq} {b d:Nat}
theorem mem_of_at {α:Type} {l:List α} {k:Nat} {x:α} (h:l[k]?=some x):x ∈ l:=List.mem_iff_getElem?.2 ⟨k,h⟩
theorem Cs.nil (A:World→Nat→List Nat→Rq→Prop) (w:World):Cs A w [] []:=⟨rfl,fun i x q h=>by simp at h,fun i j x y _ h=>by simp at h,fun x hx=>by cases hx⟩
theorem Cs.keep (hA:∀ {b:Nat} {X:List Nat} {q:Rq},A w b X q→(∀k ∈ X,k ∉ Y)→A w' b X q) (h:Cs A w T l) (t:Turned Y w w') (hd:∀x ∈ T,∀k ∈ x.2,k ∉ Y):Cs A w' T l:=
 ⟨h.len,fun i x q h1 h2=>hA (h.at_ i x q h1 h2) (hd x (mem_of_at h1)),h.apart,fun x hx k hk=>Nat.lt_of_lt_of_le (h.lt x hx k hk) t.size⟩
theorem snoc_at {α:Type} {l:List α} {x y:α} {i:Nat} (h:(l++[x])[i]?=some y):l[i]?=some y∨(i=l.length∧y=x):=by
 rcases Nat.lt_or_ge i l.length with hi|hi
 ·rw [List.getElem?_append_left hi] at h
  exact .inl h
 ·rw [List.getElem?_append_right hi] at h
  rcases Nat.eq_zero_or_pos (i - l.length) with h0|h0
  ·rw [h0] at h
   simp only [List.getElem?_cons_zero,Option.some.injEq] at h
   exact .inr ⟨by omega,h.symm⟩
  ·rw [List.getElem?_eq_none (by simp;omega)] at h
   cases h
theorem Cs.push (h:Cs A w' T l) (a:A w' d Y q) (hn:∀k ∈ Y,k < w'.heap.size) (hd:∀x ∈ T,∀k ∈ x.2,k ∉ Y):Cs A w' (T++[(d,Y)]) (l++[q]):=by
 have hl:=h.len
 refine⟨by simp [hl],fun i x r h1 h2=>?_,fun i j x y hij h1 h2 k hk hk'=>?_,fun x hx k hk=>?_⟩
 ·rcases snoc_at h1 with e1|⟨e1,rfl⟩
  ·have hi:i < T.length:=(List.getElem?_eq_some_iff.1 e1).1
   rcases snoc_at h2 with e2|⟨e2,_⟩
   ·exact h.at_ i x r e1 e2
   ·omega
  ·rcases snoc_at h2 with e2|⟨_,rfl⟩
   ·have hi:i < l.length:=(List.getElem?_eq_some_iff.1 e2).1
    omega
   ·exact a
 ·rcases snoc_at h1 with e1|⟨e1,rfl⟩<;>rcases snoc_at h2 with e2|⟨e2,rfl⟩
  ·exact h.apart i j x y hij e1 e2 k hk hk'
  ·exact hd x (mem_of_at e1) k hk hk'
  ·exact hd y (mem_of_at e2) k hk' hk
  ·omega
 ·rcases List.mem_append.1 hx with e|e
  ·exact h.lt x e k hk
  ·simp only [List.mem_singleton] at e
   subst e
   exact hn k hk
theorem set_at {α:Type} {l:List α} {i j:Nat} {x y:α} (h:(l.set i x)[j]?=some y):(i=j∧y=x)∨(i≠j∧l[j]?=some y):=by
 rw [List.getElem?_set] at h
 split at h
 ·rename_i e
  split at h
  ·exact .inl ⟨e,(Option.some.inj h).symm⟩
  ·cases h
 ·exact .inr ⟨by assumption,h⟩
theorem Cs.set (hA:∀ {b:Nat} {X:List Nat} {q:Rq},A w b X q→(∀k ∈ X,k ∉ Y)→A w' b X q) (h:Cs A w T l) {i:Nat} (hi:T[i]?=some (d,Y)) (a:A w' d Y' q') (t:Turned Y w w') (n:Newer Y w.heap.size Y') (hlt:∀k ∈ Y',k < w'.heap.size):Cs A w' (T.set i (d,Y')) (l.set i q'):=by
 have old:∀(j:Nat) (x:Tq),i≠j→T[j]?=some x→(∀k ∈ x.2,k ∉ Y)∧∀k ∈ x.2,k ∉ Y':=fun j x hij hx=>by
  have h1:∀k ∈ x.2,k ∉ Y:=h.apart j i x (d,Y) (fun e=>hij e.symm) hx hi
  refine⟨h1,fun k hk hk'=>?_⟩
  rcases n k hk' with e|e
  ·exact h1 k hk e
  ·have:=h.lt x (mem_of_at hx) k hk
   omega
 refine⟨by simp [h.len],fun j x r h1 h2=>?_,fun j m x y hjm h1 h2 k hk hk'=>?_,fun x hx k hk=>?_⟩
 ·rcases set_at h1 with⟨rfl,rfl⟩ |⟨hij,e1⟩
  ·rcases set_at h2 with⟨_,rfl⟩ |⟨hne,_⟩
   ·exact a
   ·exact absurd rfl hne
  ·rcases set_at h2 with⟨e,_⟩ |⟨_,e2⟩
   ·exact absurd e hij
   ·exact hA (h.at_ j x r e1 e2) (old j x hij e1).1
 ·rcases set_at h1 with⟨rfl,rfl⟩ |⟨hij,e1⟩<;>rcases set_at h2 with⟨rfl,rfl⟩ |⟨him,e2⟩
  ·exact hjm rfl
  ·exact (old m y him e2).2 k hk' hk
  ·exact (old j x hij e1).2 k hk hk'
  ·exact h.apart j m x y hjm e1 e2 k hk hk'
 ·obtain⟨j,hj⟩:=List.mem_iff_getElem?.1 hx
  rcases set_at hj with⟨rfl,rfl⟩ |⟨_,e⟩
  ·exact hlt k hk
  ·exact Nat.lt_of_lt_of_le (h.lt x (mem_of_at e) k hk) t.size
structure R17 (w:World) (b:Nat) (X0:List Nat) (T:List Tq) (l:List Rq):Prop where
 cs:LAt tC17 tP17 1 encP (fun v=> #[v]) w b X0 (T.map (·.1))
 qs:Cs R16 w T l
 off:∀x ∈ T,∀k ∈ x.2,k ∉ X0
def blk (X0:List Nat) (T:List Tq):List Nat:=X0++T.flatMap (·.2)
theorem blk_mem {X0:List Nat} {T:List Tq} {k:Nat} :k ∈ blk X0 T↔k ∈ X0∨∃x ∈ T,k ∈ x.2:=by simp [blk]
theorem r16_keep (t:Turned Y w w'):∀ {b:Nat} {X:List Nat} {q:Rq},R16 w b X q→(∀k ∈ X,k ∉ Y)→R16 w' b X q:=fun h hd=>LAt.keep h t hd
theorem r16_lt (h:R16 w b X q):∀k ∈ X,k < w.heap.size:=LAt.lt h
theorem R17.keep {X0:List Nat} (h:R17 w b X0 T l) (t:Turned Y w w') (hd:∀k ∈ blk X0 T,k ∉ Y):R17 w' b X0 T l:=
 ⟨h.cs.keep t fun k hk=>hd k (blk_mem.2 (.inl hk)),h.qs.keep (r16_keep t) t fun x hx k hk=>hd k (blk_mem.2 (.inr ⟨x,hx,hk⟩)),h.off⟩
theorem R17.view {X0:List Nat} (h:R17 w b X0 T l):∃a cap,w.cell? ⟨b,0,none⟩=some (.slice a l.length cap)∧l.length≤maxLen∧∀(i:Nat) (q:Rq),l[i]?=some q→∃g d Y,a=some ⟨g,0,none⟩∧T[i]?=some (d,Y)∧w.cell? ⟨g,i,none⟩=some (.pointer (some ⟨d,0,none⟩))∧R16 w d Y q:=by
 obtain⟨a,cap,h1,h2,h3,hc,hm,hg⟩:=LAt.view h.cs
 have hl:=h.qs.len
 rw [List.length_map,hl] at h1 hc
 rw [List.length_map] at hg
 refine⟨a,cap,by simp [World.cell?,h1],by omega,fun i q hq=>?_⟩
 have hi:i < l.length:=(List.getElem?_eq_some_iff.1 hq).1
 have hT:T[i]?=some (T[i]'(by omega)):=List.getElem?_eq_getElem (by omega)
 obtain⟨g,hg|hg⟩:=hg i (by omega)
 ·obtain⟨rfl,hbg⟩:=hg
  have r:=(row_cells encP_len h2 (j:=i) (by simp;omega) 0 (by omega)).1
  refine⟨g,_,_,rfl,hT,?_,h.qs.at_ i _ q hT hq⟩
  simpa using r
 ·exact absurd hg (by decide)
theorem R17.set {X0:List Nat} (h:R17 w b X0 T l) {i:Nat} (hi:T[i]?=some (d,Y)) (a:R16 w' d Y' q') (t:Turned Y w w') (n:Newer Y w.heap.size Y'):R17 w' b X0 (T.set i (d,Y')) (l.set i q')∧Turned (blk X0 T) w w'∧Newer (blk X0 T) w.heap.size (blk X0 (T.set i (d,Y'))):=by
 have hY:=h.off _ (mem_of_at hi)
 have hm:(T.set i (d,Y')).map (·.1)=T.map (·.1):=by
  apply List.ext_getElem?
  intro j
  rw [List.getElem?_map,List.getElem?_map,List.getElem?_set]
  by_cases e:i=j
  ·subst e
   have hi':i < T.length:=(List.getElem?_eq_some_iff.1 hi).1
   rw [if_pos rfl,if_pos hi',hi]
   rfl
  ·rw [if_neg e]
 have ht:Turned (blk X0 T) w w':=t.mono fun k hk=> .inl (blk_mem.2 (.inr ⟨_,mem_of_at hi,hk⟩))
 refine⟨⟨?_,h.qs.set (r16_keep t) hi a t n (r16_lt a),fun x hx k hk=>?_⟩,ht,fun k hk=>?_⟩
 ·rw [hm]
  exact h.cs.keep t fun k hk hk'=>hY k hk' hk
 ·obtain⟨j,hj⟩:=List.mem_iff_getElem?.1 hx
  rcases set_at hj with⟨rfl,rfl⟩ |⟨_,e⟩
  ·rcases n k hk with e|e
   ·exact hY k e
   ·intro hk0
    have:=LAt.lt h.cs k hk0
    omega
  ·exact h.off x (mem_of_at e) k hk
 ·rcases blk_mem.1 hk with e|⟨x,hx,e⟩
  ·exact .inl (blk_mem.2 (.inl e))
  ·obtain⟨j,hj⟩:=List.mem_iff_getElem?.1 hx
   rcases set_at hj with⟨rfl,rfl⟩ |⟨_,e'⟩
   ·rcases n k e with e2|e2
    ·exact .inl (blk_mem.2 (.inr ⟨_,mem_of_at hi,e2⟩))
    ·exact .inr e2
   ·exact .inl (blk_mem.2 (.inr ⟨x,mem_of_at e',e⟩))
end
end Go.Proofs.YtfmciiffcmfagaaGreat
