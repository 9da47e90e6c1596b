/-
  The program's queue in memory; what only reads it: clamp, find, running, V, Current, Floor, Len.
  The program's queue: clamp, find, running, V, Current, Floor, Len, least.
  The program's queue: the first ready one; least, Settle, Due.
  The program's queue: New, Back, Pick, Settle, Tick. (Made by gen_rpturn.py.)
  The program's queue: Tick, Pick. (Made by gen_rptick.py.)
  The program's queue: Pick.
  Pointers to tasks: the same, or others.
-/
import Derived.Test.YtfmciiffcmfagaaZAO
import Derived.Test.YtfmciiffcmfagaaZAC
import Derived.Test.YtfmciiffcmfagaaZAD
import Derived.Test.YtfmciiffcmfagaaZAB
import Derived.LaidEqlPtr
import Derived.Test.YtfmciiffcmfagaaZAl
set_option maxRecDepth 100000
set_option maxHeartbeats 25600000
namespace Go.Proofs.Ytfmciiffcmfagaa
open Go.RowKit
attribute [local go_sem ↓] run_min_un run_max_un
abbrev tQu:TypeId:=57
abbrev tTk:TypeId:=62
abbrev tkC (x:Tk):Array Value:= #[.int .u64 x.2.1, .int .i64 x.1, .int .i64 x.2.2]
def curP (B:Int→Nat) (q:Rq):Option Addr:=if 0≤q.cur then some ⟨B q.cur,0,none⟩ else none
abbrev quC (q:Rq) (bt br:Nat) (cp:Option Addr) (r:Int):Array Value:= #[.int .i64 q.g, .int .u64 q.f, .pointer (some ⟨bt,0,none⟩), .pointer (some ⟨br,0,none⟩), .pointer cp, .int .i64 r]
structure RpI (w:World) (b:Nat) (q:Rq) (bt br:Nat) (T R:Tr Nat) (B:Int→Nat) (r:Int):Prop where
 h0:w.heap[b]?=some (.cells (quC q bt br (curP B q) r) tQu (0,0))
 h1:TAt w bt 16 T
 h2:TAt w br 16 R
 ht:HasT B q.l T
 hr:HasR B q.ready R
 k:∀x ∈ q.l,w.heap[B x.1]?=some (.cells (tkC x) tTk (0,0))
 inj:∀x ∈ q.l,∀y ∈ q.l,B x.1=B y.1→x.1=y.1
 rn:0≤q.cur→r=q.ran
 ne:bt≠br
def blocksQ (b bt br:Nat) (B:Int→Nat) (l:List Tk):List Nat:=b::bt::br::l.map fun x=>B x.1
def RpAt (w:World) (b:Nat) (X:List Nat) (q:Rq):Prop:=∃bt br T R B r,X=blocksQ b bt br B q.l∧RpI w b q bt br T R B r
theorem mem_blocksQ {b bt br k:Nat} {B:Int→Nat} {l:List Tk} :k ∈ blocksQ b bt br B l↔k=b∨k=bt∨k=br∨∃x ∈ l,B x.1=k:=by simp [blocksQ]
theorem cells6 {w:World} {b:Nat} {a0 a1 a2 a3 a4 a5:Value} {t:TypeId} (h:w.heap[b]?=some (.cells #[a0,a1,a2,a3,a4,a5] t (0,0))):
  (w.cell? ⟨b,0,none⟩=some a0∧w.cell? ⟨b,1,none⟩=some a1∧w.cell? ⟨b,2,none⟩=some a2∧w.cell? ⟨b,3,none⟩=some a3∧w.cell? ⟨b,4,none⟩=some a4∧w.cell? ⟨b,5,none⟩=some a5)∧∀i,w.frozen? ⟨b,i,none⟩=false:=
 ⟨⟨by simp [World.cell?,h],by simp [World.cell?,h],by simp [World.cell?,h],by simp [World.cell?,h],by simp [World.cell?,h],by simp [World.cell?,h]⟩,fun i=>frozen_of_row w b i _ _ h⟩
theorem cells3k {w:World} {b:Nat} {a0 a1 a2:Value} {t:TypeId} (h:w.heap[b]?=some (.cells #[a0,a1,a2] t (0,0))):
  (w.cell? ⟨b,0,none⟩=some a0∧w.cell? ⟨b,1,none⟩=some a1∧w.cell? ⟨b,2,none⟩=some a2)∧∀i,w.frozen? ⟨b,i,none⟩=false:=
 ⟨⟨by simp [World.cell?,h],by simp [World.cell?,h],by simp [World.cell?,h]⟩,fun i=>frozen_of_row w b i _ _ h⟩
theorem types_ne {w:World} {i j:Nat} {cs ds:Array Value} {t u:TypeId} (h:w.heap[i]?=some (.cells cs t (0,0))) (g:w.heap[j]?=some (.cells ds u (0,0))) (hn:t≠u):i≠j:=by
 rintro rfl
 rw [h] at g
 injection g with g
 injection g with _ g
 exact hn g
theorem keepsN_of {Y:List Nat} {w w':World} (h:Turned Y w w') (hY:∀k ∈ Y,∃cs t,w.heap[k]?=some (.cells cs t (0,0))∧t≠tNd):KeepsN w w':=
 KeepsN.of_turned h fun k hk cs e=>by
  obtain⟨ds,t,h1,h2⟩:=hY k hk
  exact absurd rfl (types_ne h1 e h2)
section
variable {w w':World} {b bt br:Nat} {q:Rq} {T R:Tr Nat} {B:Int→Nat} {r c:Int} {X Y:List Nat}
theorem RpI.bt0 (h:RpI w b q bt br T R B r):∃cs,w.heap[bt]?=some (.cells cs tTr (0,0)):=by
 obtain⟨p,e,_⟩:=h.h1
 exact⟨_,e⟩
theorem RpI.br0 (h:RpI w b q bt br T R B r):∃cs,w.heap[br]?=some (.cells cs tTr (0,0)):=by
 obtain⟨p,e,_⟩:=h.h2
 exact⟨_,e⟩
theorem RpI.nbt (h:RpI w b q bt br T R B r):b≠bt:=by
 obtain⟨cs,e⟩:=h.bt0
 exact types_ne h.h0 e (by decide)
theorem RpI.nbr (h:RpI w b q bt br T R B r):b≠br:=by
 obtain⟨cs,e⟩:=h.br0
 exact types_ne h.h0 e (by decide)
theorem RpI.nkb (h:RpI w b q bt br T R B r) {x:Tk} (hx:x ∈ q.l):B x.1≠b:=types_ne (h.k x hx) h.h0 (by decide)
theorem RpI.nkt (h:RpI w b q bt br T R B r) {x:Tk} (hx:x ∈ q.l):B x.1≠bt:=by
 obtain⟨cs,e⟩:=h.bt0
 exact types_ne (h.k x hx) e (by decide)
theorem RpI.nkr (h:RpI w b q bt br T R B r) {x:Tk} (hx:x ∈ q.l):B x.1≠br:=by
 obtain⟨cs,e⟩:=h.br0
 exact types_ne (h.k x hx) e (by decide)
theorem RpI.kinds (h:RpI w b q bt br T R B r):∀k ∈ blocksQ b bt br B q.l,∃cs t,w.heap[k]?=some (.cells cs t (0,0))∧t≠tNd:=fun k hk=>by
 rcases mem_blocksQ.1 hk with rfl|rfl|rfl|⟨x,hx,rfl⟩
 ·exact⟨_,_,h.h0,by decide⟩
 ·obtain⟨cs,e⟩:=h.bt0
  exact⟨_,_,e,by decide⟩
 ·obtain⟨cs,e⟩:=h.br0
  exact⟨_,_,e,by decide⟩
 ·exact⟨_,_,h.k x hx,by decide⟩
theorem RpI.keep (h:RpI w b q bt br T R B r) (ht:Turned Y w w') (hd:∀k ∈ blocksQ b bt br B q.l,k ∉ Y) (hk:KeepsN w w'):RpI w' b q bt br T R B r:=
 ⟨ht.same h.h0 (hd _ (mem_blocksQ.2 (.inl rfl))),h.h1.keep ht (hd _ (mem_blocksQ.2 (.inr (.inl rfl)))) hk,h.h2.keep ht (hd _ (mem_blocksQ.2 (.inr (.inr (.inl rfl))))) hk,h.ht,h.hr,
   fun x hx=>ht.same (h.k x hx) (hd _ (mem_blocksQ.2 (.inr (.inr (.inr ⟨x,hx,rfl⟩))))),h.inj,h.rn,h.ne⟩
theorem RpI.later (h:RpI w b q bt br T R B r) (ht:Turned [] w w'):RpI w' b q bt br T R B r:=h.keep ht (by simp) ht.keepsN
theorem curP_some (hq:QOk q c) (h0:0≤q.cur) (B:Int→Nat):∃x ∈ q.l,x.1=q.cur∧curP B q=some ⟨B x.1,0,none⟩:=by
 obtain⟨x,hx,e⟩:=hq.cur h0
 exact⟨x,hx,e,by rw [curP,if_pos h0,e]⟩
theorem curP_none (h0:¬0≤q.cur) (B:Int→Nat):curP B q=none:=by rw [curP,if_neg h0]
theorem rpWithin (n:Int) (w:World):Calls Try.prog 34 #[.int .i64 n] w fun e w'=>e= .returned (.int .i64 (bringR n 1 4096))∧w'=w:=by
 rw [←bring_minmax (show (1:Int)≤4096 by decide)]
 go_enter Try.func34,Try.ntmps34
 go_wp2
 go_ret
 exact⟨rfl,rfl⟩
theorem key_result {fn:Func} {p:Tmp} (hf:fn.results= #[.cell p tKy]) {tmps:Array Value} {w:World} {N:Nat} {k1 k2:Int} (hp:tmps.getD p undef= .pointer (some ⟨N,0,none⟩)) (h0:w.heap[N]?=some (.cells #[.int .u64 k1, .int .i64 k2] tKy (0,0))):
  (results fn tmps).run Try.prog w= .ok (.agg #[.int .u64 k1, .int .i64 k2]) w:=by
 have a0:w.cell? ⟨N,0,none⟩=some (.int .u64 k1):=by simp [World.cell?,h0]
 have a1:w.cell? ⟨N,1,none⟩=some (.int .i64 k2):=by simp [World.cell?,h0]
 have hp':tmps[p]?.getD undef= .pointer (some ⟨N,0,none⟩):=by simpa using hp
 simp [results,hf,hp',loadVar,go_sem,a0,a1,asAddr,Sem.run_bind,Result.andThen]
theorem rpByNumber (n:Int) (w:World):Calls Try.prog 36 #[.int .i64 n] w fun e w'=>e= .returned (.agg #[.int .u64 0, .int .i64 n])∧Turned [] w w':=by
 have HT:=xhd ((Turned.refl [] w).alloc (.cells #[.int .u64 0, .int .i64 n] tKy))
 have HC:=xhd (heap_alloc_new w (.cells #[.int .u64 0, .int .i64 n] tKy))
 go_enter Try.func36,Try.ntmps36
 go_wp2
 refine bodyPost_ret (key_result rfl rfl HC.out) rfl ?_
 exact⟨rfl,HT.out⟩
end
end Go.Proofs.Ytfmciiffcmfagaa
namespace Go.Proofs.Ytfmciiffcmfagaa
open Go.RowKit
attribute [local go_sem ↓] run_min_un run_max_un
section
variable {w w':World} {b bt br:Nat} {q:Rq} {T R:Tr Nat} {B:Int→Nat} {r c:Int} {X Y:List Nat}
theorem reach_bringP (n g:Int):reachR (bringR n 1 4096) g=reachR n g:=by
 unfold reachR coreR
 rw [show bringR (bringR n 1 4096) 1 4096=bringR n 1 4096 by
  have:=bring_range (n:=n) (lo:=1) (hi:=4096) (by decide)
  generalize bringR n 1 4096=k at this
  unfold bringR
  rw [if_neg (by omega),if_neg (by omega)]]
theorem place_bring (q:Rq) (v n:Int):q.place v (bringR n 1 4096)=q.place v n:=by rw [Rq.place,Rq.place,reach_bringP]
theorem reach_word (n g:Int):Word (reachR n g):=by
 have:=reach_range n g
 exact⟨by omega,by omega⟩
theorem rpClamp (h:RpI w b q bt br T R B r) (hf:Word q.f) (v n:Int):
  Calls Try.prog 33 #[.pointer (some ⟨b,0,none⟩), .int .u64 v, .int .i64 n] w fun e w'=>e= .returned (.int .u64 (q.place v n))∧∃k,w'=w.drewN k:=by
 obtain⟨⟨c0,c1,c2,c3,c4,c5⟩,_⟩:=cells6 h.h0
 have HR:=xhd (fun W=>ureach_any n q.g W)
 have HC:=xhd (fun W=>uclamp_any v q.f (reachR n q.g) hf (reach_word n q.g) W)
 rw [Rq.place]
 obtain⟨z,hz⟩:∃z,clampR v q.f (reachR n q.g)=z:=⟨_,rfl⟩
 obtain⟨y,hy⟩:∃y,reachR n q.g=y:=⟨_,rfl⟩
 rw [hz] at HC ⊢
 rw [hy] at HR HC
 clear h hf hz hy c2 c3 c4 c5
 go_enter Try.func33,Try.ntmps33
 go_wp2_with fail
 go_quiet (first|(go_at_call 50;exact Calls.quiet_of_same (HR.out _)) |(go_at_call 49;exact Calls.quiet_of_same (HC.out _)))
 go_wp2
 go_ret
 exact⟨rfl,_,rfl⟩
def findP (B:Int→Nat) (q:Rq) (id:Int):Option Addr:=if (findQ q.l id).isSome=true then some ⟨B id,0,none⟩ else none
theorem toV_find (h:HasT B q.l T) (id:Int):toV (T.fnd (0,id))= .pointer (findP B q id):=by
 rw [h.find id,findP]
 cases findQ q.l id<;>rfl
theorem rpFind (h:RpI w b q bt br T R B r) (id:Int):
  Calls Try.prog 43 #[.pointer (some ⟨b,0,none⟩), .int .i64 id] w fun e w'=>e= .returned (.pointer (findP B q id))∧Turned [] w w':=by
 have HB:=xhd (fun W=>rpByNumber id W)
 have HF:=xhd (fun W (ht:Turned [] w W)=>findT_any (h.h1.later ht) 0 id)
 rw [toV_find h.ht] at HF
 obtain⟨sb,hsb⟩:∃sb,(T.fnd (0,id)).isSome=sb:=⟨_,rfl⟩
 rw [hsb] at HF
 have HS:Hid (∀W,Turned [] w W→W.cell? ⟨b,2,none⟩=some (.pointer (some ⟨bt,0,none⟩))∧Turned [] w W):=xhd fun W ht=>⟨(cells6 (ht.same h.h0 (by simp))).1.2.2.1,ht⟩
 clear h hsb
 obtain⟨e2,et⟩:=HS.out _ (Turned.refl [] w).drew
 go_enter Try.func43,Try.ntmps43
 go_wp2_with fail
 go_region_held3 (fun W=>W.cell? ⟨b,2,none⟩=some (.pointer (some ⟨bt,0,none⟩))∧Turned [] w W)
  (first|exact⟨g2,gt⟩ |exact⟨f2,ft⟩ |exact⟨e2,et⟩)
  (first
    |(go_at_call 36
      with_reducible refine (HB.out _).mono ?_
      rintro e V ⟨rfl,t1⟩
      obtain⟨f2,ft⟩:=HS.out _ (et.join t1)
      clear t1)
    |(go_at_call 57
      with_reducible refine (HF.out _ ft).mono ?_
      rintro e V2 ⟨rfl,t2⟩
      obtain⟨g2,gt⟩:=HS.out _ (ft.join t2)
      clear t2))
 all_goals
  have GT:=xhd gt
  clear gt ft et
  go_wp2
  go_ret
  exact⟨rfl,GT.out⟩
theorem rpRunning (h:RpI w b q bt br T R B r):
  Calls Try.prog 60 #[.pointer (some ⟨b,0,none⟩)] w fun e w'=>e= .returned (.pointer (curP B q))∧w'=w:=by
 obtain⟨⟨c0,c1,c2,c3,c4,c5⟩,_⟩:=cells6 h.h0
 clear h
 go_enter Try.func60,Try.ntmps60
 go_wp2
 go_ret
 exact⟨rfl,rfl⟩
theorem rpFloor (h:RpI w b q bt br T R B r):
  Calls Try.prog 41 #[.pointer (some ⟨b,0,none⟩)] w fun e w'=>e= .returned (.int .u64 q.f)∧Turned [] w w':=by
 obtain⟨⟨c0,c1,c2,c3,c4,c5⟩,_⟩:=cells6 h.h0
 clear h
 go_enter Try.func41,Try.ntmps41
 go_wp2
 go_ret
 exact⟨rfl,Turned.refl _ _⟩
theorem rpLen (h:RpI w b q bt br T R B r):
  Calls Try.prog 32 #[.pointer (some ⟨b,0,none⟩)] w fun e w'=>e= .returned (.int .i64 (q.l.length:Nat))∧Turned [] w w':=by
 obtain⟨⟨c0,c1,c2,c3,c4,c5⟩,_⟩:=cells6 h.h0
 have HL:=xhd (len_any h.h1)
 rw [h.ht.len] at HL
 clear h
 go_enter Try.func32,Try.ntmps32
 go_wp2_with fail
 with_reducible refine HL.out.mono ?_
 rintro e V ⟨rfl,rfl⟩
 go_wp2
 go_ret
 exact⟨rfl,Turned.refl _ _⟩
theorem remV_some {id:Int} {x:Int×Int} (h:findQ q.l id=some x):remV q id=x.1:=by simp [remV,h]
theorem remV_none {id:Int} (h:findQ q.l id=none):remV q id=0:=by simp [remV,h]
theorem rpV (h:RpI w b q bt br T R B r) (id:Int):
  Calls Try.prog 25 #[.pointer (some ⟨b,0,none⟩), .int .i64 id] w fun e w'=>e= .returned (.tuple #[.int .u64 (remV q id), .bool (findQ q.l id).isSome])∧Turned [] w w':=by
 have HF:=xhd (rpFind h id)
 rw [findP] at HF
 have HK:=xhd h.k
 clear h
 cases hq:findQ q.l id with
 |none=>
  rw [remV_none hq]
  rw [hq,Option.isSome_none,if_neg (by simp)] at HF
  clear hq HK
  go_enter Try.func25,Try.ntmps25
  go_wp2_with fail
  with_reducible refine HF.out.mono ?_
  rintro e V ⟨rfl,t⟩
  have HT:=xhd t
  clear t
  go_wp2
  go_ret2
  exact⟨rfl,HT.out⟩
 |some x=>
  rw [remV_some hq]
  rw [hq,Option.isSome_some,if_pos rfl] at HF
  have hm:=HK.out _ (findQ_mem hq)
  obtain⟨x1,x2⟩:=x
  have HM:=xhd hm
  clear hm hq HK
  dsimp only
  go_enter Try.func25,Try.ntmps25
  go_wp2_with fail
  with_reducible refine HF.out.mono ?_
  rintro e V ⟨rfl,t⟩
  obtain⟨⟨k0,k1,k2⟩,_⟩:=cells3k (t.same HM.out (by simp))
  have HT:=xhd t
  clear t
  dsimp only at k0
  go_wp2
  go_ret2
  exact⟨rfl,HT.out⟩
theorem rpCurrent (h:RpI w b q bt br T R B r) (hq:QOk q c):
  Calls Try.prog 46 #[.pointer (some ⟨b,0,none⟩)] w fun e w'=>e= .returned (.tuple #[.int .i64 q.cur, .int .i64 q.ran, .bool (decide (0≤q.cur))])∧Turned [] w w':=by
 have HR:=xhd (rpRunning h)
 obtain⟨⟨c0,c1,c2,c3,c4,c5⟩,_⟩:=cells6 h.h0
 by_cases h0:0≤q.cur
 ·obtain⟨x,hx,e1,e2⟩:=curP_some hq h0 B
  obtain⟨⟨k0,k1,k2⟩,_⟩:=cells3k (h.k x hx)
  rw [e2] at HR
  rw [h.rn h0] at c5
  rw [show decide (0≤q.cur)=true by simpa using h0, ←e1]
  clear h hq h0 hx e1 e2 c4
  go_enter Try.func46,Try.ntmps46
  go_wp2_with fail
  with_reducible refine HR.out.mono ?_
  rintro e V ⟨rfl,rfl⟩
  go_wp2_with fail
  go_quiet (fail)
  go_wp2
  go_ret3
  exact⟨rfl,(Turned.refl _ _).drewN _⟩
 ·rw [curP_none h0 B] at HR
  obtain⟨i1,i2⟩:=hq.idle (by omega)
  rw [show decide (0≤q.cur)=false by simpa using h0,i1,i2]
  clear h hq h0 i1 i2 c4
  go_enter Try.func46,Try.ntmps46
  go_wp2_with fail
  with_reducible refine HR.out.mono ?_
  rintro e V ⟨rfl,rfl⟩
  go_wp2
  go_ret3
  exact⟨rfl,Turned.refl _ _⟩
end
end Go.Proofs.Ytfmciiffcmfagaa
namespace Go.Proofs.Ytfmciiffcmfagaa
open Go.RowKit
attribute [local go_sem ↓] run_min_un run_max_un
def lvQ (q:Rq):Int:=match q.l with
 |[]=>0
 |x::l=>minQ l x.2.1
theorem lvQ_of {q:Rq} {m:Int} (h1:∃y ∈ q.l,y.2.1=m) (h2:∀y ∈ q.l,m≤y.2.1):lvQ q=m:=by
 unfold lvQ
 cases hl:q.l with
 |nil=>rw [hl] at h1;obtain⟨y,hy,_⟩:=h1;cases hy
 |cons x l=>
  rw [hl] at h1 h2
  obtain⟨a,b⟩:=minQ_le l x.2.1
  have g:=minQ_ge l x.2.1 m (h2 x (by simp)) (fun y hy=>h2 y (List.mem_cons_of_mem _ hy))
  obtain⟨y,hy,e⟩:=h1
  have:minQ l x.2.1≤m:=by
   rcases List.mem_cons.1 hy with rfl|hy
   ·omega
   ·have:=b y hy;omega
  show minQ l x.2.1=m
  omega
theorem settle_max {q:Rq} (hf:Word q.f):q.settle.f=max q.f (lvQ q):=by
 have:=hf.1
 unfold Rq.settle lvQ
 cases q.l with
 |nil=>show q.f=max q.f 0;omega
 |cons x l=>
  show (if q.f < minQ l x.2.1 then minQ l x.2.1 else q.f)=max q.f (minQ l x.2.1)
  split<;>omega
theorem ready_sub {q:Rq} {y:Tk} (h:y ∈ q.ready):y ∈ q.l∧y.1≠q.cur:=by
 have:=List.mem_filter.1 h
 exact⟨this.1,by simpa using this.2⟩
theorem ready_or {q:Rq} {y:Tk} (h:y ∈ q.l) (hc:y.1≠q.cur):y ∈ q.ready:=List.mem_filter.2 ⟨h,by simpa using hc⟩
theorem head_least {l:List Tk} {y:Tk} {r:List Tk} (h:sortQ l=y::r):y ∈ l∧∀z ∈ l,y.2.1≤z.2.1:=by
 have hm:∀z,z ∈ sortQ l↔z ∈ l:=fun z=>mem_sort
 rw [h] at hm
 refine⟨(hm y).1 (by simp),fun z hz=>?_⟩
 have hs:=sort_sorted l
 rw [h] at hs
 rcases List.mem_cons.1 ((hm z).2 hz) with rfl|hz'
 ·omega
 ·have:=ltQ_not.1 ((List.pairwise_cons.1 hs).1 z hz')
  omega
section
variable {w w':World} {b bt br:Nat} {q:Rq} {T R:Tr Nat} {B:Int→Nat} {r c:Int} {X Y:List Nat}
def fstR (B:Int→Nat) (q:Rq):Value:=match sortQ q.ready with
 |[]=> .tuple #[.agg #[.int .u64 0, .int .i64 0], .pointer none, .bool false]
 |x::_=> .tuple #[.agg #[.int .u64 x.2.1, .int .i64 x.1], .pointer (some ⟨B x.1,0,none⟩), .bool true]
theorem RpI.first (h:RpI w b q bt br T R B r) (hq:QOk q c):Calls Try.prog 59 #[.pointer (some ⟨br,0,none⟩)] w fun e w'=>e= .returned (fstR B q)∧Turned [] w w':=by
 have hf:=tfirst_any h.h2 (h.hr.key (fun x hx=>hq.ids x (ready_sub hx).1) (fun x hx=>hq.v x (ready_sub hx).1))
 have e:fstV R=fstR B q:=by
  rw [fstV,fstR,h.hr.sorted (ready_nodup hq.uniq)]
  cases sortQ q.ready<;>rfl
 rw [e] at hf
 exact hf
theorem rpLeast (h:RpI w b q bt br T R B r) (hq:QOk q c):Calls Try.prog 45 #[.pointer (some ⟨b,0,none⟩)] w fun e w'=>e= .returned (.int .u64 (lvQ q))∧Turned [] w w':=by
 have HF:=xhd (h.first hq)
 obtain⟨⟨c0,c1,c2,c3,c4,c5⟩,_⟩:=cells6 h.h0
 have HS:Hid (∀W,Turned [] w W→W.cell? ⟨b,4,none⟩=some (.pointer (curP B q))∧b < W.heap.size):=xhd fun W ht=>⟨(cells6 (ht.same h.h0 (by simp))).1.2.2.2.2.1,Nat.lt_of_lt_of_le (lt_of_block h.h0) ht.size⟩
 rw [fstR] at HF
 by_cases h0:0≤q.cur
 ·obtain⟨x,hx,e1,e2⟩:=curP_some hq h0 B
  have HK:Hid (∀W,Turned [] w W→W.cell? ⟨B x.1,0,none⟩=some (.int .u64 x.2.1)∧B x.1 < W.heap.size):=xhd fun W ht=>⟨(cells3k (ht.same (h.k x hx) (by simp))).1.1,Nat.lt_of_lt_of_le (lt_of_block (h.k x hx)) ht.size⟩
  rw [e2] at HS
  cases hs:sortQ q.ready with
  |nil=>
   have hv:lvQ q=x.2.1:=lvQ_of ⟨x,hx,rfl⟩ fun y hy=>by
    by_cases e:y.1=q.cur
    ·rw [findQ_one hq.uniq hy hx (by omega)];omega
    ·have:=mem_sort.2 (ready_or hy e)
     rw [hs] at this
     cases this
   rw [hs] at HF
   rw [hv]
   clear h hq h0 e1 e2 hs hv hx c0 c1 c2 c4 c5
   go_enter Try.func45,Try.ntmps45
   go_wp2_with fail
   with_reducible refine HF.out.mono ?_
   rintro e V ⟨rfl,t⟩
   have HT:=xhd t
   obtain⟨s1,s2⟩:=HS.out V t
   obtain⟨k1,k2⟩:=HK.out V t
   have HT2:=xhd (t.alloc (.cells #[.int .u64 0, .int .i64 0] tKy))
   clear t
   go_wp2
   go_ret
   exact⟨rfl,HT2.out⟩
  |cons y ys=>
   obtain⟨g1,g2⟩:=head_least hs
   have hv:lvQ q=min y.2.1 x.2.1:=lvQ_of (by
    by_cases e:y.2.1≤x.2.1
    ·exact⟨y,(ready_sub g1).1,by omega⟩
    ·exact⟨x,hx,by omega⟩) fun z hz=>by
    by_cases e:z.1=q.cur
    ·rw [findQ_one hq.uniq hz hx (by omega)];omega
    ·have:=g2 z (ready_or hz e)
     omega
   rw [hs] at HF
   rw [hv]
   obtain⟨y1,y2,y3⟩:=y
   simp only at HF ⊢
   obtain⟨x1,x2,x3⟩:=x
   simp only at HK HS ⊢
   clear h hq h0 e1 e2 hs hv hx g1 g2 c0 c1 c2 c4 c5
   go_enter Try.func45,Try.ntmps45
   go_wp2_with fail
   with_reducible refine HF.out.mono ?_
   rintro e V ⟨rfl,t⟩
   have HT:=xhd t
   obtain⟨s1,s2⟩:=HS.out V t
   obtain⟨k1,k2⟩:=HK.out V t
   have HT2:=xhd (t.alloc (.cells #[.int .u64 y2, .int .i64 y1] tKy))
   clear t
   go_wp2_with fail
   go_quiet (fail)
   go_wp2
   go_ret
   exact⟨rfl,HT2.out.drewN _⟩
 ·rw [curP_none h0 B] at HS
  cases hs:sortQ q.ready with
  |nil=>
   have hv:lvQ q=0:=by
    unfold lvQ
    cases hl:q.l with
    |nil=>rfl
    |cons x l=>
     have hx:x ∈ q.l:=by rw [hl];simp
     have:=mem_sort.2 (ready_or hx (by have:=hq.ids x hx;omega))
     rw [hs] at this
     cases this
   rw [hs] at HF
   rw [hv]
   clear h hq h0 hs hv c0 c1 c2 c4 c5
   go_enter Try.func45,Try.ntmps45
   go_wp2_with fail
   with_reducible refine HF.out.mono ?_
   rintro e V ⟨rfl,t⟩
   obtain⟨s1,s2⟩:=HS.out V t
   have HT2:=xhd (t.alloc (.cells #[.int .u64 0, .int .i64 0] tKy))
   clear t
   go_wp2
   go_ret
   exact⟨rfl,HT2.out⟩
  |cons y ys=>
   obtain⟨g1,g2⟩:=head_least hs
   have hv:lvQ q=y.2.1:=lvQ_of ⟨y,(ready_sub g1).1,rfl⟩ fun z hz=>g2 z (ready_or hz (by have:=hq.ids z hz;omega))
   rw [hs] at HF
   rw [hv]
   obtain⟨y1,y2,y3⟩:=y
   simp only at HF ⊢
   clear h hq h0 hs hv g1 g2 c0 c1 c2 c4 c5
   go_enter Try.func45,Try.ntmps45
   go_wp2_with fail
   with_reducible refine HF.out.mono ?_
   rintro e V ⟨rfl,t⟩
   obtain⟨s1,s2⟩:=HS.out V t
   have HT2:=xhd (t.alloc (.cells #[.int .u64 y2, .int .i64 y1] tKy))
   clear t
   go_wp2
   go_ret
   exact⟨rfl,HT2.out⟩
end
end Go.Proofs.Ytfmciiffcmfagaa
namespace Go.Proofs.Ytfmciiffcmfagaa
open Go.RowKit
attribute [local go_sem ↓] run_min_un run_max_un
section
variable {w w':World} {b bt br:Nat} {q q':Rq} {T R R':Tr Nat} {B:Int→Nat} {r r' c:Int} {X Y:List Nat}
theorem RpI.store (h:RpI w b q bt br T R B r) (hl:q'.l=q.l) (ht:Turned [b,br] w w') (h0:w'.heap[b]?=some (.cells (quC q' bt br (curP B q') r') tQu (0,0))) (h2:TAt w' br 16 R') (hr:HasR B q'.ready R') (rn:0≤q'.cur→r'=q'.ran):
  RpI w' b q' bt br T R' B r':=by
 have hk:KeepsN w w':=keepsN_of ht fun k hk=>h.kinds k (by
  simp at hk
  rcases hk with rfl|rfl
  ·exact mem_blocksQ.2 (.inl rfl)
  ·exact mem_blocksQ.2 (.inr (.inr (.inl rfl))))
 refine⟨h0,h.h1.keep ht (by simp;exact⟨fun e=>h.nbt e.symm,h.ne⟩) hk,h2,by rw [hl];exact h.ht,hr,fun x hx=>?_,by rw [hl];exact h.inj,rn,h.ne⟩
 rw [hl] at hx
 exact ht.same (h.k x hx) (by simp;exact⟨h.nkb hx,h.nkr hx⟩)
theorem RpI.mem (h:RpI w b q bt br T R B r):∀k ∈ ([b,br]:List Nat),k ∈ blocksQ b bt br B q.l:=fun k hk=>by
 simp at hk
 rcases hk with rfl|rfl
 ·exact mem_blocksQ.2 (.inl rfl)
 ·exact mem_blocksQ.2 (.inr (.inr (.inl rfl)))
theorem RpI.lt (h:RpI w b q bt br T R B r):∀k ∈ blocksQ b bt br B q.l,k < w.heap.size:=fun k hk=>by
 obtain⟨cs,t,e,_⟩:=h.kinds k hk
 exact lt_of_block e
theorem RpI.len (h:RpI w b q bt br T R B r) (hq:QOk q c):T.list.length≤1000000∧R.list.length≤1000000:=by
 have h1:=h.ht.len
 have h2:=h.hr.len
 have h3:=hq.len
 have h4:q.ready.length≤q.l.length:=List.length_filter_le _ _
 omega
theorem rpNew (g:Int) (w:World):Calls Try.prog 18 #[.int .i64 g] w fun e w'=>∃b X,e= .returned (.pointer (some ⟨b,0,none⟩))∧RpAt w' b X (Rq.new g)∧Turned [] w w'∧∀k ∈ X,w.heap.size≤k:=by
 have HN:=xhd (fun W=>new_any 16 W)
 rw [show min (max (16:Int) 0) 4096=16 by decide] at HN
 have hb:=bring_minmax (n:=g) (show (1:Int)≤8 by decide)
 obtain⟨z,hz⟩:∃z,bringR g 1 8=z:=⟨_,rfl⟩
 rw [hz] at hb
 have HQ:Hid (Rq.new g=⟨z,0,[], -1,0⟩):=xhd (by rw [Rq.new,hz])
 rw [HQ.out]
 clear hz
 go_enter Try.func18,Try.ntmps18
 go_wp2_with fail
 (try rw [hb])
 with_reducible refine (HN.out _).mono ?_
 rintro e V1 ⟨rfl,a1,t1⟩
 have HA1:=xhd a1
 have HT1:=xhd t1
 clear a1 t1
 go_wp2_with fail
 with_reducible refine (HN.out _).mono ?_
 rintro e V2 ⟨rfl,a2,t2⟩
 have F:Hid (RpAt (V2.alloc (.cells #[.int .i64 z, .int .u64 0, .pointer (some ⟨w.heap.size,0,none⟩), .pointer (some ⟨V1.heap.size,0,none⟩), .pointer none, .int .i64 0] tQu)) V2.heap.size (blocksQ V2.heap.size w.heap.size V1.heap.size (fun _=>0) []) ⟨z,0,[], -1,0⟩∧
   Turned [] w (V2.alloc (.cells #[.int .i64 z, .int .u64 0, .pointer (some ⟨w.heap.size,0,none⟩), .pointer (some ⟨V1.heap.size,0,none⟩), .pointer none, .int .i64 0] tQu))∧w.heap.size≤V1.heap.size∧V1.heap.size≤V2.heap.size∧w.heap.size≠V1.heap.size):=xhd (by
  have ta:=(Turned.refl [] V2).alloc (.cells #[.int .i64 z, .int .u64 0, .pointer (some ⟨w.heap.size,0,none⟩), .pointer (some ⟨V1.heap.size,0,none⟩), .pointer none, .int .i64 0] tQu)
  have hne:w.heap.size≠V1.heap.size:=by have:=HA1.out.lt;omega
  exact⟨⟨w.heap.size,V1.heap.size, .nil, .nil,fun _=>0,0,rfl,⟨heap_alloc_new V2 _,(HA1.out.later t2).later ta,a2.later ta,⟨Tr.Good.nil,List.Perm.refl _⟩,⟨Tr.Good.nil,List.Perm.refl _⟩,fun x hx=>(by cases hx),fun x hx=>(by cases hx),fun hx=>(by have:(0:Int)≤ -1:=hx;omega),hne⟩⟩,(HT1.out.join t2).join ta,HT1.out.size,t2.size,hne⟩)
 clear a2 t2
 go_wp2
 go_ret
 refine⟨_,_,rfl,F.out.1,F.out.2.1,fun k hk=>?_⟩
 obtain⟨_,_,f1,f2,_⟩:=F.out
 rcases mem_blocksQ.1 hk with rfl|rfl|rfl|⟨x,hx,_⟩
 ·omega
 ·omega
 ·omega
 ·cases hx
theorem rpSettle (h:RpI w b q bt br T R B r) (hq:QOk q c):Calls Try.prog 28 #[.pointer (some ⟨b,0,none⟩)] w fun e w'=>e= .returned (.tuple #[])∧(∃R',RpI w' b q.settle bt br T R' B r)∧Turned [b,br] w w':=by
 have HL:=xhd (fun W (ht:Turned [] w W)=>rpLeast (h.later ht) hq)
 have HS:Hid (∀V,Turned [] w V→V.cell? ⟨b,1,none⟩=some (.int .u64 q.f)∧V.frozen? ⟨b,1,none⟩=false∧Turned [] w V):=xhd fun V ht=>by
  obtain⟨⟨_,c1,_⟩,hf⟩:=cells6 (ht.same h.h0 (by simp))
  exact⟨c1,hf 1,ht⟩
 obtain⟨p1,p2,p3,p4,p5⟩:=settle_ge q
 have HFIN:Hid (∀V,Turned [] w V→(∃R',RpI (V.setCell ⟨b,1,none⟩ (.int .u64 (max q.f (lvQ q)))) b q.settle bt br T R' B r)∧Turned [b,br] w (V.setCell ⟨b,1,none⟩ (.int .u64 (max q.f (lvQ q))))):=xhd fun V t1=>by
  have t2:Turned [b,br] w (V.setCell ⟨b,1,none⟩ (.int .u64 (max q.f (lvQ q)))):=(t1.mono (X:=[b,br]) (fun k hk=>by simp at hk)).setCell (.inl (by simp)) _
  have hb2:(V.setCell ⟨b,1,none⟩ (.int .u64 (max q.f (lvQ q)))).heap[b]?=some (.cells (quC q.settle bt br (curP B q.settle) r) tQu (0,0)):=by
   have e:quC q.settle bt br (curP B q.settle) r= #[.int .i64 q.g, .int .u64 q.settle.f, .pointer (some ⟨bt,0,none⟩), .pointer (some ⟨br,0,none⟩), .pointer (curP B q), .int .i64 r]:=by simp only [quC,curP,p2,p4]
   rw [e,heap_setCell_same _ _ _ _ _ _ (t1.same h.h0 (by simp)), ←settle_max hq.f]
   rfl
  have n2:=keepsN_of t2 fun k hk=>h.kinds k (h.mem k hk)
  have a2:=(h.h2.later t1).keep ((Turned.refl [b] V).setCell (p:=⟨b,1,none⟩) (.inl (by simp)) (.int .u64 (max q.f (lvQ q)))) (by simp;exact fun e=>h.nbr e.symm) (keepsN_of ((Turned.refl [b] V).setCell (p:=⟨b,1,none⟩) (.inl (by simp)) (.int .u64 (max q.f (lvQ q)))) fun k hk=>(h.later t1).kinds k (by simp at hk;exact mem_blocksQ.2 (.inl hk)))
  exact⟨⟨R,h.store p3 t2 hb2 a2 (by rw [Rq.ready,p3,p4];exact h.hr) (by rw [p4,p5];exact h.rn)⟩,t2⟩
 obtain⟨m,hm⟩:∃m,lvQ q=m:=⟨_,rfl⟩
 rw [hm] at HL HFIN
 clear h hq hm p1 p2 p3 p4 p5
 go_enter Try.func28,Try.ntmps28
 go_wp2_with fail
 have hmix:Try.prog.follows .mixedOrders=true:=by kernel_rfl
 refine wp_region_noPanic ?_
 refine wp_region_lastF (fun V=>V.cell? ⟨b,1,none⟩=some (.int .u64 q.f)∧V.frozen? ⟨b,1,none⟩=false∧Turned [] w V) 10 hmix (HS.out _ (Turned.refl [] w).drew) (fun hS0=>?_)
 refine wpAnyF_free (i:=0) (v:=?_) rfl (by kernel_rfl) (by decide) (fun _ _ _ h=>h) (by kernel_rfl) (by kernel_rfl) (Or.inl ⟨by rfl,?hy⟩) (by assumption) ?_
 case hy=>
  intro w _
  go_simp
  try with_reducible rfl
 try simp only [xga];try simp only [xgs];try simp only [xgz];try simp only [Act.put];try simp only [xsa];try simp only [xss];try simp only [xsz]
 refine wpAnyF_free (i:=1) (v:=?_) rfl (by kernel_rfl) (by decide) (fun _ _ _ h=>h) (by kernel_rfl) (by kernel_rfl) (Or.inl ⟨by rfl,?hy⟩) (by assumption) ?_
 case hy=>
  intro w _
  go_simp
  try with_reducible rfl
 try simp only [xga];try simp only [xgs];try simp only [xgz];try simp only [Act.put];try simp only [xsa];try simp only [xss];try simp only [xsz]
 refine wpAnyF_free (i:=2) (v:=?_) rfl (by kernel_rfl) (by decide) (fun _ _ _ h=>h) (by kernel_rfl) (by kernel_rfl) (Or.inl ⟨by rfl,?hy⟩) (by assumption) ?_
 case hy=>
  intro w _
  go_simp
  try with_reducible rfl
 try simp only [xga];try simp only [xgs];try simp only [xgz];try simp only [Act.put];try simp only [xsa];try simp only [xss];try simp only [xsz]
 refine wpAnyF_free (i:=3) (v:=?_) rfl (by kernel_rfl) (by decide) (fun _ _ _ h=>h) (by kernel_rfl) (by kernel_rfl) (Or.inl ⟨by rfl,?hy⟩) (by assumption) ?_
 case hy=>
  intro w _
  go_simp
  try with_reducible rfl
 try simp only [xga];try simp only [xgs];try simp only [xgz];try simp only [Act.put];try simp only [xsa];try simp only [xss];try simp only [xsz]
 refine wpAnyF_take (i:=4) (v:=?_) rfl (by kernel_rfl) (by kernel_rfl) (fun _ _ _ h=>h) (by kernel_rfl) (by kernel_rfl) (by kernel_rfl) (Or.inl ⟨by rfl,?hy⟩) (by assumption) ?_
 case hy=>
  intro w hSw
  (try dsimp only at hSw)
  obtain⟨s0,s1,s2⟩:=hSw
  go_simp
  try with_reducible rfl
 try simp only [xga];try simp only [xgs];try simp only [xgz];try simp only [Act.put];try simp only [xsa];try simp only [xss];try simp only [xsz]
 refine wpAnyF_free (i:=5) (v:=?_) rfl (by kernel_rfl) (by decide) (fun _ _ _ h=>h) (by kernel_rfl) (by kernel_rfl) (Or.inl ⟨by rfl,?hy⟩) (by assumption) ?_
 case hy=>
  intro w _
  go_simp
  try with_reducible rfl
 try simp only [xga];try simp only [xgs];try simp only [xgz];try simp only [Act.put];try simp only [xsa];try simp only [xss];try simp only [xsz]
 refine wpAnyF_ready (rs:=[6]) (by kernel_rfl) (by simp) ?_
 refine ReadyF.cons rfl (fun K' hK=>?_) ReadyF.nil
 go_simp
 with_reducible refine (HL.out _ (Turned.refl [] w).drew).mono ?_
 rintro e V ⟨rfl,t1⟩
 have T1:=xhd (((Turned.refl [] w).drew).join t1)
 clear t1
 have hS1:=HS.out _ T1.out
 go_wp2_with fail
 refine hK.out _ _ (.inr ?_) ?_
 ·exact hS1
 clear hK K'
 try simp only [xga];try simp only [xgs];try simp only [xgz];try simp only [Act.put];try simp only [xsa];try simp only [xss];try simp only [xsz]
 refine wpAnyF_free (i:=7) (v:=?_) rfl (by kernel_rfl) (by decide) (fun _ _ _ h=>h) (by kernel_rfl) (by kernel_rfl) (Or.inl ⟨by rfl,?hy⟩) (by assumption) ?_
 case hy=>
  intro w _
  go_simp
  try with_reducible rfl
 try simp only [xga];try simp only [xgs];try simp only [xgz];try simp only [Act.put];try simp only [xsa];try simp only [xss];try simp only [xsz]
 refine wpAnyF_free (i:=8) (v:=?_) rfl (by kernel_rfl) (by decide) (fun _ _ _ h=>h) (by kernel_rfl) (by kernel_rfl) (Or.inl ⟨by rfl,?hy⟩) (by assumption) ?_
 case hy=>
  intro w _
  go_simp
  try with_reducible rfl
 try simp only [xga];try simp only [xgs];try simp only [xgz];try simp only [Act.put];try simp only [xsa];try simp only [xss];try simp only [xsz]
 refine wpAnyF_free (i:=9) (v:=?_) rfl (by kernel_rfl) (by decide) (fun _ _ _ h=>h) (by kernel_rfl) (by kernel_rfl) (Or.inl ⟨by rfl,?hy⟩) (by assumption) ?_
 case hy=>
  intro w _
  go_simp
  try with_reducible rfl
 try simp only [xga];try simp only [xgs];try simp only [xgz];try simp only [Act.put];try simp only [xsa];try simp only [xss];try simp only [xsz]
 refine wpAnyF_ready (rs:=[10]) (by kernel_rfl) (by simp) ?_
 refine ReadyF.cons rfl (fun K' hK=>?_) ReadyF.nil
 go_simp
 refine hK.out _ _ (.inl (by kernel_rfl)) ?_
 clear hK K'
 try simp only [xga];try simp only [xgs];try simp only [xgz];try simp only [Act.put];try simp only [xsa];try simp only [xss];try simp only [xsz]
 refine wpAnyF_done (by kernel_rfl) ?_ _
 refine NoPanic.normal ?_
 try simp only [xga];try simp only [xgs];try simp only [xgz];try simp only [Act.put];try simp only [xsa];try simp only [xss];try simp only [xsz]
 have F:=HFIN.out _ T1.out
 have F1:=xhd F
 clear F
 go_wp2
 go_end0
 exact⟨rfl,F1.out⟩
end
end Go.Proofs.Ytfmciiffcmfagaa
namespace Go.Proofs.Ytfmciiffcmfagaa
open Go.RowKit
section
variable {w w':World} {b bt br:Nat} {q q':Rq} {T R R':Tr Nat} {B:Int→Nat} {r r' c:Int} {X Y:List Nat}
theorem RpI.task (h:RpI w b q bt br T R B r) {x y:Tk} (hx:x ∈ q.l) (hy:y.1=x.1) (hl:q'.l=q.l.map fun z=>if z.1=x.1 then y else z) (ht:Turned [b,br,B x.1] w w') (h0:w'.heap[b]?=some (.cells (quC q' bt br (curP B q') r') tQu (0,0)))
  (hk:w'.heap[B x.1]?=some (.cells (tkC y) tTk (0,0))) (h2:TAt w' br 16 R') (hr:HasR B q'.ready R') (rn:0≤q'.cur→r'=q'.ran):RpI w' b q' bt br T R' B r':=by
 have hid:∀z:Tk,(if z.1=x.1 then y else z).1=z.1:=fun z=>by
  by_cases e:z.1=x.1
  ·rw [if_pos e,hy,e]
  ·rw [if_neg e]
 have hn:KeepsN w w':=keepsN_of ht fun k hk=>h.kinds k (by
  simp at hk
  rcases hk with rfl|rfl|rfl
  ·exact mem_blocksQ.2 (.inl rfl)
  ·exact mem_blocksQ.2 (.inr (.inr (.inl rfl)))
  ·exact mem_blocksQ.2 (.inr (.inr (.inr ⟨x,hx,rfl⟩))))
 refine⟨h0,h.h1.keep ht (by simp;exact⟨fun e=>h.nbt e.symm,h.ne,fun e=>h.nkt hx e.symm⟩) hn,h2,by rw [hl];exact h.ht.same _ hid,hr,fun z hz=>?_,fun z hz u hu e=>?_,rn,h.ne⟩
 ·rw [hl] at hz
  obtain⟨v,hv,rfl⟩:=List.mem_map.1 hz
  by_cases e:v.1=x.1
  ·rw [if_pos e,hy]
   exact hk
  ·rw [if_neg e]
   exact ht.same (h.k v hv) (by simp;exact⟨h.nkb hv,h.nkr hv,fun e2=>e (h.inj v hv x hx e2)⟩)
 ·rw [hl] at hz hu
  obtain⟨v,hv,rfl⟩:=List.mem_map.1 hz
  obtain⟨v2,hv2,rfl⟩:=List.mem_map.1 hu
  simp only [hid] at e ⊢
  exact h.inj v hv v2 hv2 e
theorem RpI.mem3 (h:RpI w b q bt br T R B r) {x:Tk} (hx:x ∈ q.l):∀k ∈ ([b,br,B x.1]:List Nat),k ∈ blocksQ b bt br B q.l:=fun k hk=>by
 simp at hk
 rcases hk with rfl|rfl|rfl
 ·exact mem_blocksQ.2 (.inl rfl)
 ·exact mem_blocksQ.2 (.inr (.inr (.inl rfl)))
 ·exact mem_blocksQ.2 (.inr (.inr (.inr ⟨x,hx,rfl⟩)))
theorem ready_map {L:List Tk} {x y:Tk} (hy:y.1=x.1) (cu:Int):(L.map fun z=>if z.1=x.1 then y else z).filter (fun z=>decide (z.1≠cu))=(L.filter fun z=>decide (z.1≠cu)).map fun z=>if z.1=x.1 then y else z:=by
 rw [List.filter_map]
 congr 1
 refine List.filter_congr fun z _=>?_
 have hz:(if z.1=x.1 then y else z).1=z.1:=by
  by_cases e:z.1=x.1
  ·rw [if_pos e,hy,e]
  ·rw [if_neg e]
 simp only [Function.comp,hz]
theorem map_off {L:List Tk} {x y:Tk} (h:∀z ∈ L,z.1≠x.1):(L.map fun z=>if z.1=x.1 then y else z)=L:=by
 conv=>rhs;rw [←List.map_id L]
 exact List.map_congr_left fun z hz=>by rw [if_neg (h z hz)];rfl
end
end Go.Proofs.Ytfmciiffcmfagaa
namespace Go.Proofs.Ytfmciiffcmfagaa
open Go.RowKit
section
variable {w w':World} {b bt br:Nat} {q q':Rq} {T R R':Tr Nat} {B:Int→Nat} {r r' c:Int} {X Y:List Nat}
end
end Go.Proofs.Ytfmciiffcmfagaa
namespace Go.Proofs.Ytfmciiffcmfagaa
open Go.RowKit
theorem infoTkp:(Try.prog.info? tTk).map (fun i=>i.size)=some 3:=by kernel_rfl
theorem tk_info:∃j,Try.prog.info? tTk=some j∧j.size≠0:=by
 have h:=infoTkp
 rw [Option.map_eq_some_iff] at h
 obtain⟨j,hj,hs⟩:=h
 exact⟨j,hj,by omega⟩
theorem neq_of_eql {P:Program} {w:World} {t:TypeId} {x y:Option Addr} {c:Bool} (h:(binOp .eql t (.pointer x) (.pointer y)).run P w= .ok (.bool c) w):(binOp .neq t (.pointer x) (.pointer y)).run P w= .ok (.bool (!c)) w:=by
 simp only [binOp] at h ⊢
 simp only [Sem.run_bind] at h ⊢
 generalize (Op.equal t (.pointer x) (.pointer y)).run P w=r at h ⊢
 cases r with
 |ok z w'=>
  simp [Result.andThen] at h ⊢
  obtain⟨rfl,rfl⟩:=h
  exact⟨rfl,rfl⟩
 |halt z w'=>simp [Result.andThen] at h
theorem tp_same (a:Nat) (w:World):(binOp .eql tTp (.pointer (some ⟨a,0,none⟩)) (.pointer (some ⟨a,0,none⟩))).run Try.prog w= .ok (.bool true) w:=by
 obtain⟨j,hj,_⟩:=tk_info
 exact run_eql_ptr_same w _ Try.underlying55 hj
theorem tp_other {a b:Nat} {w:World} {ca cb:Array Value} (hne:a≠b) (ha:w.heap[a]?=some (.cells ca tTk (0,0))) (hb:w.heap[b]?=some (.cells cb tTk (0,0))):
  (binOp .eql tTp (.pointer (some ⟨a,0,none⟩)) (.pointer (some ⟨b,0,none⟩))).run Try.prog w= .ok (.bool false) w:=by
 obtain⟨j,hj,hs⟩:=tk_info
 exact run_eql_ptr_other w Try.underlying55 hj hs (fun e=>hne (by cases e;rfl)) ha hb
end Go.Proofs.Ytfmciiffcmfagaa
