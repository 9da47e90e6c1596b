/-
  The program's queue: clamp, find, running, V, Current, Floor, Len, least.
  The program's queue: the first ready one; least, Settle, Due.
  The program's queue: New, Back, Pick, Settle, Tick. (Made by gen_rpturn.py.)
-/
import Derived.Test.YtbfifglcnhfccaaZAJ
import Derived.Test.YtbfifglcnhfccaaZAC
import Derived.Test.YtbfifglcnhfccaaZAl
set_option maxRecDepth 100000
set_option maxHeartbeats 25600000
namespace Go.Proofs.Ytbfifglcnhfccaa
open Go.RowKit
attribute [local go_sem ↓] run_min_un run_max_un
section
variable {w w':World} {b bt br:Nat} {q:Rq} {T R:Tr Nat} {B:Int→Nat} {r c:Int} {X Y:List Nat}
theorem reach_bringP (n g:Int):reachR (bringR n 1 4096) g=reachR n g:=by
 unfold reachR coreR
 rw [show bringR (bringR n 1 4096) 1 4096=bringR n 1 4096 by
  have:=bring_range (n:=n) (lo:=1) (hi:=4096) (by decide)
  generalize bringR n 1 4096=k at this
  unfold bringR
  rw [if_neg (by omega),if_neg (by omega)]]
theorem place_bring (q:Rq) (v n:Int):q.place v (bringR n 1 4096)=q.place v n:=by rw [Rq.place,Rq.place,reach_bringP]
theorem reach_word (n g:Int):Word (reachR n g):=by
 have:=reach_range n g
 exact⟨by omega,by omega⟩
theorem rpClamp (h:RpI w b q bt br T R B r) (hf:Word q.f) (v n:Int):
  Calls Try.prog 40 #[.pointer (some ⟨b,0,none⟩), .int .u64 v, .int .i64 n] w fun e w'=>e= .returned (.int .u64 (q.place v n))∧∃k,w'=w.drewN k:=by
 obtain⟨⟨c0,c1,c2,c3,c4,c5⟩,_⟩:=cells6 h.h0
 have HR:=xhd (fun W=>ureach_any n q.g W)
 have HC:=xhd (fun W=>uclamp_any v q.f (reachR n q.g) hf (reach_word n q.g) W)
 rw [Rq.place]
 obtain⟨z,hz⟩:∃z,clampR v q.f (reachR n q.g)=z:=⟨_,rfl⟩
 obtain⟨y,hy⟩:∃y,reachR n q.g=y:=⟨_,rfl⟩
 rw [hz] at HC ⊢
 rw [hy] at HR HC
 clear h hf hz hy c2 c3 c4 c5
 go_enter Try.func40,Try.ntmps40
 go_wp2_with fail
 go_quiet (first|(go_at_call 30;exact Calls.quiet_of_same (HR.out _)) |(go_at_call 65;exact Calls.quiet_of_same (HC.out _)))
 go_wp2
 go_ret
 exact⟨rfl,_,rfl⟩
def findP (B:Int→Nat) (q:Rq) (id:Int):Option Addr:=if (findQ q.l id).isSome=true then some ⟨B id,0,none⟩ else none
theorem toV_find (h:HasT B q.l T) (id:Int):toV (T.fnd (0,id))= .pointer (findP B q id):=by
 rw [h.find id,findP]
 cases findQ q.l id<;>rfl
theorem rpFind (h:RpI w b q bt br T R B r) (id:Int):
  Calls Try.prog 46 #[.pointer (some ⟨b,0,none⟩), .int .i64 id] w fun e w'=>e= .returned (.pointer (findP B q id))∧Turned [] w w':=by
 have HB:=xhd (fun W=>rpByNumber id W)
 have HF:=xhd (fun W (ht:Turned [] w W)=>findT_any (h.h1.later ht) 0 id)
 rw [toV_find h.ht] at HF
 obtain⟨sb,hsb⟩:∃sb,(T.fnd (0,id)).isSome=sb:=⟨_,rfl⟩
 rw [hsb] at HF
 have HS:Hid (∀W,Turned [] w W→W.cell? ⟨b,2,none⟩=some (.pointer (some ⟨bt,0,none⟩))∧Turned [] w W):=xhd fun W ht=>⟨(cells6 (ht.same h.h0 (by simp))).1.2.2.1,ht⟩
 clear h hsb
 obtain⟨e2,et⟩:=HS.out _ (Turned.refl [] w).drew
 go_enter Try.func46,Try.ntmps46
 go_wp2_with fail
 go_region_held3 (fun W=>W.cell? ⟨b,2,none⟩=some (.pointer (some ⟨bt,0,none⟩))∧Turned [] w W)
  (first|exact⟨g2,gt⟩ |exact⟨f2,ft⟩ |exact⟨e2,et⟩)
  (first
    |(go_at_call 43
      with_reducible refine (HB.out _).mono ?_
      rintro e V ⟨rfl,t1⟩
      obtain⟨f2,ft⟩:=HS.out _ (et.join t1)
      clear t1)
    |(go_at_call 70
      with_reducible refine (HF.out _ ft).mono ?_
      rintro e V2 ⟨rfl,t2⟩
      obtain⟨g2,gt⟩:=HS.out _ (ft.join t2)
      clear t2))
 all_goals
  have GT:=xhd gt
  clear gt ft et
  go_wp2
  go_ret
  exact⟨rfl,GT.out⟩
theorem rpRunning (h:RpI w b q bt br T R B r):
  Calls Try.prog 50 #[.pointer (some ⟨b,0,none⟩)] w fun e w'=>e= .returned (.pointer (curP B q))∧w'=w:=by
 obtain⟨⟨c0,c1,c2,c3,c4,c5⟩,_⟩:=cells6 h.h0
 clear h
 go_enter Try.func50,Try.ntmps50
 go_wp2
 go_ret
 exact⟨rfl,rfl⟩
theorem rpFloor (h:RpI w b q bt br T R B r):
  Calls Try.prog 29 #[.pointer (some ⟨b,0,none⟩)] w fun e w'=>e= .returned (.int .u64 q.f)∧Turned [] w w':=by
 obtain⟨⟨c0,c1,c2,c3,c4,c5⟩,_⟩:=cells6 h.h0
 clear h
 go_enter Try.func29,Try.ntmps29
 go_wp2
 go_ret
 exact⟨rfl,Turned.refl _ _⟩
theorem rpLen (h:RpI w b q bt br T R B r):
  Calls Try.prog 36 #[.pointer (some ⟨b,0,none⟩)] w fun e w'=>e= .returned (.int .i64 (q.l.length:Nat))∧Turned [] w w':=by
 obtain⟨⟨c0,c1,c2,c3,c4,c5⟩,_⟩:=cells6 h.h0
 have HL:=xhd (len_any h.h1)
 rw [h.ht.len] at HL
 clear h
 go_enter Try.func36,Try.ntmps36
 go_wp2_with fail
 with_reducible refine HL.out.mono ?_
 rintro e V ⟨rfl,rfl⟩
 go_wp2
 go_ret
 exact⟨rfl,Turned.refl _ _⟩
theorem remV_some {id:Int} {x:Int×Int} (h:findQ q.l id=some x):remV q id=x.1:=by simp [remV,h]
theorem remV_none {id:Int} (h:findQ q.l id=none):remV q id=0:=by simp [remV,h]
theorem rpV (h:RpI w b q bt br T R B r) (id:Int):
  Calls Try.prog 28 #[.pointer (some ⟨b,0,none⟩), .int .i64 id] w fun e w'=>e= .returned (.tuple #[.int .u64 (remV q id), .bool (findQ q.l id).isSome])∧Turned [] w w':=by
 have HF:=xhd (rpFind h id)
 rw [findP] at HF
 have HK:=xhd h.k
 clear h
 cases hq:findQ q.l id with
 |none=>
  rw [remV_none hq]
  rw [hq,Option.isSome_none,if_neg (by simp)] at HF
  clear hq HK
  go_enter Try.func28,Try.ntmps28
  go_wp2_with fail
  with_reducible refine HF.out.mono ?_
  rintro e V ⟨rfl,t⟩
  have HT:=xhd t
  clear t
  go_wp2
  go_ret2
  exact⟨rfl,HT.out⟩
 |some x=>
  rw [remV_some hq]
  rw [hq,Option.isSome_some,if_pos rfl] at HF
  have hm:=HK.out _ (findQ_mem hq)
  obtain⟨x1,x2⟩:=x
  have HM:=xhd hm
  clear hm hq HK
  dsimp only
  go_enter Try.func28,Try.ntmps28
  go_wp2_with fail
  with_reducible refine HF.out.mono ?_
  rintro e V ⟨rfl,t⟩
  obtain⟨⟨k0,k1,k2⟩,_⟩:=cells3k (t.same HM.out (by simp))
  have HT:=xhd t
  clear t
  dsimp only at k0
  go_wp2
  go_ret2
  exact⟨rfl,HT.out⟩
theorem rpCurrent (h:RpI w b q bt br T R B r) (hq:QOk q c):
  Calls Try.prog 33 #[.pointer (some ⟨b,0,none⟩)] w fun e w'=>e= .returned (.tuple #[.int .i64 q.cur, .int .i64 q.ran, .bool (decide (0≤q.cur))])∧Turned [] w w':=by
 have HR:=xhd (rpRunning h)
 obtain⟨⟨c0,c1,c2,c3,c4,c5⟩,_⟩:=cells6 h.h0
 by_cases h0:0≤q.cur
 ·obtain⟨x,hx,e1,e2⟩:=curP_some hq h0 B
  obtain⟨⟨k0,k1,k2⟩,_⟩:=cells3k (h.k x hx)
  rw [e2] at HR
  rw [h.rn h0] at c5
  rw [show decide (0≤q.cur)=true by simpa using h0, ←e1]
  clear h hq h0 hx e1 e2 c4
  go_enter Try.func33,Try.ntmps33
  go_wp2_with fail
  with_reducible refine HR.out.mono ?_
  rintro e V ⟨rfl,rfl⟩
  go_wp2_with fail
  go_quiet (fail)
  go_wp2
  go_ret3
  exact⟨rfl,(Turned.refl _ _).drewN _⟩
 ·rw [curP_none h0 B] at HR
  obtain⟨i1,i2⟩:=hq.idle (by omega)
  rw [show decide (0≤q.cur)=false by simpa using h0,i1,i2]
  clear h hq h0 i1 i2 c4
  go_enter Try.func33,Try.ntmps33
  go_wp2_with fail
  with_reducible refine HR.out.mono ?_
  rintro e V ⟨rfl,rfl⟩
  go_wp2
  go_ret3
  exact⟨rfl,Turned.refl _ _⟩
end
end Go.Proofs.Ytbfifglcnhfccaa
namespace Go.Proofs.Ytbfifglcnhfccaa
open Go.RowKit
attribute [local go_sem ↓] run_min_un run_max_un
def lvQ (q:Rq):Int:=match q.l with
 |[]=>0
 |x::l=>minQ l x.2.1
theorem lvQ_of {q:Rq} {m:Int} (h1:∃y ∈ q.l,y.2.1=m) (h2:∀y ∈ q.l,m≤y.2.1):lvQ q=m:=by
 unfold lvQ
 cases hl:q.l with
 |nil=>rw [hl] at h1;obtain⟨y,hy,_⟩:=h1;cases hy
 |cons x l=>
  rw [hl] at h1 h2
  obtain⟨a,b⟩:=minQ_le l x.2.1
  have g:=minQ_ge l x.2.1 m (h2 x (by simp)) (fun y hy=>h2 y (List.mem_cons_of_mem _ hy))
  obtain⟨y,hy,e⟩:=h1
  have:minQ l x.2.1≤m:=by
   rcases List.mem_cons.1 hy with rfl|hy
   ·omega
   ·have:=b y hy;omega
  show minQ l x.2.1=m
  omega
theorem settle_max {q:Rq} (hf:Word q.f):q.settle.f=max q.f (lvQ q):=by
 have:=hf.1
 unfold Rq.settle lvQ
 cases q.l with
 |nil=>show q.f=max q.f 0;omega
 |cons x l=>
  show (if q.f < minQ l x.2.1 then minQ l x.2.1 else q.f)=max q.f (minQ l x.2.1)
  split<;>omega
theorem ready_sub {q:Rq} {y:Tk} (h:y ∈ q.ready):y ∈ q.l∧y.1≠q.cur:=by
 have:=List.mem_filter.1 h
 exact⟨this.1,by simpa using this.2⟩
theorem ready_or {q:Rq} {y:Tk} (h:y ∈ q.l) (hc:y.1≠q.cur):y ∈ q.ready:=List.mem_filter.2 ⟨h,by simpa using hc⟩
theorem head_least {l:List Tk} {y:Tk} {r:List Tk} (h:sortQ l=y::r):y ∈ l∧∀z ∈ l,y.2.1≤z.2.1:=by
 have hm:∀z,z ∈ sortQ l↔z ∈ l:=fun z=>mem_sort
 rw [h] at hm
 refine⟨(hm y).1 (by simp),fun z hz=>?_⟩
 have hs:=sort_sorted l
 rw [h] at hs
 rcases List.mem_cons.1 ((hm z).2 hz) with rfl|hz'
 ·omega
 ·have:=ltQ_not.1 ((List.pairwise_cons.1 hs).1 z hz')
  omega
section
variable {w w':World} {b bt br:Nat} {q:Rq} {T R:Tr Nat} {B:Int→Nat} {r c:Int} {X Y:List Nat}
def fstR (B:Int→Nat) (q:Rq):Value:=match sortQ q.ready with
 |[]=> .tuple #[.agg #[.int .u64 0, .int .i64 0], .pointer none, .bool false]
 |x::_=> .tuple #[.agg #[.int .u64 x.2.1, .int .i64 x.1], .pointer (some ⟨B x.1,0,none⟩), .bool true]
theorem RpI.first (h:RpI w b q bt br T R B r) (hq:QOk q c):Calls Try.prog 48 #[.pointer (some ⟨br,0,none⟩)] w fun e w'=>e= .returned (fstR B q)∧Turned [] w w':=by
 have hf:=tfirst_any h.h2 (h.hr.key (fun x hx=>hq.ids x (ready_sub hx).1) (fun x hx=>hq.v x (ready_sub hx).1))
 have e:fstV R=fstR B q:=by
  rw [fstV,fstR,h.hr.sorted (ready_nodup hq.uniq)]
  cases sortQ q.ready<;>rfl
 rw [e] at hf
 exact hf
theorem rpLeast (h:RpI w b q bt br T R B r) (hq:QOk q c):Calls Try.prog 55 #[.pointer (some ⟨b,0,none⟩)] w fun e w'=>e= .returned (.int .u64 (lvQ q))∧Turned [] w w':=by
 have HF:=xhd (h.first hq)
 obtain⟨⟨c0,c1,c2,c3,c4,c5⟩,_⟩:=cells6 h.h0
 have HS:Hid (∀W,Turned [] w W→W.cell? ⟨b,4,none⟩=some (.pointer (curP B q))∧b < W.heap.size):=xhd fun W ht=>⟨(cells6 (ht.same h.h0 (by simp))).1.2.2.2.2.1,Nat.lt_of_lt_of_le (lt_of_block h.h0) ht.size⟩
 rw [fstR] at HF
 by_cases h0:0≤q.cur
 ·obtain⟨x,hx,e1,e2⟩:=curP_some hq h0 B
  have HK:Hid (∀W,Turned [] w W→W.cell? ⟨B x.1,0,none⟩=some (.int .u64 x.2.1)∧B x.1 < W.heap.size):=xhd fun W ht=>⟨(cells3k (ht.same (h.k x hx) (by simp))).1.1,Nat.lt_of_lt_of_le (lt_of_block (h.k x hx)) ht.size⟩
  rw [e2] at HS
  cases hs:sortQ q.ready with
  |nil=>
   have hv:lvQ q=x.2.1:=lvQ_of ⟨x,hx,rfl⟩ fun y hy=>by
    by_cases e:y.1=q.cur
    ·rw [findQ_one hq.uniq hy hx (by omega)];omega
    ·have:=mem_sort.2 (ready_or hy e)
     rw [hs] at this
     cases this
   rw [hs] at HF
   rw [hv]
   clear h hq h0 e1 e2 hs hv hx c0 c1 c2 c4 c5
   go_enter Try.func55,Try.ntmps55
   go_wp2_with fail
   with_reducible refine HF.out.mono ?_
   rintro e V ⟨rfl,t⟩
   have HT:=xhd t
   obtain⟨s1,s2⟩:=HS.out V t
   obtain⟨k1,k2⟩:=HK.out V t
   have HT2:=xhd (t.alloc (.cells #[.int .u64 0, .int .i64 0] tKy))
   clear t
   go_wp2
   go_ret
   exact⟨rfl,HT2.out⟩
  |cons y ys=>
   obtain⟨g1,g2⟩:=head_least hs
   have hv:lvQ q=min y.2.1 x.2.1:=lvQ_of (by
    by_cases e:y.2.1≤x.2.1
    ·exact⟨y,(ready_sub g1).1,by omega⟩
    ·exact⟨x,hx,by omega⟩) fun z hz=>by
    by_cases e:z.1=q.cur
    ·rw [findQ_one hq.uniq hz hx (by omega)];omega
    ·have:=g2 z (ready_or hz e)
     omega
   rw [hs] at HF
   rw [hv]
   obtain⟨y1,y2,y3⟩:=y
   simp only at HF ⊢
   obtain⟨x1,x2,x3⟩:=x
   simp only at HK HS ⊢
   clear h hq h0 e1 e2 hs hv hx g1 g2 c0 c1 c2 c4 c5
   go_enter Try.func55,Try.ntmps55
   go_wp2_with fail
   with_reducible refine HF.out.mono ?_
   rintro e V ⟨rfl,t⟩
   have HT:=xhd t
   obtain⟨s1,s2⟩:=HS.out V t
   obtain⟨k1,k2⟩:=HK.out V t
   have HT2:=xhd (t.alloc (.cells #[.int .u64 y2, .int .i64 y1] tKy))
   clear t
   go_wp2_with fail
   go_quiet (fail)
   go_wp2
   go_ret
   exact⟨rfl,HT2.out.drewN _⟩
 ·rw [curP_none h0 B] at HS
  cases hs:sortQ q.ready with
  |nil=>
   have hv:lvQ q=0:=by
    unfold lvQ
    cases hl:q.l with
    |nil=>rfl
    |cons x l=>
     have hx:x ∈ q.l:=by rw [hl];simp
     have:=mem_sort.2 (ready_or hx (by have:=hq.ids x hx;omega))
     rw [hs] at this
     cases this
   rw [hs] at HF
   rw [hv]
   clear h hq h0 hs hv c0 c1 c2 c4 c5
   go_enter Try.func55,Try.ntmps55
   go_wp2_with fail
   with_reducible refine HF.out.mono ?_
   rintro e V ⟨rfl,t⟩
   obtain⟨s1,s2⟩:=HS.out V t
   have HT2:=xhd (t.alloc (.cells #[.int .u64 0, .int .i64 0] tKy))
   clear t
   go_wp2
   go_ret
   exact⟨rfl,HT2.out⟩
  |cons y ys=>
   obtain⟨g1,g2⟩:=head_least hs
   have hv:lvQ q=y.2.1:=lvQ_of ⟨y,(ready_sub g1).1,rfl⟩ fun z hz=>g2 z (ready_or hz (by have:=hq.ids z hz;omega))
   rw [hs] at HF
   rw [hv]
   obtain⟨y1,y2,y3⟩:=y
   simp only at HF ⊢
   clear h hq h0 hs hv g1 g2 c0 c1 c2 c4 c5
   go_enter Try.func55,Try.ntmps55
   go_wp2_with fail
   with_reducible refine HF.out.mono ?_
   rintro e V ⟨rfl,t⟩
   obtain⟨s1,s2⟩:=HS.out V t
   have HT2:=xhd (t.alloc (.cells #[.int .u64 y2, .int .i64 y1] tKy))
   clear t
   go_wp2
   go_ret
   exact⟨rfl,HT2.out⟩
theorem rpDue (h:RpI w b q bt br T R B r) (hq:QOk q c):Calls Try.prog 35 #[.pointer (some ⟨b,0,none⟩)] w fun e w'=>e= .returned (.bool q.due)∧Turned [] w w':=by
 have HF:=xhd (fun W (ht:Turned [] w W)=>(h.later ht).first hq)
 have HR:=xhd (rpRunning h)
 obtain⟨⟨c0,c1,c2,c3,c4,c5⟩,_⟩:=cells6 h.h0
 have HS:Hid (∀W,Turned [] w W→W.cell? ⟨b,3,none⟩=some (.pointer (some ⟨br,0,none⟩))):=xhd fun W ht=>(cells6 (ht.same h.h0 (by simp))).1.2.2.2.1
 by_cases h0:0≤q.cur
 ·obtain⟨x,hx,e1,e2⟩:=curP_some hq h0 B
  have hfx:findQ q.l q.cur=some x.2:=by
   cases hf:findQ q.l q.cur with
   |none=>exact absurd e1 (findQ_none hf x hx)
   |some z=>
    have:=findQ_one hq.uniq (findQ_mem hf) hx e1.symm
    rw [←this]
  have hd:q.due=(decide (q.g≤q.ran)&&q.ready.any (fun y=>decide (y.2.1 < x.2.1))):=by
   rw [Rq.due,hfx]
   simp [h0]
  have HK:Hid (∀W,Turned [] w W→W.cell? ⟨B x.1,0,none⟩=some (.int .u64 x.2.1)∧B x.1 < W.heap.size):=xhd fun W ht=>⟨(cells3k (ht.same (h.k x hx) (by simp))).1.1,Nat.lt_of_lt_of_le (lt_of_block (h.k x hx)) ht.size⟩
  rw [e2] at HR
  rw [h.rn h0] at c5
  rw [hd,any_head]
  rw [fstR] at HF
  obtain⟨x1,x2,x3⟩:=x
  simp only at HK HR ⊢
  clear h hq h0 e1 e2 hx hfx hd c1 c2 c4
  by_cases hg:q.ran < q.g
  ·rw [show decide (q.g≤q.ran)=false by simpa using hg]
   have hg':decide (q.ran < q.g)=true:=by simpa using hg
   simp only [Bool.false_and]
   clear hg HF
   go_enter Try.func35,Try.ntmps35
   go_wp2_with fail
   with_reducible refine HR.out.mono ?_
   rintro e V ⟨rfl,rfl⟩
   go_wp2_with fail
   go_quiet (fail)
   go_wp2
   go_ret
   exact⟨rfl,(Turned.refl _ _).drewN _⟩
  ·rw [show decide (q.g≤q.ran)=true by simpa using hg]
   have hg':decide (q.ran < q.g)=false:=by simpa using hg
   clear hg
   simp only [Bool.true_and]
   cases hs:sortQ q.ready with
   |nil=>
    rw [hs] at HF
    clear hs
    simp only at HF ⊢
    go_enter Try.func35,Try.ntmps35
    go_wp2_with fail
    with_reducible refine HR.out.mono ?_
    rintro e V ⟨rfl,rfl⟩
    go_wp2_with fail
    go_quiet (fail)
    go_wp2_with fail
    with_reducible refine (HF.out _ ((Turned.refl _ _).drewN _)).mono ?_
    rintro e V2 ⟨rfl,t⟩
    have HT2:=xhd ((((Turned.refl [] V).drewN nq).join t).alloc (.cells #[.int .u64 0, .int .i64 0] tKy))
    obtain⟨k1,k2⟩:=HK.out V2 (((Turned.refl [] V).drewN nq).join t)
    clear t
    go_wp2_with fail
    go_quiet (fail)
    go_wp2
    go_ret
    exact⟨rfl,HT2.out.drewN _⟩
   |cons y ys=>
    rw [hs] at HF
    clear hs
    obtain⟨y1,y2,y3⟩:=y
    simp only at HF ⊢
    go_enter Try.func35,Try.ntmps35
    go_wp2_with fail
    with_reducible refine HR.out.mono ?_
    rintro e V ⟨rfl,rfl⟩
    go_wp2_with fail
    go_quiet (fail)
    go_wp2_with fail
    with_reducible refine (HF.out _ ((Turned.refl _ _).drewN _)).mono ?_
    rintro e V2 ⟨rfl,t⟩
    have HT2:=xhd ((((Turned.refl [] V).drewN nq).join t).alloc (.cells #[.int .u64 y2, .int .i64 y1] tKy))
    obtain⟨k1,k2⟩:=HK.out V2 (((Turned.refl [] V).drewN nq).join t)
    clear t
    go_wp2_with fail
    go_quiet (fail)
    go_wp2
    go_ret
    exact⟨rfl,HT2.out.drewN _⟩
 ·rw [curP_none h0 B] at HR
  have hd:q.due=false:=by
   rw [Rq.due]
   cases findQ q.l q.cur with
   |none=>rfl
   |some x=>simp [h0]
  rw [hd]
  clear h hq h0 hd c4
  go_enter Try.func35,Try.ntmps35
  go_wp2_with fail
  with_reducible refine HR.out.mono ?_
  rintro e V ⟨rfl,rfl⟩
  go_wp2_with fail
  go_quiet (fail)
  go_wp2
  go_ret
  exact⟨rfl,(Turned.refl _ _).drewN _⟩
end
end Go.Proofs.Ytbfifglcnhfccaa
namespace Go.Proofs.Ytbfifglcnhfccaa
open Go.RowKit
attribute [local go_sem ↓] run_min_un run_max_un
section
variable {w w':World} {b bt br:Nat} {q q':Rq} {T R R':Tr Nat} {B:Int→Nat} {r r' c:Int} {X Y:List Nat}
theorem RpI.store (h:RpI w b q bt br T R B r) (hl:q'.l=q.l) (ht:Turned [b,br] w w') (h0:w'.heap[b]?=some (.cells (quC q' bt br (curP B q') r') tQu (0,0))) (h2:TAt w' br 16 R') (hr:HasR B q'.ready R') (rn:0≤q'.cur→r'=q'.ran):
  RpI w' b q' bt br T R' B r':=by
 have hk:KeepsN w w':=keepsN_of ht fun k hk=>h.kinds k (by
  simp at hk
  rcases hk with rfl|rfl
  ·exact mem_blocksQ.2 (.inl rfl)
  ·exact mem_blocksQ.2 (.inr (.inr (.inl rfl))))
 refine⟨h0,h.h1.keep ht (by simp;exact⟨fun e=>h.nbt e.symm,h.ne⟩) hk,h2,by rw [hl];exact h.ht,hr,fun x hx=>?_,by rw [hl];exact h.inj,rn,h.ne⟩
 rw [hl] at hx
 exact ht.same (h.k x hx) (by simp;exact⟨h.nkb hx,h.nkr hx⟩)
theorem RpI.mem (h:RpI w b q bt br T R B r):∀k ∈ ([b,br]:List Nat),k ∈ blocksQ b bt br B q.l:=fun k hk=>by
 simp at hk
 rcases hk with rfl|rfl
 ·exact mem_blocksQ.2 (.inl rfl)
 ·exact mem_blocksQ.2 (.inr (.inr (.inl rfl)))
theorem RpI.lt (h:RpI w b q bt br T R B r):∀k ∈ blocksQ b bt br B q.l,k < w.heap.size:=fun k hk=>by
 obtain⟨cs,t,e,_⟩:=h.kinds k hk
 exact lt_of_block e
theorem RpI.len (h:RpI w b q bt br T R B r) (hq:QOk q c):T.list.length≤1000000∧R.list.length≤1000000:=by
 have h1:=h.ht.len
 have h2:=h.hr.len
 have h3:=hq.len
 have h4:q.ready.length≤q.l.length:=List.length_filter_le _ _
 omega
theorem rpNew (g:Int) (w:World):Calls Try.prog 9 #[.int .i64 g] w fun e w'=>∃b X,e= .returned (.pointer (some ⟨b,0,none⟩))∧RpAt w' b X (Rq.new g)∧Turned [] w w'∧∀k ∈ X,w.heap.size≤k:=by
 have HN:=xhd (fun W=>new_any 16 W)
 rw [show min (max (16:Int) 0) 4096=16 by decide] at HN
 have hb:=bring_minmax (n:=g) (show (1:Int)≤8 by decide)
 obtain⟨z,hz⟩:∃z,bringR g 1 8=z:=⟨_,rfl⟩
 rw [hz] at hb
 have HQ:Hid (Rq.new g=⟨z,0,[], -1,0⟩):=xhd (by rw [Rq.new,hz])
 rw [HQ.out]
 clear hz
 go_enter Try.func9,Try.ntmps9
 go_wp2_with fail
 (try rw [hb])
 with_reducible refine (HN.out _).mono ?_
 rintro e V1 ⟨rfl,a1,t1⟩
 have HA1:=xhd a1
 have HT1:=xhd t1
 clear a1 t1
 go_wp2_with fail
 with_reducible refine (HN.out _).mono ?_
 rintro e V2 ⟨rfl,a2,t2⟩
 have F:Hid (RpAt (V2.alloc (.cells #[.int .i64 z, .int .u64 0, .pointer (some ⟨w.heap.size,0,none⟩), .pointer (some ⟨V1.heap.size,0,none⟩), .pointer none, .int .i64 0] tQu)) V2.heap.size (blocksQ V2.heap.size w.heap.size V1.heap.size (fun _=>0) []) ⟨z,0,[], -1,0⟩∧
   Turned [] w (V2.alloc (.cells #[.int .i64 z, .int .u64 0, .pointer (some ⟨w.heap.size,0,none⟩), .pointer (some ⟨V1.heap.size,0,none⟩), .pointer none, .int .i64 0] tQu))∧w.heap.size≤V1.heap.size∧V1.heap.size≤V2.heap.size∧w.heap.size≠V1.heap.size):=xhd (by
  have ta:=(Turned.refl [] V2).alloc (.cells #[.int .i64 z, .int .u64 0, .pointer (some ⟨w.heap.size,0,none⟩), .pointer (some ⟨V1.heap.size,0,none⟩), .pointer none, .int .i64 0] tQu)
  have hne:w.heap.size≠V1.heap.size:=by have:=HA1.out.lt;omega
  exact⟨⟨w.heap.size,V1.heap.size, .nil, .nil,fun _=>0,0,rfl,⟨heap_alloc_new V2 _,(HA1.out.later t2).later ta,a2.later ta,⟨Tr.Good.nil,List.Perm.refl _⟩,⟨Tr.Good.nil,List.Perm.refl _⟩,fun x hx=>(by cases hx),fun x hx=>(by cases hx),fun hx=>(by have:(0:Int)≤ -1:=hx;omega),hne⟩⟩,(HT1.out.join t2).join ta,HT1.out.size,t2.size,hne⟩)
 clear a2 t2
 go_wp2
 go_ret
 refine⟨_,_,rfl,F.out.1,F.out.2.1,fun k hk=>?_⟩
 obtain⟨_,_,f1,f2,_⟩:=F.out
 rcases mem_blocksQ.1 hk with rfl|rfl|rfl|⟨x,hx,_⟩
 ·omega
 ·omega
 ·omega
 ·cases hx
theorem back_perm (hq:QOk q c) {x:Tk} (hx:x ∈ q.l) (e:x.1=q.cur):(q.ready++[x]).Perm q.back.ready:=by
 have h1:=move_perm hq.uniq hx x rfl
 have h2:(q.l.map fun z=>if z.1=x.1 then x else z)=q.l:=by
  conv=>rhs;rw [←List.map_id q.l]
  exact List.map_congr_left fun z hz=>by
   split
   ·next h=>exact (findQ_one hq.uniq hz hx h).symm
   ·rfl
 rw [h2] at h1
 have h3:q.back.ready=q.l:=List.filter_eq_self.2 fun z hz=>by
  have:=hq.ids z hz
  show decide (z.1≠(-1:Int))=true
  simp
  omega
 rw [h3,Rq.ready, ←e]
 exact h1
theorem rpBack (h:RpI w b q bt br T R B r) (hq:QOk q c):Calls Try.prog 17 #[.pointer (some ⟨b,0,none⟩)] w fun e w'=>e= .returned (.tuple #[.int .i64 q.cur, .bool (decide (0≤q.cur))])∧(∃R',RpI w' b q.back bt br T R' B r)∧Turned [b,br] w w':=by
 have HR:=xhd (rpRunning h)
 obtain⟨⟨c0,c1,c2,c3,c4,c5⟩,hfz⟩:=cells6 h.h0
 have f4:=hfz 4
 by_cases h0:0≤q.cur
 ·obtain⟨x,hx,e1,e2⟩:=curP_some hq h0 B
  rw [e2] at HR
  have hxn:∀y ∈ q.ready,y.1≠x.1:=fun y hy=>by rw [e1];exact (ready_sub hy).2
  have hlen:q.ready.length < 16:=by
   have h1:=(back_perm hq hx e1).length_eq
   have h2:q.back.ready.length≤q.l.length:=List.length_filter_le _ _
   have h3:=hq.len
   simp at h1
   omega
  obtain⟨W1,hW1⟩:∃W1,w.setCell ⟨b,4,none⟩ (.pointer none)=W1:=⟨_,rfl⟩
  have T1:Turned [b] w W1:=hW1 ▸ (Turned.refl [b] w).setCell (.inl (by simp)) _
  have B1:W1.heap[b]?=some (.cells (quC q.back bt br none r) tQu (0,0)):=by
   rw [←hW1,heap_setCell_same _ _ _ _ _ _ h.h0]
   rfl
  have N1:KeepsN w W1:=keepsN_of T1 fun k hk=>h.kinds k (by simp at hk;exact mem_blocksQ.2 (.inl hk))
  have A1:=h.h2.keep T1 (by simp;exact fun e=>h.nbr e.symm) N1
  have K1:=T1.same (h.k x hx) (by simp;exact h.nkb hx)
  obtain⟨D,hD⟩:∃D,W1.drew=D:=⟨_,rfl⟩
  have TD:Turned [] W1 D:=hD ▸ (Turned.refl [] W1).drew
  obtain⟨⟨d0,d1,d2,d3,d4,d5⟩,_⟩:=cells6 (TD.same B1 (by simp))
  obtain⟨⟨k0,k1,k2⟩,_⟩:=cells3k (TD.same K1 (by simp))
  have HI:=xhd (insert_any (A1.later TD) x.2.1 x.1 (B x.1) (h.len hq).2)
  have HK1:=xhd K1
  have HFIN:Hid (∀V,TAt V br 16 (tiT 16 R (x.2.1,x.1,B x.1))→Turned [br] D V→(∃R',RpI V b q.back bt br T R' B r)∧Turned [b,br] w V∧V.cell? ⟨B x.1,1,none⟩=some (.int .i64 x.1)):=xhd fun V a2 t2=>by
   have t3:Turned [b,br] w V:=(T1.mono (X:=[b,br]) (fun k hk=> .inl (by simp at hk;simp [hk]))).trans ((TD.mono (X:=[br]) (fun k hk=>by simp at hk)).trans t2 (Newer.refl _ _)) (fun k hk=> .inl (by simp at hk;simp [hk]))
   have hr2:HasR B q.back.ready (tiT 16 R (itR B x)):=(h.hr.insert hxn hlen).congr (back_perm hq hx e1)
   have hb2:V.heap[b]?=some (.cells (quC q.back bt br (curP B q.back) r) tQu (0,0)):=by
    rw [curP_none (show ¬0≤q.back.cur by show ¬(0:Int)≤ -1;omega) B]
    exact t2.same (TD.same B1 (by simp)) (by simp;exact h.nbr)
   exact⟨⟨_,h.store rfl t3 hb2 a2 hr2 (fun h=>by have:(0:Int)≤ -1:=h;omega)⟩,t3,(cells3k (t2.same (TD.same K1 (by simp)) (by simp;exact h.nkr hx))).1.2.1⟩
  rw [show decide (0≤q.cur)=true by simpa using h0, ←e1]
  have hblt:b < w.heap.size:=lt_of_block h.h0
  obtain⟨x1,x2,x3⟩:=x
  simp only at HI HFIN HR k0 k1 k2 ⊢
  clear h hq h0 e1 e2 hx hxn hlen T1 N1 A1 K1 HK1 TD B1 d4 hfz
  go_enter Try.func17,Try.ntmps17
  go_wp2_with fail
  with_reducible refine HR.out.mono ?_
  rintro e V ⟨rfl,rfl⟩
  go_wp2_with fail
  (try rw [hW1])
  refine wp_still_tail_at 9 hD (by kernel_rfl) (by kernel_rfl) ?_
  clear hD
  simp only [List.take_succ_cons,List.take_zero,List.drop_succ_cons,List.drop_zero]
  repeat still_step
  refine wpStill_nil ?_
  go_wp2_with fail
  with_reducible refine HI.out.mono ?_
  rintro e V2 ⟨rfl,a2,t2⟩
  obtain⟨f1,f2,f3⟩:=HFIN.out V2 a2 t2
  have F1:=xhd (And.intro f1 f2)
  clear a2 t2 f1 f2
  go_wp2
  go_ret2
  exact⟨rfl,F1.out⟩
 ·rw [curP_none h0 B] at HR
  obtain⟨i1,i2⟩:=hq.idle (by omega)
  have hb:q.back=q:=by
   obtain⟨g,f,l,cu,rn⟩:=q
   simp only at i1 i2
   subst i1 i2
   rfl
  rw [show decide (0≤q.cur)=false by simpa using h0,hb,i1]
  have H:=xhd h
  clear h hq h0 i1 i2 hb c4 hfz
  go_enter Try.func17,Try.ntmps17
  go_wp2_with fail
  with_reducible refine HR.out.mono ?_
  rintro e V ⟨rfl,rfl⟩
  go_wp2
  go_ret2
  exact⟨rfl,⟨R,H.out⟩,Turned.refl _ _⟩
theorem rpSettle (h:RpI w b q bt br T R B r) (hq:QOk q c):Calls Try.prog 23 #[.pointer (some ⟨b,0,none⟩)] w fun e w'=>e= .returned (.tuple #[])∧(∃R',RpI w' b q.settle bt br T R' B r)∧Turned [b,br] w w':=by
 have HL:=xhd (fun W (ht:Turned [] w W)=>rpLeast (h.later ht) hq)
 have HS:Hid (∀V,Turned [] w V→V.cell? ⟨b,1,none⟩=some (.int .u64 q.f)∧V.frozen? ⟨b,1,none⟩=false∧Turned [] w V):=xhd fun V ht=>by
  obtain⟨⟨_,c1,_⟩,hf⟩:=cells6 (ht.same h.h0 (by simp))
  exact⟨c1,hf 1,ht⟩
 obtain⟨p1,p2,p3,p4,p5⟩:=settle_ge q
 have HFIN:Hid (∀V,Turned [] w V→(∃R',RpI (V.setCell ⟨b,1,none⟩ (.int .u64 (max q.f (lvQ q)))) b q.settle bt br T R' B r)∧Turned [b,br] w (V.setCell ⟨b,1,none⟩ (.int .u64 (max q.f (lvQ q))))):=xhd fun V t1=>by
  have t2:Turned [b,br] w (V.setCell ⟨b,1,none⟩ (.int .u64 (max q.f (lvQ q)))):=(t1.mono (X:=[b,br]) (fun k hk=>by simp at hk)).setCell (.inl (by simp)) _
  have hb2:(V.setCell ⟨b,1,none⟩ (.int .u64 (max q.f (lvQ q)))).heap[b]?=some (.cells (quC q.settle bt br (curP B q.settle) r) tQu (0,0)):=by
   have e:quC q.settle bt br (curP B q.settle) r= #[.int .i64 q.g, .int .u64 q.settle.f, .pointer (some ⟨bt,0,none⟩), .pointer (some ⟨br,0,none⟩), .pointer (curP B q), .int .i64 r]:=by simp only [quC,curP,p2,p4]
   rw [e,heap_setCell_same _ _ _ _ _ _ (t1.same h.h0 (by simp)), ←settle_max hq.f]
   rfl
  have n2:=keepsN_of t2 fun k hk=>h.kinds k (h.mem k hk)
  have a2:=(h.h2.later t1).keep ((Turned.refl [b] V).setCell (p:=⟨b,1,none⟩) (.inl (by simp)) (.int .u64 (max q.f (lvQ q)))) (by simp;exact fun e=>h.nbr e.symm) (keepsN_of ((Turned.refl [b] V).setCell (p:=⟨b,1,none⟩) (.inl (by simp)) (.int .u64 (max q.f (lvQ q)))) fun k hk=>(h.later t1).kinds k (by simp at hk;exact mem_blocksQ.2 (.inl hk)))
  exact⟨⟨R,h.store p3 t2 hb2 a2 (by rw [Rq.ready,p3,p4];exact h.hr) (by rw [p4,p5];exact h.rn)⟩,t2⟩
 obtain⟨m,hm⟩:∃m,lvQ q=m:=⟨_,rfl⟩
 rw [hm] at HL HFIN
 clear h hq hm p1 p2 p3 p4 p5
 go_enter Try.func23,Try.ntmps23
 go_wp2_with fail
 have hmix:Try.prog.follows .mixedOrders=true:=by kernel_rfl
 refine wp_region_noPanic ?_
 refine wp_region_lastF (fun V=>V.cell? ⟨b,1,none⟩=some (.int .u64 q.f)∧V.frozen? ⟨b,1,none⟩=false∧Turned [] w V) 10 hmix (HS.out _ (Turned.refl [] w).drew) (fun hS0=>?_)
 refine wpAnyF_free (i:=0) (v:=?_) rfl (by kernel_rfl) (by decide) (fun _ _ _ h=>h) (by kernel_rfl) (by kernel_rfl) (Or.inl ⟨by rfl,?hy⟩) (by assumption) ?_
 case hy=>
  intro w _
  go_simp
  try with_reducible rfl
 try simp only [xga];try simp only [xgs];try simp only [xgz];try simp only [Act.put];try simp only [xsa];try simp only [xss];try simp only [xsz]
 refine wpAnyF_free (i:=1) (v:=?_) rfl (by kernel_rfl) (by decide) (fun _ _ _ h=>h) (by kernel_rfl) (by kernel_rfl) (Or.inl ⟨by rfl,?hy⟩) (by assumption) ?_
 case hy=>
  intro w _
  go_simp
  try with_reducible rfl
 try simp only [xga];try simp only [xgs];try simp only [xgz];try simp only [Act.put];try simp only [xsa];try simp only [xss];try simp only [xsz]
 refine wpAnyF_free (i:=2) (v:=?_) rfl (by kernel_rfl) (by decide) (fun _ _ _ h=>h) (by kernel_rfl) (by kernel_rfl) (Or.inl ⟨by rfl,?hy⟩) (by assumption) ?_
 case hy=>
  intro w _
  go_simp
  try with_reducible rfl
 try simp only [xga];try simp only [xgs];try simp only [xgz];try simp only [Act.put];try simp only [xsa];try simp only [xss];try simp only [xsz]
 refine wpAnyF_free (i:=3) (v:=?_) rfl (by kernel_rfl) (by decide) (fun _ _ _ h=>h) (by kernel_rfl) (by kernel_rfl) (Or.inl ⟨by rfl,?hy⟩) (by assumption) ?_
 case hy=>
  intro w _
  go_simp
  try with_reducible rfl
 try simp only [xga];try simp only [xgs];try simp only [xgz];try simp only [Act.put];try simp only [xsa];try simp only [xss];try simp only [xsz]
 refine wpAnyF_take (i:=4) (v:=?_) rfl (by kernel_rfl) (by kernel_rfl) (fun _ _ _ h=>h) (by kernel_rfl) (by kernel_rfl) (by kernel_rfl) (Or.inl ⟨by rfl,?hy⟩) (by assumption) ?_
 case hy=>
  intro w hSw
  (try dsimp only at hSw)
  obtain⟨s0,s1,s2⟩:=hSw
  go_simp
  try with_reducible rfl
 try simp only [xga];try simp only [xgs];try simp only [xgz];try simp only [Act.put];try simp only [xsa];try simp only [xss];try simp only [xsz]
 refine wpAnyF_free (i:=5) (v:=?_) rfl (by kernel_rfl) (by decide) (fun _ _ _ h=>h) (by kernel_rfl) (by kernel_rfl) (Or.inl ⟨by rfl,?hy⟩) (by assumption) ?_
 case hy=>
  intro w _
  go_simp
  try with_reducible rfl
 try simp only [xga];try simp only [xgs];try simp only [xgz];try simp only [Act.put];try simp only [xsa];try simp only [xss];try simp only [xsz]
 refine wpAnyF_ready (rs:=[6]) (by kernel_rfl) (by simp) ?_
 refine ReadyF.cons rfl (fun K' hK=>?_) ReadyF.nil
 go_simp
 with_reducible refine (HL.out _ (Turned.refl [] w).drew).mono ?_
 rintro e V ⟨rfl,t1⟩
 have T1:=xhd (((Turned.refl [] w).drew).join t1)
 clear t1
 have hS1:=HS.out _ T1.out
 go_wp2_with fail
 refine hK.out _ _ (.inr ?_) ?_
 ·exact hS1
 clear hK K'
 try simp only [xga];try simp only [xgs];try simp only [xgz];try simp only [Act.put];try simp only [xsa];try simp only [xss];try simp only [xsz]
 refine wpAnyF_free (i:=7) (v:=?_) rfl (by kernel_rfl) (by decide) (fun _ _ _ h=>h) (by kernel_rfl) (by kernel_rfl) (Or.inl ⟨by rfl,?hy⟩) (by assumption) ?_
 case hy=>
  intro w _
  go_simp
  try with_reducible rfl
 try simp only [xga];try simp only [xgs];try simp only [xgz];try simp only [Act.put];try simp only [xsa];try simp only [xss];try simp only [xsz]
 refine wpAnyF_free (i:=8) (v:=?_) rfl (by kernel_rfl) (by decide) (fun _ _ _ h=>h) (by kernel_rfl) (by kernel_rfl) (Or.inl ⟨by rfl,?hy⟩) (by assumption) ?_
 case hy=>
  intro w _
  go_simp
  try with_reducible rfl
 try simp only [xga];try simp only [xgs];try simp only [xgz];try simp only [Act.put];try simp only [xsa];try simp only [xss];try simp only [xsz]
 refine wpAnyF_free (i:=9) (v:=?_) rfl (by kernel_rfl) (by decide) (fun _ _ _ h=>h) (by kernel_rfl) (by kernel_rfl) (Or.inl ⟨by rfl,?hy⟩) (by assumption) ?_
 case hy=>
  intro w _
  go_simp
  try with_reducible rfl
 try simp only [xga];try simp only [xgs];try simp only [xgz];try simp only [Act.put];try simp only [xsa];try simp only [xss];try simp only [xsz]
 refine wpAnyF_ready (rs:=[10]) (by kernel_rfl) (by simp) ?_
 refine ReadyF.cons rfl (fun K' hK=>?_) ReadyF.nil
 go_simp
 refine hK.out _ _ (.inl (by kernel_rfl)) ?_
 clear hK K'
 try simp only [xga];try simp only [xgs];try simp only [xgz];try simp only [Act.put];try simp only [xsa];try simp only [xss];try simp only [xsz]
 refine wpAnyF_done (by kernel_rfl) ?_ _
 refine NoPanic.normal ?_
 try simp only [xga];try simp only [xgs];try simp only [xgz];try simp only [Act.put];try simp only [xsa];try simp only [xss];try simp only [xsz]
 have F:=HFIN.out _ T1.out
 have F1:=xhd F
 clear F
 go_wp2
 go_end0
 exact⟨rfl,F1.out⟩
end
end Go.Proofs.Ytbfifglcnhfccaa
