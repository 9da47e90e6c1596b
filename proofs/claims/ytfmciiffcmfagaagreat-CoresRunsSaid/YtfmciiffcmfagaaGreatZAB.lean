/-
  The document's queue in memory: New, At, Load, Back.
  Sums of brought ticks and weights, as they grow; how great they are. No program.
  The document's queue in memory: New, place, Load, Tick.
  The document's queue in memory: Settle.
  The document's queue in memory: Add.
  A tick turns one task of a queue's list. No program.
  What a round of a loop over a function may turn. No program.
  A loop over a function that turns memory of its own between two rounds (a heap that is popped): its contract, and the caller's law. No program.
  Inside a round of a loop over a function: a region that draws its order, walked as outside of it. No program.
  What is told of cells abides the steps of a loop over a function; a region with calls in a round; a bool that is answered out of a cell. No program.
  A region that draws its order, in a round of a loop over a function: what its loads read abides till its last operation, which waits for them all, and may turn it. No program.
  A region that draws its order, whose store (number e) turns what its loads read, and some of whose operations may come behind the store ('a.x, _ = f(a.x)'). No program.
-/
import Derived.Test.YtfmciiffcmfagaaGreatZAA
import Derived.Lib.Hide
import Derived.Deep.QuietTactic
import Derived.BigQuiet
import Derived.Deep.RegionHeld3
import Derived.Deep.RegionWith
import Derived.RangeFuncNested
import Derived.RangeFuncBound
import Derived.RangeFuncCalls
import Derived.RangeFuncLeaves
import Derived.RangeFuncBox
import Derived.RangeFuncWrites
import Derived.StillTailTactics
import Derived.OrdersIn
import Derived.Test.YtfmciiffcmfagaaGreatChecked
import Derived.Shelf.Abstract
import Derived.Test.YtfmciiffcmfagaaGreatZAl
set_option maxRecDepth 100000
set_option maxHeartbeats 25600000
namespace Go.Proofs.YtfmciiffcmfagaaGreat
open Go.RowKit
abbrev Tk:=Int×Int×Int
abbrev encTk (x:Tk):List Value:=[.int .i64 x.1, .int .u64 x.2.1, .int .i64 x.2.2]
theorem encTk_len (x:Tk):(encTk x).length=3:=rfl
theorem cells5q {w:World} {b:Nat} {x y z u v:Value} {t:TypeId} (h:w.heap[b]?=some (.cells #[x,y,z,u,v] t (0,0))):
  w.cell? ⟨b,0,none⟩=some x∧w.cell? ⟨b,1,none⟩=some y∧w.cell? ⟨b,2,none⟩=some z∧w.cell? ⟨b,3,none⟩=some u∧w.cell? ⟨b,4,none⟩=some v∧∀i,w.frozen? ⟨b,i,none⟩=false:=
 ⟨by simp [World.cell?,h],by simp [World.cell?,h],by simp [World.cell?,h],by simp [World.cell?,h],by simp [World.cell?,h],fun i=>frozen_of_row w b i _ t h⟩
abbrev tQ16:TypeId:=71
abbrev tT16:TypeId:=77
def R16 (w:World) (b:Nat) (X:List Nat) (q:Rq):Prop:=LAt tQ16 tT16 3 encTk (fun v=> #[.int .i64 q.g, .int .u64 q.f,v, .int .i64 q.cur, .int .i64 q.ran]) w b X q.l
def atQ (l:List Tk) (id:Int):Int:=placeI (fun x=>decide (x.1=id)) l
theorem atQ_none {l:List Tk} {id:Int} (h:∀j (hj:j < l.length),l[j].1≠id):atQ l id= -1:=place_none fun j hj=>by simpa using h j hj
theorem atQ_some {l:List Tk} {id:Int} {k:Nat} (hk:k < l.length) (hid:l[k].1=id) (h:∀j (hj:j < l.length),j < k→l[j].1≠id):atQ l id=k:=
 place_some hk (by simpa using hid) fun j hj hjk=>by simpa using h j hj hjk
theorem atQ_cases (l:List Tk) (id:Int):atQ l id= -1∧(∀x ∈ l,x.1≠id)∨∃k:Nat,∃hk:k < l.length,atQ l id=k∧l[k].1=id:=by
 rcases place_cases (fun x:Tk=>decide (x.1=id)) l with⟨h1,h2⟩ |⟨k,hk,h1,h2⟩
 ·exact .inl ⟨h1,fun x hx=>by simpa using h2 x hx⟩
 ·exact .inr ⟨k,hk,h1,by simpa using h2⟩
theorem R16.rows {w:World} {b:Nat} {X:List Nat} {q:Rq} (h:R16 w b X q):
  ∃a cap,(w.cell? ⟨b,0,none⟩=some (.int .i64 q.g)∧w.cell? ⟨b,1,none⟩=some (.int .u64 q.f)∧w.cell? ⟨b,2,none⟩=some (.slice a q.l.length cap)∧w.cell? ⟨b,3,none⟩=some (.int .i64 q.cur)∧w.cell? ⟨b,4,none⟩=some (.int .i64 q.ran)∧∀i,w.frozen? ⟨b,i,none⟩=false)∧q.l.length≤maxLen∧
   ∀j (hj:j < q.l.length),∃g,a=some ⟨g,0,none⟩∧w.cell? ⟨g,j*3,none⟩=some (.int .i64 q.l[j].1)∧w.cell? ⟨g,j*3+1,none⟩=some (.int .u64 q.l[j].2.1)∧w.cell? ⟨g,j*3+2,none⟩=some (.int .i64 q.l[j].2.2):=by
 obtain⟨a,cap,h1,h2,h3,hc,hm,hg⟩:=LAt.view h
 refine⟨a,cap,cells5q h1,by omega,fun j hj=>?_⟩
 obtain⟨g,hg|hg⟩:=hg j hj
 ·obtain⟨rfl,hbg⟩:=hg
  have r:=row_cells encTk_len h2 hj
  exact⟨g,rfl,(r 0 (by omega)).1,(r 1 (by omega)).1,(r 2 (by omega)).1⟩
 ·exact absurd hg (by decide)
theorem rat_any {w:World} {b:Nat} {X:List Nat} {q:Rq} (h:R16 w b X q) (id:Int):
  Calls Tryz.prog 48 #[.pointer (some ⟨b,0,none⟩), .int .i64 id] w fun e w'=>e= .returned (.int .i64 (atQ q.l id))∧w=w':=by
 obtain⟨a,cap,⟨_,_,c2,_⟩,hlen,hr⟩:=h.rows
 have HR:=xhd hr
 unfold maxLen at hlen
 generalize q.l=L at c2 hlen HR ⊢
 clear h hr
 go_enter Tryz.func48,Tryz.ntmps48
 go_wp2
 go_loop [5] (fun i=>∃k:Nat,i= .int .i64 k∧k≤L.length∧Hid (∀j (hj:j < L.length),j < k→L[j].1≠id)) (fun i=>L.length - (intOf i).toNat)
 case atStart=>exact⟨0,rfl,by omega,xhd fun j hj h=>by omega⟩
 case round=>
  obtain⟨k,rfl,hk,HP⟩:=hrel
  by_cases hlt:k < L.length
  ·obtain⟨g,rfl,r0,r1,r2⟩:=HR.out k hlt
   have i0:(0:Int)≤k:=by omega
   have i1:(k:Int) < L.length:=by omega
   obtain⟨y,hy⟩:∃y,L[k].1=y:=⟨_,rfl⟩
   rw [hy] at r0
   have HY:=xhd hy
   clear hy r1 r2
   by_cases hp:y=id
   ·subst hp
    go_wp2
    go_ret
    rw [atQ_some hlt HY.out HP.out]
    exact⟨rfl,rfl⟩
   ·go_wp2
    go_round
    case rel=>
     refine⟨k+1,by go_num,by omega,xhd fun j hj hjk=>?_⟩
     by_cases e:j=k
     ·subst e
      rw [HY.out]
      exact hp
     ·exact HP.out j hj (by omega)
    case measure=>simp [intOf];omega
  ·have hk':k=L.length:=by omega
   subst hk'
   go_wp2
   go_ret
   rw [atQ_none fun j hj=>HP.out j hj hj]
   exact⟨rfl,rfl⟩
theorem rback_any {w:World} {b:Nat} {X:List Nat} {q:Rq} (h:R16 w b X q):
  Calls Tryz.prog 24 #[.pointer (some ⟨b,0,none⟩)] w fun e w'=>e= .returned (.int .i64 q.cur)∧R16 w' b X q.back∧Turned X w w':=by
 obtain⟨v,h1,h2,h3⟩:=id h
 obtain⟨c0,c1,c2,c3,c4,cf⟩:=cells5q h1
 have hne:some b≠v.ownBlock:=block_off h1 h2 (by decide)
 have HFIN:Hid (R16 ((w.setCell ⟨b,3,none⟩ (.int .i64 (-1))).setCell ⟨b,4,none⟩ (.int .i64 0)) b X q.back∧Turned X w ((w.setCell ⟨b,3,none⟩ (.int .i64 (-1))).setCell ⟨b,4,none⟩ (.int .i64 0))):=by
  have e1:(w.setCell ⟨b,3,none⟩ (.int .i64 (-1))).heap[b]?=some (.cells #[.int .i64 q.g, .int .u64 q.f,v, .int .i64 (-1), .int .i64 q.ran] tQ16 (0,0)):=by
   rw [heap_setCell_same w b 3 _ _ _ h1]
   rfl
  have e2:((w.setCell ⟨b,3,none⟩ (.int .i64 (-1))).setCell ⟨b,4,none⟩ (.int .i64 0)).heap[b]?=some (.cells #[.int .i64 q.g, .int .u64 q.f,v, .int .i64 (-1), .int .i64 0] tQ16 (0,0)):=by
   rw [heap_setCell_same _ b 4 _ _ _ e1]
   rfl
  refine⟨⟨v,e2,ownsRow_setCell_other (ownsRow_setCell_other h2 (a:=⟨b,3,none⟩) (fun e=>hne e.symm) _) (a:=⟨b,4,none⟩) (fun e=>hne e.symm) _,h3⟩,?_⟩
  exact ((Turned.refl X w).setCell (.inl (by simp [h3])) _).setCell (.inl (by simp [h3])) _
 obtain⟨f0,hf0⟩:∃x,q.cur=x:=⟨_,rfl⟩
 rw [hf0] at c3 ⊢
 have f3:=cf 3
 have f4:=cf 4
 clear h h1 h2 h3 hne
 go_enter Tryz.func24,Tryz.ntmps24
 go_wp2
 go_ret
 exact⟨rfl,HFIN.out⟩
end Go.Proofs.YtfmciiffcmfagaaGreat
namespace Go.Proofs.YtfmciiffcmfagaaGreat
def psum (f:Int→Int) (l:List Int) (k:Nat):Int:=sumR ((l.take k).map f)
theorem psum_zero (f:Int→Int) (l:List Int):psum f l 0=0:=by simp [psum,sumR]
theorem sum_append (a b:List Int):sumR (a++b)=sumR a+sumR b:=by
 induction a with
 |nil=>simp [sumR]
 |cons x a ih=>
  have e1:sumR (x::a++b)=x+sumR (a++b):=rfl
  have e2:sumR (x::a)=x+sumR a:=rfl
  rw [e1,e2,ih]
  omega
theorem psum_succ (f:Int→Int) {l:List Int} {k:Nat} (h:k < l.length):psum f l (k+1)=psum f l k+f l[k]:=by
 unfold psum
 rw [List.take_succ_eq_append_getElem h,List.map_append,sum_append]
 simp [sumR]
theorem psum_all (f:Int→Int) (l:List Int):psum f l l.length=sumR (l.map f):=by
 unfold psum
 rw [List.take_length]
def bt (t:Int):Int:=bringR t 0 2147483648
end Go.Proofs.YtfmciiffcmfagaaGreat
namespace Go.Proofs.YtfmciiffcmfagaaGreat
open Go.RowKit
theorem rnew_any (grain:Int) (w:World):Calls Tryz.prog 33 #[.int .i64 grain] w fun e w'=>e= .returned (.pointer (some ⟨w.heap.size,0,none⟩))∧R16 w' w.heap.size [w.heap.size] (Rq.new grain)∧Below w.heap.size w w':=by
 have HB:=xhd (bring_any grain 1 8 w)
 have HFIN:=xhd (show ∀g,g=bringR grain 1 8→R16 (w.alloc (.cells #[.int .i64 g, .int .u64 0, .slice none 0 0, .int .i64 (-1), .int .i64 0] tQ16)) w.heap.size [w.heap.size] (Rq.new grain) from fun g hg=>by
  subst hg
  exact⟨.slice none 0 0,heap_alloc_new w _,World.ownsRow_nil _ _ _ _,rfl⟩)
 go_enter Tryz.func33,Tryz.ntmps33
 go_wp2_with fail
 with_reducible refine HB.out.mono ?_
 rintro e w1 ⟨rfl,rfl⟩
 go_wp2
 go_ret
 exact⟨rfl,HFIN.out _ rfl,(Below.refl _ _).alloc (Nat.le_refl _) _⟩
theorem rplace_any {w:World} {b:Nat} {X:List Nat} {q:Rq} (h:R16 w b X q) (hf:Word q.f) (v wt:Int):
  Calls Tryz.prog 50 #[.pointer (some ⟨b,0,none⟩), .int .u64 v, .int .i64 wt] w fun e w'=>e= .returned (.int .u64 (q.place v wt))∧Below w.heap.size w w':=by
 obtain⟨_,h1,_,_⟩:=id h
 have hlt:=lt_of_block h1
 obtain⟨c0,c1,_⟩:=cells5q h1
 have hr:=reach_range wt q.g
 have hw:Word (reachR wt q.g):=⟨by omega,by omega⟩
 have HR:=xhd (fun V=>rreach_any wt q.g V)
 have HC:=xhd (fun V=>rclamp_any v q.f (reachR wt q.g) hf hw V)
 unfold Rq.place
 generalize reachR wt q.g=r at HR HC ⊢
 generalize clampR v q.f r=z at HC ⊢
 generalize q.f=f at c1 HC
 generalize q.g=g at c0 HR
 have HK:=xhd (fun (V V':World) (e0:V.cell? ⟨b,0,none⟩=some (.int .i64 g)∧V.cell? ⟨b,1,none⟩=some (.int .u64 f)) (hV:w.heap.size≤V.heap.size) (hb:Below V.heap.size V V')=>
  show V'.cell? ⟨b,0,none⟩=some (.int .i64 g)∧V'.cell? ⟨b,1,none⟩=some (.int .u64 f) from
   ⟨(hb.cell (p:=⟨b,0,none⟩) (Nat.lt_of_lt_of_le hlt hV)).trans e0.1,(hb.cell (p:=⟨b,1,none⟩) (Nat.lt_of_lt_of_le hlt hV)).trans e0.2⟩)
 have HC0:=xhd (And.intro c0 c1)
 clear h h1 hr hf hw hlt
 go_enter Tryz.func50,Tryz.ntmps50
 go_wp2_with fail
 go_region_held3 (fun V=>V.cell? ⟨b,0,none⟩=some (.int .i64 g)∧V.cell? ⟨b,1,none⟩=some (.int .u64 f))
  (first|exact HK.out _ _ HC0.out (Nat.le_refl _) hb1|exact HC0.out)
  (first
    |(go_at_call 77;with_reducible refine (HR.out _).mono ?_;rintro e w1 ⟨rfl,rfl⟩)
    |(go_at_call 76;with_reducible refine (HC.out _).mono ?_;rintro e w2 ⟨rfl,hb⟩;have hb1:Below w.heap.size w w2:=((Below.refl _ w).drew).trans (hb.mono (Nat.le_refl _));have HB1:=xhd hb1)
    |fail)
 all_goals (go_wp2;go_ret;exact⟨rfl,HB1.out⟩)
theorem rload_any {w:World} {b:Nat} {X:List Nat} {q:Rq} (h:R16 w b X q) (hl:q.l.length≤1000) (hw:∀x ∈ q.l,1≤x.2.2∧x.2.2≤4096):
  Calls Tryz.prog 46 #[.pointer (some ⟨b,0,none⟩)] w fun e w'=>e= .returned (.int .i64 (sumR (q.l.map (·.2.2))))∧w=w':=by
 obtain⟨a,cap,⟨_,_,c2,_⟩,_,hr⟩:=h.rows
 have HR:=xhd hr
 have HW:=xhd hw
 generalize q.l=L at c2 hl HR HW ⊢
 have hall:psum id (L.map (·.2.2)) L.length=sumR (L.map (·.2.2)):=by
  have:=psum_all id (L.map (·.2.2))
  rw [List.length_map,List.map_id] at this
  exact this
 have hrng:∀k,k≤L.length→0≤psum id (L.map (·.2.2)) k∧psum id (L.map (·.2.2)) k≤4096*k:=by
  intro k
  induction k with
  |zero=>intro _;rw [psum_zero];simp
  |succ k ih=>
   intro hk
   obtain⟨a1,a2⟩:=ih (by omega)
   rw [psum_succ id (by rw [List.length_map];omega)]
   have:=HW.out L[k] (List.getElem_mem _)
   simp only [List.getElem_map,id]
   omega
 have HRN:=xhd hrng
 clear h hr hw hrng
 go_enter Tryz.func46,Tryz.ntmps46
 go_wp2
 go_loop [3,4] (fun s i=>∃k:Nat,i= .int .i64 k∧k≤L.length∧s= .int .i64 (psum id (L.map (·.2.2)) k)) (fun _ i=>L.length - (intOf i).toNat)
 case atStart=>exact⟨0,rfl,by omega,by rw [psum_zero]⟩
 case round=>
  obtain⟨k,rfl,hk,rfl⟩:=hrel
  by_cases hlt:k < L.length
  ·obtain⟨g,rfl,r0,r1,r2⟩:=HR.out k hlt
   have i0:(0:Int)≤k:=by omega
   have i1:(k:Int) < L.length:=by omega
   have s1:=psum_succ id (l:=L.map (·.2.2)) (k:=k) (by simpa using hlt)
   simp only [List.getElem_map,id] at s1
   obtain⟨a1,a2⟩:=HRN.out (k+1) (by omega)
   have e1:IntKind.i64.wrap (psum id (L.map (·.2.2)) k+L[k].2.2)=psum id (L.map (·.2.2)) (k+1):=by rw [←s1,IntKind.wrap_i64];omega
   have HS1:=xhd s1
   clear r0 r1 s1
   go_wp2
   go_round
   case rel=>exact⟨k+1,by go_num,by omega,by first|rfl|trivial|rw [HS1.out]⟩
   case measure=>simp [intOf];omega
  ·have hk':k=L.length:=by omega
   subst hk'
   rw [hall]
   go_wp2
   go_ret
   exact⟨rfl,rfl⟩
theorem minQ_snoc:∀(l:List Tk) (m:Int) (y:Tk),minQ (l++[y]) m=if y.2.1 < minQ l m then y.2.1 else minQ l m
 |[],_,_=>rfl
 |x::l,m,y=>by
  show minQ (l++[y]) (if x.2.1 < m then x.2.1 else m)=_
  rw [minQ_snoc l]
  rfl
theorem minQ_take {l:List Tk} {m:Int} {k:Nat} (h:k < l.length):minQ (l.take (k+1)) m=if l[k].2.1 < minQ (l.take k) m then l[k].2.1 else minQ (l.take k) m:=by
 rw [List.take_succ_eq_append_getElem h,minQ_snoc]
theorem R16.setF {w:World} {b:Nat} {X:List Nat} {q:Rq} (h:R16 w b X q) (f:Int):R16 (w.setCell ⟨b,1,none⟩ (.int .u64 f)) b X { q with f:=f } ∧Turned X w (w.setCell ⟨b,1,none⟩ (.int .u64 f)):=by
 obtain⟨v,h1,h2,h3⟩:=h
 have hne:some b≠v.ownBlock:=block_off h1 h2 (by decide)
 refine⟨⟨v,?_,ownsRow_setCell_other h2 (a:=⟨b,1,none⟩) (fun e=>hne e.symm) _,h3⟩,(Turned.refl X w).setCell (.inl (by simp [h3])) _⟩
 rw [heap_setCell_same w b 1 _ _ _ h1]
 rfl
theorem rsettle_any {w:World} {b:Nat} {X:List Nat} {q:Rq} (h:R16 w b X q):
  Calls Tryz.prog 19 #[.pointer (some ⟨b,0,none⟩)] w fun e w'=>e= .returned (.tuple #[])∧R16 w' b X q.settle∧Turned X w w':=by
 obtain⟨a,cap,⟨c0,c1,c2,c3,c4,cf⟩,hlen,hr⟩:=h.rows
 have HR:=xhd hr
 have f1:=cf 1
 unfold maxLen at hlen
 cases hl:q.l with
 |nil=>
  have HFIN:Hid (R16 w b X q.settle∧Turned X w w):=by
   have e:q.settle=q:=by
    unfold Rq.settle
    rw [hl]
   rw [e]
   exact⟨h,Turned.refl _ _⟩
  rw [hl] at c2
  clear h hr hl HR hlen
  go_enter Tryz.func19,Tryz.ntmps19
  go_wp2
  refine bodyPost_ret (results_none rfl _ _ _) rfl ?_
  exact⟨rfl,HFIN.out⟩
 |cons x r=>
  have hset:q.settle= { q with f:=if q.f < minQ r x.2.1 then minQ r x.2.1 else q.f } :=by
   unfold Rq.settle
   rw [hl]
  have HFIN:Hid ((q.f < minQ r x.2.1→R16 (w.setCell ⟨b,1,none⟩ (.int .u64 (minQ r x.2.1))) b X q.settle∧Turned X w (w.setCell ⟨b,1,none⟩ (.int .u64 (minQ r x.2.1))))∧(¬q.f < minQ r x.2.1→R16 w b X q.settle∧Turned X w w)):=by
   refine⟨fun hc=>?_,fun hc=>?_⟩
   ·rw [hset,if_pos hc]
    exact h.setF _
   ·rw [hset,if_neg hc]
    exact⟨h,Turned.refl _ _⟩
  have hn:q.l.length=r.length+1:=by rw [hl];rfl
  have HG:Hid (∀j (hj:j < r.length),∃g,a=some ⟨g,0,none⟩∧w.cell? ⟨g,(j+1)*3+1,none⟩=some (.int .u64 r[j].2.1)):=by
   refine xhd fun j hj=>?_
   obtain⟨g,hg,_,hv,_⟩:=hr (j+1) (by omega)
   refine⟨g,hg,hv.trans ?_⟩
   congr 3
   simp [hl]
  obtain⟨g,rfl,hv0⟩:∃g,a=some ⟨g,0,none⟩∧w.cell? ⟨g,1,none⟩=some (.int .u64 x.2.1):=by
   obtain⟨g,hg,_,hv,_⟩:=hr 0 (by omega)
   have e:(0:Nat)*3+1=1:=rfl
   rw [e] at hv
   refine⟨g,hg,hv.trans ?_⟩
   congr 3
   simp [hl]
  rw [hn] at c2 hlen
  generalize q.settle=z at HFIN ⊢
  generalize q.f=f at c1 HFIN
  have hz:¬((r.length:Int)+1=0):=by omega
  clear h hr hl HR hn hset c0 c3 c4
  go_enter Tryz.func19,Tryz.ntmps19
  go_wp2
  go_loop [2,3] (fun v i=>∃j:Nat,i= .int .i64 ((j:Int)+1)∧j≤r.length∧v= .int .u64 (minQ (r.take j) x.2.1)) (fun _ i=>r.length+1 - (intOf i).toNat)
  case atStart=>exact⟨0,rfl,by omega,rfl⟩
  case round=>
   obtain⟨j,rfl,hj,rfl⟩:=hrel
   by_cases hlt:j < r.length
   ·obtain⟨g',hg',rv⟩:=HG.out j hlt
    simp only [Option.some.injEq,Addr.mk.injEq,and_true] at hg'
    subst hg'
    have i0:(0:Int)≤(j:Int)+1:=by omega
    have i1:(j:Int)+1 < (r.length:Int)+1:=by omega
    have i2:j+1 < r.length+1:=by omega
    have hm:=minQ_take (m:=x.2.1) hlt
    have HM:=xhd hm
    clear hm
    generalize minQ (r.take j) x.2.1=m at HM ⊢
    obtain⟨y,hy⟩:∃y,r[j].2.1=y:=⟨_,rfl⟩
    rw [hy] at rv HM
    clear hy
    by_cases hc:y < m
    ·have hM:=HM.out
     rw [if_pos hc] at hM
     have HM1:=xhd hM
     clear hM
     go_wp2
     go_round
     case rel=>exact⟨j+1,by go_num,by omega,by rw [HM1.out]⟩
     case measure=>simp [intOf];omega
    ·have hM:=HM.out
     rw [if_neg hc] at hM
     have HM1:=xhd hM
     clear hM
     go_wp2
     go_round
     case rel=>exact⟨j+1,by go_num,by omega,by rw [HM1.out]⟩
     case measure=>simp [intOf];omega
   ·have hk':j=r.length:=by omega
    subst hk'
    rw [List.take_length]
    by_cases hc:f < minQ r x.2.1
    ·have HF:=xhd (HFIN.out.1 hc)
     generalize minQ r x.2.1=m at hc HF ⊢
     go_wp2
     go_end0
     exact⟨rfl,HF.out⟩
    ·have HF:=xhd (HFIN.out.2 (by omega))
     generalize minQ r x.2.1=m at hc ⊢
     go_wp2
     go_end0
     exact⟨rfl,HF.out⟩
def addE (q:Rq) (id:Int):Int:=if id < 0 then 1 else if (findQ q.l id).isSome=true then 12 else if 16≤q.l.length then 3 else 0
def addV (q:Rq) (id v w:Int):Int:=if addE q id=0 then q.place v (bringR w 1 4096) else 0
theorem atQ_find (l:List Tk) (id:Int):(findQ l id).isSome=true↔0≤atQ l id:=by
 rcases atQ_cases l id with⟨h1,h2⟩ |⟨k,hk,h1,h2⟩
 ·rw [h1]
  cases he:findQ l id with
  |none=>simp
  |some x=>exact absurd rfl (h2 _ (findQ_mem he))
 ·rw [h1]
  cases he:findQ l id with
  |none=>exact absurd h2 (findQ_none he _ (List.getElem_mem hk))
  |some x=>simp
theorem infoTk:(Tryz.prog.info? tT16).map (fun i=>(i.zero,i.size,i.bytes))=some (some (.agg #[.int .i64 0, .int .u64 0, .int .i64 0]),3,24):=by kernel_rfl
theorem R16.below {w w':World} {b:Nat} {X:List Nat} {q:Rq} (h:R16 w b X q) (hb:Below w.heap.size w w'):R16 w' b X q:=
 LAt.keep h (Y:=[]) ⟨hb.os,hb.tape,hb.output,hb.size,fun k hk _=>hb.block k hk⟩ (fun _ _ h=>by cases h)
theorem turned_below {w w':World} {X:List Nat} (hb:Below w.heap.size w w'):Turned X w w':=⟨hb.os,hb.tape,hb.output,hb.size,fun k hk _=>hb.block k hk⟩
theorem three_new (W:World) (x y z:Value) (t:TypeId):∀(j:Nat) (u:Value),[x,y,z][j]?=some u→(W.alloc (.cells #[x,y,z] t)).cell? ((⟨W.heap.size,0,none⟩:Addr).add j)=some u:=by
 intro j u hj
 have hh:=heap_alloc_new W (.cells #[x,y,z] t)
 rw [Addr.add_lit]
 simp only [World.cell?,hh]
 match j,hj with
 |0,hj=>simpa using hj
 |1,hj=>simpa using hj
 |2,hj=>simpa using hj
theorem radd_any {w:World} {b:Nat} {X:List Nat} {q:Rq} (h:R16 w b X q) (hf:Word q.f) (id v wt:Int):
  Calls Tryz.prog 37 #[.pointer (some ⟨b,0,none⟩), .int .i64 id, .int .u64 v, .int .i64 wt] w fun e w'=>e= .returned (.tuple #[.int .u64 (addV q id v wt), .int .i64 (addE q id)])∧∃X',R16 w' b X' (q.add id v wt)∧Turned X w w'∧Newer X w.heap.size X':=by
 have hsame:addE q id≠0→addV q id v wt=0∧q.add id v wt=q:=fun he=>by
  refine⟨if_neg he,?_⟩
  unfold Rq.add
  refine if_pos ?_
  unfold addE at he
  by_cases c1:id < 0
  ·exact .inl c1
  ·rw [if_neg c1] at he
   by_cases c2:(findQ q.l id).isSome=true
   ·exact .inr (.inl c2)
   ·rw [if_neg c2] at he
    by_cases c3:16≤q.l.length
    ·exact .inr (.inr c3)
    ·rw [if_neg c3] at he
     exact absurd rfl he
 have HA:=xhd (rat_any h id)
 have hfa:=atQ_find q.l id
 by_cases c1:id < 0
 ·have e:addE q id=1:=if_pos c1
  obtain⟨e1,e2⟩:=hsame (by omega)
  rw [e,e1,e2]
  have HFIN:=xhd h
  clear h hsame
  go_enter Tryz.func37,Tryz.ntmps37
  go_wp2
  go_ret2
  exact⟨rfl,X,HFIN.out,Turned.refl _ _,Newer.refl _ _⟩
 ·by_cases c2:(findQ q.l id).isSome=true
  ·have e:addE q id=12:=by unfold addE;rw [if_neg c1,if_pos c2]
   obtain⟨e1,e2⟩:=hsame (by omega)
   have h0:=hfa.1 c2
   rw [e,e1,e2]
   have HFIN:=xhd h
   generalize atQ q.l id=k at HA h0
   clear h hsame hfa
   go_enter Tryz.func37,Tryz.ntmps37
   go_wp2_with fail
   with_reducible refine HA.out.mono ?_
   rintro e w1 ⟨rfl,rfl⟩
   go_wp2
   go_ret2
   exact⟨rfl,X,HFIN.out,Turned.refl _ _,Newer.refl _ _⟩
  ·have h0:¬0≤atQ q.l id:=fun hh=>c2 (hfa.2 hh)
   by_cases c3:16≤q.l.length
   ·have e:addE q id=3:=by unfold addE;rw [if_neg c1,if_neg c2,if_pos c3]
    obtain⟨e1,e2⟩:=hsame (by omega)
    rw [e,e1,e2]
    have HFIN:=xhd h
    obtain⟨a,cap,⟨_,_,k2,_⟩,_,_⟩:=h.rows
    have c3z:(16:Int)≤(q.l.length:Int):=by omega
    generalize q.l.length=n at k2 c3z
    generalize atQ q.l id=k at HA h0
    clear h hsame hfa c3
    go_enter Tryz.func37,Tryz.ntmps37
    go_wp2_with fail
    with_reducible refine HA.out.mono ?_
    rintro e w1 ⟨rfl,rfl⟩
    go_wp2
    go_ret2
    exact⟨rfl,X,HFIN.out,Turned.refl _ _,Newer.refl _ _⟩
   ·have e:addE q id=0:=by unfold addE;rw [if_neg c1,if_neg c2,if_neg c3]
    have ev:addV q id v wt=q.place v (bringR wt 1 4096):=if_pos e
    have eq:q.add id v wt= { q with l:=q.l++[(id,q.place v (bringR wt 1 4096),bringR wt 1 4096)] } :=by
     unfold Rq.add
     refine if_neg ?_
     rintro (hh|hh|hh)
     ·exact c1 hh
     ·exact c2 hh
     ·exact c3 hh
    rw [e,ev,eq]
    have HBR:=xhd (fun V=>bring_any wt 1 4096 V)
    have HPL:=xhd (rplace_any h hf v (bringR wt 1 4096))
    generalize bringR wt 1 4096=u at HBR HPL ⊢
    generalize q.place v u=p at HPL ⊢
    obtain⟨a,cap,⟨_,_,k2,_⟩,_,_⟩:=h.rows
    have c3z:¬(16:Int)≤(q.l.length:Int):=by omega
    have HR:=xhd h
    have HL:Hid (q.l.length < 16):=xhd (by omega)
    obtain⟨i0,hi0,hz0,hz1,hz2⟩:=info_parts infoTk
    generalize atQ q.l id=k at HA h0
    clear h hsame hfa c3 c2 hf
    obtain⟨n,hn⟩:∃n,q.l.length=n:=⟨_,rfl⟩
    have HN:=xhd hn
    rw [hn] at k2 c3z HL
    clear hn
    go_enter Tryz.func37,Tryz.ntmps37
    go_wp2_with fail
    with_reducible refine HA.out.mono ?_
    rintro e w1 ⟨rfl,rfl⟩
    go_wp2_with fail
    with_reducible refine (HBR.out _).mono ?_
    rintro e w2 ⟨rfl,rfl⟩
    go_wp2_with fail
    with_reducible refine HPL.out.mono ?_
    rintro e w3 ⟨rfl,hb3⟩
    have HB3:=xhd hb3
    clear k2 hb3
    obtain⟨vv,g1,g2,g3⟩:=HR.out.below HB3.out
    obtain⟨a3,cap3,rfl,hcap,hmax⟩:=ownsRow_shape g2
    obtain⟨k0,k1,k2,k3,k4,kf⟩:=cells5q g1
    rw [HN.out] at k2
    have kf2:=kf 2
    have G1:=xhd g1
    have G2:=xhd g2
    have G3:=xhd g3
    have HLN:=HL.out
    clear g1 g2 g3 hcap hmax k0 k1 k3 k4 kf
    go_wp2_with (at_builtin;refine wpList_append_any _ rfl _ _ 69 rfl tT16 i0 (.agg #[.int .i64 0, .int .u64 0, .int .i64 0]) 3 24 Tryz.underlying69 hi0 hz0 hz1 hz2 rfl (by decide) (.slice a3 n cap3) n (cellsOf encTk q.l) rfl (by have:=G2.out;rw [HN.out] at this;exact this.alloc _) (some ⟨w3.heap.size,0,none⟩) 1 1 [.int .i64 id, .int .u64 p, .int .i64 u] rfl rfl (by intro h;cases h) (by intro ad had;cases had;exact three_new _ _ _ _ _) (by intro y hy;simp at hy;rcases hy with rfl|rfl|rfl<;>rfl) (by unfold maxLen;omega) (by omega) ?_)
    intro a5 cap5 W5 hown hgb hnew
    have R:=LAt.appended (W:=w3) (W2:=w3.alloc (.cells #[.int .i64 id, .int .u64 p, .int .i64 u] tT16)) (W1:=W5) (tS:=tQ16) (tE:=tT16) (k:=3) (enc:=encTk) (cs:=fun v=> #[.int .i64 q.g, .int .u64 q.f,v, .int .i64 q.cur, .int .i64 q.ran]) (v:= .slice a3 q.l.length cap3) (i:=2) (v':= .slice a5 (n+1) cap5) (M:=q.l++[(id,p,u)]) (by decide) rfl G1.out G2.out ((Turned.refl [] _).alloc _) (by rw [HN.out];exact hgb) (by
     rw [cellsOf_snoc,List.length_append,HN.out]
     exact hown) (by rw [HN.out];simpa using hnew)
    obtain⟨r1,r2,r3,r4⟩:=R
    have f5:=(cells5q r1).2.2.2.2.2 2
    have k5:=(cells5q r1).2.2.1
    have HR2:=xhd r2
    have HT:Hid (Turned X w2 (W5.setCell ⟨b,2,none⟩ (.slice a5 (n+1) cap5))∧Newer X w2.heap.size (b::(Value.slice a5 (n+1) cap5).ownBlock.toList)):=by
     refine⟨(turned_below HB3.out).trans r3 ?_,?_⟩
     ·rw [←G3.out]
      exact Newer.refl _ _
     ·have:=r4.mono HB3.out.size
      rw [←G3.out] at this
      exact this
    clear r1 r2 r3 r4 hown hgb hnew
    go_wp2
    go_ret2
    exact⟨rfl,_,HR2.out,HT.out.1,HT.out.2⟩
theorem tick_set {l:List Tk} {c:Int} (hu:(l.map (·.1)).Nodup) {k:Nat} (hk:k < l.length) (he:l[k].1=c):l.map (tickT c)=l.set k (l[k].1,satV (l[k].2.1+coreR l[k].2.2),l[k].2.2):=by
 refine List.ext_getElem (by simp) fun i h1 h2=>?_
 rw [List.length_map] at h1
 rw [List.getElem_map,List.getElem_set]
 by_cases e:k=i
 ·subst e
  rw [if_pos rfl]
  unfold tickT
  rw [if_pos he]
 ·rw [if_neg e]
  unfold tickT
  have hne:l[i].1≠c:=fun h=>by
   have h3:(l.map (·.1))[i]'(by simpa using h1)=(l.map (·.1))[k]'(by simpa using hk):=by
    rw [List.getElem_map,List.getElem_map,h,he]
   exact e ((List.getElem_inj hu).1 h3).symm
  rw [if_neg hne]
structure Kept (X:List Nat) (n₀:Nat) (w w':World):Prop where
 os:w'.os=w.os
 tape:w'.tape=w.tape
 output:w'.output=w.output
 size:w.heap.size≤w'.heap.size
 block:∀k,k < n₀→k ∉ X→w'.heap[k]?=w.heap[k]?
theorem Kept.refl (X:List Nat) (n₀:Nat) (w:World):Kept X n₀ w w:=⟨rfl,rfl,rfl,Nat.le_refl _,fun _ _ _=>rfl⟩
theorem Kept.trans {X:List Nat} {n₀:Nat} {a b c:World} (h:Kept X n₀ a b) (g:Kept X n₀ b c):Kept X n₀ a c:=
 ⟨g.os.trans h.os,g.tape.trans h.tape,g.output.trans h.output,Nat.le_trans h.size g.size,fun k hk hx=>(g.block k hk hx).trans (h.block k hk hx)⟩
theorem Kept.drewN {X:List Nat} {n₀:Nat} {a b:World} (h:Kept X n₀ a b) (n:Nat):Kept X n₀ a (b.drewN n):=⟨h.os,h.tape,h.output,h.size,h.block⟩
theorem Kept.alloc {X:List Nat} {n₀:Nat} {a b:World} (h:Kept X n₀ a b) (hn:n₀≤b.heap.size) (o:Obj):Kept X n₀ a (b.alloc o):=
 ⟨h.os,h.tape,h.output,Nat.le_trans h.size (by simp),fun k hk hx=>(Below.heap_alloc b o k (by omega)).trans (h.block k hk hx)⟩
theorem Kept.setCell {X:List Nat} {n₀:Nat} {a b:World} (h:Kept X n₀ a b) {p:Addr} (hp:p.block ∈ X∨n₀≤p.block) (u:Value):Kept X n₀ a (b.setCell p u):=
 ⟨h.os,h.tape,h.output,Nat.le_trans h.size (by simp [World.setCell]),fun k hk hx=>
   (Below.heap_setCell b p u k (fun e=>by subst e;rcases hp with h1|h1;exact hx h1;omega)).trans (h.block k hk hx)⟩
theorem Kept.of_turned {X:List Nat} {n₀:Nat} {a b:World} (h:Turned X a b) (hn:n₀≤a.heap.size):Kept X n₀ a b:=⟨h.os,h.tape,h.output,h.size,fun k hk hx=>h.block k (by omega) hx⟩
theorem Kept.row {X:List Nat} {n₀:Nat} {a b:World} (h:Kept X n₀ a b) {base:Nat} {e:TypeId} {size:Nat} {v:Value} {n:Nat} {xs:List Value} (hr:a.ownsRow base e size v n xs) (hk:∀k ∈ v.ownBlock.toList,k < n₀∧k ∉ X):b.ownsRow base e size v n xs:=
 ownsRow_same hr fun k hv _=>h.block k (hk k hv).1 (hk k hv).2
theorem Kept.at {X:List Nat} {n₀:Nat} {a b:World} (h:Kept X n₀ a b) {k:Nat} {o:Obj} (ho:a.heap[k]?=some o) (hk:k < n₀) (hx:k ∉ X):b.heap[k]?=some o:=(h.block k hk hx).trans ho
end Go.Proofs.YtfmciiffcmfagaaGreat
namespace Go.Proofs.YtfmciiffcmfagaaGreat
open Go.RowKit
def SameAt (X:List Nat) (W W':World):Prop:=∀k ∈ X,W'.heap[k]?=W.heap[k]?
theorem SameAt.refl (X:List Nat) (W:World):SameAt X W W:=fun _ _=>rfl
theorem SameAt.trans {X:List Nat} {A B C:World} (h:SameAt X A B) (g:SameAt X B C):SameAt X A C:=fun k hk=>(g k hk).trans (h k hk)
theorem SameAt.of_turned {X Y:List Nat} {A B:World} (h:Turned Y A B) (hx:∀k ∈ X,k < A.heap.size∧k ∉ Y):SameAt X A B:=fun k hk=>h.block k (hx k hk).1 (hx k hk).2
structure Mild (X:List Nat) (B:Nat) (W W':World):Prop where
 os:W'.os=W.os
 tape:W'.tape=W.tape
 output:W'.output=W.output
 size:W.heap.size≤W'.heap.size
 same:∀(k:Nat) (o:Obj),W.heap[k]?=some o→k ∉ X→k < B∨o.isCells=true→W'.heap[k]?=some o
theorem Mild.of_turned {X:List Nat} {B:Nat} {W W':World} (h:Turned X W W'):Mild X B W W':=
 ⟨h.os,h.tape,h.output,h.size,fun _ _ ho hx _=>h.same ho hx⟩
theorem Mild.of_put {X:List Nat} {B l:Nat} {W:World} {o:Obj} (hl:W.heap[l]?=some o) (ho:o.isCells=false) (hB:B≤l) (o':Obj):Mild X B W (W.putObj l o'):=
 ⟨rfl,rfl,rfl,by simp,fun k u hu _ hk=>by
   have hne:k≠l:=by
    rintro rfl
    rw [hl] at hu
    cases hu
    rcases hk with h|h
    ·omega
    ·rw [ho] at h
     cases h
   exact (World.putObj_heap_other hne).trans hu⟩
def leftPost {α:Type} (B:Nat) (Y:List Nat) (I:List α→World→Prop) (Ix:Code→List α→World→Prop) (xs:List α) (W:World):Exit→Act→World→Prop
 | .normal,_,W'=>KeepsFrom B W W'∧SameAt Y W W'∧I xs W'
 | .ret,_,W'=>KeepsFrom B W W'∧SameAt Y W W'∧Ix .ret xs W'
 | .exit id,_,W'=>KeepsFrom B W W'∧SameAt Y W W'∧Ix (.exit id) xs W'
 | .goto t,_,W'=>KeepsFrom B W W'∧SameAt Y W W'∧Ix (.goto t) xs W'
 | .panic _,_,_=>False
 | .outgrown,_,_=>False
def TurnSeq {α:Type} (F:Fence) (n:Nat) (P:Program) (g:Nat) (lb:Array Value) (encs:α→Array Value) (X Y:List Nat) (Sp:List α→Prop) (S Sx:List α→World→Prop) (w:World):Prop:=
 ∀(l:Nat) (J Jx:List α→World→Prop) (W:World),Turned [] w W→(∀xs A B,J xs A→Turned X A B→J xs B)→
  (∀pre x A,J pre A→Sp (pre++[x])→YieldAt F (n - 1) P l (encs x) A fun e B=>
    SameAt Y A B∧A.heap.size≤B.heap.size∧((e= .returned (.bool true)∧J (pre++[x]) B)∨(e= .returned (.bool false)∧Jx (pre++[x]) B)))→
  J [] W→
  CallsIn F n P g (#[.func (.yield l) #[] #[]]++lb) W fun e W'=>(∃v,e= .returned v)∧((∃xs,S xs W'∧J xs W')∨(∃xs,Sx xs W'∧Jx xs W'))
variable {F:Fence} {n:Nat} {P:Program}
end Go.Proofs.YtfmciiffcmfagaaGreat
namespace Go.Proofs.YtfmciiffcmfagaaGreat
open Go
def noDefer (l:List Oper):Bool:=l.all fun o=>match o.op with| .defer _=>false|_=>true
theorem noDefer_spec {ops:Array Oper} (h:noDefer ops.toList=true) {i:Nat} {o:Oper} (hi:ops[i]?=some o):∀c,o.op≠ .defer c:=by
 intro c hc
 have h1:=List.all_eq_true.1 h o (by rw [←Array.getElem?_toList] at hi;exact List.mem_of_getElem? hi)
 rw [hc] at h1
 simp at h1
theorem Oper.wpIn_of_wp {P:Program} {o:Oper} {a:Act} {w:World} {K K':Act→World→Prop} {Q:Exit→Act→World→Prop} {l n:Nat} (hnd:∀c,o.op≠ .defer c) (hK:∀a w,K a w→K' a w)
  (h:o.wp P a w K Q):o.wpIn (Fence.wide.inRound l) n P a w K' Q:=by
 unfold Oper.wp at h
 unfold Oper.wpIn
 refine⟨fun _ _=>trivial,?_⟩
 rw [Oper.semAt_eq _ _ _ hnd]
 generalize (execOp a.eval o).run P w=r at*
 cases r with
 |ok x w'=>
  cases x<;>simp only [Oper.upon] at h<;>simp only [Oper.uponIn]
  case value v=>exact hK _ _ h
  case skip=>exact hK _ _ h
  case defer d=>exact hK _ _ h
  case enter f args=>
   refine⟨fun e=>by simp [Fence.wide] at e,CallsIn.inRound l (callsIn_wide.2 (h.mono ?_))⟩
   intro e w'' he
   cases e with
   |returned v=>exact hK _ _ he
   |panicked c=>exact he
   |outgrown=>exact he
  case row row args=>
   refine⟨fun e=>by simp [Fence.wide] at e,?_⟩
   have hr:RowsIn Fence.wide (n - 1) P row args w' (fun v w''=>K' (a.put o.dst v) w''):=fun c cs _=>let ⟨v,w'',r,s⟩:=h c cs;⟨v,w'',hK _ _ r,stepsIn_wide.2 s⟩
   exact hr
 |halt x w'=>
  cases x<;>simp only [Oper.upon] at h<;>simp only [Oper.uponIn]
  exact h
section
variable {P:Program} {ops:Array Oper} {md:Region.Mode} {Q:Exit→Act→World→Prop} {r n:Nat}
theorem wpOpIn_of_wpOp (hnd:noDefer ops.toList=true) (hQ:¬LetsOut Q) {i:Nat} {K K':Act→World→Prop} {a:Act} {w:World} (hK:∀a w,K a w→K' a w) (h:wpOp P ops Q i K a w):
  wpOpIn (Fence.wide.inRound r) n P ops Q i K' a w:=by
 unfold wpOp at h
 unfold wpOpIn
 cases ho:ops[i]? with
 |none=>simp only [ho] at h ⊢;exact hK _ _ h
 |some o=>
  simp only [ho] at h ⊢
  by_cases hw:Region.wanted o (yielded ops a.tmps)=true
  ·simp only [hw,if_true] at h ⊢
   rcases h with h|h
   ·exact Oper.wpIn_of_wp (noDefer_spec hnd ho) hK h
   ·exact absurd h.2 hQ
  ·simp only [hw] at h ⊢
   exact⟨fun _ _=>trivial,hK _ _ h⟩
theorem wpAnyIn_of_wpAny (hnd:noDefer ops.toList=true) (hQ:¬LetsOut Q):∀(fuel:Nat) (listed:Array Bool) (a:Act) (w:World),wpAny P md ops Q fuel listed a w→wpAnyIn (Fence.wide.inRound r) n P md ops Q fuel listed a w
 |0,_,_,_,h=>h
 |fuel+1,_,_,_,h=>⟨h.1,fun i hi=>wpOpIn_of_wpOp hnd hQ (fun a' w' h'=>wpAnyIn_of_wpAny hnd hQ fuel _ a' w' h') (h.2 i hi)⟩
end
theorem wpStill_of_quiet {P:Program} {ops:Array Oper} {W:World} {Q:Act→Prop} :∀(l:List Oper) (a:Act),wpQuiet P ops (fun w'=>w'=W) Q l a→wpStill P ops W Q l a
 |[],_,h=>h
 |o::l,a,h=>by
  unfold wpQuiet at h
  unfold wpStill
  by_cases hw:Region.wanted o (yielded ops a.tmps)=true
  ·simp only [hw,if_true] at h ⊢
   obtain⟨v,h1,h2⟩:=h
   have h3:=h1 W rfl
   have h4:=wpStill_of_quiet l _ h2
   unfold Oper.quietAt at h3
   unfold Oper.still
   generalize (execOp a.eval o).run P W=r at*
   cases r with
   |ok x w'=>
    cases x<;>simp only [Oper.quietUpon] at h3<;>simp only [Oper.stillUpon]
    case value u=>
     obtain⟨rfl,rfl⟩:=h3
     exact⟨rfl,h4⟩
    case skip=>
     obtain⟨rfl,rfl⟩:=h3
     exact⟨rfl,h4⟩
    case enter f args=>
     obtain⟨rfl,hc⟩:=h3
     exact⟨rfl,v,hc,h4⟩
   |halt x w'=>simp only [Oper.quietUpon] at h3
  ·simp only [hw] at h ⊢
   exact wpStill_of_quiet l _ h
theorem wpRound_tail {P:Program} {id r q:Nat} {Q:Exit→Act→World→Prop} {a:Act} {w:World} {l:List Oper} (n:Nat) (hnd:noDefer l=true) (hQ:¬LetsOut Q) (hm:P.follows .mixedOrders=true) (hB:Region.lexTailB .any l.toArray n=true)
  (h0:wpQuiet P l.toArray (fun w'=>w'=w.drew) (fun a'=>wpList P l.toArray Q (l.drop n) a' w.drew) (l.take n) a):(Code.region id l.toArray true).wpIn (Fence.wide.inRound r) q P Q a w:=by
 simp only [Region.lexTailB,Bool.and_eq_true,decide_eq_true_eq] at hB
 obtain⟨⟨⟨⟨hsel,hn⟩,hs⟩,hc⟩,hlex⟩:=hB
 have h:=wpStill_of_quiet _ _ h0
 have hn':n < l.length:=by simpa using hn
 have htl:(l.take n).length=n:=by simp;omega
 have hdl:(l.drop n).length=l.toArray.size - n:=by simp
 have inv:HeadInv .any l.toArray n (Array.replicate l.toArray.size false):=
  ⟨by simp,fun j oj _ hl=>(by rw [getD_replicate_false] at hl;cases hl),fun t _ ht=>getD_in (by simpa using ht) (getD_replicate_false _ _)⟩
 have H:=wpAnyL_lex (md:= .any) (g:=l.toArray.size - n) hsel hs hc hn (l.take n) 0 _ a (fun j hj=>by
  have hj':j < n:=by rw [htl] at hj;exact hj
  simp [hj']) (by simpa using htl) inv (by rw [htl];exact hlex) h
 refine wpIn_region_any hm (wpAnyIn_of_wpAny (by simpa using hnd) hQ _ _ _ _ ?_)
 have G:=wpAny_of_head (Q':=Q) (g:=l.toArray.size - n) (fun listed a' hL=>by
  have:=wpAny_of_seq (md:= .any) (Q':=Q) (l.drop n) n listed a' w.drew (fun j=>by simp [List.getElem?_drop]) (by rw [hdl];exact hL.1) hL.2
  rwa [hdl] at this) _ _ _ H
 rw [htl,show n+(l.toArray.size - n)=l.toArray.size by omega] at G
 exact G
end Go.Proofs.YtfmciiffcmfagaaGreat
namespace Go.Proofs.YtfmciiffcmfagaaGreat
open Go.RowKit
theorem cell1 {w:World} {b:Nat} {x:Value} {t:TypeId} (h:w.heap[b]?=some (.cells #[x] t (0,0))):w.cell? ⟨b,0,none⟩=some x:=by simp [World.cell?,h]
theorem Turned.mild {X Y:List Nat} {N:Nat} {w A B:World} (h:Turned Y w A) (m:Mild X N A B) (hN:w.heap.size≤N) (hX:∀k ∈ X,w.heap.size≤k):Turned Y w B:=
 ⟨m.os.trans h.os,m.tape.trans h.tape,m.output.trans h.output,Nat.le_trans h.size m.size,fun k hk hy=>by
   have h1:=h.block k hk hy
   have h2:A.heap[k]?=some (A.heap[k]'(by have:=h.size;omega)):=Array.getElem?_eq_getElem _
   rw [m.same k _ h2 (fun hx=>by have:=hX k hx;omega) (.inl (by omega)), ←h2,h1]⟩
theorem Mild.cells {X:List Nat} {N k:Nat} {A B:World} {cs:Array Value} {t:TypeId} {f:Nat×Nat} (m:Mild X N A B) (h:A.heap[k]?=some (.cells cs t f)) (hx:k ∉ X):B.heap[k]?=some (.cells cs t f):=m.same k _ h hx (.inr rfl)
theorem Turned.trans' {X Y:List Nat} {a b c:World} (h:Turned X a b) (g:Turned Y b c) (hs:∀k ∈ Y,a.heap.size≤k):Turned X a c:=h.trans g (fun k hk=> .inr (hs k hk))
theorem Turned.put {X:List Nat} {a b:World} (h:Turned X a b) {l:Nat} (hl:a.heap.size≤l) (o:Obj):Turned X a (b.putObj l o):=
 h.grown (grownBy_putObj' b l o) (fun k e=> .inr (by cases e;exact hl))
theorem LAt.mild {α:Type} {tS tE:TypeId} {k:Nat} {enc:α→List Value} {cs:Value→Array Value} {A B:World} {b:Nat} {Z X:List Nat} {N:Nat} {L:List α} (h:LAt tS tE k enc cs A b Z L) (m:Mild X N A B) (hd:∀k ∈ Z,k ∉ X):LAt tS tE k enc cs B b Z L:=by
 obtain⟨v,h1,h2,rfl⟩:=h
 refine⟨v,m.cells h1 (hd _ (by simp)),ownsRow_same h2 (fun k hk _=>?_),rfl⟩
 obtain⟨cur,hc⟩:=ownsRow_type h2 k hk
 rw [m.cells hc (hd k (List.mem_cons_of_mem _ hk)),hc]
theorem LAt.isCells {α:Type} {tS tE:TypeId} {k:Nat} {enc:α→List Value} {cs:Value→Array Value} {A:World} {b:Nat} {Z:List Nat} {L:List α} (h:LAt tS tE k enc cs A b Z L):∀k ∈ Z,∃c t,A.heap[k]?=some (.cells c t (0,0)):=by
 obtain⟨v,h1,h2,rfl⟩:=h
 intro k hk
 rcases List.mem_cons.1 hk with rfl|hk
 ·exact⟨_,_,h1⟩
 ·obtain⟨cur,hc⟩:=ownsRow_type h2 k hk
  exact⟨cur,_,hc⟩
theorem LAt.kinds {α:Type} {tS tE:TypeId} {k:Nat} {enc:α→List Value} {cs:Value→Array Value} {A:World} {b:Nat} {Z:List Nat} {L:List α} (h:LAt tS tE k enc cs A b Z L):∀k ∈ Z,(∃c,A.heap[k]?=some (.cells c tS (0,0)))∨(∃c,A.heap[k]?=some (.cells c tE (0,0))):=by
 obtain⟨v,h1,h2,rfl⟩:=h
 intro k hk
 rcases List.mem_cons.1 hk with rfl|hk
 ·exact .inl ⟨_,h1⟩
 ·obtain⟨cur,hc⟩:=ownsRow_type h2 k hk
  exact .inr ⟨cur,hc⟩
end Go.Proofs.YtfmciiffcmfagaaGreat
namespace Go.Proofs.YtfmciiffcmfagaaGreat
open Go.RowKit
def waitsFor (md:Region.Mode) (ops:Array Oper) (e i:Nat):Bool:=
 match ops[e]? with
 |some o=>o.after.any fun d=>Region.binds md d&&d.on == i
 |none=>false
def wpAnyE (P:Program) (md:Region.Mode) (ops:Array Oper) (Q:Exit→Act→World→Prop) (S:World→Prop) (e:Nat):Nat→Array Bool→Act→World→Prop
 |0,done,a,w=>Region.ready md ops done=[]∧Q .normal a w
 |fuel+1,done,a,w=>(Region.ready md ops done=[]→Q .normal a w)∧
  ∀i ∈ Region.ready md ops done,wpOp P ops Q i (fun a' w'=>(i=e∨S w')∧wpAnyE P md ops Q S e fuel (done.setIfInBounds i true) a' w') a w
section
variable {P:Program} {md:Region.Mode} {ops:Array Oper} {Q:Exit→Act→World→Prop} {S:World→Prop} {e:Nat}
def ReadyE (P:Program) (md:Region.Mode) (ops:Array Oper) (Q:Exit→Act→World→Prop) (S:World→Prop) (e fuel:Nat) (done:Array Bool) (a:Act) (w:World) (rs:List Nat):Prop:=
 ∀i ∈ rs,wpOp P ops Q i (fun a' w'=>(i=e∨S w')∧wpAnyE P md ops Q S e fuel (done.setIfInBounds i true) a' w') a w
theorem ReadyE.nil {fuel:Nat} {done:Array Bool} {a:Act} {w:World} :ReadyE P md ops Q S e fuel done a w []:=fun _ h=>by cases h
theorem ReadyE.cons {fuel:Nat} {done:Array Bool} {a:Act} {w:World} {i:Nat} {o:Oper} {rs:List Nat} (ho:ops[i]?=some o)
  (h:∀K':Act→World→Prop,Shut (∀a w,(i=e∨S w)→wpAnyE P md ops Q S e fuel (done.setIfInBounds i true) a w→K' a w)→if Region.wanted o (yielded ops a.tmps)=true then Oper.wp P o a w K' Q else K' (a.put o.dst undef) w)
  (hs:ReadyE P md ops Q S e fuel done a w rs):ReadyE P md ops Q S e fuel done a w (i::rs):=fun j hj=>by
 rcases List.mem_cons.1 hj with rfl|hj
 ·exact wpOp_step ho fun K' hK=>h K' fun a w h1 h2=>hK a w ⟨h1,h2⟩
 ·exact hs j hj
end
end Go.Proofs.YtfmciiffcmfagaaGreat
namespace Go.Proofs.YtfmciiffcmfagaaGreat
open Go.RowKit
def wpAnyF (P:Program) (md:Region.Mode) (ops:Array Oper) (Q:Exit→Act→World→Prop) (S:World→Prop) (e:Nat):Nat→Array Bool→Act→World→Prop
 |0,done,a,w=>Region.ready md ops done=[]∧Q .normal a w
 |fuel+1,done,a,w=>(Region.ready md ops done=[]→Q .normal a w)∧
  ∀i ∈ Region.ready md ops done,wpOp P ops Q i (fun a' w'=>((done.setIfInBounds i true).getD e true=true∨S w')∧wpAnyF P md ops Q S e fuel (done.setIfInBounds i true) a' w') a w
section
variable {P:Program} {md:Region.Mode} {ops:Array Oper} {Q:Exit→Act→World→Prop} {S:World→Prop} {e:Nat}
theorem wpAny_of_F:∀(fuel:Nat) (done:Array Bool) (a:Act) (w:World),wpAnyF P md ops Q S e fuel done a w→wpAny P md ops Q fuel done a w
 |0,_,_,_,h=>h
 |fuel+1,_,_,_,h=>⟨h.1,fun i hi=>wpOp_mono (fun a' w' h'=>wpAny_of_F fuel _ a' w' h'.2) (h.2 i hi)⟩
theorem done_set (done:Array Bool) (e:Nat):(done.setIfInBounds e true).getD e true=true:=by
 simp only [Array.getD_eq_getD_getElem?,Array.getElem?_setIfInBounds]
 split
 ·split<;>rfl
 ·next h=>exact absurd trivial h
theorem done_later {done:Array Bool} {e j:Nat} (h:done.getD e true=true):(done.setIfInBounds j true).getD e true=true:=by
 by_cases hj:j=e
 ·subst hj;exact done_set _ _
 ·rw [getD_set_ne true hj];exact h
theorem wpAnyF_take {i:Nat} {oi:Oper} {v:Value} {a:Act} {w:World} (hi:ops[i]?=some oi) (hs:Region.noSelect ops=true) (he:waitsFor md ops e i=true)
  (hQ:∀c a w,Q (.panic c) (a.put oi.dst v) w→Q (.panic c) a w):
  ∀ {fuel:Nat} {done:Array Bool},Region.free md ops done i=true→(Region.ready md ops done).contains i=true→done.getD e true=false→YieldsIf P ops S oi v a→S w→
   wpAnyF P md ops Q S e fuel (done.setIfInBounds i true) (a.put oi.dst v) w→wpAnyF P md ops Q S e (fuel+1) done a w:=by
 have hsel:=Region.noSelect_spec hs
 intro fuel done hf hr hd0
 have hfree:=Region.free_spec hi hf
 have hr':i ∈ Region.ready md ops done:=by simpa using hr
 clear hf hr
 suffices H:∀(fuel:Nat) (done:Array Bool) (a:Act) (w:World),(∀j oj,ops[j]?=some oj→j≠i→done.getD j true=false→(∀d ∈ oj.after,Region.binds md d=true→d.on≠i)→oi.apart ops oj=true)→
  i ∈ Region.ready md ops done→done.getD e true=false→YieldsIf P ops S oi v a→S w→wpAnyF P md ops Q S e fuel (done.setIfInBounds i true) (a.put oi.dst v) w→wpAnyF P md ops Q S e (fuel+1) done a w from H fuel done a w hfree hr' hd0
 intro fuel
 induction fuel with
 |zero=>
  intro done a w _ hr _ hy hS h
  refine⟨fun h0=>by simp [h0] at hr,fun j hj=>?_⟩
  by_cases hji:j=i
  ·subst hji
   exact hy.wpOp hi hS ⟨.inr hS,h⟩
  ·have:=ready_mono hj hji
   simp [h.1] at this
 |succ fuel ih=>
  intro done a w hfr hr hde hy hS h
  refine⟨fun h0=>by simp [h0] at hr,fun j hj=>?_⟩
  by_cases hji:j=i
  ·subst hji
   exact hy.wpOp hi hS ⟨.inr hS,h⟩
  obtain⟨hjd,oj,hoj,hall⟩:=mem_ready.1 hj
  have hno:∀d ∈ oj.after,Region.binds md d=true→d.on≠i:=by
   rintro d hd hb rfl
   have h1:=hall d hd hb
   have h0:=(mem_ready.1 hr).1
   simp only [Array.getD_eq_getD_getElem?] at h0 h1
   cases hq:done[d.on]? with
   |none=>simp [hq] at h0 h1
   |some q=>simp [hq] at h0 h1;rw [h0] at h1;cases h1
  have hje:j≠e:=by
   rintro rfl
   unfold waitsFor at he
   rw [hoj] at he
   obtain⟨k,hk,hd⟩:=Array.any_eq_true.1 he
   simp only [Bool.and_eq_true,beq_iff_eq] at hd
   exact hno _ (Array.getElem_mem hk) hd.1 hd.2
  have hie:i≠e:=by
   rintro rfl
   unfold waitsFor at he
   rw [hi] at he
   obtain⟨k,hk,hd⟩:=Array.any_eq_true.1 he
   simp only [Bool.and_eq_true,beq_iff_eq] at hd
   obtain⟨_,oi',hoi',hall'⟩:=mem_ready.1 hr
   rw [hi] at hoi'
   cases hoi'
   have h1:=hall' _ (Array.getElem_mem hk) hd.1
   have h0:=(mem_ready.1 hr).1
   rw [hd.2] at h1
   simp only [Array.getD_eq_getD_getElem?] at h0 h1
   cases hq:done[i]? with
   |none=>simp [hq] at h0 h1
   |some q=>simp [hq] at h0 h1;rw [h0] at h1;cases h1
  have hstep:=wpOp_putIf hoj (hfr j oj hoj hji hjd hno) (fun cs b=>hsel i oi cs b hi) (fun cs b=>hsel j oj cs b hoj) hQ hy (h.2 j (ready_mono hj hji))
  have hdj:(done.setIfInBounds j true).getD e true=false:=by rw [getD_set_ne true hje];exact hde
  have hdij:((done.setIfInBounds i true).setIfInBounds j true).getD e true=false:=by rw [getD_set_ne true hje,getD_set_ne true hie];exact hde
  refine wpOp_mono (fun a' w' hk=>?_) hstep
  obtain⟨hy',hS',hrest⟩:=hk
  have hS2:S w':=by
   rcases hS' with h1|h1
   ·rw [hdij] at h1;cases h1
   ·exact h1
  refine⟨.inr hS2,ih _ a' w' (fun k ok hk hki hun hn=>hfr k ok hk hki ?_ hn) (ready_mono hr (Ne.symm hji)) hdj hy' hS2 ?_⟩
  ·by_cases hjk:j=k
   ·subst hjk;exact hjd
   ·rwa [getD_set_ne true hjk] at hun
  ·rwa [Array.setIfInBounds_comm _ _ hji]
theorem wpAnyF_free {i:Nat} {oi:Oper} {v:Value} {a:Act} {w:World} (hi:ops[i]?=some oi) (hs:Region.noSelect ops=true) (hie:i≠e)
  (hQ:∀c a w,Q (.panic c) (a.put oi.dst v) w→Q (.panic c) a w):
  ∀ {fuel:Nat} {done:Array Bool},Region.free md ops done i=true→(Region.ready md ops done).contains i=true→YieldsIf P ops (fun _=>True) oi v a→S w→
   wpAnyF P md ops Q S e fuel (done.setIfInBounds i true) (a.put oi.dst v) w→wpAnyF P md ops Q S e (fuel+1) done a w:=by
 have hsel:=Region.noSelect_spec hs
 intro fuel done hf hr hy0 hS0
 have hfree:=Region.free_spec hi hf
 have hr':i ∈ Region.ready md ops done:=by simpa using hr
 clear hf hr
 suffices H:∀(fuel:Nat) (done:Array Bool) (a:Act) (w:World),(∀j oj,ops[j]?=some oj→j≠i→done.getD j true=false→(∀d ∈ oj.after,Region.binds md d=true→d.on≠i)→oi.apart ops oj=true)→
  i ∈ Region.ready md ops done→YieldsIf P ops (fun _=>True) oi v a→(done.getD e true=true∨S w)→wpAnyF P md ops Q S e fuel (done.setIfInBounds i true) (a.put oi.dst v) w→wpAnyF P md ops Q S e (fuel+1) done a w from H fuel done a w hfree hr' hy0 (.inr hS0)
 intro fuel
 induction fuel with
 |zero=>
  intro done a w _ hr hy hS h
  refine⟨fun h0=>by simp [h0] at hr,fun j hj=>?_⟩
  by_cases hji:j=i
  ·subst hji
   exact hy.wpOp hi trivial ⟨hS.imp done_later id,h⟩
  ·have:=ready_mono hj hji
   simp [h.1] at this
 |succ fuel ih=>
  intro done a w hfr hr hy hS h
  refine⟨fun h0=>by simp [h0] at hr,fun j hj=>?_⟩
  by_cases hji:j=i
  ·subst hji
   exact hy.wpOp hi trivial ⟨hS.imp done_later id,h⟩
  obtain⟨hjd,oj,hoj,hall⟩:=mem_ready.1 hj
  have hno:∀d ∈ oj.after,Region.binds md d=true→d.on≠i:=by
   rintro d hd hb rfl
   have h1:=hall d hd hb
   have h0:=(mem_ready.1 hr).1
   simp only [Array.getD_eq_getD_getElem?] at h0 h1
   cases hq:done[d.on]? with
   |none=>simp [hq] at h0 h1
   |some q=>simp [hq] at h0 h1;rw [h0] at h1;cases h1
  have hstep:=wpOp_putIf hoj (hfr j oj hoj hji hjd hno) (fun cs b=>hsel i oi cs b hi) (fun cs b=>hsel j oj cs b hoj) hQ hy (h.2 j (ready_mono hj hji))
  refine wpOp_mono (fun a' w' hk=>?_) hstep
  obtain⟨hy',hS',hrest⟩:=hk
  have hS2:(done.setIfInBounds j true).getD e true=true∨S w':=by
   rcases hS' with h1|h1
   ·rw [Array.setIfInBounds_comm _ _ (Ne.symm hji),getD_set_ne true hie] at h1
    exact .inl h1
   ·exact .inr h1
  refine⟨hS2,ih _ a' w' (fun k ok hk hki hun hn=>hfr k ok hk hki ?_ hn) (ready_mono hr (Ne.symm hji)) hy' hS2 ?_⟩
  ·by_cases hjk:j=k
   ·subst hjk;exact hjd
   ·rwa [getD_set_ne true hjk] at hun
  ·rwa [Array.setIfInBounds_comm _ _ hji]
def ReadyF (P:Program) (md:Region.Mode) (ops:Array Oper) (Q:Exit→Act→World→Prop) (S:World→Prop) (e fuel:Nat) (done:Array Bool) (a:Act) (w:World) (rs:List Nat):Prop:=
 ∀i ∈ rs,wpOp P ops Q i (fun a' w'=>((done.setIfInBounds i true).getD e true=true∨S w')∧wpAnyF P md ops Q S e fuel (done.setIfInBounds i true) a' w') a w
theorem ReadyF.nil {fuel:Nat} {done:Array Bool} {a:Act} {w:World} :ReadyF P md ops Q S e fuel done a w []:=fun _ h=>by cases h
theorem ReadyF.cons {fuel:Nat} {done:Array Bool} {a:Act} {w:World} {i:Nat} {o:Oper} {rs:List Nat} (ho:ops[i]?=some o)
  (h:∀K':Act→World→Prop,Shut (∀a w,((done.setIfInBounds i true).getD e true=true∨S w)→wpAnyF P md ops Q S e fuel (done.setIfInBounds i true) a w→K' a w)→if Region.wanted o (yielded ops a.tmps)=true then Oper.wp P o a w K' Q else K' (a.put o.dst undef) w)
  (hs:ReadyF P md ops Q S e fuel done a w rs):ReadyF P md ops Q S e fuel done a w (i::rs):=fun j hj=>by
 rcases List.mem_cons.1 hj with rfl|hj
 ·exact wpOp_step ho fun K' hK=>h K' fun a w h1 h2=>hK a w ⟨h1,h2⟩
 ·exact hs j hj
theorem wpAnyF_ready {rs:List Nat} {fuel:Nat} {done:Array Bool} {a:Act} {w:World} (hr:Region.ready md ops done=rs) (hne:rs≠[]) (h:ReadyF P md ops Q S e fuel done a w rs):wpAnyF P md ops Q S e (fuel+1) done a w:=
 ⟨fun h0=>absurd (hr ▸ h0) hne,hr ▸ h⟩
theorem wpAnyF_done {done:Array Bool} {a:Act} {w:World} (hr:Region.ready md ops done=[]) (h:Q .normal a w):∀fuel,wpAnyF P md ops Q S e fuel done a w
 |0=>⟨hr,h⟩
 |_+1=>⟨fun _=>h,by rw [hr];simp⟩
end
theorem wp_region_lastF {P:Program} {id:Nat} {Q:Exit→Act→World→Prop} {a:Act} {w:World} {ops:Array Oper} (S:World→Prop) (e:Nat) (hm:P.follows .mixedOrders=true) (hS:S w.drew)
  (h:S w.drew→wpAnyF P .any ops Q S e ops.size (Array.replicate ops.size false) a w.drew):(Code.region id ops true).wp P Q a w:=
 wp_region_any hm (wpAny_of_F _ _ _ _ (h hS))
end Go.Proofs.YtfmciiffcmfagaaGreat
