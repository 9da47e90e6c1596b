/-
  The tree itself: New, Len, add, remove.
  The tree itself: remove, Insert, Find, Delete.
  Delete; nobody's tree.
-/
import Derived.Test.YtfmciiffcmfagaaGreatZAQ
import Derived.Deep.RegionWith
import Derived.Test.YtfmciiffcmfagaaGreatZAl
set_option maxRecDepth 100000
set_option maxHeartbeats 25600000
namespace Go.Proofs.YtfmciiffcmfagaaGreat
open Go.RowKit
abbrev tTr:TypeId:=116
def TAt (w:World) (b:Nat) (m:Int) (t:Tr Nat):Prop:=∃p,w.heap[b]?=some (.cells #[.int .i64 m, .int .i64 (t.list.length:Int),p] tTr (0,0))∧TrAt w t p∧t.Good
theorem TAt.keep {w w':World} {b:Nat} {m:Int} {t:Tr Nat} {X:List Nat} (h:TAt w b m t) (ht:Turned X w w') (hb:b ∉ X) (hk:KeepsN w w'):TAt w' b m t:=by
 obtain⟨p,h1,h2,h3⟩:=h
 exact⟨p,ht.same h1 hb,h2.keep hk,h3⟩
theorem TAt.later {w w':World} {b:Nat} {m:Int} {t:Tr Nat} (h:TAt w b m t) (ht:Turned [] w w'):TAt w' b m t:=h.keep ht (by simp) ht.keepsN
theorem TAt.lt {w:World} {b:Nat} {m:Int} {t:Tr Nat} (h:TAt w b m t):b < w.heap.size:=by
 obtain⟨p,h1,_⟩:=h
 exact lt_of_block h1
theorem tr_cells {w:World} {b:Nat} {x y z:Value} (h:w.heap[b]?=some (.cells #[x,y,z] tTr (0,0))):
  w.cell? ⟨b,0,none⟩=some x∧w.cell? ⟨b,1,none⟩=some y∧w.cell? ⟨b,2,none⟩=some z∧∀i,w.frozen? ⟨b,i,none⟩=false:=by
 refine⟨by simp [World.cell?,h],by simp [World.cell?,h],by simp [World.cell?,h],fun i=>frozen_of_row w b i _ _ h⟩
theorem new_any (m:Int) (w:World):Calls Tryz.prog 63 #[.int .i64 m] w fun e w'=>e= .returned (.pointer (some ⟨w.heap.size,0,none⟩))∧TAt w' w.heap.size (min (max m 0) 4096) .nil∧Turned [] w w':=by
 have hfin:∀q:Int,TAt (w.alloc (.cells #[.int .i64 q, .int .i64 0, .pointer none] tTr)) w.heap.size q .nil∧Turned [] w (w.alloc (.cells #[.int .i64 q, .int .i64 0, .pointer none] tTr)):=
  fun q=>⟨⟨.pointer none,heap_alloc_new w _,rfl,Tr.Good.nil⟩,(Turned.refl _ w).alloc _⟩
 have HF:=xhd hfin
 clear hfin
 by_cases h0:m < 0
 ·rw [show min (max m 0) 4096=0 by omega]
  go_enter Tryz.func63,Tryz.ntmps63
  go_wp2
  go_ret
  exact⟨rfl,HF.out 0⟩
 ·by_cases h1:m > 4096
  ·rw [show min (max m 0) 4096=4096 by omega]
   have h1':4096 < m:=by omega
   clear h1
   go_enter Tryz.func63,Tryz.ntmps63
   go_wp2
   go_ret
   exact⟨rfl,HF.out 4096⟩
  ·rw [show min (max m 0) 4096=m by omega]
   have h0':0≤m:=by omega
   have h1':m≤4096:=by omega
   clear h0 h1
   go_enter Tryz.func63,Tryz.ntmps63
   go_wp2
   go_ret
   exact⟨rfl,HF.out m⟩
theorem len_any {w:World} {b:Nat} {m:Int} {t:Tr Nat} (h:TAt w b m t):Calls Tryz.prog 89 #[.pointer (some ⟨b,0,none⟩)] w fun e w'=>e= .returned (.int .i64 (t.list.length:Int))∧w=w':=by
 obtain⟨p,h1,_,_⟩:=h
 obtain⟨_,c1,_,_⟩:=tr_cells h1
 clear h1
 go_enter Tryz.func89,Tryz.ntmps89
 go_wp2
 go_ret
 exact⟨rfl,rfl⟩
theorem TAt.stored {w w1:World} {b:Nat} {m:Int} {z q:Value} {n:Int} {t:Tr Nat} (h1:w.heap[b]?=some (.cells #[.int .i64 m, .int .i64 n,z] tTr (0,0))) (ht:Turned [] w w1) (hq:TrAt w1 t q) (hg:t.Good):
  TAt ((w1.setCell ⟨b,2,none⟩ q).setCell ⟨b,1,none⟩ (.int .i64 (t.list.length:Int))) b m t∧Turned [b] w ((w1.setCell ⟨b,2,none⟩ q).setCell ⟨b,1,none⟩ (.int .i64 (t.list.length:Int))):=by
 have hb:=ht.same h1 (by simp)
 have T:=((Turned.refl [b] w1).setCell (p:=⟨b,2,none⟩) (.inl (by simp)) q).setCell (p:=⟨b,1,none⟩) (.inl (by simp)) (.int .i64 (t.list.length:Int))
 have hk:KeepsN w1 ((w1.setCell ⟨b,2,none⟩ q).setCell ⟨b,1,none⟩ (.int .i64 (t.list.length:Int))):=KeepsN.of_turned T (by
  intro k hk cs e
  simp at hk
  subst hk
  rw [hb] at e
  injection e with e
  injection e with _ e2
  exact absurd e2 (by decide))
 refine⟨⟨q,?_,hq.keep hk,hg⟩,(ht.mono (fun k hk=>by simp at hk)).trans T (Newer.refl _ _)⟩
 rw [heap_setCell_same _ _ _ _ _ _ (heap_setCell_same _ _ _ _ _ _ hb)]
 rfl
theorem tadd_any {w:World} {b:Nat} {m:Int} {t:Tr Nat} (h:TAt w b m t) (it:Itm Nat) (hn:∀x ∈ t.list,ordI (ky it) (ky x)≠0) (hL:t.list.length≤1000000):
  Calls Tryz.prog 83 #[.pointer (some ⟨b,0,none⟩),itV it] w fun e w'=>e= .returned (.tuple #[])∧TAt w' b m (Tr.ins it t).root∧Turned [b] w w':=by
 obtain⟨W,hW⟩:∃W,w.alloc (.cells #[.int .u64 it.1, .int .i64 it.2.1, .pointer (some ⟨it.2.2,0,none⟩)] tIt)=W:=⟨_,rfl⟩
 have TW:Turned [] w W:=hW ▸ (Turned.refl [] w).alloc _
 have BW:Bx W w.heap.size it:=hW ▸ bx_new w it
 obtain⟨p,h1,h2,h3⟩:=h
 obtain⟨g1,g2⟩:=h3.ins it hn
 have hlen:((Tr.ins it t).root.list.length:Int)=(t.list.length:Int)+1:=by
  rw [g2]
  have:∀L:List (Itm Nat),(Tr.insL it L).length=L.length+1:=by
   intro L
   induction L with
   |nil=>rfl
   |cons y L ih=>simp only [Tr.insL];split<;>simp [ih]
  rw [this];omega
 have NW:=TW.same h1 (by simp)
 have HI:=xhd (fun W' (ht:Turned [] W W')=>with_any it t W' p ((h2.later TW).later ht))
 have HG:=xhd g1
 have H1:=xhd h1
 have HT:=xhd TW
 have HS:Hid (∀w',Turned [] W w'→w'.cell? ⟨b,0,none⟩=some (.int .i64 m)∧w'.cell? ⟨b,1,none⟩=some (.int .i64 (t.list.length:Int))∧w'.cell? ⟨b,2,none⟩=some p∧w'.frozen? ⟨b,1,none⟩=false∧w'.frozen? ⟨b,2,none⟩=false∧
   w'.cell? ⟨w.heap.size,0,none⟩=some (.int .u64 it.1)∧w'.cell? ⟨w.heap.size,1,none⟩=some (.int .i64 it.2.1)∧w'.cell? ⟨w.heap.size,2,none⟩=some (.pointer (some ⟨it.2.2,0,none⟩))):=by
  intro w' ht
  obtain⟨a0,a1,a2,a3⟩:=tr_cells (ht.same NW (by simp))
  obtain⟨b0,b1,b2⟩:=bx_cells (ht.same BW (by simp))
  exact⟨a0,a1,a2,a3 1,a3 2,b0,b1,b2⟩
 obtain⟨ap,rfl⟩:=h2.shape
 obtain⟨n,hnn⟩:∃n,t.list.length=n:=⟨_,rfl⟩
 have HN:=xhd hnn
 rw [hnn] at hlen hL HS
 have HLEN:=xhd hlen
 obtain⟨r,hr⟩:∃r,Tr.ins it t=r:=⟨_,rfl⟩
 rw [hr] at HI HG HLEN ⊢
 obtain⟨i1,i2,i3⟩:=it
 simp only [itV] at hW HS HI ⊢
 have hw1:IntKind.i64.wrap ((n:Int)+1)=(n:Int)+1:=by rw [IntKind.wrap_i64];omega
 clear TW BW NW h1 h2 h3 g1 g2 hlen hnn hr hn
 obtain⟨e0,e1,e2,e3,e4,e5,e6,e7⟩:=HS.out _ (Turned.refl [] W).drew
 obtain⟨d0,d1,d2,d3,d4,d5,d6,d7⟩:=HS.out _ (Turned.refl [] W)
 have et:=xhd (Turned.refl [] W).drew
 go_enter Tryz.func83,Tryz.ntmps83
 go_wp2_with fail
 go_region_with (first
  |(go_at_call 98
    with_reducible refine (HI.out _ et.out).mono ?_
    rintro e V ⟨q,rfl,hq,t2⟩
    have HA:=xhd (asRoot_any hq)
    have T2:=xhd (et.out.join t2)
    obtain⟨f0,f1,f2,f3,f4,f5,f6,f7⟩:=HS.out _ T2.out
    obtain⟨aq,rfl⟩:=hq.shape
    clear hq t2)
  |(go_at_call 96
    with_reducible refine HA.out.mono ?_
    rintro e V2 ⟨q2,rfl,hq,t3⟩
    have T3:=xhd (T2.out.join t3)
    have HQ:=xhd hq
    obtain⟨f0,f1,f2,f3,f4,f5,f6,f7⟩:=HS.out _ T3.out
    obtain⟨aq2,rfl⟩:=hq.shape
    clear hq t3))
 all_goals
  go_wp2
  first|go_end0|(simp only [Exit.inBlock,Exit.then];refine bodyPost_ret (results_none rfl _ _ _) rfl ?_) |refine bodyPost_ret (results_none rfl _ _ _) rfl ?_
  have R:=TAt.stored H1.out (HT.out.join T3.out) HQ.out HG.out
  rw [HLEN.out] at R
  exact⟨rfl,R⟩
def toV:Option (Itm Nat)→Value
 |none=> .pointer none
 |some x=> .pointer (some ⟨x.2.2,0,none⟩)
theorem Tr.delL_len {β:Type} {k:Int×Int} {t:Tr β} (hs:Tr.Srt t.list) (hk:Tr.has k t):(Tr.delL k t.list).length+1=t.list.length:=by
 obtain⟨x,hx,rfl⟩:=hk
 obtain⟨A,B,e⟩:=List.append_of_mem hx
 rw [e] at hs ⊢
 obtain⟨h1,h2,h3⟩:=List.pairwise_append.1 (show List.Pairwise _ (A++x::B) from hs)
 obtain⟨h4,h5⟩:=List.pairwise_cons.1 h2
 have e1:Tr.delL (ky x) A=A:=Tr.delL_none fun y hy=>by
  have a1:=h3 y hy x (by simp)
  have a2:=ord_flip (ky x) (ky y)
  omega
 have e2:Tr.delL (ky x) B=B:=Tr.delL_none fun y hy=>by
  have a1:=h4 y hy
  omega
 have e3:Tr.delL (ky x) (A++x::B)=Tr.delL (ky x) A++Tr.delL (ky x) B:=by
  have h0:=(ord_zero (a:=ky x) (b:=ky x)).2 rfl
  unfold Tr.delL
  rw [List.filter_append,List.filter_cons,if_neg (by simp [h0])]
 rw [e3,e1,e2]
 simp
 omega
theorem remove_any {w:World} {b:Nat} {m:Int} {t:Tr Nat} (h:TAt w b m t) (k1 k2:Int) (hn:Tr.has (k1,k2) t) (hL:t.list.length≤1000000):
  Calls Tryz.prog 81 #[.pointer (some ⟨b,0,none⟩), .agg #[.int .u64 k1, .int .i64 k2]] w fun e w'=>e= .returned (.tuple #[])∧TAt w' b m (Tr.del (k1,k2) t).root∧Turned [b] w w':=by
 obtain⟨W,hW⟩:∃W,w.alloc (.cells #[.int .u64 k1, .int .i64 k2] 84)=W:=⟨_,rfl⟩
 have TW:Turned [] w W:=hW ▸ (Turned.refl [] w).alloc _
 have BW:W.heap[w.heap.size]?=some (.cells #[.int .u64 k1, .int .i64 k2] 84 (0,0)):=hW ▸ heap_alloc_new w _
 obtain⟨p,h1,h2,h3⟩:=h
 obtain⟨g1,g2⟩:=h3.del (k1,k2) hn
 have hlen:((Tr.del (k1,k2) t).root.list.length:Int)=(t.list.length:Int) - 1:=by
  rw [g2]
  have:=Tr.delL_len h3.so hn
  omega
 have NW:=TW.same h1 (by simp)
 have HI:=xhd (fun W' (ht:Turned [] W W')=>without_any k1 k2 t h3.hh h3.cc h3.so hn W' p ((h2.later TW).later ht))
 have HG:=xhd g1
 have H1:=xhd h1
 have HT:=xhd TW
 have HS:Hid (∀w',Turned [] W w'→w'.cell? ⟨b,0,none⟩=some (.int .i64 m)∧w'.cell? ⟨b,1,none⟩=some (.int .i64 (t.list.length:Int))∧w'.cell? ⟨b,2,none⟩=some p∧w'.frozen? ⟨b,1,none⟩=false∧w'.frozen? ⟨b,2,none⟩=false∧
   w'.cell? ⟨w.heap.size,0,none⟩=some (.int .u64 k1)∧w'.cell? ⟨w.heap.size,1,none⟩=some (.int .i64 k2)):=by
  intro w' ht
  obtain⟨a0,a1,a2,a3⟩:=tr_cells (ht.same NW (by simp))
  have kb:=ht.same BW (by simp)
  exact⟨a0,a1,a2,a3 1,a3 2,by simp [World.cell?,kb],by simp [World.cell?,kb]⟩
 obtain⟨ap,rfl⟩:=h2.shape
 obtain⟨n,hnn⟩:∃n,t.list.length=n:=⟨_,rfl⟩
 have HN:=xhd hnn
 rw [hnn] at hlen hL HS
 have HLEN:=xhd hlen
 obtain⟨r,hr⟩:∃r,Tr.del (k1,k2) t=r:=⟨_,rfl⟩
 rw [hr] at HI HG HLEN ⊢
 have hw1:IntKind.i64.wrap ((n:Int) - 1)=(n:Int) - 1:=by rw [IntKind.wrap_i64];omega
 clear TW BW NW h1 h2 h3 g1 g2 hlen hnn hr hn
 obtain⟨e0,e1,e2,e3,e4,e5,e6⟩:=HS.out _ (Turned.refl [] W).drew
 obtain⟨d0,d1,d2,d3,d4,d5,d6⟩:=HS.out _ (Turned.refl [] W)
 have et:=xhd (Turned.refl [] W).drew
 go_enter Tryz.func81,Tryz.ntmps81
 go_wp2_with fail
 go_region_with (first
  |(go_at_call 95
    with_reducible refine (HI.out _ et.out).mono ?_
    rintro e V ⟨q,rfl,hq,t2⟩
    have HA:=xhd (asRoot_any hq)
    have T2:=xhd (et.out.join t2)
    obtain⟨f0,f1,f2,f3,f4,f5,f6⟩:=HS.out _ T2.out
    obtain⟨aq,rfl⟩:=hq.shape
    clear hq t2)
  |(go_at_call 96
    with_reducible refine HA.out.mono ?_
    rintro e V2 ⟨q2,rfl,hq,t3⟩
    have T3:=xhd (T2.out.join t3)
    have HQ:=xhd hq
    obtain⟨f0,f1,f2,f3,f4,f5,f6⟩:=HS.out _ T3.out
    obtain⟨aq2,rfl⟩:=hq.shape
    clear hq t3))
 all_goals
  go_wp2
  first|go_end0|(simp only [Exit.inBlock,Exit.then];refine bodyPost_ret (results_none rfl _ _ _) rfl ?_) |refine bodyPost_ret (results_none rfl _ _ _) rfl ?_
  have R:=TAt.stored H1.out (HT.out.join T3.out) HQ.out HG.out
  rw [HLEN.out] at R
  exact⟨rfl,R⟩
theorem fnd_some {t:Tr Nat} {k:Int×Int} {x:Itm Nat} (hg:t.Good) (h:t.fnd k=some x):x ∈ t.list∧ky x=k:=by
 rw [Tr.list_fnd k t hg.so,Tr.findL] at h
 have h1:=List.find?_some h
 have h2:=List.mem_of_find?_eq_some h
 simp at h1
 exact⟨h2,(ord_zero.1 h1).symm⟩
theorem fnd_none {t:Tr Nat} {k:Int×Int} (hg:t.Good) (h:t.fnd k=none):∀x ∈ t.list,ordI k (ky x)≠0:=by
 rw [Tr.list_fnd k t hg.so,Tr.findL,List.find?_eq_none] at h
 intro x hx
 simpa using h x hx
theorem findT_any {w:World} {b:Nat} {m:Int} {t:Tr Nat} (h:TAt w b m t) (k1 k2:Int):
  Calls Tryz.prog 80 #[.pointer (some ⟨b,0,none⟩), .agg #[.int .u64 k1, .int .i64 k2]] w fun e w'=>
   e= .returned (.tuple #[toV (t.fnd (k1,k2)), .bool (t.fnd (k1,k2)).isSome])∧Turned [] w w':=by
 obtain⟨W,hW⟩:∃W,w.alloc (.cells #[.int .u64 k1, .int .i64 k2] 84)=W:=⟨_,rfl⟩
 have TW:Turned [] w W:=hW ▸ (Turned.refl [] w).alloc _
 have BW:W.heap[w.heap.size]?=some (.cells #[.int .u64 k1, .int .i64 k2] 84 (0,0)):=hW ▸ heap_alloc_new w _
 obtain⟨p,h1,h2,h3⟩:=h
 obtain⟨D,hD⟩:∃D,W.drew=D:=⟨_,rfl⟩
 have TD:Turned [] W D:=hD ▸ (Turned.refl [] W).drew
 have NW:=(TW.join TD).same h1 (by simp)
 have kb:=TD.same BW (by simp)
 obtain⟨c0,c1,c2,_⟩:=tr_cells NW
 have k0:D.cell? ⟨w.heap.size,0,none⟩=some (.int .u64 k1):=by simp [World.cell?,kb]
 have k1':D.cell? ⟨w.heap.size,1,none⟩=some (.int .i64 k2):=by simp [World.cell?,kb]
 have HF:=xhd (find_any (h2.later (TW.join TD)) k1 k2)
 have HT:=xhd (TW.join TD)
 obtain⟨ap,rfl⟩:=h2.shape
 clear TW TD BW NW kb h1 h2 h3
 go_enter Tryz.func80,Tryz.ntmps80
 go_wp2_with fail
 refine wp_still_tail_at 5 hD (by kernel_rfl) (by kernel_rfl) ?_
 clear hD
 simp only [List.take_succ_cons,List.take_zero,List.drop_succ_cons,List.drop_zero]
 repeat still_step
 refine wpStill_nil ?_
 go_wp2_with fail
 with_reducible refine HF.out.mono ?_
 rintro e V ⟨q,rfl,hq,t2⟩
 have T2:=xhd (HT.out.join t2)
 cases hf:t.fnd (k1,k2) with
 |none=>
  have HFF:=xhd hf
  rw [hf] at hq
  obtain rfl:q= .pointer none:=hq
  clear t2 c0 c1 c2 k0 k1' hf
  go_wp2
  go_ret2
  rw [HFF.out]
  exact⟨rfl,T2.out⟩
 |some x=>
  have HFF:=xhd hf
  rw [hf] at hq
  obtain⟨g,c,pl,pr,rfl,hm⟩:=hq
  obtain⟨_,_,d2,_,_,_⟩:=nd_cells hm
  obtain⟨x1,x2,x3⟩:=x
  simp only at d2
  clear t2 c0 c1 c2 k0 k1' hm hf
  go_wp2
  go_ret2
  rw [HFF.out]
  exact⟨rfl,T2.out⟩
def tiE (m:Int) (t:Tr Nat) (k:Int×Int):Int:=if (t.fnd k).isSome then 12 else if (t.list.length:Int)=m then 3 else 0
def tiT (m:Int) (t:Tr Nat) (it:Itm Nat):Tr Nat:=if tiE m t (ky it)=0 then (Tr.ins it t).root else t
theorem insert_any {w:World} {b:Nat} {m:Int} {t:Tr Nat} (h:TAt w b m t) (k1 k2:Int) (v:Nat) (hL:t.list.length≤1000000):
  Calls Tryz.prog 55 #[.pointer (some ⟨b,0,none⟩), .agg #[.int .u64 k1, .int .i64 k2], .pointer (some ⟨v,0,none⟩)] w fun e w'=>
   e= .returned (.int .i64 (tiE m t (k1,k2)))∧TAt w' b m (tiT m t (k1,k2,v))∧Turned [b] w w':=by
 obtain⟨W,hW⟩:∃W,w.alloc (.cells #[.int .u64 k1, .int .i64 k2] 84)=W:=⟨_,rfl⟩
 have TW:Turned [] w W:=hW ▸ (Turned.refl [] w).alloc _
 have BW:W.heap[w.heap.size]?=some (.cells #[.int .u64 k1, .int .i64 k2] 84 (0,0)):=hW ▸ heap_alloc_new w _
 have HB:=xhd BW
 have H:=xhd h
 obtain⟨p,h1,h2,h3⟩:=h
 obtain⟨D,hD⟩:∃D,W.drew=D:=⟨_,rfl⟩
 have TD:Turned [] W D:=hD ▸ (Turned.refl [] W).drew
 have NW:=(TW.join TD).same h1 (by simp)
 have kb:=TD.same BW (by simp)
 obtain⟨c0,c1,c2,_⟩:=tr_cells NW
 have k0:D.cell? ⟨w.heap.size,0,none⟩=some (.int .u64 k1):=by simp [World.cell?,kb]
 have k1':D.cell? ⟨w.heap.size,1,none⟩=some (.int .i64 k2):=by simp [World.cell?,kb]
 have HF:=xhd (find_any (h2.later (TW.join TD)) k1 k2)
 have HT:=xhd (TW.join TD)
 have HD:=xhd TD
 have H1:=xhd h1
 have H3:=xhd h3
 obtain⟨ap,rfl⟩:=h2.shape
 have HL:=xhd hL
 obtain⟨n,hnn⟩:∃n,t.list.length=n:=⟨_,rfl⟩
 have HN:=xhd hnn
 rw [hnn] at c1
 clear TW TD BW NW kb h1 h2 h3 hL hnn
 go_enter Tryz.func55,Tryz.ntmps55
 go_wp2_with fail
 refine wp_still_tail_at 5 hD (by kernel_rfl) (by kernel_rfl) ?_
 clear hD
 simp only [List.take_succ_cons,List.take_zero,List.drop_succ_cons,List.drop_zero]
 repeat still_step
 refine wpStill_nil ?_
 go_wp2_with fail
 with_reducible refine HF.out.mono ?_
 rintro e V ⟨q,rfl,hq,t2⟩
 have T2:=xhd (HT.out.join t2)
 have T3:=xhd (HD.out.join t2)
 cases hf:t.fnd (k1,k2) with
 |some x=>
  have HE:=xhd (show tiE m t (k1,k2)=12 by simp [tiE,hf])
  rw [hf] at hq
  obtain⟨g,c,pl,pr,rfl,hm⟩:=hq
  clear t2 c0 c1 c2 k0 k1' hm hf
  go_wp2
  go_ret
  rw [tiT,HE.out,if_neg (by decide)]
  exact⟨rfl,H.out.later T2.out,T2.out.mono (fun k hk=>by simp at hk)⟩
 |none=>
  have HFF:=xhd hf
  rw [hf] at hq
  obtain rfl:q= .pointer none:=hq
  have N2:=T2.out.same H1.out (by simp)
  obtain⟨c0,c1,c2,_⟩:=tr_cells N2
  rw [HN.out] at c1
  clear t2 k0 k1' hf N2
  by_cases hm:(n:Int)=m
  ·have HE:=xhd (show tiE m t (k1,k2)=3 by simp [tiE,HFF.out,HN.out,hm])
   have e1:((n:Int) == m)=true:=by simpa using hm
   clear hm
   go_wp2_with fail
   go_quiet (fail)
   go_wp2
   go_ret
   rw [tiT,HE.out,if_neg (by decide)]
   exact⟨rfl,H.out.later (T2.out.drewN _),(T2.out.drewN _).mono (fun k hk=>by simp at hk)⟩
  ·have HE:=xhd (show tiE m t (k1,k2)=0 by simp [tiE,HFF.out,HN.out,hm])
   have e1:((n:Int) == m)=false:=by simpa using hm
   have kb:=T3.out.same HB.out (by simp)
   have k0:V.cell? ⟨w.heap.size,0,none⟩=some (.int .u64 k1):=by simp [World.cell?,kb]
   have k1':V.cell? ⟨w.heap.size,1,none⟩=some (.int .i64 k2):=by simp [World.cell?,kb]
   have HA:=xhd (fun q:Nat=>tadd_any (H.out.later (T2.out.drewN q)) (k1,k2,v) (fnd_none H3.out HFF.out) HL.out)
   clear hm kb
   go_wp2_with fail
   go_quiet (fail)
   go_wp2_with fail
   with_reducible refine (HA.out _).mono ?_
   rintro e V2 ⟨rfl,hA,t4⟩
   have G:=xhd (And.intro hA (((T2.out.drewN nq).mono (X:=[b]) (fun k hk=>by simp at hk)).trans t4 (Newer.refl _ _)))
   clear hA t4
   go_wp2
   go_ret
   rw [tiT,HE.out,if_pos rfl]
   exact⟨rfl,G.out⟩
def tdT (t:Tr Nat) (k:Int×Int):Tr Nat:=if (t.fnd k).isSome then (Tr.del k t).root else t
theorem delete_any {w:World} {b:Nat} {m:Int} {t:Tr Nat} (h:TAt w b m t) (k1 k2:Int) (hL:t.list.length≤1000000):
  Calls Tryz.prog 53 #[.pointer (some ⟨b,0,none⟩), .agg #[.int .u64 k1, .int .i64 k2]] w fun e w'=>
   e= .returned (.tuple #[toV (t.fnd (k1,k2)), .bool (t.fnd (k1,k2)).isSome])∧TAt w' b m (tdT t (k1,k2))∧Turned [b] w w':=by
 obtain⟨W,hW⟩:∃W,w.alloc (.cells #[.int .u64 k1, .int .i64 k2] 84)=W:=⟨_,rfl⟩
 have TW:Turned [] w W:=hW ▸ (Turned.refl [] w).alloc _
 have BW:W.heap[w.heap.size]?=some (.cells #[.int .u64 k1, .int .i64 k2] 84 (0,0)):=hW ▸ heap_alloc_new w _
 have HB:=xhd BW
 have k0:W.cell? ⟨w.heap.size,0,none⟩=some (.int .u64 k1):=by simp [World.cell?,BW]
 have k1':W.cell? ⟨w.heap.size,1,none⟩=some (.int .i64 k2):=by simp [World.cell?,BW]
 have HF:=xhd (findT_any (h.later TW) k1 k2)
 have HT:=xhd TW
 have H:=xhd h
 have HG:Hid t.Good:=by obtain⟨p,_,_,h3⟩:=h;exact h3
 have HL:=xhd hL
 clear TW BW h hL
 cases hf:t.fnd (k1,k2) with
 |none=>
  rw [hf] at HF
  rw [tdT,hf]
  simp only [toV,Option.isSome_none] at HF ⊢
  clear hf
  go_enter Tryz.func53,Tryz.ntmps53
  go_wp2_with fail
  with_reducible refine HF.out.mono ?_
  rintro e V ⟨rfl,t2⟩
  have T2:=xhd (HT.out.join t2)
  clear t2 k0 k1'
  go_wp2
  go_ret2
  exact⟨rfl,H.out.later T2.out,T2.out.mono (fun k hk=>by simp at hk)⟩
 |some x=>
  have hx:=fnd_some HG.out hf
  rw [hf] at HF
  rw [tdT,hf]
  simp only [toV,Option.isSome_some,if_true] at HF ⊢
  have HR:=xhd (fun W' (ht:Turned [] w W')=>remove_any (H.out.later ht) k1 k2 ⟨x,hx⟩ HL.out)
  obtain⟨x1,x2,x3⟩:=x
  simp only at HF ⊢
  clear hf hx
  go_enter Tryz.func53,Tryz.ntmps53
  go_wp2_with fail
  with_reducible refine HF.out.mono ?_
  rintro e V ⟨rfl,t2⟩
  have T2:=xhd (HT.out.join t2)
  have kb:=t2.same HB.out (by simp)
  have k0:V.cell? ⟨w.heap.size,0,none⟩=some (.int .u64 k1):=by simp [World.cell?,kb]
  have k1':V.cell? ⟨w.heap.size,1,none⟩=some (.int .i64 k2):=by simp [World.cell?,kb]
  clear t2 kb
  go_wp2_with fail
  with_reducible refine (HR.out _ T2.out).mono ?_
  rintro e V2 ⟨rfl,hA,t4⟩
  have G:=xhd (And.intro hA ((T2.out.mono (X:=[b]) (fun k hk=>by simp at hk)).trans t4 (Newer.refl _ _)))
  clear hA t4 k0 k1'
  go_wp2
  go_ret2
  exact⟨rfl,G.out⟩
end Go.Proofs.YtfmciiffcmfagaaGreat
