/-
  The program's queue: Load.
  All that is to be said of the program's queues, for the laws of stage 16.
  The program's cores in memory: a list of pointers to queues of its own, apart.
  The program's cores: Len, Queue, Of, home, tasks, isCurrent; a queue's Weight.
  The program's New of cores. (Made by gen_cpnew.py.)
  The program's cores: carry.
  What nobody's queue of the program answers.
  The program's cores: Remove, Weigh, Settle, Add.
  The program's cores: Move.
  The program's cores: lighter: the first ready task that weighs less.
-/
import Derived.Test.YtfmciiffcmfagaaGreatZAU
import Derived.Test.YtfmciiffcmfagaaGreatZAF
import Derived.Test.YtfmciiffcmfagaaGreatZAW
import Derived.Test.YtfmciiffcmfagaaGreatZAG
import Derived.Test.YtfmciiffcmfagaaGreatZAB
import Derived.OwnWalk
import Derived.Maps.AppendAt
import Derived.Test.YtfmciiffcmfagaaGreatZAJ
import Derived.LaidEqlPtr
import Derived.Test.YtfmciiffcmfagaaGreatZAl
set_option maxRecDepth 100000
set_option maxHeartbeats 25600000
namespace Go.Proofs.YtfmciiffcmfagaaGreat
open Go.RowKit
attribute [local go_sem] Oper.semAt_some
theorem sumR_perm {l m:List Int} (h:l.Perm m):sumR l=sumR m:=by
 unfold sumR
 induction h with
 |nil=>rfl
 |cons x _ ih=>simp [ih]
 |swap x y l=>simp only [List.foldr_cons];omega
 |trans _ _ h1 h2=>rw [h1,h2]
theorem sumR_snoc (l:List Int) (x:Int):sumR (l++[x])=sumR l+x:=by
 unfold sumR
 induction l with
 |nil=>simp
 |cons y l ih=>simp only [List.cons_append,List.foldr_cons,ih];omega
theorem sumR_le:∀(l:List Int) {m:Int},0≤m→(∀x ∈ l,0≤x∧x≤m)→0≤sumR l∧sumR l≤l.length*m
 |[],m,hm,_=>by simp [sumR]
 |x::l,m,hm,h=>by
  obtain⟨a,b⟩:=sumR_le l hm (fun y hy=>h y (List.mem_cons_of_mem _ hy))
  obtain⟨c,d⟩:=h x (by simp)
  have e:sumR (x::l)=x+sumR l:=rfl
  rw [e]
  refine⟨by omega,?_⟩
  have e2:(((x::l).length:Nat):Int)*m=l.length*m+m:=by
   simp only [List.length_cons]
   rw [show (((l.length+1:Nat)):Int)=l.length+1 by omega,Int.add_mul]
   omega
  omega
def wtI (q:Rq) (y:Itm Nat):Int:=((findQ q.l y.2.1).map (·.2)).getD 0
theorem find_mem {l:List Tk} (hu:(l.map (·.1)).Nodup) {x:Tk} (hx:x ∈ l):findQ l x.1=some x.2:=by
 cases h:findQ l x.1 with
 |none=>exact absurd rfl (findQ_none h x hx)
 |some z=>
  have:=findQ_one hu (findQ_mem h) hx rfl
  rw [←this]
structure LdB (w w2 V:World) (s:Int) (Y Z:List Nat):Prop where
 t:Turned [] w V
 r0:V.heap[w.heap.size]?=some (.cells #[.int .i64 s] 3 (0,0))
 ym:SameAt Y w2 V
 zm:∀k ∈ Z,w2.heap.size≤k∧k < V.heap.size
 sz:w2.heap.size≤V.heap.size
section
variable {w w2 A B:World} {s:Int} {Y Z Z':List Nat}
theorem LdB.mild (h:LdB w w2 A s Y Z) (m:Mild Z w2.heap.size A B) (hN:w.heap.size+1≤w2.heap.size) (hY:∀k ∈ Y,k < w2.heap.size) (hn:Newer Z A.heap.size Z') (hb:∀k ∈ Z',k < B.heap.size):LdB w w2 B s Y Z':=by
 have off:∀k,k < w2.heap.size→k ∉ Z:=fun k hk hz=>by have:=(h.zm k hz).1;omega
 refine⟨h.t.mild m (by omega) (fun k hk=>by have:=(h.zm k hk).1;omega),m.cells h.r0 (off _ (by omega)),fun k hk=>?_,fun k hk=>⟨?_,hb k hk⟩,Nat.le_trans h.sz m.size⟩
 ·have h1:=hY k hk
  have h2:A.heap[k]?=some (A.heap[k]'(by have:=h.sz;omega)):=Array.getElem?_eq_getElem _
  rw [m.same k _ h2 (off k h1) (.inl h1), ←h2]
  exact h.ym k hk
 ·rcases hn k hk with h1|h1
  ·exact (h.zm k h1).1
  ·have:=h.sz;omega
theorem LdB.set (h:LdB w w2 A s Y Z) (hY:∀k ∈ Y,k≠w.heap.size) (s':Int):LdB w w2 (A.setCell ⟨w.heap.size,0,none⟩ (.int .i64 s')) s' Y Z:=by
 have T:=(Turned.refl [w.heap.size] A).setCell (p:=⟨w.heap.size,0,none⟩) (.inl (by simp)) (.int .i64 s')
 refine⟨h.t.trans' T (fun k hk=>by simp at hk;omega),?_,fun k hk=>(Below.heap_setCell _ _ _ k (hY k hk)).trans (h.ym k hk),fun k hk=>?_,Nat.le_trans h.sz T.size⟩
 ·rw [heap_setCell_same _ _ _ _ _ _ h.r0]
  rfl
 ·have:=h.zm k hk
  exact⟨this.1,Nat.lt_of_lt_of_le this.2 T.size⟩
end
section
variable {w w':World} {b bt br:Nat} {q q':Rq} {T T' R R':Tr Nat} {B:Int→Nat} {r r' c:Int} {X Y:List Nat}
theorem rpLoad (h:RpI w b q bt br T R B r) (hq:QOk q c):Calls Tryz.prog 61 #[.pointer (some ⟨b,0,none⟩)] w fun e w'=>e= .returned (.int .i64 (sumR (q.l.map (·.2.2))))∧Turned [] w w':=by
 have hitem:∀y ∈ T.list,∃z ∈ q.l,y=itT B z∧wtI q y=z.2.2:=fun y hy=>by
  obtain⟨z,hz,rfl⟩:=List.mem_map.1 (h.ht.2.mem_iff.1 hy)
  exact⟨z,hz,rfl,by rw [wtI,show (itT B z).2.1=z.1 from rfl,find_mem hq.uniq hz];rfl⟩
 have hsum:sumR (T.list.map (wtI q))=sumR (q.l.map (·.2.2)):=by
  rw [sumR_perm (h.ht.2.map (wtI q)),List.map_map]
  congr 1
  refine List.map_congr_left fun z hz=>?_
  show wtI q (itT B z)=z.2.2
  rw [wtI,show (itT B z).2.1=z.1 from rfl,find_mem hq.uniq hz]
  rfl
 have hpre:∀pre,pre <+:T.list→0≤sumR (pre.map (wtI q))∧sumR (pre.map (wtI q))≤65536:=fun pre hp=>by
  have h1:=sumR_le (pre.map (wtI q)) (m:=4096) (by decide) (fun v hv=>by
   obtain⟨y,hy,rfl⟩:=List.mem_map.1 hv
   obtain⟨z,hz,_,e⟩:=hitem y (hp.subset hy)
   have:=hq.wt z hz
   omega)
  have h2:=hp.length_le
  have h3:=h.ht.len
  have h4:=hq.len
  rw [List.length_map] at h1
  have h5:(pre.length:Int)≤16:=by omega
  have h6:=Int.mul_le_mul_of_nonneg_right h5 (show (0:Int)≤4096 by decide)
  omega
 have hcell:∀y ∈ T.list,∀V,Turned [] w V→V.cell? ⟨y.2.2,2,none⟩=some (.int .i64 (wtI q y)):=fun y hy V tV=>by
  obtain⟨z,hz,e1,e2⟩:=hitem y hy
  rw [e2,e1]
  exact (cells3k (tV.same (h.k z hz) (by simp))).1.2.2
 obtain⟨W,hW⟩:∃W,w.alloc (.cells #[.int .i64 0] 3)=W:=⟨_,rfl⟩
 have TW:Turned [] w W:=hW ▸ (Turned.refl [] w).alloc _
 have e0:W.heap[w.heap.size]?=some (.cells #[.int .i64 0] 3 (0,0)):=hW ▸ heap_alloc_new w _
 have hkey:=h.ht.key (fun x hx=>hq.ids x hx)
 have HA:=xhd (tall_any (h.h1.later TW))
 obtain⟨⟨c0,c1,c2,c3,c4,c5⟩,_⟩:=cells6 h.h0
 have hbl:b < w.heap.size:=lt_of_block h.h0
 have HE:=xhd e0
 have HT:=xhd TW
 have HKEY:=xhd hkey
 have HPRE:=xhd hpre
 have HCELL:=xhd hcell
 have HSUM:=xhd hsum
 have HW:=xhd hW
 rw [←HSUM.out]
 clear h hq hW TW e0 hkey hitem hsum hpre hcell c0 c1 c3 c4 c5
 refine callsIn_wide.1 (?_:CallsIn Fence.wide 20 _ _ _ _ _)
 refine callsIn_of_wp_marks Tryz.func61 rfl trivial ?_ rfl
 simp only [Tryz.ntmps61,List.size_toArray,List.length_cons,List.length_nil,Nat.reduceAdd,Nat.reduceSub,Array.replicate_succ,Array.replicate_zero,List.push_toArray,List.append_toArray,List.nil_append,List.cons_append]
 refine wpIn_wide.2 ?_
 go_wp2_with fail
 (try rw [HW.out])
 with_reducible refine HA.out.mono ?_
 rintro e w2 ⟨Bk,Bf,rfl,hk1,hk2,hK,t2⟩
 obtain⟨Y,hY,hseq⟩:=tall_seq hK HKEY.out
 have hN1:w.heap.size+1≤w2.heap.size:=by have:=lt_of_block HE.out;have:=t2.size;omega
 have F0:LdB w w2 w2 0 Y []:=⟨HT.out.join t2,t2.same HE.out (by simp),SameAt.refl _ _,fun k hk=>by simp at hk,Nat.le_refl _⟩
 have hYo:∀k ∈ Y,k≠w.heap.size:=fun k hk e=>by
  obtain⟨_,cs,hc⟩:=hY k hk
  rw [e,F0.r0] at hc
  injection hc with hc
  injection hc with _ hc
  exact absurd hc (by decide)
 have hYl:∀k ∈ Y,k < w2.heap.size:=fun k hk=>(hY k hk).1
 have HF0:=xhd F0
 have HYO:=xhd hYo
 have HYL:=xhd hYl
 have HSQ:=xhd hseq
 have HN1:=xhd hN1
 clear hk1 hk2 hK t2 hY hseq F0 hYo hYl hN1 HA HE HT HW hbl c2
 go_wp2_with fail
 refine (wpIn_wide (n:=20)).1 ?_
 refine range_turnsY_plain rfl (by omega) rfl trivial (fun _ _=>rfl) (Y:=Y) (X:=[]) (by simp) HYL.out (HSQ.out 19) (fun _=>rfl) (fun _ _ _ _ h _=>h) (fun _ _ _ _ h _=>h)
  (fun xs Z V=>LdB w w2 V (sumR (xs.map (wtI q))) Y Z) (fun _ _ _ _=>False)
  (fun xs Z Z' A B h m hn hb=>h.mild m HN1.out HYL.out hn hb) (fun _ _ _ _ _ _ h _ _ _=>h.elim) HF0.out (fun _ _ _ h=>h.ym) (fun _ _ _ _ h=>h.elim) ?a1 ?assign ?body ?done ?stop
 case stop=>
  rintro D c xs Z V _ _ _ h _
  exact h.elim
 case assign=>
  intro l' x V K hK
  gi_wp2
  exact hK
 case body=>
  rintro l' pre x Z V hI hsp
  have hp1:=HPRE.out pre ((List.prefix_append _ _).trans hsp)
  have hp2:=HPRE.out _ hsp
  have hx:x ∈ T.list:=hsp.subset (by simp)
  have k2:=HCELL.out x hx V.drew hI.t.drew
  have s0:V.drew.cell? ⟨w.heap.size,0,none⟩=some (.int .i64 (sumR (pre.map (wtI q)))):=by
   have:=hI.t.drew
   exact cell1 (show V.drew.heap[w.heap.size]?=_ from hI.r0)
  have sf:V.drew.frozen? ⟨w.heap.size,0,none⟩=false:=frozen_of_row V.drew _ 0 _ _ hI.r0
  have hsn:sumR ((pre++[x]).map (wtI q))=sumR (pre.map (wtI q))+wtI q x:=by rw [List.map_append,List.map_cons,List.map_nil,sumR_snoc]
  rw [hsn] at hp2
  have hwr:IntKind.i64.wrap (sumR (pre.map (wtI q))+wtI q x)=sumR (pre.map (wtI q))+wtI q x:=by
   rw [IntKind.wrap_i64];omega
  have HFIN:Hid (KeepsFrom w2.heap.size V (V.drew.setCell ⟨w.heap.size,0,none⟩ (.int .i64 (sumR (pre.map (wtI q))+wtI q x)))∧SameAt Z V (V.drew.setCell ⟨w.heap.size,0,none⟩ (.int .i64 (sumR (pre.map (wtI q))+wtI q x)))∧LdB w w2 (V.drew.setCell ⟨w.heap.size,0,none⟩ (.int .i64 (sumR (pre.map (wtI q))+wtI q x))) (sumR ((pre++[x]).map (wtI q))) Y Z):=xhd (by
   have hD:LdB w w2 V.drew (sumR (pre.map (wtI q))) Y Z:=⟨hI.t.drew,hI.r0,hI.ym,hI.zm,hI.sz⟩
   have k2:KeepsFrom w2.heap.size V.drew (V.drew.setCell ⟨w.heap.size,0,none⟩ (.int .i64 (sumR (pre.map (wtI q))+wtI q x))):=(KeepsOthers.setCell _ _ _).from _
   refine⟨⟨k2.size,k2.same⟩,fun k hk=>?_,by rw [hsn];exact hD.set HYO.out _⟩
   have h1:=(hI.zm k hk).1
   have h2:=HN1.out
   exact Below.heap_setCell V.drew ⟨w.heap.size,0,none⟩ _ k (by simp;omega))
  obtain⟨x1,x2,x3⟩:=x
  simp only at k2
  obtain⟨N,hN⟩:∃N,w.heap.size=N:=⟨_,rfl⟩
  rw [hN] at s0 sf HFIN
  obtain⟨sp,hsp2⟩:∃sp,sumR (pre.map (wtI q))=sp:=⟨_,rfl⟩
  rw [hsp2] at s0 hwr HFIN
  obtain⟨wx,hwx⟩:∃wx,wtI q (x1,x2,x3)=wx:=⟨_,rfl⟩
  rw [hwx] at k2 hwr HFIN
  clear hI hsp hp1 hp2 hx hsn hsp2 hwx
  rw [hN]
  gi_wp2
  refine wpRound_tail 6 (by kernel_rfl) ?_ (by kernel_rfl) (by kernel_rfl) ?_
  ·rintro ⟨_,_,h⟩;exact h
  simp only [List.take_succ_cons,List.take_zero,List.drop_succ_cons,List.drop_zero]
  repeat (go_big_quiet_step (fail))
  refine wpQuiet_nil ?_
  go_wp2
  gi_wp2
  exact HFIN.out
 case done=>
  rintro D xs Z V hD hz rfl hI hK
  have b0:=cell1 hI.r0
  have HFIN:Hid (Turned [] w (V.putObj D (.deferred none))):=xhd (hI.t.put (by have:=HN1.out;omega) _)
  have HKD:=xhd hK
  obtain⟨s,hs⟩:∃s,sumR (T.list.map (wtI q))=s:=⟨_,rfl⟩
  rw [hs] at b0
  have HS:=xhd hs
  clear hI hK hs hz hD
  go_wp2
  refine⟨by simp, .inl ⟨_,_,rfl,run_takeDeferred (show V.heap[D]?=_ from HKD.out),?_⟩⟩
  exact⟨_,results_tmp rfl _ _ _,by rw [HS.out];rfl,HFIN.out⟩
end
end Go.Proofs.YtfmciiffcmfagaaGreat
namespace Go.Proofs.YtfmciiffcmfagaaGreat
open Go.RowKit
theorem newer_ids {b bt br:Nat} {B:Int→Nat} {l l':List Tk} (h:∀x ∈ l',∃y ∈ l,y.1=x.1) (n:Nat):Newer (blocksQ b bt br B l) n (blocksQ b bt br B l'):=fun k hk=>by
 rcases mem_blocksQ.1 hk with rfl|rfl|rfl|⟨x,hx,rfl⟩
 ·exact .inl (mem_blocksQ.2 (.inl rfl))
 ·exact .inl (mem_blocksQ.2 (.inr (.inl rfl)))
 ·exact .inl (mem_blocksQ.2 (.inr (.inr (.inl rfl))))
 ·obtain⟨y,hy,e⟩:=h x hx
  exact .inl (mem_blocksQ.2 (.inr (.inr (.inr ⟨y,hy,by rw [e]⟩))))
theorem pick_ls (q:Rq):q.pick.l=q.l:=by
 unfold Rq.pick
 split
 ·rfl
 ·split<;>rfl
theorem settle_ls (q:Rq):q.settle.l=q.l:=(settle_ge q).2.2.1
theorem rptick_ids (q:Rq):∀x ∈ q.tick.l,∃y ∈ q.l,y.1=x.1:=fun x hx=>by
 unfold Rq.tick at hx
 split at hx
 ·obtain⟨y,hy,rfl⟩:=List.mem_map.1 hx
  refine⟨y,hy,?_⟩
  unfold tickT
  split<;>rfl
 ·exact⟨x,hx,rfl⟩
theorem rpweigh_ids (q:Rq) (id n:Int):∀x ∈ (q.weigh id n).l,∃y ∈ q.l,y.1=x.1:=fun x hx=>by
 unfold Rq.weigh at hx
 split at hx
 ·exact⟨x,hx,rfl⟩
 ·obtain⟨y,hy,rfl⟩:=List.mem_map.1 hx
  refine⟨y,hy,?_⟩
  split<;>rfl
theorem remove_ids (q:Rq) (id:Int):∀x ∈ (q.remove id).l,∃y ∈ q.l,y.1=x.1:=fun x hx=>by
 unfold Rq.remove at hx
 split at hx
 ·exact⟨x,(List.mem_filter.1 hx).1,rfl⟩
 ·exact⟨x,hx,rfl⟩
section
variable {w w':World} {b bt br:Nat} {q q':Rq} {T R:Tr Nat} {B:Int→Nat} {r:Int} {Y:List Nat}
theorem up_blocks (ht:Turned Y w w') (hy:∀k ∈ Y,k ∈ blocksQ b bt br B q.l):Turned (blocksQ b bt br B q.l) w w':=ht.mono (fun k hk=> .inl (hy k hk))
end
theorem nd_off {t:TypeId} (h:t≠tNd):(t == tNd)=false:=by simpa using h
def rpSaid:RqSaid where
 At:=RpAt
 tn:=fun t=>t == tNd
 offQ:=nd_off (by decide)
 offT:=nd_off (by decide)
 offI:=nd_off (by decide)
 offB:=nd_off (by decide)
 offU:=nd_off (by decide)
 keep:=by
  rintro w w' b X Y q ⟨bt,br,T,R,B,r,rfl,h⟩ ht hd ho
  exact⟨bt,br,T,R,B,r,rfl,h.keep ht hd (KeepsN.of_turned ht fun k hk cs e=>by
   have:=ho k hk cs _ _ e
   simp at this)⟩
 lt:=by
  rintro w b X q ⟨bt,br,T,R,B,r,rfl,h⟩
  exact h.lt
 own:=by
  rintro w b X q ⟨bt,br,T,R,B,r,rfl,h⟩ k hk cs t fz e
  obtain⟨ds,u,e2,hu⟩:=h.kinds k hk
  rw [e2] at e
  injection e with e
  injection e with _ e
  subst e
  exact nd_off hu
 new:=fun g w _=>rpNew g w
 add:=by
  rintro w b X q c id v wt ⟨bt,br,T,R,B,r,rfl,h⟩ hq _ _ _ hv
  exact (rpAdd h hq id v wt hv).mono fun e w' ⟨e1,X',h1,h2,h3⟩=>⟨e1,X',h1,up_blocks h2 (fun k hk=>by
   simp at hk
   rcases hk with rfl|rfl
   ·exact mem_blocksQ.2 (.inr (.inl rfl))
   ·exact mem_blocksQ.2 (.inr (.inr (.inl rfl)))),h3⟩
 remove:=by
  rintro w b X q c id ⟨bt,br,T,R,B,r,rfl,h⟩ hq _ _
  exact (rpRemove h hq id).mono fun e w' ⟨e1,⟨T',R',h1⟩,h2⟩=>⟨e1,_,⟨bt,br,T',R',B,r,rfl,h1⟩,up_blocks h2 (mem_bb h),newer_ids (remove_ids q id) _⟩
 pick:=by
  rintro w b X q c ⟨bt,br,T,R,B,r,rfl,h⟩ hq _
  exact (rpPick h hq).mono fun e w' ⟨e1,⟨R',r',h1⟩,h2⟩=>⟨e1,_,⟨bt,br,T,R',B,r',rfl,h1⟩,up_blocks h2 h.mem,newer_ids (fun x hx=>⟨x,by rw [←pick_ls q];exact hx,rfl⟩) _⟩
 back:=by
  rintro w b X q c ⟨bt,br,T,R,B,r,rfl,h⟩ hq _
  exact (rpBack h hq).mono fun e w' ⟨e1,⟨R',h1⟩,h2⟩=>⟨e1,_,⟨bt,br,T,R',B,r,rfl,h1⟩,up_blocks h2 h.mem,newer_ids (fun x hx=>⟨x,hx,rfl⟩) _⟩
 tick:=by
  rintro w b X q c ⟨bt,br,T,R,B,r,rfl,h⟩ hq hc
  exact (rpTick h hq hc).mono fun e w' ⟨e1,⟨r',h1⟩,Y,hy,h2⟩=>⟨e1,_,⟨bt,br,T,R,B,r',rfl,h1⟩,up_blocks h2 hy,newer_ids (rptick_ids q) _⟩
 weigh:=by
  rintro w b X q c id wt ⟨bt,br,T,R,B,r,rfl,h⟩ hq _ _ _
  exact (rpWeigh h hq id wt).mono fun e w' ⟨e1,⟨R',r',h1⟩,Y,hy,h2⟩=>⟨e1,_,⟨bt,br,T,R',B,r',rfl,h1⟩,up_blocks h2 hy,newer_ids (rpweigh_ids q id wt) _⟩
 settle:=by
  rintro w b X q c ⟨bt,br,T,R,B,r,rfl,h⟩ hq _
  exact (rpSettle h hq).mono fun e w' ⟨e1,⟨R',h1⟩,h2⟩=>⟨e1,_,⟨bt,br,T,R',B,r,rfl,h1⟩,up_blocks h2 h.mem,newer_ids (fun x hx=>⟨x,by rw [←settle_ls q];exact hx,rfl⟩) _⟩
 vv:=by
  rintro w b X q c id ⟨bt,br,T,R,B,r,rfl,h⟩ _ _ _
  exact rpV h id
 current:=by
  rintro w b X q c ⟨bt,br,T,R,B,r,rfl,h⟩ hq _
  exact rpCurrent h hq
 floor:=by
  rintro w b X q c ⟨bt,br,T,R,B,r,rfl,h⟩ _ _
  exact rpFloor h
 len:=by
  rintro w b X q c ⟨bt,br,T,R,B,r,rfl,h⟩ _ _
  exact rpLen h
 load:=by
  rintro w b X q c ⟨bt,br,T,R,B,r,rfl,h⟩ hq _
  exact rpLoad h hq
 ready:=by
  rintro w b X q c ⟨bt,br,T,R,B,r,rfl,h⟩ hq _
  exact (rpReady h hq).mono fun e w' ⟨Bx,e1,t,Y,hY,hs⟩=>⟨_,_,e1,t,fun args W=>rfl,Y,[],fun k hk=>⟨(hY k hk).1, .inr (.inr (by
   obtain⟨_,cs,e⟩:=hY k hk
   exact⟨cs,_,_,e,by simp⟩))⟩,fun k hk=>by simp at hk,fun n _=>hs n⟩
end Go.Proofs.YtfmciiffcmfagaaGreat
namespace Go.Proofs.YtfmciiffcmfagaaGreat
open Go.RowKit
abbrev tCp:TypeId:=62
abbrev tPp:TypeId:=52
def CpOwn (w:World) (b:Nat) (X0:List Nat) (T:List Tq) (_l:List Rq):Prop:=LAt tCp tPp 1 encP (fun v=> #[v]) w b X0 (T.map (·.1))
abbrev CpI:=CAt CpOwn RpAt
section
variable {w w':World} {b d:Nat} {X0 X0' Y Y':List Nat} {T T':List Tq} {l l':List Rq} {q q':Rq} {c:Int}
theorem cpown_types (h:CpOwn w b X0 T l):∀k ∈ X0,∀cs t fz,w.heap[k]?=some (.cells cs t fz)→(t == tNd)=false:=by
 obtain⟨v,h1,h2,rfl⟩:=h
 intro k hk cs t fz e
 rcases List.mem_cons.1 hk with rfl|hk
 ·rw [h1] at e
  injection e with e
  injection e with _ e
  subst e
  exact nd_off (by decide)
 ·obtain⟨cur,hc⟩:=ownsRow_type h2 k hk
  rw [hc] at e
  injection e with e
  injection e with _ e
  subst e
  exact nd_off (by decide)
theorem CpI.types (h:CpI w b X0 T l):∀k ∈ blk X0 T,∀cs t fz,w.heap[k]?=some (.cells cs t fz)→rpSaid.tn t=false:=fun k hk=>by
 rcases blk_mem.1 hk with e|⟨x,hx,e⟩
 ·exact cpown_types h.own k e
 ·obtain⟨i,hi⟩:=List.mem_iff_getElem?.1 hx
  have hil:i < l.length:=by have:=(List.getElem?_eq_some_iff.1 hi).1;have:=h.qs.len;omega
  exact rpSaid.own (h.qs.at_ i x _ hi (List.getElem?_eq_getElem hil)) k e
theorem CpI.keep (h:CpI w b X0 T l) (t:Turned Y w w') (hd:∀k ∈ blk X0 T,k ∉ Y) (ho:∀k ∈ Y,∀cs t fz,w.heap[k]?=some (.cells cs t fz)→rpSaid.tn t=false):CpI w' b X0 T l:=
 ⟨LAt.keep h.own t fun k hk=>hd k (blk_mem.2 (.inl hk)),h.qs.keep (cs_keep rpSaid t ho) t (fun x hx k hk=>hd k (blk_mem.2 (.inr ⟨x,hx,hk⟩))),h.off,fun k hk=>Nat.lt_of_lt_of_le (h.lt k hk) t.size⟩
theorem CpI.keep0 (h:CpI w b X0 T l) (t:Turned [] w w'):CpI w' b X0 T l:=h.keep t (by simp) (fun k hk=>by simp at hk)
theorem CpI.all_lt (h:CpI w b X0 T l):∀k ∈ blk X0 T,k < w.heap.size:=fun k hk=>by
 rcases blk_mem.1 hk with e|⟨x,hx,e⟩
 ·exact h.lt k e
 ·exact h.qs.lt x hx k e
theorem CpI.view (h:CpI w b X0 T l):∃a cap,w.cell? ⟨b,0,none⟩=some (.slice a l.length cap)∧l.length≤maxLen∧∀(i:Nat) (q:Rq),l[i]?=some q→∃g d Y,a=some ⟨g,0,none⟩∧T[i]?=some (d,Y)∧w.cell? ⟨g,i,none⟩=some (.pointer (some ⟨d,0,none⟩))∧RpAt w d Y q:=by
 obtain⟨a,cap,h1,h2,h3,hc,hm,hg⟩:=LAt.view h.own
 have hl:=h.qs.len
 rw [List.length_map,hl] at h1 hc
 rw [List.length_map] at hg
 refine⟨a,cap,by simp [World.cell?,h1],by omega,fun i q hq=>?_⟩
 have hi:i < l.length:=(List.getElem?_eq_some_iff.1 hq).1
 have hT:T[i]?=some (T[i]'(by omega)):=List.getElem?_eq_getElem (by omega)
 obtain⟨g,hg|hg⟩:=hg i (by omega)
 ·obtain⟨rfl,hbg⟩:=hg
  have r:=(row_cells encP_len h2 (j:=i) (by simp;omega) 0 (by omega)).1
  refine⟨g,_,_,rfl,hT,?_,h.qs.at_ i _ q hT hq⟩
  simpa using r
 ·exact absurd hg (by decide)
theorem CpI.set (h:CpI w b X0 T l) {i:Nat} (hi:T[i]?=some (d,Y)) (hq:l[i]?=some q) (a:RpAt w' d Y' q') (t:Turned Y w w') (n:Newer Y w.heap.size Y'):
  CpI w' b X0 (T.set i (d,Y')) (l.set i q')∧Turned (blk X0 T) w w'∧Newer (blk X0 T) w.heap.size (blk X0 (T.set i (d,Y'))):=by
 have hY:=h.off _ (mem_of_at hi)
 have hty:=rpSaid.own (h.qs.at_ i _ q hi hq)
 have hm:(T.set i (d,Y')).map (·.1)=T.map (·.1):=by
  apply List.ext_getElem?
  intro j
  rw [List.getElem?_map,List.getElem?_map,List.getElem?_set]
  by_cases e:i=j
  ·subst e
   have hi':i < T.length:=(List.getElem?_eq_some_iff.1 hi).1
   rw [if_pos rfl,if_pos hi',hi]
   rfl
  ·rw [if_neg e]
 have ht:Turned (blk X0 T) w w':=t.mono fun k hk=> .inl (blk_mem.2 (.inr ⟨_,mem_of_at hi,hk⟩))
 refine⟨⟨?_,h.qs.set (cs_keep rpSaid t hty) hi a t n (rpSaid.lt a),fun x hx k hk=>?_,fun k hk=>Nat.lt_of_lt_of_le (h.lt k hk) t.size⟩,ht,fun k hk=>?_⟩
 ·have h0:LAt tCp tPp 1 encP (fun v=> #[v]) w b X0 (T.map (·.1)):=h.own
  show LAt tCp tPp 1 encP (fun v=> #[v]) w' b X0 _
  rw [hm]
  exact h0.keep t fun k hk hk'=>hY k hk' hk
 ·obtain⟨j,hj⟩:=List.mem_iff_getElem?.1 hx
  rcases set_at hj with⟨rfl,rfl⟩ |⟨_,e⟩
  ·rcases n k hk with e|e
   ·exact hY k e
   ·intro hk0
    have:=h.lt k hk0
    omega
  ·exact h.off x (mem_of_at e) k hk
 ·rcases blk_mem.1 hk with e|⟨x,hx,e⟩
  ·exact .inl (blk_mem.2 (.inl e))
  ·obtain⟨j,hj⟩:=List.mem_iff_getElem?.1 hx
   rcases set_at hj with⟨rfl,rfl⟩ |⟨_,e'⟩
   ·rcases n k e with e2|e2
    ·exact .inl (blk_mem.2 (.inr ⟨_,mem_of_at hi,e2⟩))
    ·exact .inr e2
   ·exact .inl (blk_mem.2 (.inr ⟨x,mem_of_at e',e⟩))
theorem CpI.same0 (h:CpI w b X0 T l) {i:Nat} (hi:T[i]?=some (d,Y)) (t:Turned Y w w'):SameAt X0 w w':=
 fun k hk=>t.block k (h.lt k hk) (fun hy=>h.off _ (mem_of_at hi) k hy hk)
theorem CpI.own_at (h:CpI w b X0 T l) {g n cap:Nat} (c0:w.cell? ⟨b,0,none⟩=some (.slice (some ⟨g,0,none⟩) n cap)):b ∈ X0∧g ∈ X0:=by
 obtain⟨v,h1,_,rfl⟩:=h.own
 have e:w.cell? ⟨b,0,none⟩=some v:=by simp [World.cell?,h1]
 rw [c0] at e
 cases e
 exact⟨by simp,by simp [Value.ownBlock]⟩
theorem cell_same {X:List Nat} {A B:World} {p:Addr} {v:Value} (s:SameAt X A B) (hp:p.block ∈ X) (h:A.cell? p=some v):B.cell? p=some v:=by
 unfold World.cell? at h ⊢
 rw [s _ hp]
 exact h
end
end Go.Proofs.YtfmciiffcmfagaaGreat
namespace Go.Proofs.YtfmciiffcmfagaaGreat
open Go.RowKit
def wtV (q:Rq) (id:Int):Int:=((findQ q.l id).map (·.2)).getD 0
section
variable {w w':World} {b bt br:Nat} {q:Rq} {T R:Tr Nat} {B:Int→Nat} {r:Int}
theorem wtV_some {id:Int} {x:Int×Int} (h:findQ q.l id=some x):wtV q id=x.2:=by simp [wtV,h]
theorem wtV_none {id:Int} (h:findQ q.l id=none):wtV q id=0:=by simp [wtV,h]
theorem rpWeight (h:RpI w b q bt br T R B r) (id:Int):
  Calls Tryz.prog 70 #[.pointer (some ⟨b,0,none⟩), .int .i64 id] w fun e w'=>e= .returned (.tuple #[.int .i64 (wtV q id), .bool (findQ q.l id).isSome])∧Turned [] w w':=by
 have HF:=xhd (rpFind h id)
 rw [findP] at HF
 have HK:=xhd h.k
 clear h
 cases hq:findQ q.l id with
 |none=>
  rw [wtV_none hq]
  rw [hq,Option.isSome_none,if_neg (by simp)] at HF
  clear hq HK
  go_enter Tryz.func70,Tryz.ntmps70
  go_wp2_with fail
  with_reducible refine HF.out.mono ?_
  rintro e V ⟨rfl,t⟩
  have HT:=xhd t
  clear t
  go_wp2
  go_ret2
  exact⟨rfl,HT.out⟩
 |some x=>
  rw [wtV_some hq]
  rw [hq,Option.isSome_some,if_pos rfl] at HF
  have hm:=HK.out _ (findQ_mem hq)
  obtain⟨x1,x2⟩:=x
  have HM:=xhd hm
  clear hm hq HK
  dsimp only
  go_enter Tryz.func70,Tryz.ntmps70
  go_wp2_with fail
  with_reducible refine HF.out.mono ?_
  rintro e V ⟨rfl,t⟩
  obtain⟨⟨k0,k1,k2⟩,_⟩:=cells3k (t.same HM.out (by simp))
  have HT:=xhd t
  clear t
  dsimp only at k0
  go_wp2
  go_ret2
  exact⟨rfl,HT.out⟩
end
section
variable {w w':World} {b d:Nat} {X X0 Y:List Nat} {T:List Tq} {l:List Rq} {q:Rq} {c:Int}
theorem rp_weight (h:RpAt w b X q) (id:Int):Calls Tryz.prog 70 #[.pointer (some ⟨b,0,none⟩), .int .i64 id] w fun e w'=>e= .returned (.tuple #[.int .i64 (wtV q id), .bool (findQ q.l id).isSome])∧Turned [] w w':=by
 obtain⟨bt,br,T,R,B,r,rfl,h⟩:=h
 exact rpWeight h id
theorem rp_vv (h:RpAt w b X q) (id:Int):Calls Tryz.prog 62 #[.pointer (some ⟨b,0,none⟩), .int .i64 id] w fun e w'=>e= .returned (.tuple #[.int .u64 (remV q id), .bool (findQ q.l id).isSome])∧Turned [] w w':=by
 obtain⟨bt,br,T,R,B,r,rfl,h⟩:=h
 exact rpV h id
theorem rp_len (h:RpAt w b X q):Calls Tryz.prog 64 #[.pointer (some ⟨b,0,none⟩)] w fun e w'=>e= .returned (.int .i64 (q.l.length:Nat))∧Turned [] w w':=by
 obtain⟨bt,br,T,R,B,r,rfl,h⟩:=h
 exact rpLen h
theorem rp_floor (h:RpAt w b X q):Calls Tryz.prog 72 #[.pointer (some ⟨b,0,none⟩)] w fun e w'=>e= .returned (.int .u64 q.f)∧Turned [] w w':=by
 obtain⟨bt,br,T,R,B,r,rfl,h⟩:=h
 exact rpFloor h
theorem rp_current (h:RpAt w b X q) (hq:QOk q c):Calls Tryz.prog 69 #[.pointer (some ⟨b,0,none⟩)] w fun e w'=>e= .returned (.tuple #[.int .i64 q.cur, .int .i64 q.ran, .bool (decide (0≤q.cur))])∧Turned [] w w':=by
 obtain⟨bt,br,T,R,B,r,rfl,h⟩:=h
 exact rpCurrent h hq
theorem rp_keep0 (h:RpAt w b X q) (t:Turned [] w w'):RpAt w' b X q:=rpSaid.keep0 h t
theorem cplen (h:CpI w b X0 T l):Calls Tryz.prog 30 #[.pointer (some ⟨b,0,none⟩)] w fun e w'=>e= .returned (.int .i64 (l.length:Nat))∧w=w':=by
 obtain⟨a,cap,c0,_,_⟩:=h.view
 obtain⟨n,hn⟩:∃n,l.length=n:=⟨_,rfl⟩
 rw [hn] at c0 ⊢
 clear h hn
 go_enter Tryz.func30,Tryz.ntmps30
 go_wp2
 go_ret
 exact⟨rfl,rfl⟩
theorem cpqueue_no (h:CpI w b X0 T l) {core:Int} (hn:core < 0∨(l.length:Int)≤core):Calls Tryz.prog 20 #[.pointer (some ⟨b,0,none⟩), .int .i64 core] w fun e w'=>e= .returned (.pointer none)∧w=w':=by
 have HL:=xhd (cplen h)
 obtain⟨n,hl⟩:∃n,l.length=n:=⟨_,rfl⟩
 rw [hl] at HL hn
 clear h hl
 by_cases h1:core < 0
 ·have b1:decide (core < 0)=true:=by simpa using h1
  clear hn
  go_enter Tryz.func20,Tryz.ntmps20
  go_wp2
  go_ret
  exact⟨rfl,rfl⟩
 ·have b1:decide (core < 0)=false:=by simpa using h1
  have h2:(n:Int)≤core:=hn.resolve_left h1
  have b2:decide ((n:Int)≤core)=true:=by simpa using h2
  clear hn
  go_enter Tryz.func20,Tryz.ntmps20
  go_wp2_with fail
  with_reducible refine HL.out.mono ?_
  rintro e w1 ⟨rfl,rfl⟩
  go_wp2
  go_ret
  exact⟨rfl,rfl⟩
theorem cpqueue_at (h:CpI w b X0 T l) {k:Nat} (hq:l[k]?=some q) (hT:T[k]?=some (d,Y)):Calls Tryz.prog 20 #[.pointer (some ⟨b,0,none⟩), .int .i64 k] w fun e w'=>e= .returned (.pointer (some ⟨d,0,none⟩))∧w=w':=by
 have HL:=xhd (cplen h)
 obtain⟨a,cap,c0,hlen,hr⟩:=h.view
 obtain⟨g,d',Y',rfl,hT',cp,_⟩:=hr k q hq
 rw [hT] at hT'
 injection hT' with hT'
 injection hT' with e1 e2
 subst e1
 have hk:k < l.length:=(List.getElem?_eq_some_iff.1 hq).1
 unfold maxLen at hlen
 obtain⟨n,hl⟩:∃n,l.length=n:=⟨_,rfl⟩
 rw [hl] at HL hk hlen c0
 have i0:(0:Int)≤k:=by omega
 have i1:(k:Int) < n:=by omega
 have b1:decide ((k:Int) < 0)=false:=by simp
 have b2:decide ((n:Int)≤k)=false:=by simp;omega
 clear h hl hr hq hT e2
 go_enter Tryz.func20,Tryz.ntmps20
 go_wp2_with fail
 with_reducible refine HL.out.mono ?_
 rintro e w1 ⟨rfl,rfl⟩
 go_wp2
 go_ret
 exact⟨rfl,rfl⟩
theorem cpof (h:CpI w b X0 T l) (id:Int):Calls Tryz.prog 29 #[.pointer (some ⟨b,0,none⟩), .int .i64 id] w fun e w'=>e= .returned (.int .i64 (ofC l id))∧Turned [] w w':=by
 have HL:=xhd (cplen h)
 have HV:=xhd (fun V (t:Turned [] w V)=>(h.keep0 t).view)
 have hlen:l.length≤maxLen:=by obtain⟨_,_,_,hm,_⟩:=h.view;exact hm
 unfold maxLen at hlen
 obtain⟨n,hn⟩:∃n,l.length=n:=⟨_,rfl⟩
 have HN:=xhd hn
 rw [hn] at HL hlen HV
 clear h hn
 go_enter Tryz.func29,Tryz.ntmps29
 go_wp2_with fail
 with_reducible refine HL.out.mono ?_
 rintro e w1 ⟨rfl,rfl⟩
 clear HL
 go_wp2
 go_loopw [10] (fun iv V=>∃k:Nat,iv= .int .i64 k∧k≤n∧Hid (∀(j:Nat) (r:Rq),j < k→l[j]?=some r→(findQ r.l id).isSome=false)∧Hid (Turned [] w V)) (fun iv _=>n - (intOf iv).toNat)
 case atStart=>exact⟨0,rfl,by omega,xhd fun j r hj=>absurd hj (Nat.not_lt_zero j),xhd (Turned.refl _ _)⟩
 case round=>
  obtain⟨k,rfl,hk,HP,HT⟩:=hrel
  by_cases hlt:k < n
  ·have hq:l[k]?=some (l[k]'(by have:=HN.out;omega)):=List.getElem?_eq_getElem _
   obtain⟨q,hqq⟩:∃q,l[k]'(by have:=HN.out;omega)=q:=⟨_,rfl⟩
   rw [hqq] at hq
   have HQ:=xhd hq
   obtain⟨a,cap,c0,_,hr⟩:=HV.out _ HT.out
   obtain⟨g,d,Y,rfl,_,cp,hat⟩:=hr k q hq
   have HAT:=xhd (rp_vv hat id)
   have HLT:=xhd hlt
   have i0:(0:Int)≤k:=by omega
   have i1:(k:Int) < n:=by omega
   obtain⟨z,hz⟩:∃z,(findQ q.l id).isSome=z:=⟨_,rfl⟩
   rw [hz] at HAT
   have HZ:=xhd hz
   clear hq hqq hat hz hr hlt
   go_wp2_with fail
   with_reducible refine HAT.out.mono ?_
   rintro e w2 ⟨rfl,t2⟩
   have T2:=xhd (HT.out.join t2)
   clear t2 c0 cp
   cases z with
   |true=>
    go_wp2
    go_ret
    have:ofC l id=k:=by
     unfold ofC
     rw [ofN_at HQ.out HZ.out HP.out]
    rw [this]
    exact⟨rfl,T2.out⟩
   |false=>
    go_wp2
    go_roundw
    case rel=>
     refine⟨k+1,by go_num,by have:=HLT.out;omega,xhd fun j r hj hr=>?_,T2⟩
     by_cases e:j=k
     ·subst e
      rw [HQ.out] at hr
      cases hr
      exact HZ.out
     ·exact HP.out j r (by omega) hr
    case measure=>have:=HLT.out;simp [intOf];omega
  ·have hk':k=n:=by omega
   subst hk'
   go_wp2
   go_ret
   have:ofC l id= -1:=by
    unfold ofC
    rw [ofN_no fun q hq=>by
     obtain⟨j,hj⟩:=List.mem_iff_getElem?.1 hq
     have hl:j < l.length:=(List.getElem?_eq_some_iff.1 hj).1
     exact HP.out j q (by have:=HN.out;omega) hj]
   rw [this]
   exact⟨rfl,HT.out⟩
theorem cptasks (h:CpI w b X0 T l) (ha:allC l≤16):Calls Tryz.prog 34 #[.pointer (some ⟨b,0,none⟩)] w fun e w'=>e= .returned (.int .i64 (allC l:Nat))∧Turned [] w w':=by
 have HL:=xhd (cplen h)
 have HV:=xhd (fun V (t:Turned [] w V)=>(h.keep0 t).view)
 have hlen:l.length≤maxLen:=by obtain⟨_,_,_,hm,_⟩:=h.view;exact hm
 unfold maxLen at hlen
 obtain⟨n,hn⟩:∃n,l.length=n:=⟨_,rfl⟩
 have HN:=xhd hn
 rw [hn] at HL hlen HV
 have HEND:Hid (allC (l.take n)=allC l):=xhd (by rw [←hn,List.take_length])
 have HLE:=xhd (fun k=>Nat.le_trans (allC_take_le l k) ha)
 clear h hn ha
 go_enter Tryz.func34,Tryz.ntmps34
 go_wp2_with fail
 with_reducible refine HL.out.mono ?_
 rintro e w1 ⟨rfl,rfl⟩
 clear HL
 go_wp2
 go_loopw [3,7] (fun s iv V=>∃k:Nat,iv= .int .i64 k∧k≤n∧s= .int .i64 (allC (l.take k):Nat)∧Hid (Turned [] w V)) (fun _ iv _=>n - (intOf iv).toNat)
 case atStart=>exact⟨0,rfl,by omega,rfl,xhd (Turned.refl _ _)⟩
 case round=>
  obtain⟨k,rfl,hk,rfl,HT⟩:=hrel
  by_cases hlt:k < n
  ·have hq:l[k]?=some (l[k]'(by have:=HN.out;omega)):=List.getElem?_eq_getElem _
   obtain⟨q,hqq⟩:∃q,l[k]'(by have:=HN.out;omega)=q:=⟨_,rfl⟩
   rw [hqq] at hq
   obtain⟨a,cap,c0,_,hr⟩:=HV.out _ HT.out
   obtain⟨g,d,Y,rfl,_,cp,hat⟩:=hr k q hq
   have HAT:=xhd (rp_len hat)
   have HLT:=xhd hlt
   have hs:=allC_take hq
   have hs1:=HLE.out (k+1)
   have i0:(0:Int)≤k:=by omega
   have i1:(k:Int) < n:=by omega
   obtain⟨m,hm⟩:∃m,q.l.length=m:=⟨_,rfl⟩
   rw [hm] at HAT hs
   obtain⟨s,hsd⟩:∃s,allC (l.take k)=s:=⟨_,rfl⟩
   rw [hsd] at hs ⊢
   have hw:IntKind.i64.wrap ((s:Int)+m)=s+m:=by rw [IntKind.wrap_i64];omega
   have HS:=xhd hs
   clear hq hqq hat hm hr hs hs1 hsd hlt
   go_wp2_with fail
   with_reducible refine HAT.out.mono ?_
   rintro e w2 ⟨rfl,t2⟩
   have T2:=xhd (HT.out.join t2)
   clear t2 c0 cp
   go_wp2
   go_roundw
   case rel=>exact⟨k+1,by go_num,by have:=HLT.out;omega,by rw [HS.out];go_num,T2⟩
   case measure=>have:=HLT.out;simp [intOf];omega
  ·have hk':k=n:=by omega
   subst hk'
   go_wp2
   go_ret
   rw [HEND.out]
   exact⟨rfl,HT.out⟩
theorem cphome_no (h:CpI w b X0 T l) {id:Int} (ho:ofN l id=none):Calls Tryz.prog 38 #[.pointer (some ⟨b,0,none⟩), .int .i64 id] w fun e w'=>e= .returned (.pointer none)∧Turned [] w w':=by
 have HO:=xhd (cpof h id)
 have e:ofC l id= -1:=by unfold ofC;rw [ho]
 rw [e] at HO
 have HQ:=xhd (fun V (t:Turned [] w V)=>cpqueue_no (h.keep0 t) (core:= -1) (.inl (by decide)))
 clear h ho e
 go_enter Tryz.func38,Tryz.ntmps38
 go_wp2_with fail
 with_reducible refine HO.out.mono ?_
 rintro e w1 ⟨rfl,t1⟩
 have T1:=xhd t1
 clear t1
 go_wp2_with fail
 with_reducible refine (HQ.out _ T1.out).mono ?_
 rintro e w2 ⟨rfl,rfl⟩
 go_wp2
 go_ret
 exact⟨rfl,T1.out⟩
theorem cphome_at (h:CpI w b X0 T l) {id:Int} {k:Nat} (ho:ofN l id=some k) (hT:T[k]?=some (d,Y)):Calls Tryz.prog 38 #[.pointer (some ⟨b,0,none⟩), .int .i64 id] w fun e w'=>e= .returned (.pointer (some ⟨d,0,none⟩))∧Turned [] w w':=by
 have HO:=xhd (cpof h id)
 have e:ofC l id=k:=by unfold ofC;rw [ho]
 rw [e] at HO
 obtain⟨q,hq,_,_⟩:=ofN_some ho
 have HQ:=xhd (fun V (t:Turned [] w V)=>cpqueue_at (h.keep0 t) hq hT)
 clear h ho e hq hT
 go_enter Tryz.func38,Tryz.ntmps38
 go_wp2_with fail
 with_reducible refine HO.out.mono ?_
 rintro e w1 ⟨rfl,t1⟩
 have T1:=xhd t1
 clear t1
 go_wp2_with fail
 with_reducible refine (HQ.out _ T1.out).mono ?_
 rintro e w2 ⟨rfl,rfl⟩
 go_wp2
 go_ret
 exact⟨rfl,T1.out⟩
theorem cpcurrent (h:RpAt w d Y q) (hq:QOk q c) (id:Int):Calls Tryz.prog 41 #[.int .i64 id, .pointer (some ⟨d,0,none⟩)] w fun e w'=>e= .returned (.bool (decide (0≤q.cur)&&decide (q.cur=id)))∧Turned [] w w':=by
 have HC:=xhd (rp_current h hq)
 clear h hq
 obtain⟨z,hz⟩:∃z,q.cur=z:=⟨_,rfl⟩
 obtain⟨y,hy⟩:∃y,q.ran=y:=⟨_,rfl⟩
 rw [hz,hy] at HC
 rw [hz]
 clear hz hy
 by_cases h0:0≤z
 ·have b0:decide (0≤z)=true:=by simpa using h0
  rw [b0] at HC ⊢
  rw [Bool.true_and]
  clear h0 b0
  go_enter Tryz.func41,Tryz.ntmps41
  go_wp2_with fail
  with_reducible refine HC.out.mono ?_
  rintro e w1 ⟨rfl,t1⟩
  have T1:=xhd t1
  clear t1
  go_wp2
  go_ret
  exact⟨by simp;rw [Bool.eq_iff_iff];simp,T1.out⟩
 ·have b0:decide (0≤z)=false:=by simpa using h0
  rw [b0] at HC ⊢
  rw [Bool.false_and]
  clear h0 b0
  go_enter Tryz.func41,Tryz.ntmps41
  go_wp2_with fail
  with_reducible refine HC.out.mono ?_
  rintro e w1 ⟨rfl,t1⟩
  have T1:=xhd t1
  clear t1
  go_wp2
  go_ret
  exact⟨rfl,T1.out⟩
theorem cp_row (h:CpI w b X0 T l) {k:Nat} (hq:l[k]?=some q):∃d Y,T[k]?=some (d,Y):=by
 obtain⟨a,cap,_,_,hr⟩:=h.view
 obtain⟨g,d,Y,_,hT,_,_⟩:=hr k q hq
 exact⟨d,Y,hT⟩
end
end Go.Proofs.YtfmciiffcmfagaaGreat
namespace Go.Proofs.YtfmciiffcmfagaaGreat
open Go.RowKit
theorem run_max_cp {P:Program} {w:World} (ts:Array TypeId) (t:TypeId) (x y:Int):(Builtin.max_ ts t #[.int .i64 x, .int .i64 y]).run P w= .ok (.int .i64 (max x y)) w:=by
 rw [run_max_int2]
 congr 2
 split<;>omega
theorem run_min_cp {P:Program} {w:World} (ts:Array TypeId) (t:TypeId) (x y:Int):(Builtin.min_ ts t #[.int .i64 x, .int .i64 y]).run P w= .ok (.int .i64 (min x y)) w:=by
 rw [run_min_int2]
 congr 2
 split<;>omega
attribute [local go_sem ↓] run_min_cp run_max_cp
theorem cpInfoP:(Tryz.prog.info? tPp).map (fun i=>(i.zero,i.size,i.bytes))=some (some (.pointer none),1,8):=by kernel_rfl
theorem CpI.more {w w4 W5:World} {b d i cap cap5:Nat} {a a5:Option Addr} {X0 Y:List Nat} {T:List Tq} {l:List Rq} {q:Rq} (h:CpI w b X0 T l) (hi:l.length=i) (hc:w.cell? ⟨b,0,none⟩=some (.slice a i cap))
  (t4:Turned [] w w4) (r4:RpAt w4 d Y q) (hY:∀k ∈ Y,w.heap.size≤k)
  (own5:W5.ownsRow 0 tPp 1 (.slice a5 (i+1) cap5) (i+1) (cellsOf encP (T.map (·.1))++[.pointer (some ⟨d,0,none⟩)]))
  (grow5:(w4.alloc (.cells #[.pointer (some ⟨d,0,none⟩)] tPp)).grownBy W5 (Value.slice a i cap).ownBlock)
  (new5:∀g ∈ (Value.slice a5 (i+1) cap5).ownBlock.toList,g ∈ (Value.slice a i cap).ownBlock.toList∨(w4.alloc (.cells #[.pointer (some ⟨d,0,none⟩)] tPp)).heap.size≤g):
  W5.cell? ⟨b,0,none⟩=some (.slice a i cap)∧W5.frozen? ⟨b,0,none⟩=false∧∃X1,CpI (W5.setCell ⟨b,0,none⟩ (.slice a5 (i+1) cap5)) b X1 (T++[(d,Y)]) (l++[q])∧
   Turned X0 w (W5.setCell ⟨b,0,none⟩ (.slice a5 (i+1) cap5))∧Newer X0 w.heap.size X1:=by
 have hX:=h.lt
 have hty:=cpown_types h.own
 obtain⟨v,h1,h2,h3⟩:=h.own
 have hv:v= .slice a i cap:=by
  have:w.cell? ⟨b,0,none⟩=some v:=by simp [World.cell?,h1]
  rw [hc] at this
  exact (Option.some.inj this).symm
 subst hv
 have hT:T.length=i:=h.qs.len.trans hi
 have tw:Turned [] w (w4.alloc (.cells #[.pointer (some ⟨d,0,none⟩)] tPp)):=t4.alloc _
 have e1:cellsOf encP (T.map (·.1))++[.pointer (some ⟨d,0,none⟩)]=cellsOf encP ((T++[(d,Y)]).map (·.1)):=by rw [List.map_append,List.map_cons,List.map_nil,cellsOf_snoc]
 have e2:i+1=((T++[(d,Y)]).map (·.1)).length:=by simp [hT]
 have R:=LAt.appended (W:=w) (W2:=w4.alloc (.cells #[.pointer (some ⟨d,0,none⟩)] tPp)) (W1:=W5) (tS:=tCp) (tE:=tPp) (k:=1) (enc:=encP) (cs:=fun v=> #[v]) (v:= .slice a i cap) (i:=0) (v':= .slice a5 (i+1) cap5) (M:=(T++[(d,Y)]).map (·.1)) (by decide) rfl h1 h2 tw grow5 (by rw [←e1, ←e2];exact own5) new5
 obtain⟨r1,r2,r3,r4'⟩:=R
 rw [←h3] at r3 r4'
 refine⟨by simp [World.cell?,r1],frozen_of_row W5 b 0 _ _ r1,_,⟨r2,?_,fun x hx k hk hk'=>?_,LAt.lt r2⟩,r3,r4'⟩
 ·have ht4:Turned (b::(Value.slice a i cap).ownBlock.toList) w4 (W5.setCell ⟨b,0,none⟩ (.slice a5 (i+1) cap5)):=by
    refine Turned.setCell (Turned.grown (((Turned.refl _ w4).alloc _)) grow5 fun k hk=> .inl (List.mem_cons_of_mem _ (by simp [hk]))) (.inl (by simp)) _
  rw [←h3] at ht4
  have hq:=h.qs.keep (cs_keep rpSaid r3 hty) r3 h.off
  refine hq.push ?_ (fun k hk=>?_) fun x hx k hk hk'=>?_
  ·exact rpSaid.keep r4 ht4 (fun k hk hk'=>by
    have:=hX k hk'
    have:=hY k hk
    omega) (fun k hk cs t fz e=>hty k hk cs t fz (by rw [←t4.block k (hX k hk) (by simp)];exact e))
  ·have:=rpSaid.lt r4 k hk
   exact Nat.lt_of_lt_of_le this ht4.size
  ·have:=h.qs.lt x hx k hk
   have:=hY k hk'
   omega
 ·rcases List.mem_append.1 hx with e|e
  ·rcases r4' k hk' with e'|e'
   ·exact h.off x e k hk e'
   ·have:=h.qs.lt x e k hk
    omega
  ·rw [List.mem_singleton] at e
   subst e
   have hk4:=rpSaid.lt r4 k hk
   have hkw:=hY k hk
   rcases List.mem_cons.1 hk' with e'|e'
   ·have:=hX b (by rw [h3];simp)
    omega
   ·rcases new5 _ e' with e2'|e2'
    ·have:=hX k (by rw [h3];exact List.mem_cons_of_mem _ e2')
     omega
    ·rw [World.size_alloc] at e2'
     omega
theorem cpnew (n grain:Int) (w:World):
  Calls Tryz.prog 5 #[.int .i64 n, .int .i64 grain] w fun e w'=>∃b X0 T,e= .returned (.pointer (some ⟨b,0,none⟩))∧CpI w' b X0 T (newC n grain)∧Turned [] w w'∧∀k ∈ blk X0 T,w.heap.size≤k:=by
 have HNW:=xhd (fun V=>rpNew grain V)
 have hbr:=bring_range (n:=n) (lo:=1) (hi:=4) (by decide)
 have hmm:=bring_minmax (n:=n) (show (1:Int)≤4 by decide)
 unfold newC
 obtain⟨m,hm⟩:∃m:Nat,bringR n 1 4=m:=⟨(bringR n 1 4).toNat,by omega⟩
 rw [hm] at hmm hbr ⊢
 rw [Int.toNat_natCast]
 obtain⟨ii,hi,hz0,hz1,hz2⟩:=info_parts cpInfoP
 have hm4:m≤4:=by omega
 have h0:CpI (w.alloc (.cells #[.slice none 0 0] tCp)) w.heap.size [w.heap.size] [] (List.replicate 0 (Rq.new grain)):=
  ⟨⟨.slice none 0 0,heap_alloc_new w _,World.ownsRow_nil _ _ _ _,rfl⟩,Cs.nil _ _,(fun x hx=>by cases hx),(fun k hk=>by rw [List.mem_singleton] at hk;subst hk;exact lt_of_block (heap_alloc_new w _))⟩
 have H0:=xhd h0
 have HT0:=xhd ((Turned.refl [] w).alloc (.cells #[.slice none 0 0] tCp))
 clear h0 hm hbr
 go_enter Tryz.func5,Tryz.ntmps5
 go_wp2
 (try rw [hmm])
 have HWS:=xhd (Nat.le_refl w.heap.size)
 obtain⟨b,hb⟩:∃b,w.heap.size=b:=⟨_,rfl⟩
 rw [hb] at H0 HWS ⊢
 have HB0:=xhd hb
 clear hb hmm
 go_loopw [11] (fun iv V=>∃(i:Nat) (X0:List Nat) (T:List Tq),i≤m∧iv= .int .i64 i∧Hid (CpI V b X0 T (List.replicate i (Rq.new grain)))∧Hid (Turned [] w V)∧Hid (∀k ∈ blk X0 T,b≤k)) (fun iv _=>m - (intOf iv).toNat)
 case atStart=>exact⟨0,_,_,Nat.zero_le _,rfl,H0,HT0,xhd (fun k hk=>by simp [blk] at hk;omega)⟩
 case round=>
  clear H0 HT0
  obtain⟨i,X0,T,him,rfl,HR,HT,HK⟩:=hrel
  by_cases hlt:i < m
  ·have i1:(i:Int) < m:=by omega
   obtain⟨v,h1,h2,h3⟩:=HR.out.own
   have hTl:T.length=i:=by have:=HR.out.qs.len;simpa using this
   rw [List.length_map,hTl] at h2
   obtain⟨a,cap,rfl,_,_⟩:=ownsRow_shape h2
   have c0:wr.cell? ⟨b,0,none⟩=some (.slice a i cap):=by simp [World.cell?,h1]
   have HO4:=xhd (fun w4 (d:Nat) (t4:Turned [] wr w4)=>And.intro ((ownsRow_same h2 fun g _ hl=>t4.block g hl (by simp)).alloc (.cells #[.pointer (some ⟨d,0,none⟩)] tPp)) trivial)
   have HAP:=xhd (fun w4 d Y (t4:Turned [] wr w4) (r4:RpAt w4 d Y (Rq.new grain)) (y4:∀k ∈ Y,wr.heap.size≤k) a5 cap5 W5 own5 grow5 new5=>CpI.more HR.out (l:=List.replicate i (Rq.new grain)) (i:=i) (cap:=cap) (a:=a) (by simp) c0 t4 r4 y4 (a5:=a5) (cap5:=cap5) (W5:=W5) own5 grow5 new5)
   have HLT:=xhd hlt
   clear h1 h2 h3 hlt hTl
   go_wp2_with fail
   have hmix:Tryz.prog.follows .mixedOrders=true:=by kernel_rfl
   refine wp_region_noPanic ?_
   refine wp_region_lastF (fun V=>V.cell? ⟨b,0,none⟩=some (.slice a i cap)) 11 hmix c0 (fun hS0=>?_)
   refine wpAnyF_free (i:=0) (v:=?_) rfl (by kernel_rfl) (by decide) (fun _ _ _ h=>h) (by kernel_rfl) (by kernel_rfl) (Or.inl ⟨by rfl,?hy⟩) (by assumption) ?_
   case hy=>
    intro w _
    go_simp
    try with_reducible rfl
   try simp only [xga];try simp only [xgs];try simp only [xgz];try simp only [Act.put];try simp only [xsa];try simp only [xss];try simp only [xsz]
   refine wpAnyF_free (i:=1) (v:=?_) rfl (by kernel_rfl) (by decide) (fun _ _ _ h=>h) (by kernel_rfl) (by kernel_rfl) (Or.inl ⟨by rfl,?hy⟩) (by assumption) ?_
   case hy=>
    intro w _
    go_simp
    try with_reducible rfl
   try simp only [xga];try simp only [xgs];try simp only [xgz];try simp only [Act.put];try simp only [xsa];try simp only [xss];try simp only [xsz]
   refine wpAnyF_free (i:=2) (v:=?_) rfl (by kernel_rfl) (by decide) (fun _ _ _ h=>h) (by kernel_rfl) (by kernel_rfl) (Or.inl ⟨by rfl,?hy⟩) (by assumption) ?_
   case hy=>
    intro w _
    go_simp
    try with_reducible rfl
   try simp only [xga];try simp only [xgs];try simp only [xgz];try simp only [Act.put];try simp only [xsa];try simp only [xss];try simp only [xsz]
   refine wpAnyF_free (i:=3) (v:=?_) rfl (by kernel_rfl) (by decide) (fun _ _ _ h=>h) (by kernel_rfl) (by kernel_rfl) (Or.inl ⟨by rfl,?hy⟩) (by assumption) ?_
   case hy=>
    intro w _
    go_simp
    try with_reducible rfl
   try simp only [xga];try simp only [xgs];try simp only [xgz];try simp only [Act.put];try simp only [xsa];try simp only [xss];try simp only [xsz]
   refine wpAnyF_take (i:=4) (v:=?_) rfl (by kernel_rfl) (by kernel_rfl) (fun _ _ _ h=>h) (by kernel_rfl) (by kernel_rfl) (by kernel_rfl) (Or.inl ⟨by rfl,?hy⟩) (by assumption) ?_
   case hy=>
    intro w hSw
    (try dsimp only at hSw)
    have s0:=hSw
    go_simp
    try with_reducible rfl
   try simp only [xga];try simp only [xgs];try simp only [xgz];try simp only [Act.put];try simp only [xsa];try simp only [xss];try simp only [xsz]
   refine wpAnyF_free (i:=5) (v:=?_) rfl (by kernel_rfl) (by decide) (fun _ _ _ h=>h) (by kernel_rfl) (by kernel_rfl) (Or.inl ⟨by rfl,?hy⟩) (by assumption) ?_
   case hy=>
    intro w _
    go_simp
    try with_reducible rfl
   try simp only [xga];try simp only [xgs];try simp only [xgz];try simp only [Act.put];try simp only [xsa];try simp only [xss];try simp only [xsz]
   refine wpAnyF_ready (rs:=[6]) (by kernel_rfl) (by simp) ?_
   refine ReadyF.cons rfl (fun K' hK=>?_) ReadyF.nil
   go_simp
   with_reducible refine (HNW.out _).mono ?_
   rintro e w4 ⟨d,Y,rfl,r4,t4,y4⟩
   have B4:=xhd ((Turned.refl [] wr).drew.join t4)
   have R4:=xhd r4
   have Y4:Hid (∀k ∈ Y,wr.heap.size≤k):=xhd y4
   clear r4 t4 y4
   have c4:w4.cell? ⟨b,0,none⟩=some (.slice a i cap):=B4.out.cell0 c0
   clear c0
   go_wp2_with fail
   refine hK.out _ _ (.inr ?_) ?_
   ·exact c4
   clear hK K'
   try simp only [xga];try simp only [xgs];try simp only [xgz];try simp only [Act.put];try simp only [xsa];try simp only [xss];try simp only [xsz]
   refine wpAnyF_ready (rs:=[7]) (by kernel_rfl) (by simp) ?_
   refine ReadyF.cons rfl (fun K' hK=>?_) ReadyF.nil
   go_simp
   refine hK.out _ _ (.inr ?_) ?_
   ·exact (World.cell?_alloc_old _ _ _ (Nat.ne_of_lt (World.block_lt_of_cell? _ _ c4))).trans c4
   clear hK K'
   try simp only [xga];try simp only [xgs];try simp only [xgz];try simp only [Act.put];try simp only [xsa];try simp only [xss];try simp only [xsz]
   refine wpAnyF_ready (rs:=[8]) (by kernel_rfl) (by simp) ?_
   refine ReadyF.cons rfl (fun K' hK=>?_) ReadyF.nil
   refine wp_append_any _ _ _ 60 rfl tPp ii (.pointer none) 1 8 Tryz.underlying60 hi hz0 hz1 hz2 rfl (by decide) (.slice a i cap) i _ rfl (HO4.out w4 d B4.out).1 (some ⟨w4.heap.size,0,none⟩) 1 1 [.pointer (some ⟨d,0,none⟩)] rfl rfl (by intro h;cases h) (by intro ad had;cases had;exact cell_one_new _ _ _) (by intro y hy;simp at hy;subst hy;rfl) (by unfold maxLen;omega) (by omega) ?_
   intro a5 cap5 W5 own5 grow5 new5
   have HE5:=xhd (HAP.out w4 d Y B4.out R4.out Y4.out a5 cap5 W5 own5 grow5 new5)
   clear own5 grow5 new5
   refine hK.out _ _ (.inr ?_) ?_
   ·exact HE5.out.1
   clear hK K'
   have c5:=HE5.out.1
   have f5:=HE5.out.2.1
   try simp only [xga];try simp only [xgs];try simp only [xgz];try simp only [Act.put];try simp only [xsa];try simp only [xss];try simp only [xsz]
   refine wpAnyF_free (i:=9) (v:=?_) rfl (by kernel_rfl) (by decide) (fun _ _ _ h=>h) (by kernel_rfl) (by kernel_rfl) (Or.inl ⟨by rfl,?hy⟩) (by assumption) ?_
   case hy=>
    intro w _
    go_simp
    try with_reducible rfl
   try simp only [xga];try simp only [xgs];try simp only [xgz];try simp only [Act.put];try simp only [xsa];try simp only [xss];try simp only [xsz]
   refine wpAnyF_free (i:=10) (v:=?_) rfl (by kernel_rfl) (by decide) (fun _ _ _ h=>h) (by kernel_rfl) (by kernel_rfl) (Or.inl ⟨by rfl,?hy⟩) (by assumption) ?_
   case hy=>
    intro w _
    go_simp
    try with_reducible rfl
   try simp only [xga];try simp only [xgs];try simp only [xgz];try simp only [Act.put];try simp only [xsa];try simp only [xss];try simp only [xsz]
   refine wpAnyF_ready (rs:=[11]) (by kernel_rfl) (by simp) ?_
   refine ReadyF.cons rfl (fun K' hK=>?_) ReadyF.nil
   go_simp
   refine hK.out _ _ (.inl (by kernel_rfl)) ?_
   clear hK K'
   try simp only [xga];try simp only [xgs];try simp only [xgz];try simp only [Act.put];try simp only [xsa];try simp only [xss];try simp only [xsz]
   refine wpAnyF_done (by kernel_rfl) ?_ _
   refine NoPanic.normal ?_
   try simp only [xga];try simp only [xgs];try simp only [xgz];try simp only [Act.put];try simp only [xsa];try simp only [xss];try simp only [xsz]
   obtain⟨_,_,X1,r17,t17,n17⟩:=HE5.out
   have hw1:=HT.out.size
   have hwb:=HB0.out
   have hy4:=Y4.out
   have R6:Hid (CpI (W5.setCell ⟨b,0,none⟩ (.slice a5 (i+1) cap5)) b X1 (T++[(d,Y)]) (List.replicate (i+1) (Rq.new grain))):=xhd (by rw [List.replicate_succ'];exact r17)
   have T6:=xhd (HT.out.trans t17 fun k hk=> .inr (by have:=HK.out k (blk_mem.2 (.inl hk));omega))
   have K6:Hid (∀k ∈ blk X1 (T++[(d,Y)]),b≤k):=xhd fun k hk=>by
    rcases blk_mem.1 hk with e|⟨x,hx,e⟩
    ·rcases n17 k e with e'|e'
     ·exact HK.out k (blk_mem.2 (.inl e'))
     ·omega
    ·rcases List.mem_append.1 hx with e'|e'
     ·exact HK.out k (blk_mem.2 (.inr ⟨x,e',e⟩))
     ·rw [List.mem_singleton] at e'
      subst e'
      have:=hy4 k e
      omega
   clear r17 t17 n17 hw1 hwb hy4 HE5 HAP HO4 B4 R4 Y4
   go_wp2
   go_roundw
   case rel=>exact⟨i+1,_,_,by have:=HLT.out;omega,by go_num,R6,T6,K6⟩
   case measure=>have:=HLT.out;simp [intOf];omega
  ·have hik:i=m:=by omega
   subst hik
   have i2:¬(i:Int) < i:=by omega
   go_wp2
   go_ret
   rw [HB0.out]
   exact⟨b,rfl,X0,T,HR.out,HT.out,HK.out⟩
end Go.Proofs.YtfmciiffcmfagaaGreat
namespace Go.Proofs.YtfmciiffcmfagaaGreat
open Go.RowKit
section
variable {w w':World} {b d d':Nat} {X X0 Y Y':List Nat} {T:List Tq} {l:List Rq} {q r:Rq} {c:Int}
theorem rp_add (h:RpAt w b X q) (hq:QOk q c) (id v wt:Int) (hv:Word v):Calls Tryz.prog 35 #[.pointer (some ⟨b,0,none⟩), .int .i64 id, .int .u64 v, .int .i64 wt] w fun e w'=>e= .returned (.tuple #[.int .u64 (addV q id v wt), .int .i64 (addE q id)])∧∃X',RpAt w' b X' (q.add id v wt)∧Turned X w w'∧Newer X w.heap.size X':=by
 obtain⟨bt,br,T,R,B,r,rfl,h⟩:=h
 exact (rpAdd h hq id v wt hv).mono fun e w' ⟨e1,X',h1,h2,h3⟩=>⟨e1,X',h1,up_blocks h2 (fun k hk=>by
  simp at hk
  rcases hk with rfl|rfl
  ·exact mem_blocksQ.2 (.inr (.inl rfl))
  ·exact mem_blocksQ.2 (.inr (.inr (.inl rfl)))),h3⟩
theorem rp_remove (h:RpAt w b X q) (hq:QOk q c) (id:Int):Calls Tryz.prog 39 #[.pointer (some ⟨b,0,none⟩), .int .i64 id] w fun e w'=>e= .returned (.tuple #[.int .u64 (remV q id), .bool (findQ q.l id).isSome])∧∃X',RpAt w' b X' (q.remove id)∧Turned X w w'∧Newer X w.heap.size X':=by
 obtain⟨bt,br,T,R,B,r,rfl,h⟩:=h
 exact (rpRemove h hq id).mono fun e w' ⟨e1,⟨T',R',h1⟩,h2⟩=>⟨e1,_,⟨bt,br,T',R',B,r,rfl,h1⟩,up_blocks h2 (mem_bb h),newer_ids (remove_ids q id) _⟩
theorem cpcarry (h:CpI w b X0 T l) (hc:COk l c) {id:Int} {k t:Nat} (hk:l[k]?=some q) (hf:(findQ q.l id).isSome=true) (ht:t < l.length) (hkt:k≠t) (hTk:T[k]?=some (d,Y)) (hTt:T[t]?=some (d',Y')):
  Calls Tryz.prog 42 #[.int .i64 id, .pointer (some ⟨d,0,none⟩), .pointer (some ⟨d',0,none⟩)] w fun e w'=>e= .returned (.int .i64 0)∧SameAt X0 w w'∧∃T',CpI w' b X0 T' (goC l id k t)∧Turned (blk X0 T) w w'∧Newer (blk X0 T) w.heap.size (blk X0 T'):=by
 obtain⟨⟨x1,x2⟩,hx⟩:=Option.isSome_iff_exists.1 hf
 have hqk:=hc.ok q (mem_at hk)
 have hxm:=findQ_mem hx
 have hw1:Word x1:=hqk.v _ hxm
 have hr:l[t]?=some l[t]:=List.getElem?_eq_getElem ht
 obtain⟨r,hrr⟩:∃r,l[t]=r:=⟨_,rfl⟩
 rw [hrr] at hr
 have hrk:=hc.ok r (mem_at hr)
 have hid:0≤id:=hqk.ids _ hxm
 have hno:(findQ r.l id).isSome=false:=by
  cases he:(findQ r.l id).isSome with
  |false=>rfl
  |true=>exact absurd (hc.one _ _ _ _ id hk hr hf he) hkt
 have hlen:r.l.length < 16:=by have:=allC_two hkt hk hr;have:=hc.all;have:=find_pos hf;omega
 have ee:addE r id=0:=by
  unfold addE
  rw [if_neg (by omega),if_neg (by rw [hno];exact Bool.false_ne_true),if_neg (by omega)]
 have ew:wtV q id=x2:=wtV_some hx
 have ev:remV q id=x1:=remV_some hx
 have hsw:=sub_word hw1 hqk.f
 rw [goC_sets hk hx hr hkt,Int.add_comm r.f,List.set_comm _ _ hkt]
 dsimp only
 obtain⟨v,hv⟩:∃v,satV (subV x1 q.f+r.f)=v:=⟨_,rfl⟩
 have hvw:Word v:=by
  rw [←hv]
  exact sat_word (by have:=hsw.1;have:=hrk.f.1;omega)
 rw [hv]
 have HWT:=xhd (fun V (t':Turned [] w V)=>rp_weight ((h.keep0 t').qs.at_ k _ q hTk hk) id)
 have HVV:=xhd (fun V (t':Turned [] w V)=>rp_vv ((h.keep0 t').qs.at_ k _ q hTk hk) id)
 have HFK:=xhd (fun V (t':Turned [] w V)=>rp_floor ((h.keep0 t').qs.at_ k _ q hTk hk))
 have HFT:=xhd (fun V (t':Turned [] w V)=>rp_floor ((h.keep0 t').qs.at_ t _ r hTt hr))
 have HSUB:=xhd (fun V=>sub_any x1 q.f hw1 hqk.f V)
 have HSUM:=xhd (fun V=>add_any (subV x1 q.f) r.f hsw hrk.f V)
 have HADD:=xhd (fun V (t':Turned [] w V)=>rp_add ((h.keep0 t').qs.at_ t _ r hTt hr) hrk id v x2 hvw)
 have HS1:=xhd (fun V (t':Turned [] w V) V' Y2 (a:RpAt V' d' Y2 (r.add id v x2)) t2 n2=>CpI.set (h.keep0 t') hTt hr a t2 n2)
 have hl1:(l.set t (r.add id v x2))[k]?=some q:=by rw [List.getElem?_set_ne (fun e=>hkt e.symm)];exact hk
 have HREM:=xhd (fun V T1 (h1:CpI V b X0 T1 (l.set t (r.add id v x2))) (hT1:T1[k]?=some (d,Y))=>rp_remove (h1.qs.at_ k _ q hT1 hl1) hqk id)
 have HS2:=xhd (fun V T1 (h1:CpI V b X0 T1 (l.set t (r.add id v x2))) (hT1:T1[k]?=some (d,Y)) V' Y2 (a:RpAt V' d Y2 (q.remove id)) t2 n2=>CpI.set h1 hT1 hl1 a t2 n2)
 have HY1:=xhd (fun V (t':Turned [] w V) V' (t2:Turned Y' V V')=>SameAt.trans (fun j hj=>t'.block j (h.lt j hj) (by simp)) (CpI.same0 (h.keep0 t') hTt t2))
 have HY2:=xhd (fun V T1 (h1:CpI V b X0 T1 (l.set t (r.add id v x2))) (hT1:T1[k]?=some (d,Y)) V' (t2:Turned Y V V')=>CpI.same0 h1 hT1 t2)
 have HT1:Hid (∀Y2,(T.set t (d',Y2))[k]?=some (d,Y)):=xhd fun Y2=>by rw [List.getElem?_set_ne (fun e=>hkt e.symm)];exact hTk
 rw [ew,hf] at HWT
 rw [ev,hf] at HVV
 rw [ee] at HADD
 rw [hv] at HSUM
 obtain⟨s,hs⟩:∃s,subV x1 q.f=s:=⟨_,rfl⟩
 rw [hs] at HSUB HSUM
 obtain⟨f,hf1⟩:∃f,q.f=f:=⟨_,rfl⟩
 obtain⟨f2,hf2⟩:∃f,r.f=f:=⟨_,rfl⟩
 rw [hf1] at HSUB HFK
 rw [hf2] at HSUM HFT
 clear h hc hk hf ht hkt hTk hTt hx hqk hxm hw1 hr hrr hrk hid hno hlen ee ew ev hsw hv hvw hl1 hs hf1 hf2
 go_enter Tryz.func42,Tryz.ntmps42
 go_wp2_with fail
 with_reducible refine (HWT.out _ (Turned.refl _ _)).mono ?_
 rintro e w1 ⟨rfl,t1⟩
 have T1:=xhd t1
 clear t1
 go_wp2_with fail
 with_reducible refine (HVV.out _ T1.out).mono ?_
 rintro e w2 ⟨rfl,t2⟩
 have T2:=xhd (T1.out.join t2)
 clear t2
 go_wp2_with fail
 with_reducible refine (HFK.out _ T2.out).mono ?_
 rintro e w3 ⟨rfl,t3⟩
 have T3:=xhd (T2.out.join t3)
 clear t3
 go_wp2_with fail
 with_reducible refine (HSUB.out _).mono ?_
 rintro e w4 ⟨rfl,rfl⟩
 go_wp2_with fail
 with_reducible refine (HFT.out _ T3.out).mono ?_
 rintro e w5 ⟨rfl,t5⟩
 have T5:=xhd (T3.out.join t5)
 clear t5
 go_wp2_with fail
 with_reducible refine (HSUM.out _).mono ?_
 rintro e w6 ⟨rfl,rfl⟩
 go_wp2_with fail
 with_reducible refine (HADD.out _ T5.out).mono ?_
 rintro e w7 ⟨rfl,Y2,a7,t7,n7⟩
 have HS:=xhd (HS1.out _ T5.out w7 Y2 a7 t7 n7)
 have HM:=xhd (HY1.out _ T5.out w7 t7)
 clear a7 t7 n7
 go_wp2_with fail
 with_reducible refine (HREM.out _ _ HS.out.1 (HT1.out _)).mono ?_
 rintro e w8 ⟨rfl,Y3,a8,t8,n8⟩
 have HE:=xhd (HS2.out _ _ HS.out.1 (HT1.out _) w8 Y3 a8 t8 n8)
 have HN:=xhd (HM.out.trans (HY2.out _ _ HS.out.1 (HT1.out _) w8 t8))
 clear a8 t8 n8
 go_wp2
 go_ret
 have t57:=(T5.out.mono (fun k hk=>by simp at hk)).trans HS.out.2.1 (Newer.refl (blk X0 T) _)
 have n57:Newer (blk X0 T) w.heap.size (blk X0 (T.set t (d',Y2))):=HS.out.2.2.low T5.out.size
 exact⟨rfl,HN.out,_,HE.out.1,t57.trans HE.out.2.1 n57,n57.trans HE.out.2.2 t57.size⟩
end
end Go.Proofs.YtfmciiffcmfagaaGreat
namespace Go.Proofs.YtfmciiffcmfagaaGreat
open Go.RowKit
attribute [local go_sem] Oper.semAt_some
theorem rpNil_find (id:Int) (w:World):Calls Tryz.prog 68 #[.pointer none, .int .i64 id] w fun r w'=>r= .returned (.pointer none)∧w'=w:=by
 go_enter Tryz.func68,Tryz.ntmps68
 go_wp2
 go_ret
 exact⟨rfl,rfl⟩
theorem rpNil_remove (id:Int) (w:World):Calls Tryz.prog 39 #[.pointer none, .int .i64 id] w fun r w'=>r= .returned (.tuple #[.int .u64 0, .bool false])∧Turned [] w w':=by
 have H:=xhd (rpNil_find id w)
 go_enter Tryz.func39,Tryz.ntmps39
 go_wp2_with fail
 with_reducible refine H.out.mono ?_
 rintro e V ⟨rfl,rfl⟩
 go_wp2
 go_ret2
 exact⟨rfl,Turned.refl _ _⟩
theorem rpNil_weigh (id wt:Int) (w:World):Calls Tryz.prog 49 #[.pointer none, .int .i64 id, .int .i64 wt] w fun r w'=>r= .returned (.bool false)∧Turned [] w w':=by
 have H:=xhd (rpNil_find id w)
 go_enter Tryz.func49,Tryz.ntmps49
 go_wp2_with fail
 with_reducible refine H.out.mono ?_
 rintro e V ⟨rfl,rfl⟩
 go_wp2
 go_ret
 exact⟨rfl,Turned.refl _ _⟩
end Go.Proofs.YtfmciiffcmfagaaGreat
namespace Go.Proofs.YtfmciiffcmfagaaGreat
open Go.RowKit
def settleTo (l:List Rq) (k:Nat):List Rq:=(l.take k).map Rq.settle++l.drop k
theorem settleTo_zero (l:List Rq):settleTo l 0=l:=by simp [settleTo]
theorem settleTo_all (l:List Rq):settleTo l l.length=l.map Rq.settle:=by simp [settleTo]
theorem settleTo_at {l:List Rq} {k:Nat} {q:Rq} (h:l[k]?=some q):(settleTo l k)[k]?=some q:=by
 have hk:k < l.length:=(List.getElem?_eq_some_iff.1 h).1
 have hl:((l.take k).map Rq.settle).length=k:=by rw [List.length_map,List.length_take];omega
 unfold settleTo
 rw [List.getElem?_append_right (by omega),hl,Nat.sub_self,List.getElem?_drop,Nat.add_zero,h]
theorem settleTo_succ {l:List Rq} {k:Nat} {q:Rq} (h:l[k]?=some q):settleTo l (k+1)=(settleTo l k).set k q.settle:=by
 have hk:k < l.length:=(List.getElem?_eq_some_iff.1 h).1
 have hl:((l.take k).map Rq.settle).length=k:=by rw [List.length_map,List.length_take];omega
 have hq:l[k]=q:=(List.getElem?_eq_some_iff.1 h).2
 unfold settleTo
 rw [List.take_succ_eq_append_getElem hk,hq,List.map_append,List.drop_eq_getElem_cons hk,hq,List.set_append_right _ _ (by omega),hl,Nat.sub_self]
 simp
section
variable {w w':World} {b d d':Nat} {X X0 Y Y':List Nat} {T:List Tq} {l:List Rq} {q r:Rq} {c:Int}
theorem rp_weigh (h:RpAt w b X q) (hq:QOk q c) (id wt:Int):Calls Tryz.prog 49 #[.pointer (some ⟨b,0,none⟩), .int .i64 id, .int .i64 wt] w fun e w'=>e= .returned (.bool (findQ q.l id).isSome)∧∃X',RpAt w' b X' (q.weigh id wt)∧Turned X w w'∧Newer X w.heap.size X':=by
 obtain⟨bt,br,T,R,B,r,rfl,h⟩:=h
 exact (rpWeigh h hq id wt).mono fun e w' ⟨e1,⟨R',r',h1⟩,Y,hy,h2⟩=>⟨e1,_,⟨bt,br,T,R',B,r',rfl,h1⟩,up_blocks h2 hy,newer_ids (rpweigh_ids q id wt) _⟩
theorem rp_settle (h:RpAt w b X q) (hq:QOk q c):Calls Tryz.prog 51 #[.pointer (some ⟨b,0,none⟩)] w fun e w'=>e= .returned (.tuple #[])∧∃X',RpAt w' b X' q.settle∧Turned X w w'∧Newer X w.heap.size X':=by
 obtain⟨bt,br,T,R,B,r,rfl,h⟩:=h
 exact (rpSettle h hq).mono fun e w' ⟨e1,⟨R',h1⟩,h2⟩=>⟨e1,_,⟨bt,br,T,R',B,r,rfl,h1⟩,up_blocks h2 h.mem,newer_ids (fun x hx=>⟨x,by rw [←settle_ls q];exact hx,rfl⟩) _⟩
theorem cpremove (h:CpI w b X0 T l) (hc:COk l c) (id:Int):
  Calls Tryz.prog 9 #[.pointer (some ⟨b,0,none⟩), .int .i64 id] w fun e w'=>e= .returned (.tuple #[.int .u64 (remCV l id), .bool (ofN l id).isSome])∧∃T',CpI w' b X0 T' (remC l id)∧Turned (blk X0 T) w w'∧Newer (blk X0 T) w.heap.size (blk X0 T'):=by
 cases ho:ofN l id with
 |none=>
  have e1:remCV l id=0:=by unfold remCV;rw [ho]
  have e2:remC l id=l:=by unfold remC;rw [ho]
  rw [e1,e2]
  have HH:=xhd (cphome_no h ho)
  have HR:=xhd (fun V=>rpNil_remove id V)
  have HK:=xhd (fun V (t:Turned [] w V)=>h.keep0 t)
  clear h hc ho e1 e2
  go_enter Tryz.func9,Tryz.ntmps9
  go_wp2_with fail
  with_reducible refine HH.out.mono ?_
  rintro e w1 ⟨rfl,t1⟩
  have T1:=xhd t1
  clear t1
  go_wp2_with fail
  with_reducible refine (HR.out _).mono ?_
  rintro e w2 ⟨rfl,t2⟩
  have T2:=xhd (T1.out.join t2)
  clear t2
  go_wp2
  go_ret2
  exact⟨rfl,T,HK.out _ T2.out,T2.out.mono (fun k hk=>by simp at hk),Newer.refl _ _⟩
 |some k=>
  obtain⟨q,hq,hf,_⟩:=ofN_some ho
  obtain⟨d,Y,hT⟩:=cp_row h hq
  have e1:remCV l id=remV q id:=by unfold remCV;rw [ho];simp only [hq];rfl
  have e2:remC l id=l.set k (q.remove id):=by unfold remC;rw [ho];exact modify_set hq _
  have HH:=xhd (cphome_at h ho hT)
  have HR:=xhd (fun V (t:Turned [] w V)=>rp_remove ((h.keep0 t).qs.at_ k _ q hT hq) (hc.ok q (mem_at hq)) id)
  have HS:=xhd (fun V (t:Turned [] w V) V' Y2 (a:RpAt V' d Y2 (q.remove id)) t2 n2=>CpI.set (h.keep0 t) hT hq a t2 n2)
  rw [hf] at HR
  rw [e1,e2]
  clear h hc ho e1 e2 hq hf hT
  go_enter Tryz.func9,Tryz.ntmps9
  go_wp2_with fail
  with_reducible refine HH.out.mono ?_
  rintro e w1 ⟨rfl,t1⟩
  have T1:=xhd t1
  clear t1
  go_wp2_with fail
  with_reducible refine (HR.out _ T1.out).mono ?_
  rintro e w2 ⟨rfl,Y2,a2,t2,n2⟩
  have HE:=xhd (HS.out _ T1.out _ _ a2 t2 n2)
  clear a2 t2 n2
  go_wp2
  go_ret2
  exact⟨rfl,_,HE.out.1,(T1.out.mono (fun k hk=>by simp at hk)).trans HE.out.2.1 (Newer.refl _ _),HE.out.2.2.low T1.out.size⟩
theorem cpweigh (h:CpI w b X0 T l) (hc:COk l c) (id wt:Int):
  Calls Tryz.prog 16 #[.pointer (some ⟨b,0,none⟩), .int .i64 id, .int .i64 wt] w fun e w'=>e= .returned (.bool (ofN l id).isSome)∧∃T',CpI w' b X0 T' (weighC l id wt)∧Turned (blk X0 T) w w'∧Newer (blk X0 T) w.heap.size (blk X0 T'):=by
 cases ho:ofN l id with
 |none=>
  have e2:weighC l id wt=l:=by unfold weighC;rw [ho]
  rw [e2]
  have HH:=xhd (cphome_no h ho)
  have HR:=xhd (fun V=>rpNil_weigh id wt V)
  have HK:=xhd (fun V (t:Turned [] w V)=>h.keep0 t)
  clear h hc ho e2
  go_enter Tryz.func16,Tryz.ntmps16
  go_wp2_with fail
  with_reducible refine HH.out.mono ?_
  rintro e w1 ⟨rfl,t1⟩
  have T1:=xhd t1
  clear t1
  go_wp2_with fail
  with_reducible refine (HR.out _).mono ?_
  rintro e w2 ⟨rfl,t2⟩
  have T2:=xhd (T1.out.join t2)
  clear t2
  go_wp2
  go_ret
  exact⟨rfl,T,HK.out _ T2.out,T2.out.mono (fun k hk=>by simp at hk),Newer.refl _ _⟩
 |some k=>
  obtain⟨q,hq,hf,_⟩:=ofN_some ho
  obtain⟨d,Y,hT⟩:=cp_row h hq
  have e2:weighC l id wt=l.set k (q.weigh id wt):=by unfold weighC;rw [ho];exact modify_set hq _
  have HH:=xhd (cphome_at h ho hT)
  have HR:=xhd (fun V (t:Turned [] w V)=>rp_weigh ((h.keep0 t).qs.at_ k _ q hT hq) (hc.ok q (mem_at hq)) id wt)
  have HS:=xhd (fun V (t:Turned [] w V) V' Y2 (a:RpAt V' d Y2 (q.weigh id wt)) t2 n2=>CpI.set (h.keep0 t) hT hq a t2 n2)
  rw [hf] at HR
  rw [e2]
  clear h hc ho e2 hq hf hT
  go_enter Tryz.func16,Tryz.ntmps16
  go_wp2_with fail
  with_reducible refine HH.out.mono ?_
  rintro e w1 ⟨rfl,t1⟩
  have T1:=xhd t1
  clear t1
  go_wp2_with fail
  with_reducible refine (HR.out _ T1.out).mono ?_
  rintro e w2 ⟨rfl,Y2,a2,t2,n2⟩
  have HE:=xhd (HS.out _ T1.out _ _ a2 t2 n2)
  clear a2 t2 n2
  go_wp2
  go_ret
  exact⟨rfl,_,HE.out.1,(T1.out.mono (fun k hk=>by simp at hk)).trans HE.out.2.1 (Newer.refl _ _),HE.out.2.2.low T1.out.size⟩
theorem cpsettle (h:CpI w b X0 T l) (hc:COk l c):
  Calls Tryz.prog 18 #[.pointer (some ⟨b,0,none⟩)] w fun e w'=>e= .returned (.tuple #[])∧∃T',CpI w' b X0 T' (l.map Rq.settle)∧Turned (blk X0 T) w w'∧Newer (blk X0 T) w.heap.size (blk X0 T'):=by
 have HL:=xhd (cplen h)
 have HOK:=xhd hc.ok
 have H0:=xhd h
 have hlen:l.length≤4:=hc.len.2
 have HALL:=xhd (settleTo_all l)
 obtain⟨n,hn⟩:∃n,l.length=n:=⟨_,rfl⟩
 have HN:=xhd hn
 rw [hn] at HL hlen HALL
 clear h hn hc
 go_enter Tryz.func18,Tryz.ntmps18
 go_wp2_with fail
 with_reducible refine HL.out.mono ?_
 rintro e w1 ⟨rfl,rfl⟩
 clear HL
 go_wp2
 go_loopw [5] (fun iv V=>∃(k:Nat) (T':List Tq),k≤n∧iv= .int .i64 k∧Hid (CpI V b X0 T' (settleTo l k))∧Hid (Turned (blk X0 T) w V)∧Hid (Newer (blk X0 T) w.heap.size (blk X0 T'))) (fun iv _=>n - (intOf iv).toNat)
 case atStart=>exact⟨0,T,Nat.zero_le _,rfl,by rw [settleTo_zero];exact H0,xhd (Turned.refl _ _),xhd (Newer.refl _ _)⟩
 case round=>
  clear H0
  obtain⟨k,T',hk,rfl,HI,HT,HW⟩:=hrel
  by_cases hlt:k < n
  ·have hq:l[k]?=some (l[k]'(by have:=HN.out;omega)):=List.getElem?_eq_getElem _
   obtain⟨q,hqq⟩:∃q,l[k]'(by have:=HN.out;omega)=q:=⟨_,rfl⟩
   rw [hqq] at hq
   obtain⟨a,cap,c0,_,hr⟩:=HI.out.view
   have hsl:(settleTo l k).length=n:=by
    unfold settleTo
    rw [List.length_append,List.length_map,List.length_take,List.length_drop]
    have:=HN.out
    omega
   obtain⟨g,d,Y,rfl,hT,cp,hat⟩:=hr k q (settleTo_at hq)
   rw [hsl] at c0
   have HAT:=xhd (rp_settle hat (HOK.out q (mem_at hq)))
   have HLT:=xhd hlt
   have HS:=xhd (fun V' Y2 (a:RpAt V' d Y2 q.settle) t2 n2=>CpI.set HI.out hT (settleTo_at hq) a t2 n2)
   have HSS:=xhd (settleTo_succ hq)
   have i1:(0:Int)≤k:=by omega
   have i2:(k:Int) < n:=by omega
   clear hq hqq hat hr hlt hT hsl
   go_wp2_with fail
   with_reducible refine HAT.out.mono ?_
   rintro e w2 ⟨rfl,Y2,a2,t2,n2⟩
   have HE:=xhd (HS.out _ _ a2 t2 n2)
   clear a2 t2 n2 c0 cp
   go_wp2
   go_roundw
   case rel=>exact⟨k+1,_,by have:=HLT.out;omega,by go_num,by rw [HSS.out];exact xhd HE.out.1,xhd (HT.out.trans HE.out.2.1 HW.out),xhd (HW.out.trans HE.out.2.2 HT.out.size)⟩
   case measure=>have:=HLT.out;simp [intOf];omega
  ·have hk':k=n:=by omega
   subst hk'
   have HI2:=xhd (HALL.out ▸ HI.out)
   go_wp2
   refine bodyPost_end (results_none rfl _ _ _) rfl ?_
   exact⟨rfl,T',HI2.out,HT.out,HW.out⟩
theorem cpqueue (h:CpI w b X0 T l) (core:Int):Calls Tryz.prog 20 #[.pointer (some ⟨b,0,none⟩), .int .i64 core] w fun e w'=>e= .returned (.pointer (if core < 0 then none else (T[core.toNat]?).map fun x=>⟨x.1,0,none⟩))∧w=w':=by
 have hl:=h.qs.len
 by_cases h1:core < 0
 ·rw [if_pos h1]
  exact cpqueue_no h (.inl h1)
 ·rw [if_neg h1]
  by_cases h2:(l.length:Int)≤core
  ·rw [List.getElem?_eq_none (by omega),Option.map_none]
   exact cpqueue_no h (.inr h2)
  ·obtain⟨k,rfl⟩:∃k:Nat,core=k:=⟨core.toNat,by omega⟩
   have hq:l[k]?=some (l[k]'(by omega)):=List.getElem?_eq_getElem _
   obtain⟨d,Y,hT⟩:=cp_row h hq
   rw [Int.toNat_natCast,hT,Option.map_some]
   exact cpqueue_at h hq hT
theorem cpadd (h:CpI w b X0 T l) (hc:COk l c) (core id v wt:Int) (hv:Word v):
  Calls Tryz.prog 7 #[.pointer (some ⟨b,0,none⟩), .int .i64 core, .int .i64 id, .int .u64 v, .int .i64 wt] w fun e w'=>e= .returned (.tuple #[.int .u64 (addCV l core id v wt), .int .i64 (addCE l core id)])∧∃T',CpI w' b X0 T' (addC l core id v wt)∧Turned (blk X0 T) w w'∧Newer (blk X0 T) w.heap.size (blk X0 T'):=by
 have HK:=xhd (fun V (t:Turned [] w V)=>h.keep0 t)
 by_cases h1:core < 0∨(l.length:Int)≤core
 ·have e:addCE l core id=1:=if_pos (by omega)
  obtain⟨e1,e2⟩:=addC_no (l:=l) (core:=core) (id:=id) (v:=v) (w:=wt) (by omega)
  rw [e,e1,e2]
  have HQ:=xhd (cpqueue_no h h1)
  clear h hc e e1 e2 h1
  go_enter Tryz.func7,Tryz.ntmps7
  go_wp2_with fail
  with_reducible refine HQ.out.mono ?_
  rintro e w1 ⟨rfl,rfl⟩
  go_wp2
  go_ret2
  exact⟨rfl,T,HK.out _ (Turned.refl _ _),Turned.refl _ _,Newer.refl _ _⟩
 ·obtain⟨k,rfl⟩:∃k:Nat,core=k:=⟨core.toNat,by omega⟩
  have hk:k < l.length:=by omega
  have hq:l[k]?=some l[k]:=List.getElem?_eq_getElem hk
  obtain⟨q,hqq⟩:∃q,l[k]=q:=⟨_,rfl⟩
  rw [hqq] at hq
  obtain⟨d,Y,hT⟩:=cp_row h hq
  have HQ:=xhd (cpqueue_at h hq hT)
  by_cases h2:id < 0
  ·have b2:decide (id < 0)=true:=by simpa using h2
   have e:addCE l k id=1:=if_pos (by omega)
   obtain⟨e1,e2⟩:=addC_no (l:=l) (core:=k) (id:=id) (v:=v) (w:=wt) (by omega)
   rw [e,e1,e2]
   clear h hc e e1 e2 h1 h2 hq hqq hT hk
   go_enter Tryz.func7,Tryz.ntmps7
   go_wp2_with fail
   with_reducible refine HQ.out.mono ?_
   rintro e w1 ⟨rfl,rfl⟩
   go_wp2
   go_ret2
   exact⟨rfl,T,HK.out _ (Turned.refl _ _),Turned.refl _ _,Newer.refl _ _⟩
  ·have b2:decide (id < 0)=false:=by simpa using h2
   have HO:=xhd (cpof h id)
   have h12:¬((k:Int) < 0∨(l.length:Int)≤k∨id < 0):=by omega
   cases ho:ofN l id with
   |some j=>
    rw [ofC_some ho] at HO
    have e:addCE l k id=12:=by unfold addCE;rw [if_neg h12,if_pos (by rw [ofC_some ho];omega)]
    obtain⟨e1,e2⟩:=addC_no (l:=l) (core:=k) (id:=id) (v:=v) (w:=wt) (by omega)
    rw [e,e1,e2]
    have b3:((j:Int) != -1)=true:=by simp
    clear h hc e e1 e2 h1 h2 h12 hq hqq hT hk ho
    go_enter Tryz.func7,Tryz.ntmps7
    go_wp2_with fail
    with_reducible refine HQ.out.mono ?_
    rintro e w1 ⟨rfl,rfl⟩
    go_wp2_with fail
    with_reducible refine HO.out.mono ?_
    rintro e w2 ⟨rfl,t2⟩
    have T2:=xhd t2
    clear t2
    go_wp2
    go_ret2
    exact⟨rfl,T,HK.out _ T2.out,T2.out.mono (fun k hk=>by simp at hk),Newer.refl _ _⟩
   |none=>
    rw [ofC_none ho] at HO
    have hno:¬0≤ofC l id:=by rw [ofC_none ho];decide
    have HALL:=xhd (fun V (t:Turned [] w V)=>cptasks (h.keep0 t) hc.all)
    by_cases h3:16≤allC l
    ·have e:addCE l k id=3:=by unfold addCE;rw [if_neg h12,if_neg hno,if_pos h3]
     obtain⟨e1,e2⟩:=addC_no (l:=l) (core:=k) (id:=id) (v:=v) (w:=wt) (by omega)
     rw [e,e1,e2]
     have h3z:decide ((16:Int)≤(allC l:Int))=true:=by simp;omega
     obtain⟨y,hy⟩:∃y,allC l=y:=⟨_,rfl⟩
     rw [hy] at HALL h3z
     clear h hc e e1 e2 h1 h2 h12 hq hqq hT hk ho hno h3 hy
     go_enter Tryz.func7,Tryz.ntmps7
     go_wp2_with fail
     with_reducible refine HQ.out.mono ?_
     rintro e w1 ⟨rfl,rfl⟩
     go_wp2_with fail
     with_reducible refine HO.out.mono ?_
     rintro e w2 ⟨rfl,t2⟩
     have T2:=xhd t2
     clear t2
     go_wp2_with fail
     with_reducible refine (HALL.out _ T2.out).mono ?_
     rintro e w3 ⟨rfl,t3⟩
     have T3:=xhd (T2.out.join t3)
     clear t3
     go_wp2
     go_ret2
     exact⟨rfl,T,HK.out _ T3.out,T3.out.mono (fun k hk=>by simp at hk),Newer.refl _ _⟩
    ·have e:addCE l k id=0:=by unfold addCE;rw [if_neg h12,if_neg hno,if_neg h3]
     have hnf:(findQ q.l id).isSome=false:=ofN_none ho q (mem_at hq)
     have hqk:=hc.ok q (mem_at hq)
     have hql:=allC_ge hq
     have ee:addE q id=0:=by
      unfold addE
      rw [if_neg (by omega),if_neg (by rw [hnf];exact Bool.false_ne_true),if_neg (by omega)]
     have e1:addCV l k id v wt=addV q id v wt:=by
      unfold addCV
      rw [if_pos e,Int.toNat_natCast,hq]
      rfl
     have e2:addC l k id v wt=l.set k (q.add id v wt):=by
      unfold addC
      rw [if_pos e,Int.toNat_natCast]
      exact modify_set hq _
     have HR:=xhd (fun V (t:Turned [] w V)=>rp_add ((h.keep0 t).qs.at_ k _ q hT hq) hqk id v wt hv)
     have HS:=xhd (fun V (t:Turned [] w V) V' Y2 (a:RpAt V' d Y2 (q.add id v wt)) t2 n2=>CpI.set (h.keep0 t) hT hq a t2 n2)
     rw [ee] at HR
     rw [e,e1,e2]
     have h3z:decide ((16:Int)≤(allC l:Int))=false:=by simp;omega
     obtain⟨y,hy⟩:∃y,allC l=y:=⟨_,rfl⟩
     rw [hy] at HALL h3z
     clear h hc e e1 e2 h1 h2 h12 hq hqq hT hk ho hno h3 hy hnf hqk hql ee
     go_enter Tryz.func7,Tryz.ntmps7
     go_wp2_with fail
     with_reducible refine HQ.out.mono ?_
     rintro e w1 ⟨rfl,rfl⟩
     go_wp2_with fail
     with_reducible refine HO.out.mono ?_
     rintro e w2 ⟨rfl,t2⟩
     have T2:=xhd t2
     clear t2
     go_wp2_with fail
     with_reducible refine (HALL.out _ T2.out).mono ?_
     rintro e w3 ⟨rfl,t3⟩
     have T3:=xhd (T2.out.join t3)
     clear t3
     go_wp2_with fail
     with_reducible refine (HR.out _ T3.out).mono ?_
     rintro e w4 ⟨rfl,Y2,a4,t4,n4⟩
     have HE:=xhd (HS.out _ T3.out _ _ a4 t4 n4)
     clear a4 t4 n4
     go_wp2
     go_ret2
     exact⟨rfl,_,HE.out.1,(T3.out.mono (fun k hk=>by simp at hk)).trans HE.out.2.1 (Newer.refl _ _),HE.out.2.2.low T3.out.size⟩
end
end Go.Proofs.YtfmciiffcmfagaaGreat
namespace Go.Proofs.YtfmciiffcmfagaaGreat
open Go.RowKit
theorem cpInfoQu:(Tryz.prog.info? tQu).map (fun i=>i.size)=some 6:=by kernel_rfl
theorem cpQu_info:∃j,Tryz.prog.info? tQu=some j∧j.size≠0:=by
 have h:=cpInfoQu
 rw [Option.map_eq_some_iff] at h
 obtain⟨j,hj,hs⟩:=h
 exact⟨j,hj,by omega⟩
theorem qp_same (a:Nat) (w:World):(binOp .eql tPp (.pointer (some ⟨a,0,none⟩)) (.pointer (some ⟨a,0,none⟩))).run Tryz.prog w= .ok (.bool true) w:=by
 obtain⟨j,hj,_⟩:=cpQu_info
 exact run_eql_ptr_same w _ Tryz.underlying52 hj
theorem qp_other {a b:Nat} {w:World} {ca cb:Array Value} (hne:a≠b) (ha:w.heap[a]?=some (.cells ca tQu (0,0))) (hb:w.heap[b]?=some (.cells cb tQu (0,0))):
  (binOp .eql tPp (.pointer (some ⟨a,0,none⟩)) (.pointer (some ⟨b,0,none⟩))).run Tryz.prog w= .ok (.bool false) w:=by
 obtain⟨j,hj,hs⟩:=cpQu_info
 exact run_eql_ptr_other w Tryz.underlying52 hj hs (fun e=>hne (by cases e;rfl)) ha hb
section
variable {w w':World} {b d d':Nat} {X X0 Y Y':List Nat} {T:List Tq} {l:List Rq} {q r:Rq} {c:Int}
theorem rp_block (h:RpAt w b X q):b ∈ X∧∃cs,w.heap[b]?=some (.cells cs tQu (0,0)):=by
 obtain⟨bt,br,T,R,B,r,rfl,h⟩:=h
 exact⟨mem_blocksQ.2 (.inl rfl),_,h.h0⟩
theorem moveC_no {l:List Rq} {id core:Int} (h:moveE l id core≠0):moveC l id core=l:=if_neg h
theorem cpmove (h:CpI w b X0 T l) (hc:COk l c) (id core:Int):
  Calls Tryz.prog 11 #[.pointer (some ⟨b,0,none⟩), .int .i64 id, .int .i64 core] w fun e w'=>e= .returned (.int .i64 (moveE l id core))∧∃T',CpI w' b X0 T' (moveC l id core)∧Turned (blk X0 T) w w'∧Newer (blk X0 T) w.heap.size (blk X0 T'):=by
 have HK:=xhd (fun V (t:Turned [] w V)=>h.keep0 t)
 have HQ:=xhd (fun V (t:Turned [] w V)=>cpqueue (h.keep0 t) core)
 cases ho:ofN l id with
 |none=>
  have e:moveE l id core=4:=by unfold moveE;rw [ho]
  rw [moveC_no (by omega),e]
  have HH:=xhd (cphome_no h ho)
  obtain⟨p,hp⟩:∃p,(if core < 0 then none else (T[core.toNat]?).map fun x=>(⟨x.1,0,none⟩:Addr))=p:=⟨_,rfl⟩
  rw [hp] at HQ
  clear h hc ho e hp
  go_enter Tryz.func11,Tryz.ntmps11
  go_wp2_with fail
  with_reducible refine HH.out.mono ?_
  rintro e w1 ⟨rfl,t1⟩
  have T1:=xhd t1
  clear t1
  go_wp2_with fail
  with_reducible refine (HQ.out _ T1.out).mono ?_
  rintro e w2 ⟨rfl,rfl⟩
  go_wp2
  go_ret
  exact⟨rfl,T,HK.out _ T1.out,T1.out.mono (fun k hk=>by simp at hk),Newer.refl _ _⟩
 |some k=>
  obtain⟨q,hq,hf,_⟩:=ofN_some ho
  obtain⟨d,Y,hT⟩:=cp_row h hq
  have HH:=xhd (cphome_at h ho hT)
  by_cases h1:core < 0∨(l.length:Int)≤core
  ·have e:moveE l id core=1:=by unfold moveE;rw [ho];exact if_pos h1
   rw [moveC_no (by omega),e]
   have hp:(if core < 0 then none else (T[core.toNat]?).map fun x=>(⟨x.1,0,none⟩:Addr))=none:=by
    have hl:=h.qs.len
    by_cases h2:core < 0
    ·rw [if_pos h2]
    ·rw [if_neg h2,List.getElem?_eq_none (by omega),Option.map_none]
   rw [hp] at HQ
   clear h hc ho e hp hq hf hT h1
   go_enter Tryz.func11,Tryz.ntmps11
   go_wp2_with fail
   with_reducible refine HH.out.mono ?_
   rintro e w1 ⟨rfl,t1⟩
   have T1:=xhd t1
   clear t1
   go_wp2_with fail
   with_reducible refine (HQ.out _ T1.out).mono ?_
   rintro e w2 ⟨rfl,rfl⟩
   go_wp2
   go_ret
   exact⟨rfl,T,HK.out _ T1.out,T1.out.mono (fun k hk=>by simp at hk),Newer.refl _ _⟩
  ·obtain⟨t,rfl⟩:∃t:Nat,core=t:=⟨core.toNat,by omega⟩
   have ht:t < l.length:=by omega
   have hr:l[t]?=some l[t]:=List.getElem?_eq_getElem ht
   obtain⟨r,hrr⟩:∃r,l[t]=r:=⟨_,rfl⟩
   rw [hrr] at hr
   obtain⟨d',Y',hTt⟩:=cp_row h hr
   have hp:(if (t:Int) < 0 then none else (T[((t:Nat):Int).toNat]?).map fun x=>(⟨x.1,0,none⟩:Addr))=some ⟨d',0,none⟩:=by
    rw [if_neg (by omega),Int.toNat_natCast,hTt]
    rfl
   rw [hp] at HQ
   by_cases h2:k=t
   ·subst h2
    have e:moveE l id k=12:=by
     unfold moveE
     rw [ho]
     show (if _ then _ else _)=_
     rw [if_neg h1,if_pos rfl]
    rw [moveC_no (by omega),e]
    rw [hT] at hTt
    cases hTt
    have heq:=fun w=>qp_same d w
    clear h hc ho e hp hq hf hT h1 hr hrr ht
    go_enter Tryz.func11,Tryz.ntmps11
    go_wp2_with fail
    with_reducible refine HH.out.mono ?_
    rintro e w1 ⟨rfl,t1⟩
    have T1:=xhd t1
    clear t1
    go_wp2_with fail
    with_reducible refine (HQ.out _ T1.out).mono ?_
    rintro e w2 ⟨rfl,rfl⟩
    replace heq:=heq w1
    go_wp2
    go_ret
    exact⟨rfl,T,HK.out _ T1.out,T1.out.mono (fun k hk=>by simp at hk),Newer.refl _ _⟩
   ·have hqk:=hc.ok q (mem_at hq)
    have hid:0≤id:=by
     obtain⟨x,hx⟩:=Option.isSome_iff_exists.1 hf
     exact hqk.ids _ (findQ_mem hx)
    have hcur:((l[k]?).map (·.cur)).getD (-1)=q.cur:=by rw [hq];rfl
    have hktz:¬((k:Int)=(t:Int)):=by omega
    have HC:=xhd (fun V (t:Turned [] w V)=>cpcurrent ((h.keep0 t).qs.at_ k _ q hT hq) hqk id)
    have HEQ:Hid (∀V,Turned [] w V→(binOp .eql tPp (.pointer (some ⟨d,0,none⟩)) (.pointer (some ⟨d',0,none⟩))).run Tryz.prog V= .ok (.bool false) V):=xhd fun V tV=>by
     have a1:=(h.keep0 tV).qs.at_ k _ q hT hq
     have a2:=(h.keep0 tV).qs.at_ t _ r hTt hr
     obtain⟨m1,_,g1⟩:=rp_block a1
     obtain⟨m2,_,g2⟩:=rp_block a2
     exact qp_other (fun e=>h.qs.apart k t _ _ h2 hT hTt d m1 (by rw [e];exact m2)) g1 g2
    by_cases h3:q.cur=id
    ·have e:moveE l id t=8:=by
       unfold moveE
       rw [ho]
       show (if _ then _ else _)=_
       rw [if_neg h1,if_neg hktz,hcur,if_pos h3]
     rw [moveC_no (by omega),e]
     rw [show (decide (0≤q.cur)&&decide (q.cur=id))=true by rw [h3];simpa using hid] at HC
     clear h hc ho e hp hq hf hT h1 hr hrr ht hTt hqk hid hcur hktz h2 h3
     go_enter Tryz.func11,Tryz.ntmps11
     go_wp2_with fail
     with_reducible refine HH.out.mono ?_
     rintro e w1 ⟨rfl,t1⟩
     have T1:=xhd t1
     clear t1
     go_wp2_with fail
     with_reducible refine (HQ.out _ T1.out).mono ?_
     rintro e w2 ⟨rfl,rfl⟩
     have heq:=HEQ.out w1 T1.out
     go_wp2_with fail
     with_reducible refine (HC.out _ T1.out).mono ?_
     rintro e w3 ⟨rfl,t3⟩
     have T3:=xhd (T1.out.join t3)
     clear t3
     go_wp2
     go_ret
     exact⟨rfl,T,HK.out _ T3.out,T3.out.mono (fun k hk=>by simp at hk),Newer.refl _ _⟩
    ·have e:moveE l id t=0:=by
       unfold moveE
       rw [ho]
       show (if _ then _ else _)=_
       rw [if_neg h1,if_neg hktz,hcur,if_neg h3]
     have e2:moveC l id t=goC l id k t:=by
      unfold moveC
      rw [if_pos e,ho,Int.toNat_natCast]
      rfl
     rw [e2,e]
     rw [show (decide (0≤q.cur)&&decide (q.cur=id))=false by simp [h3]] at HC
     have HCA:=xhd (fun V (tV:Turned [] w V)=>cpcarry (h.keep0 tV) hc hq hf ht h2 hT hTt)
     clear h hc ho e e2 hp hq hf hT h1 hr hrr ht hTt hqk hid hcur hktz h2 h3
     go_enter Tryz.func11,Tryz.ntmps11
     go_wp2_with fail
     with_reducible refine HH.out.mono ?_
     rintro e w1 ⟨rfl,t1⟩
     have T1:=xhd t1
     clear t1
     go_wp2_with fail
     with_reducible refine (HQ.out _ T1.out).mono ?_
     rintro e w2 ⟨rfl,rfl⟩
     have heq:=HEQ.out w1 T1.out
     go_wp2_with fail
     with_reducible refine (HC.out _ T1.out).mono ?_
     rintro e w3 ⟨rfl,t3⟩
     have T3:=xhd (T1.out.join t3)
     clear t3 heq
     go_wp2_with fail
     with_reducible refine (HCA.out _ T3.out).mono ?_
     rintro e w4 ⟨rfl,_,T',a4,t4,n4⟩
     have HE:=xhd (And.intro a4 (And.intro t4 n4))
     clear a4 t4 n4
     go_wp2
     go_ret
     exact⟨rfl,T',HE.out.1,(T3.out.mono (fun k hk=>by simp at hk)).trans HE.out.2.1 (Newer.refl _ _),HE.out.2.2.low T3.out.size⟩
end
end Go.Proofs.YtfmciiffcmfagaaGreat
namespace Go.Proofs.YtfmciiffcmfagaaGreat
open Go.RowKit
attribute [local go_sem] Oper.semAt_some
def litQ (q:Rq) (d:Int):Int:=match (sortQ q.ready).find? (fun x=>decide (x.2.2 < d)) with
 |none=> -1
 |some x=>x.1
theorem find_lit {g:Int→Int} {d:Int} :∀ {S:List Tk},(∀y ∈ S,g y.1=y.2.2)→∀ {pre:List (Int×Int)} {x:Int×Int},pre++[x] <+:S.map (fun x=>(x.1,x.2.1))→(∀y ∈ pre,d≤g y.1)→g x.1 < d→
  ∃y ∈ S,S.find? (fun x=>decide (x.2.2 < d))=some y∧y.1=x.1
 |[],_,pre,x,h,_,_=>by
  rw [List.map_nil,List.prefix_nil] at h
  simp at h
 |s::S,hS,[],x,h,_,hx=>by
  rw [List.nil_append,List.map_cons,List.cons_prefix_cons] at h
  obtain⟨rfl,_⟩:=h
  have h1:=hS s (by simp)
  refine⟨s,by simp,?_,rfl⟩
  rw [List.find?_cons_of_pos (by simp only [decide_eq_true_eq];simp only at hx;omega)]
 |s::S,hS,p::pre,x,h,hp,hx=>by
  rw [List.cons_append,List.map_cons,List.cons_prefix_cons] at h
  obtain⟨rfl,h⟩:=h
  have h1:=hS s (by simp)
  have h2:=hp (s.1,s.2.1) (by simp)
  obtain⟨y,hy,h3,h4⟩:=find_lit (fun y hy=>hS y (List.mem_cons_of_mem _ hy)) h (fun y hy=>hp y (List.mem_cons_of_mem _ hy)) hx
  refine⟨y,List.mem_cons_of_mem _ hy,?_,h4⟩
  rw [List.find?_cons_of_neg (by simp only [decide_eq_true_eq];simp only at h2;omega),h3]
theorem wt_ready {q:Rq} {c:Int} (hq:QOk q c):∀y ∈ sortQ q.ready,wtV q y.1=y.2.2:=fun y hy=>by
 have hm:=(ready_sub (mem_sort.1 hy)).1
 rw [wtV_some (find_mem hq.uniq hm)]
theorem lit_at {q:Rq} {c d:Int} (hq:QOk q c) {pre:List (Int×Int)} {x:Int×Int} (h:pre++[x] <+:rdyL q) (hp:∀y ∈ pre,d≤wtV q y.1) (hx:wtV q x.1 < d):litQ q d=x.1:=by
 obtain⟨y,_,h1,h2⟩:=find_lit (wt_ready hq) h hp hx
 unfold litQ
 rw [h1]
 exact h2
theorem lit_no {q:Rq} {c d:Int} (hq:QOk q c) (h:∀y ∈ rdyL q,d≤wtV q y.1):litQ q d= -1:=by
 unfold litQ
 rw [List.find?_eq_none.2 fun y hy=>by
  have h1:=h (y.1,y.2.1) (List.mem_map.2 ⟨y,hy,rfl⟩)
  have h2:=wt_ready hq y hy
  simp only [decide_eq_true_eq]
  simp only at h1
  omega]
structure LgB (w w2 V:World) (p:Value) (d s:Int) (Y Z:List Nat):Prop where
 t:Turned [] w V
 r0:V.heap[w.heap.size]?=some (.cells #[p] tPp (0,0))
 r1:V.heap[w.heap.size+1]?=some (.cells #[.int .i64 d] 3 (0,0))
 r2:V.heap[w.heap.size+2]?=some (.cells #[.int .i64 s] 3 (0,0))
 ym:SameAt Y w2 V
 zm:∀k ∈ Z,w2.heap.size≤k∧k < V.heap.size
 sz:w2.heap.size≤V.heap.size
section
variable {w w2 A B:World} {p:Value} {d s:Int} {Y Z Z':List Nat}
theorem LgB.mild (h:LgB w w2 A p d s Y Z) (m:Mild Z w2.heap.size A B) (hN:w.heap.size+3≤w2.heap.size) (hY:∀k ∈ Y,k < w2.heap.size) (hn:Newer Z A.heap.size Z') (hb:∀k ∈ Z',k < B.heap.size):LgB w w2 B p d s Y Z':=by
 have off:∀k,k < w2.heap.size→k ∉ Z:=fun k hk hz=>by have:=(h.zm k hz).1;omega
 refine⟨h.t.mild m (by omega) (fun k hk=>by have:=(h.zm k hk).1;omega),m.cells h.r0 (off _ (by omega)),m.cells h.r1 (off _ (by omega)),m.cells h.r2 (off _ (by omega)),fun k hk=>?_,fun k hk=>⟨?_,hb k hk⟩,Nat.le_trans h.sz m.size⟩
 ·have h1:=hY k hk
  have h2:A.heap[k]?=some (A.heap[k]'(by have:=h.sz;omega)):=Array.getElem?_eq_getElem _
  rw [m.same k _ h2 (off k h1) (.inl h1), ←h2]
  exact h.ym k hk
 ·rcases hn k hk with h1|h1
  ·exact (h.zm k h1).1
  ·have:=h.sz;omega
theorem LgB.later (h:LgB w w2 A p d s Y Z) (t:Turned [] A B) (hY:∀k ∈ Y,k < w2.heap.size):LgB w w2 B p d s Y Z:=
 ⟨h.t.join t,t.same h.r0 (by simp),t.same h.r1 (by simp),t.same h.r2 (by simp),fun k hk=>(t.block k (Nat.lt_of_lt_of_le (hY k hk) h.sz) (by simp)).trans (h.ym k hk),fun k hk=>⟨(h.zm k hk).1,Nat.lt_of_lt_of_le (h.zm k hk).2 t.size⟩,Nat.le_trans h.sz t.size⟩
theorem LgB.set (h:LgB w w2 A p d s Y Z) (hY:∀k ∈ Y,k≠w.heap.size+2) (s':Int):LgB w w2 (A.setCell ⟨w.heap.size+2,0,none⟩ (.int .i64 s')) p d s' Y Z:=by
 have T:=(Turned.refl [w.heap.size+2] A).setCell (p:=⟨w.heap.size+2,0,none⟩) (.inl (by simp)) (.int .i64 s')
 refine⟨h.t.trans' T (fun k hk=>by simp at hk;omega),(Below.heap_setCell _ _ _ _ (by simp)).trans h.r0,(Below.heap_setCell _ _ _ _ (by simp)).trans h.r1,?_,fun k hk=>(Below.heap_setCell _ _ _ k (hY k hk)).trans (h.ym k hk),fun k hk=>?_,Nat.le_trans h.sz T.size⟩
 ·rw [heap_setCell_same _ _ _ _ _ _ h.r2]
  rfl
 ·have:=h.zm k hk
  exact⟨this.1,Nat.lt_of_lt_of_le this.2 T.size⟩
theorem keeps_turned0 {A B:World} (t:Turned [] A B) (n:Nat):KeepsFrom n A B:=⟨t.size,fun k o _ hk _=>t.same hk (by simp)⟩
end
section
variable {w w':World} {b d:Nat} {X X0 Y:List Nat} {T:List Tq} {l:List Rq} {q:Rq} {c:Int}
theorem rp_ready (h:RpAt w b X q) (hq:QOk q c):Calls Tryz.prog 74 #[.pointer (some ⟨b,0,none⟩)] w fun e w'=>∃Bx,e= .returned (.func (.func 93) #[] #[.pointer (some ⟨Bx,0,none⟩)])∧Turned [] w w'∧
  ∃Y:List Nat,(∀k ∈ Y,k < w'.heap.size∧∃cs,w'.heap[k]?=some (.cells cs tNd (0,0)))∧∀n,TurnSeqY Fence.wide n Tryz.prog 93 #[.pointer (some ⟨Bx,0,none⟩)] encR Y [] (fun xs=>xs <+:rdyL q) (fun xs _ _=>xs=rdyL q) (fun xs _ _=>xs <+:rdyL q) w':=by
 obtain⟨bt,br,T,R,B,r,rfl,h⟩:=h
 exact rpReady h hq
theorem int_result2 {fn:Func} {p:Tmp} (hf:fn.results= #[.cell p 3]) {tmps:Array Value} {w:World} {N:Nat} {s:Int}
  (q1:tmps.getD p undef= .pointer (some ⟨N,0,none⟩)) (h0:w.heap[N]?=some (.cells #[.int .i64 s] 3 (0,0))):(results fn tmps).run Tryz.prog w= .ok (.int .i64 s) w:=by
 have a0:=cell1 h0
 have q1':tmps[p]?.getD undef= .pointer (some ⟨N,0,none⟩):=by simpa using q1
 simp [results,hf,q1',loadVar,go_sem,a0,asAddr,Sem.run_bind,Result.andThen]
theorem cplighter (h:RpAt w b X q) (hq:QOk q c) (d:Int):
  Calls Tryz.prog 45 #[.pointer (some ⟨b,0,none⟩), .int .i64 d] w fun e w'=>e= .returned (.int .i64 (litQ q d))∧Turned [] w w':=by
 obtain⟨N,hN⟩:∃N,w.heap.size=N:=⟨_,rfl⟩
 obtain⟨W,hW⟩:∃W,((w.alloc (.cells #[.pointer (some ⟨b,0,none⟩)] tPp)).alloc (.cells #[.int .i64 d] 3)).alloc (.cells #[.int .i64 0] 3)=W:=⟨_,rfl⟩
 have TW:Turned [] w W:=hW ▸ (((Turned.refl [] w).alloc _).alloc _).alloc _
 have e0:W.heap[w.heap.size]?=some (.cells #[.pointer (some ⟨b,0,none⟩)] tPp (0,0)):=by
  rw [←hW];exact ((Below.heap_alloc _ _ _ (by simp;omega)).trans (Below.heap_alloc _ _ _ (by simp))).trans (heap_alloc_new w _)
 have e1:W.heap[w.heap.size+1]?=some (.cells #[.int .i64 d] 3 (0,0)):=by
  have q:=heap_alloc_new (w.alloc (.cells #[.pointer (some ⟨b,0,none⟩)] tPp)) (.cells #[.int .i64 d] 3)
  rw [show (w.alloc (.cells #[.pointer (some ⟨b,0,none⟩)] tPp)).heap.size=w.heap.size+1 by simp] at q
  rw [←hW];exact (Below.heap_alloc _ _ _ (by simp)).trans q
 have e2:W.heap[w.heap.size+2]?=some (.cells #[.int .i64 0] 3 (0,0)):=by
  have q:=heap_alloc_new ((w.alloc (.cells #[.pointer (some ⟨b,0,none⟩)] tPp)).alloc (.cells #[.int .i64 d] 3)) (.cells #[.int .i64 0] 3)
  rw [show ((w.alloc (.cells #[.pointer (some ⟨b,0,none⟩)] tPp)).alloc (.cells #[.int .i64 d] 3)).heap.size=w.heap.size+2 by simp] at q
  rw [←hW];exact q
 have hs3:w.heap.size+3≤W.heap.size:=lt_of_block e2
 have HA:=xhd (rp_ready (rp_keep0 h TW) hq)
 have HWT:=xhd (fun V (t:Turned [] w V) id=>rp_weight (rp_keep0 h t) id)
 have HLA:=xhd (fun pre x h1 h2 h3=>lit_at (d:=d) hq (pre:=pre) (x:=x) h1 h2 h3)
 have HLN:=xhd (fun h1=>lit_no (d:=d) hq h1)
 have HE:=xhd (And.intro e0 (And.intro e1 e2))
 have HT:=xhd TW
 have HW:=xhd hW
 have b0:W.cell? ⟨N,0,none⟩=some (.pointer (some ⟨b,0,none⟩)):=by rw [hN] at e0;exact cell1 e0
 clear h hq hW TW e0 e1 e2
 refine callsIn_wide.1 (?_:CallsIn Fence.wide 20 _ _ _ _ _)
 refine callsIn_of_wp_marks Tryz.func45 rfl trivial ?_ rfl
 simp only [Tryz.ntmps45,List.size_toArray,List.length_cons,List.length_nil,Nat.reduceAdd,Nat.reduceSub,Array.replicate_succ,Array.replicate_zero,List.push_toArray,List.append_toArray,List.nil_append,List.cons_append]
 refine wpIn_wide.2 ?_
 rw [hN] at hs3
 go_wp2_with fail
 (try simp only [Nat.add_assoc,Nat.reduceAdd])
 (try rw [HW.out])
 (try rw [hN])
 (try go_wp2_with fail)
 with_reducible refine HA.out.mono ?_
 rintro e w2 ⟨Bx,rfl,t2,Y,hY,hseq⟩
 have hN3:w.heap.size+3≤w2.heap.size:=by have:=t2.size;omega
 have F0:LgB w w2 w2 (.pointer (some ⟨b,0,none⟩)) d 0 Y []:=⟨HT.out.join t2,t2.same HE.out.1 (by simp),t2.same HE.out.2.1 (by simp),t2.same HE.out.2.2 (by simp),SameAt.refl _ _,fun k hk=>by simp at hk,Nat.le_refl _⟩
 have hYo:∀k ∈ Y,k≠w.heap.size+2:=fun k hk e=>by
  obtain⟨_,cs,hc⟩:=hY k hk
  rw [e,F0.r2] at hc
  injection hc with hc
  injection hc with _ hc
  exact absurd hc (by decide)
 have hYl:∀k ∈ Y,k < w2.heap.size:=fun k hk=>(hY k hk).1
 have HF0:=xhd F0
 have HYO:=xhd hYo
 have HYL:=xhd hYl
 have HSQ:=xhd hseq
 have HN3:=xhd hN3
 have HNN:=xhd hN
 clear t2 hY hseq F0 hYo hYl hN3 hN hs3 HA HE HT HW b0
 go_wp2_with fail
 refine (wpIn_wide (n:=20)).1 ?_
 refine range_turnsY_plain rfl (by omega) rfl trivial (fun _ _=>rfl) (Y:=Y) (X:=[]) (by simp) HYL.out (HSQ.out 19) (fun _=>rfl) (fun _ _ _ _ h _=>h) (fun _ _ _ _ h _=>h)
  (fun xs Z V=>(∀y ∈ xs,d≤wtV q y.1)∧LgB w w2 V (.pointer (some ⟨b,0,none⟩)) d 0 Y Z)
  (fun cc xs Z V=>cc= .ret∧∃pre x,xs=pre++[x]∧(∀y ∈ pre,d≤wtV q y.1)∧wtV q x.1 < d∧LgB w w2 V (.pointer (some ⟨b,0,none⟩)) d x.1 Y Z)
  (fun xs Z Z' A B h m hn hb=>⟨h.1,h.2.mild m HN3.out HYL.out hn hb⟩)
  (fun cc xs Z Z' A B h m hn hb=>⟨h.1,by obtain⟨pre,x,h1,h2,h3,hf⟩:=h.2;exact⟨pre,x,h1,h2,h3,hf.mild m HN3.out HYL.out hn hb⟩⟩)
  ⟨by simp,HF0.out⟩ (fun _ _ _ h=>h.2.ym) (fun _ _ _ _ h=>by obtain⟨_,_,_,_,_,_,hf⟩:=h;exact hf.ym) ?a1 ?assign ?body ?done ?stop
 case assign=>
  intro l' x V K hK
  gi_wp2
  exact hK
 case body=>
  rintro l' pre ⟨x1,x2⟩ Z V ⟨hall,hI⟩ hsp
  have b0:V.cell? ⟨N,0,none⟩=some (.pointer (some ⟨b,0,none⟩)):=by have:=hI.r0;rw [HNN.out] at this;exact cell1 this
  have HC:=xhd (HWT.out V hI.t x1)
  have HI:=xhd hI
  have HALL:=xhd hall
  clear hI hall hsp
  dsimp only
  obtain⟨z,hz⟩:∃z,wtV q x1=z:=⟨_,rfl⟩
  obtain⟨bb,hbb⟩:∃bb,(findQ q.l x1).isSome=bb:=⟨_,rfl⟩
  rw [hz,hbb] at HC
  have HZ:=xhd hz
  clear hz hbb
  gi_wp2_with fail
  refine⟨trivial,?_⟩
  refine (CallsIn.inRound l' (callsIn_wide.2 HC.out)).mono ?_
  rintro e V1 ⟨rfl,t1⟩
  have HI1:=xhd (HI.out.later t1 HYL.out)
  have HK1:=xhd (keeps_turned0 t1 w2.heap.size)
  have HZ1:Hid (SameAt Z V V1):=xhd fun k hk=>t1.block k (HI.out.zm k hk).2 (by simp)
  have b1:V1.cell? ⟨N+1,0,none⟩=some (.int .i64 d):=by have:=HI1.out.r1;rw [HNN.out] at this;exact cell1 this
  clear t1 b0
  by_cases hlt:z < d
  ·have b2:V1.cell? ⟨N+2,0,none⟩=some (.int .i64 0):=by have:=HI1.out.r2;rw [HNN.out] at this;exact cell1 this
   have f2:V1.frozen? ⟨N+2,0,none⟩=false:=by have:=HI1.out.r2;rw [HNN.out] at this;exact frozen_of_row V1 (N+2) 0 _ _ this
   have HS:=HI1.out.set HYO.out x1
   rw [HNN.out] at HS
   have HLT:=xhd hlt
   have HSS:=xhd HS
   have hz3:∀k ∈ Z,N+3≤k:=fun k hk=>by have h1:=(HI1.out.zm k hk).1;have h2:=HN3.out;rw [HNN.out] at h2;omega
   have R:Hid (KeepsFrom w2.heap.size V (V1.setCell ⟨N+2,0,none⟩ (.int .i64 x1))∧SameAt Z V (V1.setCell ⟨N+2,0,none⟩ (.int .i64 x1))):=xhd ⟨HK1.out.trans ((KeepsOthers.setCell _ _ _).from _),fun k hk=>(Below.heap_setCell _ _ _ k (by have:=hz3 k hk;simp;omega)).trans (HZ1.out k hk)⟩
   clear HS hz3
   gi_wp2
   exact⟨R.out.1,R.out.2,rfl,pre,(x1,x2),rfl,HALL.out,by rw [HZ.out];exact HLT.out,HSS.out⟩
  ·have HLT:=xhd hlt
   gi_wp2
   refine⟨HK1.out,HZ1.out,fun y hy=>?_,HI1.out⟩
   rcases List.mem_append.1 hy with h1|h1
   ·exact HALL.out y h1
   ·rw [List.mem_singleton] at h1
    subst h1
    have:=HLT.out
    have:=HZ.out
    dsimp only
    omega
 case done=>
  rintro D xs Z V hD hz rfl ⟨hall,hI⟩ hK
  have b2:V.cell? ⟨N+2,0,none⟩=some (.int .i64 0):=by have:=hI.r2;rw [HNN.out] at this;exact cell1 this
  have f2:V.frozen? ⟨N+2,0,none⟩=false:=by have:=hI.r2;rw [HNN.out] at this;exact frozen_of_row V (N+2) 0 _ _ this
  have hS:=hI.set HYO.out (-1)
  have HV:=xhd (HLN.out hall)
  rw [HNN.out] at hS
  have HS:=xhd hS
  have HD:Hid (N+3≤D):=xhd (by have:=HN3.out;rw [HNN.out] at this;omega)
  have HKD:Hid ((V.setCell ⟨N+2,0,none⟩ (.int .i64 (-1))).heap[D]?=some (.deferred (some []))):=xhd ((Below.heap_setCell _ _ _ D (by have:=HD.out;simp;omega)).trans hK)
  clear hS hI hK hall hz
  go_wp2
  refine⟨by simp, .inl ⟨_,_,rfl,run_takeDeferred HKD.out,?_⟩⟩
  have hd:=HD.out
  have HI:=HS.out
  have i2:=HI.r2
  rw [HNN.out] at i2
  refine⟨_,int_result2 (N:=N+2) rfl rfl ((World.putObj_heap_other (by omega)).trans i2),?_,HI.t.put (by rw [HNN.out];omega) _⟩
  rw [HV.out]
 case stop=>
  rintro D cc xs Z V hD hz hsx ⟨rfl,pre,x,rfl,hp,hx,hI⟩ hK
  have HV:=xhd (HLA.out pre x hsx hp hx)
  have HD:w.heap.size+3≤D:=Nat.le_trans HN3.out hD
  refine wpIn_ret ?_
  simp only [Exit.inBlock]
  refine⟨by simp, .inl ⟨_,_,rfl,run_takeDeferred hK,?_⟩⟩
  refine⟨_,int_result2 (N:=w.heap.size+2) rfl (by rw [HNN.out];rfl) ((World.putObj_heap_other (by omega)).trans hI.r2),?_,hI.t.put (by omega) _⟩
  rw [HV.out]
end
end Go.Proofs.YtfmciiffcmfagaaGreat
