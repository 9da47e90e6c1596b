/-
  What is to be said of the program's cores, for the laws of stage 17: their own blocks, and queues of stage 16's, apart.
  What the cores keep, deed by deed; no program.
  The document's cores: Of, All, Remove.
  The document's cores: Remove, Add.
  The document's move.
  The document's Move.
  The document's Balance.
-/
import Derived.Test.YtfmciiffcmfagaaGreatZAF
import Derived.Test.YtfmciiffcmfagaaGreatZAB
import Derived.Test.YtfmciiffcmfagaaGreatZAD
import Derived.Test.YtfmciiffcmfagaaGreatZAC
import Derived.Test.YtfmciiffcmfagaaGreatZAE
import Derived.BigQuiet
import Derived.StillTailTactics
import Derived.Deep.CutRange
import Derived.Deep.RegionHeld3
import Derived.Test.YtfmciiffcmfagaaGreatZAl
set_option maxRecDepth 100000
set_option maxHeartbeats 25600000
namespace Go.Proofs.YtfmciiffcmfagaaGreat
open Go.RowKit
def wtsQ (q:Rq):List (Int×Int):=q.l.map fun x=>(x.1,x.2.2)
def newC (n g:Int):List Rq:=List.replicate (bringR n 1 4).toNat (Rq.new g)
def addCV (l:List Rq) (core id v w:Int):Int:=if addCE l core id=0 then ((l[core.toNat]?).map (fun q=>addV q id v w)).getD 0 else 0
def remCV (l:List Rq) (id:Int):Int:=match ofN l id with
 |none=>0
 |some k=>((l[k]?).map (fun q=>remV q id)).getD 0
def weighC (l:List Rq) (id w:Int):List Rq:=match ofN l id with
 |none=>l
 |some k=>l.modify k (fun q=>q.weigh id w)
def balV (l:List Rq):Int×Int×Int:=match balC l with
 |none=>(-1, -1, -1)
 |some (id,k,t)=>(id,k,t)
structure CAt (Own:World→Nat→List Nat→List Tq→List Rq→Prop) (A:World→Nat→List Nat→Rq→Prop) (w:World) (b:Nat) (X0:List Nat) (T:List Tq) (l:List Rq):Prop where
 own:Own w b X0 T l
 qs:Cs A w T l
 off:∀x ∈ T,∀k ∈ x.2,k ∉ X0
 lt:∀k ∈ X0,k < w.heap.size
structure CoSaid (S:RqSaid) where
 Own:World→Nat→List Nat→List Tq→List Rq→Prop
 offC:S.tn tC17=false
 offP:S.tn tP17=false
 keep:∀ {w w':World} {b:Nat} {X0 Y:List Nat} {T:List Tq} {l:List Rq},Own w b X0 T l→Turned Y w w'→(∀k ∈ X0,k ∉ Y)→(∀k ∈ Y,∀cs t fz,w.heap[k]?=some (.cells cs t fz)→S.tn t=false)→Own w' b X0 T l
 same:∀ {w:World} {b:Nat} {X0:List Nat} {T T':List Tq} {l l':List Rq},Own w b X0 T l→l'.map wtsQ=l.map wtsQ→T'.map (·.1)=T.map (·.1)→Own w b X0 T' l'
 own:∀ {w:World} {b:Nat} {X0:List Nat} {T:List Tq} {l:List Rq},Own w b X0 T l→∀k ∈ X0,∀cs t fz,w.heap[k]?=some (.cells cs t fz)→S.tn t=false
 new:∀(n g:Int) (w:World),isI n→isI g→Calls Tryz.prog 5 #[.int .i64 n, .int .i64 g] w fun e w'=>∃b X0 T,e= .returned (.pointer (some ⟨b,0,none⟩))∧CAt Own S.At w' b X0 T (newC n g)∧Turned [] w w'∧∀k ∈ blk X0 T,w.heap.size≤k
 add:∀ {w:World} {b:Nat} {X0:List Nat} {T:List Tq} {l:List Rq} {c:Int} (core id v wt:Int),CAt Own S.At w b X0 T l→COk l c→c≤10000→isI core→isI id→isI wt→Word v→
  Calls Tryz.prog 7 #[.pointer (some ⟨b,0,none⟩), .int .i64 core, .int .i64 id, .int .u64 v, .int .i64 wt] w fun e w'=>e= .returned (.tuple #[.int .u64 (addCV l core id v wt), .int .i64 (addCE l core id)])∧∃X0' T',CAt Own S.At w' b X0' T' (addC l core id v wt)∧Turned (blk X0 T) w w'∧Newer (blk X0 T) w.heap.size (blk X0' T')
 remove:∀ {w:World} {b:Nat} {X0:List Nat} {T:List Tq} {l:List Rq} {c:Int} (id:Int),CAt Own S.At w b X0 T l→COk l c→c≤10000→isI id→
  Calls Tryz.prog 9 #[.pointer (some ⟨b,0,none⟩), .int .i64 id] w fun e w'=>e= .returned (.tuple #[.int .u64 (remCV l id), .bool (ofN l id).isSome])∧∃X0' T',CAt Own S.At w' b X0' T' (remC l id)∧Turned (blk X0 T) w w'∧Newer (blk X0 T) w.heap.size (blk X0' T')
 move:∀ {w:World} {b:Nat} {X0:List Nat} {T:List Tq} {l:List Rq} {c:Int} (id core:Int),CAt Own S.At w b X0 T l→COk l c→c≤10000→isI id→isI core→
  Calls Tryz.prog 11 #[.pointer (some ⟨b,0,none⟩), .int .i64 id, .int .i64 core] w fun e w'=>e= .returned (.int .i64 (moveE l id core))∧∃X0' T',CAt Own S.At w' b X0' T' (moveC l id core)∧Turned (blk X0 T) w w'∧Newer (blk X0 T) w.heap.size (blk X0' T')
 bal:∀ {w:World} {b:Nat} {X0:List Nat} {T:List Tq} {l:List Rq} {c:Int},CAt Own S.At w b X0 T l→COk l c→c≤10000→
  Calls Tryz.prog 13 #[.pointer (some ⟨b,0,none⟩)] w fun e w'=>e= .returned (.tuple #[.int .i64 (balV l).1, .int .i64 (balV l).2.1, .int .i64 (balV l).2.2, .bool (balC l).isSome])∧∃X0' T',CAt Own S.At w' b X0' T' (balanceC l)∧Turned (blk X0 T) w w'∧Newer (blk X0 T) w.heap.size (blk X0' T')
 weigh:∀ {w:World} {b:Nat} {X0:List Nat} {T:List Tq} {l:List Rq} {c:Int} (id wt:Int),CAt Own S.At w b X0 T l→COk l c→c≤10000→isI id→isI wt→
  Calls Tryz.prog 16 #[.pointer (some ⟨b,0,none⟩), .int .i64 id, .int .i64 wt] w fun e w'=>e= .returned (.bool (ofN l id).isSome)∧∃X0' T',CAt Own S.At w' b X0' T' (weighC l id wt)∧Turned (blk X0 T) w w'∧Newer (blk X0 T) w.heap.size (blk X0' T')
 settle:∀ {w:World} {b:Nat} {X0:List Nat} {T:List Tq} {l:List Rq} {c:Int},CAt Own S.At w b X0 T l→COk l c→c≤10000→
  Calls Tryz.prog 18 #[.pointer (some ⟨b,0,none⟩)] w fun e w'=>e= .returned (.tuple #[])∧∃X0' T',CAt Own S.At w' b X0' T' (l.map Rq.settle)∧Turned (blk X0 T) w w'∧Newer (blk X0 T) w.heap.size (blk X0' T')
 of:∀ {w:World} {b:Nat} {X0:List Nat} {T:List Tq} {l:List Rq} {c:Int} (id:Int),CAt Own S.At w b X0 T l→COk l c→c≤10000→isI id→
  Calls Tryz.prog 29 #[.pointer (some ⟨b,0,none⟩), .int .i64 id] w fun e w'=>e= .returned (.int .i64 (ofC l id))∧Turned [] w w'
 len:∀ {w:World} {b:Nat} {X0:List Nat} {T:List Tq} {l:List Rq} {c:Int},CAt Own S.At w b X0 T l→COk l c→c≤10000→
  Calls Tryz.prog 30 #[.pointer (some ⟨b,0,none⟩)] w fun e w'=>e= .returned (.int .i64 (l.length:Nat))∧Turned [] w w'
 loads:∀ {w:World} {b:Nat} {X0:List Nat} {T:List Tq} {l:List Rq} {c:Int},CAt Own S.At w b X0 T l→COk l c→c≤10000→
  Calls Tryz.prog 28 #[.pointer (some ⟨b,0,none⟩)] w fun e w'=>∃g cap,e= .returned (.slice (some ⟨g,0,none⟩) l.length cap)∧Turned [] w w'∧w.heap.size≤g∧l.length≤cap∧cap≤maxLen∧∀i q,l[i]?=some q→w'.cell? ⟨g,i,none⟩=some (.int .i64 (loadQ q))
 queue:∀ {w:World} {b:Nat} {X0:List Nat} {T:List Tq} {l:List Rq} {c:Int} (core:Int),CAt Own S.At w b X0 T l→COk l c→c≤10000→isI core→
  Calls Tryz.prog 20 #[.pointer (some ⟨b,0,none⟩), .int .i64 core] w fun e w'=>e= .returned (.pointer (if core < 0 then none else (T[core.toNat]?).map fun x=>⟨x.1,0,none⟩))∧Turned [] w w'
section
variable {S:RqSaid} {C:CoSaid S} {w w':World} {b d:Nat} {X0 X0' Y Y':List Nat} {T T':List Tq} {l:List Rq} {q q':Rq}
theorem cs_keep (S:RqSaid) (t:Turned Y w w') (ho:∀k ∈ Y,∀cs t fz,w.heap[k]?=some (.cells cs t fz)→S.tn t=false):∀ {b:Nat} {X:List Nat} {q:Rq},S.At w b X q→(∀k ∈ X,k ∉ Y)→S.At w' b X q:=fun h hd=>S.keep h t hd ho
theorem CAt.keep (h:CAt C.Own S.At w b X0 T l) (t:Turned Y w w') (hd:∀k ∈ blk X0 T,k ∉ Y) (ho:∀k ∈ Y,∀cs t fz,w.heap[k]?=some (.cells cs t fz)→S.tn t=false):CAt C.Own S.At w' b X0 T l:=
 ⟨C.keep h.own t (fun k hk=>hd k (blk_mem.2 (.inl hk))) ho,h.qs.keep (cs_keep S t ho) t (fun x hx k hk=>hd k (blk_mem.2 (.inr ⟨x,hx,hk⟩))),h.off,fun k hk=>Nat.lt_of_lt_of_le (h.lt k hk) t.size⟩
theorem CAt.keep0 (h:CAt C.Own S.At w b X0 T l) (t:Turned [] w w'):CAt C.Own S.At w' b X0 T l:=h.keep t (by simp) (fun k hk=>by simp at hk)
theorem CAt.all_lt (h:CAt C.Own S.At w b X0 T l):∀k ∈ blk X0 T,k < w.heap.size:=fun k hk=>by
 rcases blk_mem.1 hk with e|⟨x,hx,e⟩
 ·exact h.lt k e
 ·exact h.qs.lt x hx k e
theorem CAt.types (h:CAt C.Own S.At w b X0 T l):∀k ∈ blk X0 T,∀cs t fz,w.heap[k]?=some (.cells cs t fz)→S.tn t=false:=fun k hk=>by
 rcases blk_mem.1 hk with e|⟨x,hx,e⟩
 ·exact C.own h.own k e
 ·obtain⟨i,hi⟩:=List.mem_iff_getElem?.1 hx
  have hil:i < l.length:=by have:=(List.getElem?_eq_some_iff.1 hi).1;have:=h.qs.len;omega
  exact S.own (h.qs.at_ i x _ hi (List.getElem?_eq_getElem hil)) k e
theorem CAt.turn (h:CAt C.Own S.At w b X0 T l) {i:Nat} (hi:T[i]?=some (d,Y)) (hq:l[i]?=some q) (a:S.At w' d Y' q') (hw:wtsQ q'=wtsQ q) (t:Turned Y w w') (n:Newer Y w.heap.size Y'):
  CAt C.Own S.At w' b X0 (T.set i (d,Y')) (l.set i q')∧Turned (blk X0 T) w w'∧Newer (blk X0 T) w.heap.size (blk X0 (T.set i (d,Y'))):=by
 have hY:=h.off _ (mem_of_at hi)
 have hty:=S.own (h.qs.at_ i _ q hi hq)
 have hm:(T.set i (d,Y')).map (·.1)=T.map (·.1):=by
  apply List.ext_getElem?
  intro j
  rw [List.getElem?_map,List.getElem?_map,List.getElem?_set]
  by_cases e:i=j
  ·subst e
   have hi':i < T.length:=(List.getElem?_eq_some_iff.1 hi).1
   rw [if_pos rfl,if_pos hi',hi]
   rfl
  ·rw [if_neg e]
 have hl:(l.set i q').map wtsQ=l.map wtsQ:=by
  apply List.ext_getElem?
  intro j
  rw [List.getElem?_map,List.getElem?_map,List.getElem?_set]
  by_cases e:i=j
  ·subst e
   have hi':i < l.length:=(List.getElem?_eq_some_iff.1 hq).1
   rw [if_pos rfl,if_pos hi',hq]
   simp [hw]
  ·rw [if_neg e]
 have ht:Turned (blk X0 T) w w':=t.mono fun k hk=> .inl (blk_mem.2 (.inr ⟨_,mem_of_at hi,hk⟩))
 refine⟨⟨C.same (C.keep h.own t (fun k hk hk'=>hY k hk' hk) hty) hl hm,h.qs.set (cs_keep S t hty) hi a t n (S.lt a),fun x hx k hk=>?_,fun k hk=>Nat.lt_of_lt_of_le (h.lt k hk) t.size⟩,ht,fun k hk=>?_⟩
 ·obtain⟨j,hj⟩:=List.mem_iff_getElem?.1 hx
  rcases set_at hj with⟨rfl,rfl⟩ |⟨_,e⟩
  ·rcases n k hk with e|e
   ·exact hY k e
   ·intro hk0
    have:=h.lt k hk0
    omega
  ·exact h.off x (mem_of_at e) k hk
 ·rcases blk_mem.1 hk with e|⟨x,hx,e⟩
  ·exact .inl (blk_mem.2 (.inl e))
  ·obtain⟨j,hj⟩:=List.mem_iff_getElem?.1 hx
   rcases set_at hj with⟨rfl,rfl⟩ |⟨_,e'⟩
   ·rcases n k e with e2|e2
    ·exact .inl (blk_mem.2 (.inr ⟨_,mem_of_at hi,e2⟩))
    ·exact .inr e2
   ·exact .inl (blk_mem.2 (.inr ⟨x,mem_of_at e',e⟩))
end
end Go.Proofs.YtfmciiffcmfagaaGreat
namespace Go.Proofs.YtfmciiffcmfagaaGreat
theorem findQ_ids:∀(l:List (Int×Int×Int)) (id:Int),(findQ l id).isSome=true↔id ∈ l.map (·.1)
 |[],id=>by simp [findQ]
 |x::l,id=>by
  unfold findQ
  by_cases h:x.1=id
  ·rw [if_pos h]
   simp [h]
  ·rw [if_neg h,findQ_ids l id,List.map_cons,List.mem_cons]
   exact⟨fun e=> .inr e,fun e=>e.elim (fun e=>absurd e.symm h) fun e=>e⟩
def IdsC (l:List Rq):Prop:=∀q ∈ l,∀x ∈ q.l,isI x.1
section
variable {l:List Rq} {c c':Int}
theorem settle_l (q:Rq):q.settle.l=q.l:=by
 unfold Rq.settle
 split<;>simp_all
theorem pick_l (q:Rq):q.pick.l=q.l:=by
 unfold Rq.pick
 split
 ·rfl
 ·split<;>rfl
theorem back_l (q:Rq):q.back.l=q.l:=rfl
theorem tick_ids (q:Rq):q.tick.l.map (·.1)=q.l.map (·.1):=by
 unfold Rq.tick
 split
 ·dsimp only
  rw [List.map_map]
  apply List.map_congr_left
  intro x _
  unfold tickT
  dsimp only [Function.comp]
  split<;>rfl
 ·rfl
theorem tick_wts (q:Rq):wtsQ q.tick=wtsQ q:=by
 unfold wtsQ Rq.tick
 split
 ·dsimp only
  rw [List.map_map]
  apply List.map_congr_left
  intro x _
  unfold tickT
  dsimp only [Function.comp]
  split<;>rfl
 ·rfl
theorem weigh_ids (q:Rq) (id w:Int):(q.weigh id w).l.map (·.1)=q.l.map (·.1):=by
 unfold Rq.weigh
 split
 ·rfl
 ·dsimp only
  rw [List.map_map]
  apply List.map_congr_left
  intro x _
  dsimp only [Function.comp]
  split<;>rfl
theorem wts_l {q r:Rq} (h:r.l=q.l):wtsQ r=wtsQ q:=by unfold wtsQ;rw [h]
theorem COk.later (h:COk l c) (hc:c≤c'):COk l c':=⟨h.len,fun q hq=>(h.ok q hq).later hc,h.all,h.one⟩
theorem COk.ids (h:COk l c) (hc:c≤c') (k:Nat) (f:Rq→Rq) (hf:∀q,l[k]?=some q→QOk (f q) c') (hm:∀q,(f q).l.map (·.1)=q.l.map (·.1)):COk (l.modify k f) c':=by
 refine h.modify hc k f hf (fun q _=>?_) fun q id _ hs=>?_
 ·have:=congrArg List.length (hm q)
  simp only [List.length_map] at this
  omega
 ·rw [findQ_ids] at hs ⊢
  rwa [←hm q]
theorem COk.mapIds (h:COk l c) (f:Rq→Rq) (hf:∀q,QOk q c→QOk (f q) c') (hm:∀q,(f q).l.map (·.1)=q.l.map (·.1)):COk (l.map f) c':=by
 have old:∀(i:Nat) (q:Rq),(l.map f)[i]?=some q→∃q0,l[i]?=some q0∧q=f q0:=fun i q hq=>by
  rw [List.getElem?_map] at hq
  obtain⟨q0,h1,h2⟩:=Option.map_eq_some_iff.1 hq
  exact⟨q0,h1,h2.symm⟩
 have same:∀(q:Rq) (id:Int),(findQ (f q).l id).isSome=true→(findQ q.l id).isSome=true:=fun q id hs=>by
  rw [findQ_ids] at hs ⊢
  rwa [←hm q]
 refine⟨by rw [List.length_map];exact h.len,fun q hq=>?_,?_,fun i j q r id h1 h2 h3 h4=>?_⟩
 ·obtain⟨q0,h0,rfl⟩:=List.mem_map.1 hq
  exact hf q0 (h.ok q0 h0)
 ·have e:allC (l.map f)=allC l:=by
    unfold allC
    rw [List.map_map]
    congr 1
    apply List.map_congr_left
    intro q _
    have:=congrArg List.length (hm q)
    simpa using this
  rw [e]
  exact h.all
 ·obtain⟨q0,a1,rfl⟩:=old i q h1
  obtain⟨r0,b1,rfl⟩:=old j r h2
  exact h.one i j q0 r0 id a1 b1 (same _ _ h3) (same _ _ h4)
theorem newC_len (n g:Int):1≤(newC n g).length∧(newC n g).length≤4:=by
 unfold newC
 rw [List.length_replicate]
 unfold bringR
 repeat' split
 all_goals omega
theorem newC_mem {n g:Int} {q:Rq} (h:q ∈ newC n g):q=Rq.new g:=List.eq_of_mem_replicate h
theorem cok_new (n g:Int):COk (newC n g) 8:=by
 refine⟨newC_len n g,fun q hq=>by rw [newC_mem hq];exact QOk.new g,?_,fun i j q r id h1 _ h3 _=>?_⟩
 ·have:∀m,allC (List.replicate m (Rq.new g))=0:=fun m=>by
    induction m with
    |zero=>rfl
    |succ m ih=>
     rw [List.replicate_succ,allC_cons,ih]
     rfl
  unfold newC
  rw [this]
  omega
 ·rw [newC_mem (mem_at h1)] at h3
  cases h3
theorem COk.addC (h:COk l c) (core id:Int) {v:Int} (hv:Word v) (w:Int):COk (addC l core id v w) c:=by
 unfold Proofs.YtfmciiffcmfagaaGreat.addC
 split
 ·rename_i he
  unfold addCE at he
  split at he
  ·cases he
  ·split at he
   ·cases he
   ·split at he
    ·cases he
    ·rename_i h1 h2 h3
     refine h.addAt (fun q hq=>?_) (by omega) core.toNat (vf:=fun _=>v) (fun _ _=>hv) w
     cases ho:ofN l id with
     |none=>exact ofN_none ho q hq
     |some k=>
      unfold ofC at h2
      rw [ho] at h2
      dsimp only at h2
      omega
 ·exact h
theorem COk.remC (h:COk l c) (id:Int):COk (remC l id) c:=by
 unfold Proofs.YtfmciiffcmfagaaGreat.remC
 split
 ·exact h
 ·exact h.modify (Int.le_refl c) _ _ (fun q hq=>(h.ok q (mem_at hq)).remove id) (fun q _=>remove_len q id) fun q j _ hj=>(find_remove id j hj).1
theorem COk.moveC (h:COk l c) (id core:Int):COk (moveC l id core) c:=by
 unfold Proofs.YtfmciiffcmfagaaGreat.moveC
 split
 ·rename_i he
  cases ho:ofN l id with
  |none=>
   unfold moveE at he
   rw [ho] at he
   cases he
  |some k=>
   obtain⟨q,hq,hf,_⟩:=ofN_some ho
   exact h.moved hq hf
 ·exact h
theorem COk.balanceC (h:COk l c):COk (balanceC l) c:=by
 cases hb:balC l with
 |none=>
  unfold Proofs.YtfmciiffcmfagaaGreat.balanceC
  rw [hb]
  exact h
 |some x=>exact (balance_less h hb).1
theorem COk.weighC (h:COk l c) (h8:8≤c) (id w:Int):COk (weighC l id w) c:=by
 unfold Proofs.YtfmciiffcmfagaaGreat.weighC
 split
 ·exact h
 ·exact h.ids (Int.le_refl c) _ _ (fun q hq=>(h.ok q (mem_at hq)).weigh h8 id w) fun q=>weigh_ids q id w
theorem COk.settleC (h:COk l c):COk (l.map Rq.settle) c:=
 h.mapIds _ (fun _ hq=>hq.settle) fun q=>by rw [settle_l]
theorem COk.pickC (h:COk l c) (k:Nat):COk (l.modify k Rq.pick) c:=
 h.ids (Int.le_refl c) _ _ (fun q hq=>(h.ok q (mem_at hq)).pick) fun q=>by rw [pick_l]
theorem COk.backC (h:COk l c) (k:Nat):COk (l.modify k Rq.back) c:=
 h.ids (Int.le_refl c) _ _ (fun q hq=>(h.ok q (mem_at hq)).back) fun q=>by rw [back_l]
theorem COk.tickC (h:COk l c) (k:Nat):COk (l.modify k Rq.tick) (c+1):=
 h.ids (by omega) _ _ (fun q hq=>(h.ok q (mem_at hq)).tick) fun q=>tick_ids q
theorem IdsC.modify (h:IdsC l) (k:Nat) (f:Rq→Rq) (hf:∀q,l[k]?=some q→∀x ∈ (f q).l,isI x.1):IdsC (l.modify k f):=fun q hq=>by
 obtain⟨i,hi⟩:=List.mem_iff_getElem?.1 hq
 by_cases hik:k=i
 ·subst hik
  rw [modify_same] at hi
  obtain⟨q0,h1,rfl⟩:=Option.map_eq_some_iff.1 hi
  exact hf q0 h1
 ·rw [modify_other hik] at hi
  exact h q (mem_at hi)
theorem IdsC.ids (h:IdsC l) (k:Nat) (f:Rq→Rq) (hm:∀q,(f q).l.map (·.1)=q.l.map (·.1)):IdsC (l.modify k f):=h.modify k f fun q hq x hx=>by
 have:x.1 ∈ (f q).l.map (·.1):=List.mem_map.2 ⟨x,hx,rfl⟩
 rw [hm q] at this
 obtain⟨y,hy,e⟩:=List.mem_map.1 this
 rw [←e]
 exact h q (mem_at hq) y hy
theorem IdsC.new (n g:Int):IdsC (newC n g):=fun q hq x hx=>by
 rw [newC_mem hq] at hx
 cases hx
theorem add_mem {q:Rq} {id v w:Int} {x:Int×Int×Int} (h:x ∈ (q.add id v w).l):x ∈ q.l∨x.1=id:=by
 unfold Rq.add at h
 split at h
 ·exact .inl h
 ·rcases List.mem_append.1 h with h|h
  ·exact .inl h
  ·rw [List.mem_singleton.1 h]
   exact .inr rfl
theorem IdsC.addAt (h:IdsC l) (k:Nat) {id:Int} (hid:isI id) (v:Rq→Int) (w:Int):IdsC (l.modify k fun q=>q.add id (v q) w):=h.modify k _ fun q hq x hx=>by
 rcases add_mem hx with e|e
 ·exact h q (mem_at hq) x e
 ·rw [e]
  exact hid
theorem IdsC.addC (h:IdsC l) (core:Int) {id:Int} (hid:isI id) (v w:Int):IdsC (addC l core id v w):=by
 unfold Proofs.YtfmciiffcmfagaaGreat.addC
 split
 ·exact h.addAt _ hid (fun _=>v) w
 ·exact h
theorem IdsC.rem (h:IdsC l) (k:Nat) (id:Int):IdsC (l.modify k fun q=>q.remove id):=h.modify k _ fun q hq x hx=>by
 unfold Rq.remove at hx
 split at hx
 ·exact h q (mem_at hq) x (List.mem_filter.1 hx).1
 ·exact h q (mem_at hq) x hx
theorem IdsC.remC (h:IdsC l) (id:Int):IdsC (remC l id):=by
 unfold Proofs.YtfmciiffcmfagaaGreat.remC
 split
 ·exact h
 ·exact h.rem _ id
theorem IdsC.goC (h:IdsC l) (id:Int) (k t:Nat):IdsC (goC l id k t):=by
 unfold Proofs.YtfmciiffcmfagaaGreat.goC
 split
 ·exact h
 ·rename_i q hq
  split
  ·exact h
  ·rename_i x hx
   exact (h.rem k id).addAt t (h q (mem_at hq) _ (findQ_mem hx)) (fun r=>satV (r.f+max 0 (x.1 - q.f))) x.2
theorem IdsC.moveC (h:IdsC l) (id core:Int):IdsC (moveC l id core):=by
 unfold Proofs.YtfmciiffcmfagaaGreat.moveC
 split
 ·exact h.goC _ _ _
 ·exact h
theorem IdsC.balanceC (h:IdsC l):IdsC (balanceC l):=by
 unfold Proofs.YtfmciiffcmfagaaGreat.balanceC
 split
 ·exact h
 ·exact h.goC _ _ _
theorem IdsC.weighC (h:IdsC l) (id w:Int):IdsC (weighC l id w):=by
 unfold Proofs.YtfmciiffcmfagaaGreat.weighC
 split
 ·exact h
 ·exact h.ids _ _ fun q=>weigh_ids q id w
theorem IdsC.settleC (h:IdsC l):IdsC (l.map Rq.settle):=fun q hq x hx=>by
 obtain⟨q0,h0,rfl⟩:=List.mem_map.1 hq
 rw [settle_l] at hx
 exact h q0 h0 x hx
end
end Go.Proofs.YtfmciiffcmfagaaGreat
namespace Go.Proofs.YtfmciiffcmfagaaGreat
open Go.RowKit
theorem ofN_at:∀ {l:List Rq} {id:Int} {k:Nat} {q:Rq},l[k]?=some q→(findQ q.l id).isSome=true→(∀(j:Nat) (r:Rq),j < k→l[j]?=some r→(findQ r.l id).isSome=false)→ofN l id=some k
 |[],id,k,q,h,_,_=>by cases h
 |r::l,id,0,q,h,h1,_=>by
  simp only [List.getElem?_cons_zero,Option.some.injEq] at h
  subst h
  unfold ofN
  rw [if_pos h1]
 |r::l,id,k+1,q,h,h1,h2=>by
  have h0:=h2 0 r (by omega) rfl
  have ih:=ofN_at (l:=l) (id:=id) (k:=k) (q:=q) (by simpa using h) h1 fun j s hj hs=>h2 (j+1) s (by omega) (by simpa using hs)
  unfold ofN
  rw [if_neg (by rw [h0];exact Bool.false_ne_true),ih]
  rfl
theorem ofN_no:∀ {l:List Rq} {id:Int},(∀q ∈ l,(findQ q.l id).isSome=false)→ofN l id=none
 |[],id,_=>rfl
 |r::l,id,h=>by
  have ih:=ofN_no (l:=l) (id:=id) fun q hq=>h q (List.mem_cons_of_mem _ hq)
  unfold ofN
  rw [if_neg (by rw [h r (by simp)];exact Bool.false_ne_true),ih]
  rfl
theorem allC_take {l:List Rq} {k:Nat} {q:Rq} (h:l[k]?=some q):allC (l.take (k+1))=allC (l.take k)+q.l.length:=by
 have e:l.take (k+1)=l.take k++[q]:=by
  rw [List.take_add_one,h]
  rfl
 rw [e]
 clear e h
 induction l.take k with
 |nil=>simp [allC]
 |cons r t ih=>rw [List.cons_append,allC_cons,allC_cons,ih];omega
theorem allC_take_le (l:List Rq) (k:Nat):allC (l.take k)≤allC l:=by
 induction l generalizing k with
 |nil=>simp [allC]
 |cons r t ih=>
  cases k with
  |zero=>simp [allC]
  |succ k=>
   have:=ih k
   rw [List.take_succ_cons,allC_cons,allC_cons]
   omega
theorem rcof_any {w:World} {b:Nat} {X0:List Nat} {T:List Tq} {l:List Rq} (h:R17 w b X0 T l) (id:Int):
  Calls Tryz.prog 15 #[.pointer (some ⟨b,0,none⟩), .int .i64 id] w fun e w'=>e= .returned (.int .i64 (ofC l id))∧w=w':=by
 obtain⟨a,cap,c0,hlen,hr⟩:=h.view
 have HR:=xhd hr
 unfold maxLen at hlen
 clear h hr
 obtain⟨n,hn⟩:∃n,l.length=n:=⟨_,rfl⟩
 have HN:=xhd hn
 rw [hn] at c0 hlen
 clear hn
 go_enter Tryz.func15,Tryz.ntmps15
 go_wp2
 go_loop [5] (fun i=>∃k:Nat,i= .int .i64 k∧k≤n∧Hid (∀(j:Nat) (r:Rq),j < k→l[j]?=some r→(findQ r.l id).isSome=false)) (fun i=>n - (intOf i).toNat)
 case atStart=>exact⟨0,rfl,by omega,xhd fun j r hj=>absurd hj (Nat.not_lt_zero j)⟩
 case round=>
  obtain⟨k,rfl,hk,HP⟩:=hrel
  by_cases hlt:k < n
  ·have hq:l[k]?=some (l[k]'(by have:=HN.out;omega)):=List.getElem?_eq_getElem _
   obtain⟨q,hqq⟩:∃q,l[k]'(by have:=HN.out;omega)=q:=⟨_,rfl⟩
   rw [hqq] at hq
   have HQ:=xhd hq
   obtain⟨g,d,Y,rfl,_,cp,r16⟩:=HR.out k q hq
   have i0:(0:Int)≤k:=by omega
   have i1:(k:Int) < n:=by omega
   have HAT:=xhd (rat_any r16 id)
   have hfa:=xhd (atQ_find q.l id)
   obtain⟨z,hz⟩:∃z,atQ q.l id=z:=⟨_,rfl⟩
   rw [hz] at HAT hfa
   clear hq hqq r16 hz
   go_wp2_with fail
   with_reducible refine HAT.out.mono ?_
   rintro e w1 ⟨rfl,rfl⟩
   by_cases hz0:0≤z
   ·go_wp2
    go_ret
    have:ofC l id=k:=by
     unfold ofC
     rw [ofN_at HQ.out (hfa.out.2 hz0) HP.out]
    rw [this]
    exact⟨rfl,rfl⟩
   ·go_wp2
    go_round
    case rel=>
     refine⟨k+1,by go_num,by omega,xhd fun j r hj hr=>?_⟩
     by_cases e:j=k
     ·subst e
      rw [HQ.out] at hr
      cases hr
      cases hb:(findQ q.l id).isSome with
      |false=>rfl
      |true=>have:=hfa.out.1 hb;omega
     ·exact HP.out j r (by omega) hr
    case measure=>simp [intOf];omega
  ·have hk':k=n:=by omega
   subst hk'
   go_wp2
   go_ret
   have:ofC l id= -1:=by
    unfold ofC
    rw [ofN_no fun q hq=>by
     obtain⟨j,hj⟩:=List.mem_iff_getElem?.1 hq
     have hl:j < l.length:=(List.getElem?_eq_some_iff.1 hj).1
     exact HP.out j q (by have:=HN.out;omega) hj]
   rw [this]
   exact⟨rfl,rfl⟩
theorem rcall_any {w:World} {b:Nat} {X0:List Nat} {T:List Tq} {l:List Rq} (h:R17 w b X0 T l) (ha:allC l≤16):
  Calls Tryz.prog 36 #[.pointer (some ⟨b,0,none⟩)] w fun e w'=>e= .returned (.int .i64 (allC l:Nat))∧w=w':=by
 obtain⟨a,cap,c0,hlen,hr⟩:=h.view
 have HR:=xhd hr
 unfold maxLen at hlen
 clear h hr
 obtain⟨n,hn⟩:∃n,l.length=n:=⟨_,rfl⟩
 have HN:=xhd hn
 rw [hn] at c0 hlen
 have HEND:Hid (allC (l.take n)=allC l):=xhd (by rw [←hn,List.take_length])
 have HLE:=xhd (fun k=>Nat.le_trans (allC_take_le l k) ha)
 clear hn ha
 go_enter Tryz.func36,Tryz.ntmps36
 go_wp2
 go_loop [3,4] (fun s i=>∃k:Nat,i= .int .i64 k∧k≤n∧s= .int .i64 (allC (l.take k):Nat)) (fun _ i=>n - (intOf i).toNat)
 case atStart=>exact⟨0,rfl,by omega,rfl⟩
 case round=>
  obtain⟨k,rfl,hk,rfl⟩:=hrel
  by_cases hlt:k < n
  ·have hq:l[k]?=some (l[k]'(by have:=HN.out;omega)):=List.getElem?_eq_getElem _
   obtain⟨q,hqq⟩:∃q,l[k]'(by have:=HN.out;omega)=q:=⟨_,rfl⟩
   rw [hqq] at hq
   obtain⟨g,d,Y,rfl,_,cp,r16⟩:=HR.out k q hq
   obtain⟨a2,cap2,⟨_,_,c2,_⟩,hq2,_⟩:=r16.rows
   have hs:=allC_take hq
   have hs1:=HLE.out (k+1)
   have i0:(0:Int)≤k:=by omega
   have i1:(k:Int) < n:=by omega
   obtain⟨m,hm⟩:∃m,q.l.length=m:=⟨_,rfl⟩
   rw [hm] at c2 hs
   obtain⟨s,hsd⟩:∃s,allC (l.take k)=s:=⟨_,rfl⟩
   rw [hsd] at hs ⊢
   have hw:IntKind.i64.wrap ((s:Int)+m)=s+m:=by rw [IntKind.wrap_i64];omega
   have HS:=xhd hs
   clear hq hqq r16 hm hq2 hs hs1 hsd
   go_wp2
   go_round
   case rel=>exact⟨k+1,by go_num,by omega,by rw [HS.out];go_num⟩
   case measure=>simp [intOf];omega
  ·have hk':k=n:=by omega
   subst hk'
   go_wp2
   go_ret
   rw [HEND.out]
   exact⟨rfl,rfl⟩
theorem modify_set {l:List Rq} {k:Nat} {q:Rq} (h:l[k]?=some q) (f:Rq→Rq):l.modify k f=l.set k (f q):=by
 apply List.ext_getElem?
 intro j
 rw [List.getElem?_set]
 by_cases hkj:k=j
 ·subst hkj
  have hl:k < l.length:=(List.getElem?_eq_some_iff.1 h).1
  rw [modify_same,h,if_pos rfl,if_pos hl]
  rfl
 ·rw [modify_other hkj,if_neg hkj]
theorem ofC_none {l:List Rq} {id:Int} (h:ofN l id=none):ofC l id= -1:=by unfold ofC;rw [h]
theorem ofC_some {l:List Rq} {id:Int} {k:Nat} (h:ofN l id=some k):ofC l id=k:=by unfold ofC;rw [h]
theorem rcrem_any {w:World} {b:Nat} {X0:List Nat} {T:List Tq} {l:List Rq} {c:Int} (h:R17 w b X0 T l) (hc:COk l c) (id:Int):
  Calls Tryz.prog 10 #[.pointer (some ⟨b,0,none⟩), .int .i64 id] w fun e w'=>e= .returned (.tuple #[.int .u64 (remCV l id), .bool (ofN l id).isSome])∧∃T',R17 w' b X0 T' (remC l id)∧Turned (blk X0 T) w w'∧Newer (blk X0 T) w.heap.size (blk X0 T'):=by
 have HOF:=xhd (rcof_any h id)
 have HF:=xhd h
 cases ho:ofN l id with
 |none=>
  have e1:remCV l id=0:=by unfold remCV;rw [ho]
  have e2:remC l id=l:=by unfold remC;rw [ho]
  rw [ofC_none ho] at HOF
  rw [e1,e2]
  clear h hc ho e1 e2
  go_enter Tryz.func10,Tryz.ntmps10
  go_wp2_with fail
  with_reducible refine HOF.out.mono ?_
  rintro e w1 ⟨rfl,rfl⟩
  go_wp2
  go_ret2
  exact⟨rfl,T,HF.out,Turned.refl _ _,Newer.refl _ _⟩
 |some k=>
  obtain⟨q,hq,hf,_⟩:=ofN_some ho
  have e1:remCV l id=remV q id:=by unfold remCV;rw [ho];simp only [hq];rfl
  have e2:remC l id=l.set k (q.remove id):=by unfold remC;rw [ho];exact modify_set hq _
  have hk:k < l.length:=(List.getElem?_eq_some_iff.1 hq).1
  rw [ofC_some ho] at HOF
  obtain⟨a,cap,c0,hlen,hr⟩:=h.view
  obtain⟨g,d,Y,rfl,hT,cp,r16⟩:=hr k q hq
  have hqk:=hc.ok q (mem_at hq)
  have HRE:=xhd (rremove_any r16 hqk.uniq (Nat.le_trans hqk.len (by decide)) id)
  have HS:=xhd (fun V Y' (a:R16 V d Y' (q.remove id)) t n=>h.set hT a t n)
  have HFS:=xhd hf
  rw [hf] at HRE
  rw [e1,e2]
  unfold maxLen at hlen
  obtain⟨n,hn⟩:∃n,l.length=n:=⟨_,rfl⟩
  rw [hn] at c0 hk hlen
  have i0:(0:Int)≤k:=by omega
  have i1:(k:Int) < n:=by omega
  clear h hc ho e1 e2 hr hqk r16 hT hq hf hn HF
  go_enter Tryz.func10,Tryz.ntmps10
  go_wp2_with fail
  with_reducible refine HOF.out.mono ?_
  rintro e w1 ⟨rfl,rfl⟩
  go_wp2_with fail
  with_reducible refine HRE.out.mono ?_
  rintro e w2 ⟨rfl,Y',a2,t2,n2⟩
  have HE:=xhd (HS.out _ _ a2 t2 n2)
  clear a2 t2 n2 c0 cp
  go_wp2
  go_ret2
  exact⟨rfl,_,HE.out⟩
theorem addC_no {l:List Rq} {core id v w:Int} (h:addCE l core id≠0):addC l core id v w=l∧addCV l core id v w=0:=by
 unfold addC addCV
 rw [if_neg h,if_neg h]
 exact⟨rfl,rfl⟩
theorem rcadd_any {w:World} {b:Nat} {X0:List Nat} {T:List Tq} {l:List Rq} {c:Int} (h:R17 w b X0 T l) (hc:COk l c) (core id v wt:Int):
  Calls Tryz.prog 8 #[.pointer (some ⟨b,0,none⟩), .int .i64 core, .int .i64 id, .int .u64 v, .int .i64 wt] w fun e w'=>e= .returned (.tuple #[.int .u64 (addCV l core id v wt), .int .i64 (addCE l core id)])∧∃T',R17 w' b X0 T' (addC l core id v wt)∧Turned (blk X0 T) w w'∧Newer (blk X0 T) w.heap.size (blk X0 T'):=by
 have HOF:=xhd (rcof_any h id)
 have HALL:=xhd (rcall_any h hc.all)
 have HF:=xhd h
 obtain⟨a,cap,c0,hlen,hr⟩:=h.view
 unfold maxLen at hlen
 by_cases h1:core < 0∨(l.length:Int)≤core∨id < 0
 ·have e:addCE l core id=1:=if_pos h1
  obtain⟨e1,e2⟩:=addC_no (l:=l) (core:=core) (id:=id) (v:=v) (w:=wt) (by omega)
  rw [e,e1,e2]
  obtain⟨n,hn⟩:∃n,l.length=n:=⟨_,rfl⟩
  rw [hn] at c0 h1
  clear h hc hr e e1 e2 hn hlen HOF HALL
  by_cases a1:core < 0
  ·have b1:decide (core < 0)=true:=by simpa using a1
   clear h1
   go_enter Tryz.func8,Tryz.ntmps8
   go_wp2
   go_ret2
   exact⟨rfl,T,HF.out,Turned.refl _ _,Newer.refl _ _⟩
  ·have b1:decide (core < 0)=false:=by simpa using a1
   by_cases a2:(n:Int)≤core
   ·have b2:decide ((n:Int)≤core)=true:=by simpa using a2
    clear h1
    go_enter Tryz.func8,Tryz.ntmps8
    go_wp2
    go_ret2
    exact⟨rfl,T,HF.out,Turned.refl _ _,Newer.refl _ _⟩
   ·have b2:decide ((n:Int)≤core)=false:=by simpa using a2
    have b3:decide (id < 0)=true:=by
     rcases h1 with h1|h1|h1
     ·exact absurd h1 a1
     ·exact absurd h1 a2
     ·simpa using h1
    clear h1
    go_enter Tryz.func8,Tryz.ntmps8
    go_wp2
    go_ret2
    exact⟨rfl,T,HF.out,Turned.refl _ _,Newer.refl _ _⟩
 ·have n1:0≤core:=by omega
  have n2:core < (l.length:Int):=by omega
  have n3:0≤id:=by omega
  have b1:decide (core < 0)=false:=by simp;omega
  have b2:decide ((l.length:Int)≤core)=false:=by simp;omega
  have b3:decide (id < 0)=false:=by simp;omega
  by_cases h2:0≤ofC l id
  ·have e:addCE l core id=12:=by unfold addCE;rw [if_neg h1,if_pos h2]
   obtain⟨e1,e2⟩:=addC_no (l:=l) (core:=core) (id:=id) (v:=v) (w:=wt) (by omega)
   rw [e,e1,e2]
   obtain⟨n,hn⟩:∃n,l.length=n:=⟨_,rfl⟩
   rw [hn] at c0 n2 b2
   obtain⟨z,hz⟩:∃z,ofC l id=z:=⟨_,rfl⟩
   rw [hz] at HOF h2
   clear h hc hr e e1 e2 hn hlen HALL h1 hz
   go_enter Tryz.func8,Tryz.ntmps8
   go_wp2_with fail
   with_reducible refine HOF.out.mono ?_
   rintro e w1 ⟨rfl,rfl⟩
   go_wp2
   go_ret2
   exact⟨rfl,T,HF.out,Turned.refl _ _,Newer.refl _ _⟩
  ·by_cases h3:16≤allC l
   ·have e:addCE l core id=3:=by unfold addCE;rw [if_neg h1,if_neg h2,if_pos h3]
    obtain⟨e1,e2⟩:=addC_no (l:=l) (core:=core) (id:=id) (v:=v) (w:=wt) (by omega)
    rw [e,e1,e2]
    obtain⟨n,hn⟩:∃n,l.length=n:=⟨_,rfl⟩
    rw [hn] at c0 n2 b2
    obtain⟨z,hz⟩:∃z,ofC l id=z:=⟨_,rfl⟩
    rw [hz] at HOF h2
    have h3z:(16:Int)≤(allC l:Int):=by omega
    obtain⟨y,hy⟩:∃y,allC l=y:=⟨_,rfl⟩
    rw [hy] at HALL h3z
    clear h hc hr e e1 e2 hn hlen h1 hz h3 hy
    go_enter Tryz.func8,Tryz.ntmps8
    go_wp2_with fail
    with_reducible refine HOF.out.mono ?_
    rintro e w1 ⟨rfl,rfl⟩
    go_wp2_with fail
    with_reducible refine HALL.out.mono ?_
    rintro e w2 ⟨rfl,rfl⟩
    go_wp2
    go_ret2
    exact⟨rfl,T,HF.out,Turned.refl _ _,Newer.refl _ _⟩
   ·obtain⟨k,rfl⟩:∃k:Nat,core=k:=⟨core.toNat,by omega⟩
    have hk:k < l.length:=by omega
    have hq:l[k]?=some l[k]:=List.getElem?_eq_getElem hk
    obtain⟨q,hqq⟩:∃q,l[k]=q:=⟨_,rfl⟩
    rw [hqq] at hq
    have e:addCE l k id=0:=by unfold addCE;rw [if_neg h1,if_neg h2,if_neg h3]
    have hno:(findQ q.l id).isSome=false:=by
     cases ho:ofN l id with
     |none=>exact ofN_none ho q (mem_at hq)
     |some j=>rw [ofC_some ho] at h2;omega
    have hqk:=hc.ok q (mem_at hq)
    have hql:=allC_ge hq
    have ee:addE q id=0:=by
     unfold addE
     rw [if_neg (by omega),if_neg (by rw [hno];exact Bool.false_ne_true),if_neg (by omega)]
    have e1:addCV l k id v wt=addV q id v wt:=by
     unfold addCV
     rw [if_pos e,Int.toNat_natCast,hq]
     rfl
    have e2:addC l k id v wt=l.set k (q.add id v wt):=by
     unfold addC
     rw [if_pos e,Int.toNat_natCast]
     exact modify_set hq _
    obtain⟨g,d,Y,rfl,hT,cp,r16⟩:=hr k q hq
    have HRE:=xhd (radd_any r16 hqk.f id v wt)
    have HS:=xhd (fun V Y' (a:R16 V d Y' (q.add id v wt)) t n=>h.set hT a t n)
    rw [ee] at HRE
    rw [e,e1,e2]
    have h3z:¬(16:Int)≤(allC l:Int):=by omega
    obtain⟨y,hy⟩:∃y,allC l=y:=⟨_,rfl⟩
    rw [hy] at HALL h3z
    obtain⟨z,hz⟩:∃z,ofC l id=z:=⟨_,rfl⟩
    rw [hz] at HOF h2
    obtain⟨n,hn⟩:∃n,l.length=n:=⟨_,rfl⟩
    rw [hn] at c0 hk hlen n2 b2
    have i0:(0:Int)≤k:=by omega
    have i1:(k:Int) < n:=by omega
    clear h hc hr e e1 e2 hn h1 hz h3 hy hqk r16 hT hq hqq hql ee hno HF
    go_enter Tryz.func8,Tryz.ntmps8
    go_wp2_with fail
    with_reducible refine HOF.out.mono ?_
    rintro e w1 ⟨rfl,rfl⟩
    go_wp2_with fail
    with_reducible refine HALL.out.mono ?_
    rintro e w2 ⟨rfl,rfl⟩
    go_wp2_with fail
    with_reducible refine HRE.out.mono ?_
    rintro e w3 ⟨rfl,Y',a2,t2,n2'⟩
    have HE:=xhd (HS.out _ _ a2 t2 n2')
    clear a2 t2 n2' c0 cp
    go_wp2
    go_ret2
    exact⟨rfl,_,HE.out⟩
theorem sub_max (a b:Int):max 0 (a - b)=subV a b:=by
 unfold subV
 split<;>omega
theorem Turned.cell0 {a b:World} (t:Turned [] a b) {p:Addr} {v:Value} (h:a.cell? p=some v):b.cell? p=some v:=
 ((t.below (by simp) (Nat.le_refl _)).cell (World.block_lt_of_cell? a p h)).trans h
theorem goC_sets {l:List Rq} {id:Int} {k t:Nat} {q r:Rq} {x:Int×Int} (hk:l[k]?=some q) (hf:findQ q.l id=some x) (hr:l[t]?=some r) (hkt:k≠t):
  goC l id k t=(l.set k (q.remove id)).set t (r.add id (satV (r.f+subV x.1 q.f)) x.2):=by
 rw [goC_eq hk hf,modify_set hk,modify_set (q:=r) (by rw [List.getElem?_set_ne hkt];exact hr),sub_max]
theorem sub_word {a b:Int} (ha:Word a) (hb:Word b):Word (subV a b):=by
 obtain⟨a0,a1⟩:=ha
 obtain⟨b0,b1⟩:=hb
 unfold subV Word
 split<;>omega
theorem rcmove_any {w:World} {b:Nat} {X0:List Nat} {T:List Tq} {l:List Rq} {c:Int} (h:R17 w b X0 T l) (hc:COk l c) {id:Int} {k t:Nat} {q:Rq} (hk:l[k]?=some q) (ho:ofC l id=k) (hf:(findQ q.l id).isSome=true) (ht:t < l.length) (hkt:k≠t):
  Calls Tryz.prog 43 #[.pointer (some ⟨b,0,none⟩), .int .i64 id, .int .i64 t] w fun e w'=>e= .returned (.tuple #[])∧∃T',R17 w' b X0 T' (goC l id k t)∧Turned (blk X0 T) w w'∧Newer (blk X0 T) w.heap.size (blk X0 T'):=by
 obtain⟨⟨x1,x2⟩,hx⟩:=Option.isSome_iff_exists.1 hf
 have hqk:=hc.ok q (mem_at hk)
 have hxm:=findQ_mem hx
 have hw1:Word x1:=hqk.v _ hxm
 have hr:l[t]?=some l[t]:=List.getElem?_eq_getElem ht
 obtain⟨r,hrr⟩:∃r,l[t]=r:=⟨_,rfl⟩
 rw [hrr] at hr
 have hrk:=hc.ok r (mem_at hr)
 rw [goC_sets hk hx hr hkt]
 obtain⟨j,hj,hat,hid⟩:∃j:Nat,∃hj:j < q.l.length,atQ q.l id=j∧q.l[j].1=id:=by
  rcases atQ_cases q.l id with⟨_,h2⟩ |h2
  ·exact absurd rfl (h2 _ hxm)
  ·exact h2
 have hjx:q.l[j]=(id,x1,x2):=by
  have h1:=find_at hqk.uniq hj hid
  rw [hx] at h1
  have h2:q.l[j].2=(x1,x2):=(Option.some.inj h1).symm
  exact Prod.ext hid h2
 obtain⟨a,cap,c0,hlen,hv⟩:=h.view
 obtain⟨g,d,Y,rfl,hT,cp,r16⟩:=hv k q hk
 have HOF:=xhd (fun m=>rcof_any (h.keep ((Turned.refl [] w).drewN m) (by simp)) id)
 rw [ho] at HOF
 have HK:=xhd (fun V (tV:Turned [] w V)=>(⟨h.keep tV (by simp),r16_keep tV r16 (by simp)⟩:R17 V b X0 T l∧R16 V d Y q))
 have HAT:Hid (∀V,R16 V d Y q→Calls Tryz.prog 48 #[.pointer (some ⟨d,0,none⟩), .int .i64 id] V fun e w'=>e= .returned (.int .i64 j)∧V=w'):=xhd fun V hV=>by
  have:=rat_any hV id
  rw [hat] at this
  exact this
 have HT:Hid (∀V,R16 V d Y q→∃g2 cap2 n2,j < n2∧n2≤16∧V.cell? ⟨d,1,none⟩=some (.int .u64 q.f)∧V.cell? ⟨d,2,none⟩=some (.slice (some ⟨g2,0,none⟩) n2 cap2)∧V.cell? ⟨g2,j*3,none⟩=some (.int .i64 id)∧V.cell? ⟨g2,j*3+1,none⟩=some (.int .u64 x1)∧V.cell? ⟨g2,j*3+2,none⟩=some (.int .i64 x2)):=xhd fun V hV=>by
  obtain⟨g2,cap2,e2,t0,t1,t2,_,_⟩:=hV.task hj
  rw [hjx] at t0 t1 t2
  obtain⟨_,h1,_,_⟩:=hV
  exact⟨g2,cap2,q.l.length,hj,hqk.len,(cells5q h1).2.1,e2,t0,t1,t2⟩
 have HREM:=xhd (fun V (hV:R16 V d Y q)=>rremove_any hV hqk.uniq (Nat.le_trans hqk.len (by decide)) id)
 have HSET:=xhd (fun V (hV:R17 V b X0 T l) V' Y' (a:R16 V' d Y' (q.remove id)) t n=>hV.set hT a t n)
 have HVT:Hid (∀V T1,R17 V b X0 T1 (l.set k (q.remove id))→∃g cap d' Y',V.cell? ⟨b,0,none⟩=some (.slice (some ⟨g,0,none⟩) l.length cap)∧T1[t]?=some (d',Y')∧V.cell? ⟨g,t,none⟩=some (.pointer (some ⟨d',0,none⟩))∧R16 V d' Y' r):=xhd fun V T1 hV=>by
  obtain⟨a,cap,c0,_,hv⟩:=hV.view
  obtain⟨g,d',Y',rfl,e1,e2,e3⟩:=hv t r (by rw [List.getElem?_set_ne hkt];exact hr)
  exact⟨g,cap,d',Y',by simpa using c0,e1,e2,e3⟩
 have HADD:=xhd (fun V d' Y' (hV:R16 V d' Y' r) v w=>radd_any hV hrk.f id v w)
 have hws:=sub_word hw1 hqk.f
 have HZ:=xhd (fun (z:Nat) (hz:w.heap.size≤z) (hy:z ∈ Y)=>Nat.not_le_of_lt (LAt.lt r16 z hy) hz)
 have HSUB:=xhd (fun V=>refsub_any x1 q.f hw1 hqk.f V)
 have HSUM:=xhd (fun V=>refadd_any r.f (subV x1 q.f) hrk.f hws V)
 have hrf:∃f,q.f=f:=⟨_,rfl⟩
 obtain⟨f,hf'⟩:=hrf
 rw [hf'] at HSUB HSUM HT ⊢
 dsimp only
 unfold maxLen at hlen
 have hk':k < l.length:=(List.getElem?_eq_some_iff.1 hk).1
 have i0:(0:Int)≤k:=by omega
 have i1:(k:Int) < l.length:=by omega
 have i2:(0:Int)≤t:=by omega
 have i3:(t:Int) < l.length:=by omega
 obtain⟨n,hn⟩:∃n,l.length=n:=⟨_,rfl⟩
 rw [hn] at c0 hlen i1 hk' i3 HVT
 clear h hc hv r16 hat hid hjx hj hx hxm hf hk hr hrr hqk hrk hT ht hn ho hkt hws hf' hw1
 go_enter Tryz.func43,Tryz.ntmps43
 go_wp2_with fail
 go_big_quiet ((go_at_call 15;exact Calls.quiet_of_same ((HOF.out _).mono fun _ _ h=>⟨h.1,h.2.symm⟩)))
 have TV:=xhd (show Turned [] w (w.drewN nq) from (Turned.refl [] w).drewN nq)
 obtain⟨V,hV⟩:∃V,w.drewN nq=V:=⟨_,rfl⟩
 rw [hV] at TV
 simp only [hV]
 clear hV c0 cp
 obtain⟨g2,cap2,n2,hj,hn2,c1,c2,t0,t1,t2⟩:=HT.out V (HK.out V TV.out).2
 have j0:(0:Int)≤j:=by omega
 have j1:(j:Int) < n2:=by omega
 have HS:Hid (∀V',Turned [] V V'→V'.cell? ⟨d,2,none⟩=some (.slice (some ⟨g2,0,none⟩) n2 cap2)∧V'.cell? ⟨g2,j*3,none⟩=some (.int .i64 id)∧V'.cell? ⟨g2,j*3+1,none⟩=some (.int .u64 x1)∧V'.cell? ⟨g2,j*3+2,none⟩=some (.int .i64 x2)∧Turned [] V V'):=
  xhd fun V' tV=>⟨tV.cell0 c2,tV.cell0 t0,tV.cell0 t1,tV.cell0 t2,tV⟩
 have HA1:Hid (∀V',Turned [] V V'→Calls Tryz.prog 48 #[.pointer (some ⟨d,0,none⟩), .int .i64 id] V' fun e w'=>e= .returned (.int .i64 j)∧V'=w'):=
  xhd fun V' tV=>HAT.out V' (HK.out V' (TV.out.also tV)).2
 have TA:=xhd (((Turned.refl [] V).alloc (.cells #[.int .i64 0, .int .u64 0, .int .i64 0] tT16)).drew)
 clear c1 c2 t0 t1 t2
 obtain⟨e0,e1,e2,e3,e4⟩:=HS.out _ (Turned.refl [] V).drew
 go_wp2_with fail
 go_region_held3 (fun V'=>V'.cell? ⟨d,2,none⟩=some (.slice (some ⟨g2,0,none⟩) n2 cap2)∧V'.cell? ⟨g2,j*3,none⟩=some (.int .i64 id)∧V'.cell? ⟨g2,j*3+1,none⟩=some (.int .u64 x1)∧V'.cell? ⟨g2,j*3+2,none⟩=some (.int .i64 x2)∧Turned [] V V')
  (first|exact⟨e0,e1,e2,e3,e4⟩ |exact HS.out _ (e4.alloc _) |exact HS.out _ TA.out)
  (first
    |(go_at_call 48
      first
       |(with_reducible refine (HA1.out _ e4).mono ?_
         rintro e v1 ⟨rfl,rfl⟩)
       |(with_reducible refine (HA1.out _ TA.out).mono ?_
         rintro e v1 ⟨rfl,rfl⟩)))
 all_goals
  go_wp2_with fail
  have T1:=xhd (((Turned.refl [] V).alloc (.cells #[.int .i64 id, .int .u64 x1, .int .i64 x2] tT16)).drew)
  have B1:Hid ((V.alloc (.cells #[.int .i64 id, .int .u64 x1, .int .i64 x2] tT16)).drew.heap[V.heap.size]?=_):=xhd (heap_alloc_new V (.cells #[.int .i64 id, .int .u64 x1, .int .i64 x2] tT16))
  clear e0 e1 e2 e3 e4
  generalize (V.alloc (.cells #[.int .i64 id, .int .u64 x1, .int .i64 x2] tT16)).drew=V1 at T1 B1 ⊢
  have Z:=xhd (show w.heap.size≤V.heap.size from TV.out.size)
  generalize V.heap.size=z at Z B1 ⊢
  replace T1:=xhd (TV.out.also T1.out)
  obtain⟨_,_,_,_,_,c1,_,_,_,_⟩:=HT.out V1 (HK.out V1 T1.out).2
  obtain⟨p0,p1,p2⟩:=part3 B1.out
  go_big_quiet ((go_at_call 73;exact Calls.quiet_of_same ((HSUB.out _).mono fun _ _ h=>⟨h.1,h.2.symm⟩)))
  replace T1:=xhd (T1.out.drewN nq)
  replace B1:Hid ((V1.drewN nq).heap[z]?=_):=xhd B1.out
  clear p0 p1 p2 c1
  generalize V1.drewN nq=V2 at T1 B1 ⊢
  obtain⟨HR17,HR16⟩:=HK.out V2 T1.out
  go_wp2_with fail
  with_reducible refine (HREM.out V2 HR16).mono ?_
  rintro e V3 ⟨rfl,Y',a3,t3,n3⟩
  have HS3:=xhd (HSET.out V2 HR17 V3 Y' a3 t3 n3)
  have B3:=xhd (t3.same B1.out (HZ.out z Z.out))
  clear HR17 HR16 a3 t3 n3
  obtain⟨g',cap',d',Y2,c0,eT,cp,r16⟩:=HVT.out V3 _ HS3.out.1
  have hc1:V3.cell? ⟨d',1,none⟩=some (.int .u64 r.f):=by
   obtain⟨_,h1,_,_⟩:=r16
   exact (cells5q h1).2.1
  go_wp2_with fail
  with_reducible refine (HSUM.out V3).mono ?_
  rintro e V4 ⟨rfl,hb⟩
  have HS4:=xhd (show R17 V4 b X0 (T.set k (d,Y')) (l.set k (q.remove id))∧Turned (blk X0 T) w V4∧Newer (blk X0 T) w.heap.size (blk X0 (T.set k (d,Y'))) from
   ⟨HS3.out.1.keep (turned_below (X:=[]) hb) (by simp),(T1.out.mono (fun k hk=>by simp at hk)).trans (HS3.out.2.1.also (turned_below hb)) (Newer.refl _ _),fun k hk=>(HS3.out.2.2 k hk).imp_right (Nat.le_trans T1.out.size)⟩)
  have r4:=r16.below hb
  have B4:=xhd ((turned_below (X:=[]) hb).same B3.out (by simp))
  have c04:=(turned_below (X:=[]) hb).cell0 c0
  have cp4:=(turned_below (X:=[]) hb).cell0 cp
  have HSETT:=xhd (fun V5 Y5 (a5:R16 V5 d' Y5 (r.add id (satV (r.f+subV x1 f)) x2)) t5 n5=>HS4.out.1.set eT a5 t5 n5)
  clear hb c0 cp r16 hc1 B3 HS3
  obtain⟨p0,p1,p2⟩:=part3 B4.out
  go_upto_region 5 with (fail)
  go_still_tail 11,(by kernel_rfl)
  change wpList _ _ _ _ _ V4.drew
  have HC:=xhd (HADD.out V4.drew d' Y2 (r4.below ((Below.refl _ _).drew)) (satV (r.f+subV x1 f)) x2)
  have TD:=xhd ((Turned.refl [] V4).drew)
  generalize V4.drew=V5 at HC TD ⊢
  go_wp2_with fail
  with_reducible refine HC.out.mono ?_
  rintro e V6 ⟨rfl,Y6,a6,t6,n6⟩
  have HE:=xhd (HSETT.out V6 Y6 a6 ((TD.out.mono (fun k hk=>by simp at hk)).trans t6 (Newer.refl _ _)) (fun k hk=>(n6 k hk).imp_right (Nat.le_trans TD.out.size)))
  clear a6 t6 n6 r4 B4 c04 cp4 p0 p1 p2
  go_wp2
  refine bodyPost_end (results_none rfl _ _ _) rfl ?_
  exact⟨rfl,_,HE.out.1,HS4.out.2.1.trans HE.out.2.1 HS4.out.2.2,fun k hk=>by
   rcases HE.out.2.2 k hk with h1|h1
   ·exact HS4.out.2.2 k h1
   ·exact .inr (Nat.le_trans HS4.out.2.1.size h1)⟩
theorem rcmv_any {w:World} {b:Nat} {X0:List Nat} {T:List Tq} {l:List Rq} {c:Int} (h:R17 w b X0 T l) (hc:COk l c) (id core:Int):
  Calls Tryz.prog 12 #[.pointer (some ⟨b,0,none⟩), .int .i64 id, .int .i64 core] w fun e w'=>e= .returned (.int .i64 (moveE l id core))∧∃T',R17 w' b X0 T' (moveC l id core)∧Turned (blk X0 T) w w'∧Newer (blk X0 T) w.heap.size (blk X0 T'):=by
 have HOF:=xhd (rcof_any h id)
 have HSAME:Hid (moveE l id core≠0→∃T',R17 w b X0 T' (moveC l id core)∧Turned (blk X0 T) w w∧Newer (blk X0 T) w.heap.size (blk X0 T')):=xhd fun he=>by
  unfold moveC
  rw [if_neg he]
  exact⟨T,h,Turned.refl _ _,Newer.refl _ _⟩
 cases hofN:ofN l id with
 |none=>
  have e:moveE l id core=4:=by
   unfold moveE
   rw [hofN]
  rw [ofC_none hofN] at HOF
  rw [e] at HSAME ⊢
  clear h hc hofN e
  go_enter Tryz.func12,Tryz.ntmps12
  go_wp2_with fail
  with_reducible refine HOF.out.mono ?_
  rintro e w1 ⟨rfl,rfl⟩
  go_wp2
  go_ret
  exact⟨rfl,HSAME.out (by decide)⟩
 |some k=>
  obtain⟨a,cap,c0,hlen,hv⟩:=h.view
  obtain⟨q,hq,hfq,_⟩:=ofN_some hofN
  obtain⟨g,d,Y,rfl,hT,cp,r16⟩:=hv k q hq
  have hoc:=ofC_some hofN
  rw [hoc] at HOF
  have hk:k < l.length:=(List.getElem?_eq_some_iff.1 hq).1
  have k0:¬(k:Int) < 0:=by omega
  unfold maxLen at hlen
  by_cases h1:core < 0∨(l.length:Int)≤core
  ·have e:moveE l id core=1:=by
     unfold moveE
     rw [hofN]
     exact if_pos h1
   rw [e] at HSAME ⊢
   obtain⟨n,hn⟩:∃n,l.length=n:=⟨_,rfl⟩
   rw [hn] at c0 h1 hlen
   clear h hc hv hofN e hq hfq hT cp r16 hoc hk hn
   by_cases a1:core < 0
   ·have b1:decide (core < 0)=true:=by simpa using a1
    clear h1
    go_enter Tryz.func12,Tryz.ntmps12
    go_wp2_with fail
    with_reducible refine HOF.out.mono ?_
    rintro e w1 ⟨rfl,rfl⟩
    go_wp2
    go_ret
    exact⟨rfl,HSAME.out (by decide)⟩
   ·have b1:decide (core < 0)=false:=by simpa using a1
    have a2:(n:Int)≤core:=by omega
    have b2:decide ((n:Int)≤core)=true:=by simpa using a2
    clear h1
    go_enter Tryz.func12,Tryz.ntmps12
    go_wp2_with fail
    with_reducible refine HOF.out.mono ?_
    rintro e w1 ⟨rfl,rfl⟩
    go_wp2
    go_ret
    exact⟨rfl,HSAME.out (by decide)⟩
  ·obtain⟨t,rfl⟩:∃t:Nat,core=t:=⟨core.toNat,by omega⟩
   have n1:¬(t:Int) < 0:=by omega
   have n2:¬(l.length:Int)≤t:=by omega
   have b1:decide ((t:Int) < 0)=false:=decide_eq_false n1
   have b2:decide ((l.length:Int)≤(t:Int))=false:=decide_eq_false n2
   by_cases h2:(k:Int)=t
   ·have e:moveE l id t=12:=by
      unfold moveE
      rw [hofN]
      dsimp only
      rw [if_neg h1,if_pos h2]
    rw [e] at HSAME ⊢
    have b3:((k:Int) == (t:Int))=true:=by simpa using h2
    obtain⟨n,hn⟩:∃n,l.length=n:=⟨_,rfl⟩
    rw [hn] at c0 n2 b2 hlen
    clear h hc hv hofN e hq hfq hT cp r16 hoc hk hn h1
    go_enter Tryz.func12,Tryz.ntmps12
    go_wp2_with fail
    with_reducible refine HOF.out.mono ?_
    rintro e w1 ⟨rfl,rfl⟩
    go_wp2
    go_ret
    exact⟨rfl,HSAME.out (by decide)⟩
   ·have b3:((k:Int) == (t:Int))=false:=by simpa using h2
    have hcur:w.cell? ⟨d,3,none⟩=some (.int .i64 q.cur):=by
     obtain⟨_,h1,_,_⟩:=r16
     exact (cells5q h1).2.2.2.1
    by_cases h3:q.cur=id
    ·have e:moveE l id t=8:=by
       unfold moveE
       rw [hofN]
       dsimp only
       rw [if_neg h1,if_neg h2,hq]
       exact if_pos h3
     rw [e] at HSAME ⊢
     obtain⟨n,hn⟩:∃n,l.length=n:=⟨_,rfl⟩
     rw [hn] at c0 n2 b2 hlen hk
     have i0:(0:Int)≤k:=by omega
     have i1:(k:Int) < n:=by omega
     rw [h3] at hcur
     clear h hc hv hofN e hq hfq hT r16 hoc hn h1 h3
     go_enter Tryz.func12,Tryz.ntmps12
     go_wp2_with fail
     with_reducible refine HOF.out.mono ?_
     rintro e w1 ⟨rfl,rfl⟩
     go_wp2
     go_ret
     exact⟨rfl,HSAME.out (by decide)⟩
    ·have e:moveE l id t=0:=by
       unfold moveE
       rw [hofN]
       dsimp only
       rw [if_neg h1,if_neg h2,hq]
       exact if_neg h3
     have HM:=xhd (rcmove_any h hc hq hoc hfq (t:=t) (by omega) (by omega))
     have e2:moveC l id t=goC l id k t:=by
      unfold moveC
      rw [if_pos e,hofN]
      rfl
     rw [e,e2]
     have b4:(q.cur == id)=false:=by simpa using h3
     obtain⟨cur,hcu⟩:∃c,q.cur=c:=⟨_,rfl⟩
     rw [hcu] at hcur b4
     obtain⟨n,hn⟩:∃n,l.length=n:=⟨_,rfl⟩
     rw [hn] at c0 n2 b2 hlen hk
     have i0:(0:Int)≤k:=by omega
     have i1:(k:Int) < n:=by omega
     clear h hc hv hofN e hq hfq hT r16 hoc hn h1 h3 e2 HSAME hcu
     go_enter Tryz.func12,Tryz.ntmps12
     go_wp2_with fail
     with_reducible refine HOF.out.mono ?_
     rintro e w1 ⟨rfl,rfl⟩
     go_wp2_with fail
     with_reducible refine HM.out.mono ?_
     rintro e w2 ⟨rfl,hE⟩
     have HE:=xhd hE
     clear hE
     go_wp2
     go_ret
     exact⟨rfl,HE.out⟩
theorem sum_range:∀ {t:List Tk},(∀x ∈ t,1≤x.2.2∧x.2.2≤4096)→0≤sumR (t.map (·.2.2))∧sumR (t.map (·.2.2))≤4096*t.length
 |[],_=>by simp [sumR]
 |y::t,h=>by
  have ih:=sum_range (t:=t) fun x hx=>h x (List.mem_cons_of_mem _ hx)
  have hy:=h y (by simp)
  have e0:sumR ((y::t).map (·.2.2))=y.2.2+sumR (t.map (·.2.2)):=by simp [sumR]
  rw [e0,List.length_cons]
  omega
theorem load_range {q:Rq} {c:Int} (h:QOk q c):0≤loadQ q∧loadQ q≤65536:=by
 have h1:=sum_range h.wt
 have h2:=h.len
 have h3:loadQ q=sumR (q.l.map (·.2.2)):=rfl
 rw [h3]
 generalize sumR (q.l.map (·.2.2))=s at h1 ⊢
 omega
theorem loadAt_range {l:List Rq} {c:Int} (h:COk l c) (i:Nat):0≤loadAt l i∧loadAt l i≤65536:=by
 unfold loadAt
 cases hi:l[i]? with
 |none=>simp
 |some q=>exact load_range (h.ok q (mem_at hi))
theorem readyAt_some {l:List Rq} {i:Nat} {q:Rq} (h:l[i]?=some q):readyAt l i=sortQ q.ready:=by
 unfold readyAt
 rw [h]
 rfl
theorem readyAt_len {l:List Rq} {c:Int} (h:COk l c) (i:Nat):(readyAt l i).length≤16:=by
 cases hi:l[i]? with
 |none=>
  unfold readyAt
  rw [hi]
  simp
 |some q=>
  rw [readyAt_some hi,len_sort]
  have:=(h.ok q (mem_at hi)).len
  have:q.ready.length≤q.l.length:=List.length_filter_le _ _
  omega
theorem bal_at {l:List Rq} {i:Nat} (hi:i < (readyAt l (mostTo l l.length)).length) (hlt:(readyAt l (mostTo l l.length))[i].2.2 < loadAt l (mostTo l l.length) - loadAt l (leastTo l l.length)) (h:∀j (hj:j < (readyAt l (mostTo l l.length)).length),j < i→loadAt l (mostTo l l.length) - loadAt l (leastTo l l.length)≤(readyAt l (mostTo l l.length))[j].2.2):
  balC l=some ((readyAt l (mostTo l l.length))[i].1,mostTo l l.length,leastTo l l.length):=by
 unfold balC
 rw [List.find?_eq_some_iff_getElem.2 ⟨by simpa using hlt,i,hi,rfl,fun j hj=>by simpa using h j (by omega) hj⟩]
 rfl
theorem bal_no {l:List Rq} (h:∀j (hj:j < (readyAt l (mostTo l l.length)).length),loadAt l (mostTo l l.length) - loadAt l (leastTo l l.length)≤(readyAt l (mostTo l l.length))[j].2.2):balC l=none:=by
 unfold balC
 rw [List.find?_eq_none.2 fun x hx=>by
  obtain⟨j,hj,rfl⟩:=List.getElem_of_mem hx
  simpa using h j hj]
 rfl
theorem mostTo_succ (l:List Rq) (k:Nat):mostTo l (k+1)=if loadAt l (mostTo l k) < loadAt l k then k else mostTo l k:=rfl
theorem leastTo_succ (l:List Rq) (k:Nat):leastTo l (k+1)=if loadAt l k < loadAt l (leastTo l k) then k else leastTo l k:=rfl
theorem R17.reads {w:World} {b:Nat} {X0:List Nat} {T:List Tq} {l:List Rq} {c:Int} (h:R17 w b X0 T l) (hc:COk l c):
  ∀W,Turned [] w W→∃g cap,W.cell? ⟨b,0,none⟩=some (.slice (some ⟨g,0,none⟩) l.length cap)∧∀i,i < l.length→∃d,W.cell? ⟨g,i,none⟩=some (.pointer (some ⟨d,0,none⟩))∧
   (∀W2,Turned [] w W2→Calls Tryz.prog 46 #[.pointer (some ⟨d,0,none⟩)] W2 fun e w'=>e= .returned (.int .i64 (loadAt l i))∧W2=w')∧
   ∀W2,Turned [] w W2→Calls Tryz.prog 47 #[.pointer (some ⟨d,0,none⟩)] W2 fun e w'=>∃v,e= .returned v∧w'.ownsRow W2.heap.size tT16 3 v (readyAt l i).length (cellsOf encTk (readyAt l i))∧Below W2.heap.size W2 w':=by
 intro W tW
 obtain⟨a,cap,c0,_,hv⟩:=(h.keep tW (by simp)).view
 have hl:=hc.len
 have h0:l[0]?=some l[0]:=List.getElem?_eq_getElem (by omega)
 obtain⟨g,_,_,rfl,_,_,_⟩:=hv 0 _ h0
 refine⟨g,cap,c0,fun i hi=>?_⟩
 have hq:l[i]?=some l[i]:=List.getElem?_eq_getElem hi
 obtain⟨g',d,Y,hg,hT,cp,r16⟩:=hv i _ hq
 have hqk:=hc.ok _ (mem_at hq)
 cases hg
 refine⟨d,cp,fun W2 t2=>?_,fun W2 t2=>?_⟩
 ·rw [loadAt_some hq]
  exact rload_any ((h.keep t2 (by simp)).qs.at_ i _ _ hT hq) (Nat.le_trans hqk.len (by decide)) hqk.wt
 ·rw [readyAt_some hq]
  exact rready_any ((h.keep t2 (by simp)).qs.at_ i _ _ hT hq) (Nat.le_trans hqk.len (by decide))
end Go.Proofs.YtfmciiffcmfagaaGreat
