/-
  The program's queue: Add. (Made by gen_rpadd.py.)
  The program's queue: Weigh. (Made by gen_rpweigh.py.)
  The program's queue: Ready: the loop over a tree, handed on.
-/
import Derived.Test.YtfmciiffcmfagaaGreatZAV
import Derived.Test.YtfmciiffcmfagaaGreatZAU
import Derived.Test.YtfmciiffcmfagaaGreatZAJ
import Derived.Test.YtfmciiffcmfagaaGreatZAl
set_option maxRecDepth 100000
set_option maxHeartbeats 25600000
namespace Go.Proofs.YtfmciiffcmfagaaGreat
open Go.RowKit
section
variable {w w':World} {b bt br:Nat} {q q':Rq} {T T' R R':Tr Nat} {B:Int→Nat} {r r' c:Int} {X Y:List Nat}
theorem RpI.sameT (h:RpI w b q bt br T R B r) (ht:Turned [bt] w w') (h1:TAt w' bt 16 T):RpI w' b q bt br T R B r:=by
 have hn:KeepsN w w':=keepsN_of ht fun k hk=>h.kinds k (by simp at hk;exact mem_blocksQ.2 (.inr (.inl hk)))
 exact⟨ht.same h.h0 (by simp;exact h.nbt),h1,h.h2.keep ht (by simp;exact fun e=>h.ne e.symm) hn,h.ht,h.hr,fun x hx=>ht.same (h.k x hx) (by simp;exact h.nkt hx),h.inj,h.rn,h.ne⟩
theorem RpI.more (h:RpI w b q bt br T R B r) (hq:QOk q c) {id v wt:Int} (h00:0≤id) (hn:findQ q.l id=none) (hl:q.l.length < 16) {K:Nat} (hK:w.heap.size≤K) (ht:Turned [bt,br] w w')
  (hk:w'.heap[K]?=some (.cells (tkC (id,v,wt)) tTk (0,0))) (h1:TAt w' bt 16 (tiT 16 T (0,id,K))) (h2:TAt w' br 16 (tiT 16 R (v,id,K))):
  RpI w' b { q with l:=q.l++[(id,v,wt)] } bt br (tiT 16 T (0,id,K)) (tiT 16 R (v,id,K)) (fun i=>if i=id then K else B i) r:=by
 have hne:=findQ_none hn
 have hcur:0≤q.cur→q.cur≠id:=fun h0 e=>by
  obtain⟨x,hx,ex⟩:=hq.cur h0
  exact hne x hx (ex.trans e)
 have hce:¬q.cur=id:=fun e=>hcur (by omega) e
 have hlt:∀x ∈ q.l,B x.1 < K:=fun x hx=>Nat.lt_of_lt_of_le (lt_of_block (h.k x hx)) hK
 refine⟨?_,h1,h2,(h.ht.insert hn hl K v wt).2,?_,fun x hx=>?_,fun x hx y hy=>?_,h.rn,h.ne⟩
 ·rw [ht.same h.h0 (by simp;exact⟨h.nbt,h.nbr⟩)]
  have e:curP (fun i=>if i=id then K else B i) { q with l:=q.l++[(id,v,wt)] } =curP B q:=by
   by_cases h0:0≤q.cur
   ·rw [curP,curP]
    show (if 0≤q.cur then some (⟨if q.cur=id then K else B q.cur,0,none⟩:Addr) else none)=_
    rw [if_neg (hcur h0)]
   ·rw [curP_none h0,curP_none (q:= { q with l:=q.l++[(id,v,wt)] }) h0]
  rw [quC,quC,e]
 ·have hr:=(h.hr.at_ (id:=id) (k:=K) (fun x hx=>hne x (ready_sub hx).1)).insert (x:=(id,v,wt)) (fun y hy=>hne y (ready_sub hy).1) (by
    have:q.ready.length≤q.l.length:=List.length_filter_le _ _
    omega)
  have e1:itR (fun i=>if i=id then K else B i) (id,v,wt)=(v,id,K):=by simp [itR]
  rw [e1] at hr
  have e2:({ q with l:=q.l++[(id,v,wt)] } :Rq).ready=q.ready++[(id,v,wt)]:=by
   show (q.l++[(id,v,wt)]).filter _=_
   rw [List.filter_append]
   congr 1
   exact List.filter_eq_self.2 fun z hz=>by
    simp at hz
    subst hz
    simpa using fun e:id=q.cur=>hce e.symm
  rw [e2]
  exact hr
 ·rcases List.mem_append.1 hx with hx|hx
  ·rw [if_neg (hne x hx)]
   exact ht.same (h.k x hx) (by simp;exact⟨h.nkt hx,h.nkr hx⟩)
  ·simp at hx
   subst hx
   simpa using hk
 ·rcases List.mem_append.1 hx with hx|hx<;>rcases List.mem_append.1 hy with hy|hy
  ·rw [if_neg (hne x hx),if_neg (hne y hy)]
   exact h.inj x hx y hy
  ·simp at hy
   subst hy
   rw [if_neg (hne x hx),if_pos rfl]
   intro e
   have:=hlt x hx
   omega
  ·simp at hx
   subst hx
   rw [if_neg (hne y hy),if_pos rfl]
   intro e
   have:=hlt y hy
   omega
  ·simp at hx hy
   subst hx hy
   exact fun _=>rfl
theorem rpAdd (h:RpI w b q bt br T R B r) (hq:QOk q c) (id v n:Int) (hv:Word v):Calls Tryz.prog 35 #[.pointer (some ⟨b,0,none⟩), .int .i64 id, .int .u64 v, .int .i64 n] w fun e w'=>e= .returned (.tuple #[.int .u64 (addV q id v n), .int .i64 (addE q id)])∧∃X',RpAt w' b X' (q.add id v n)∧Turned [bt,br] w w'∧Newer (blocksQ b bt br B q.l) w.heap.size X':=by
 by_cases h00:0≤id
 ·have hpl:=hq.place hv n
  have HCL:=xhd (rpClamp h hq.f v n)
  have HWI:=xhd (fun V=>rpWithin n V)
  have HB:=xhd (fun V=>rpByNumber id V)
  have hE:=h.ht.refuse q rfl h00 hq.len
  have HC2:Hid (∀V,Turned [] w V→V.cell? ⟨b,2,none⟩=some (.pointer (some ⟨bt,0,none⟩))):=xhd fun V tV=>(cells6 (tV.same h.h0 (by simp))).1.2.2.1
  have HI1:Hid (∀V,Turned [] w V→V.heap[w.heap.size]?=some (.cells #[.int .u64 (q.place v n), .int .i64 id, .int .i64 (bringR n 1 4096)] tTk (0,0))→Calls Tryz.prog 55 #[.pointer (some ⟨bt,0,none⟩), .agg #[.int .u64 0, .int .i64 id], .pointer (some ⟨w.heap.size,0,none⟩)] V fun e V'=>e= .returned (.int .i64 (addE q id))∧(TAt V' bt 16 (tiT 16 T (0,id,w.heap.size))∧Turned [bt] w V'∧V'.heap[w.heap.size]?=some (.cells #[.int .u64 (q.place v n), .int .i64 id, .int .i64 (bringR n 1 4096)] tTk (0,0)))):=xhd fun V tV kV=>by
   refine (insert_any (h.h1.later tV) 0 id w.heap.size (h.len hq).1).mono fun e V' g=>⟨by rw [g.1,hE],g.2.1,(tV.mono (X:=[bt]) (fun k hk=>by simp at hk)).trans g.2.2 (Newer.refl _ _),g.2.2.same kV ?_⟩
   simp
   have:=h.h1.lt
   omega
  have HC3:Hid (∀V,(TAt V bt 16 (tiT 16 T (0,id,w.heap.size))∧Turned [bt] w V∧V.heap[w.heap.size]?=some (.cells #[.int .u64 (q.place v n), .int .i64 id, .int .i64 (bringR n 1 4096)] tTk (0,0)))→V.cell? ⟨b,2,none⟩=some (.pointer (some ⟨bt,0,none⟩))∧True):=xhd fun V g=>⟨(cells6 (g.2.1.same h.h0 (by simp;exact h.nbt))).1.2.2.1,trivial⟩
  by_cases he:addE q id=0
  ·
   have hfn:findQ q.l id=none:=by
    cases hf:findQ q.l id with
    |none=>rfl
    |some x=>rw [addE,hf,if_neg (by omega),Option.isSome_some,if_pos rfl] at he;omega
   have hl16:q.l.length < 16:=by
    rw [addE,hfn,if_neg (by omega),Option.isSome_none,if_neg (by simp)] at he
    split at he
    ·omega
    ·omega
   have hadd:q.add id v n= { q with l:=q.l++[(id,q.place v n,bringR n 1 4096)] } :=by
    rw [Rq.add,hfn,if_neg (by simp;omega),place_bring]
   have hV:addV q id v n=q.place v n:=by rw [addV,if_pos he,place_bring]
   rw [he] at HI1
   rw [hV,he]
   have HMV:Hid (∀V D,(TAt V bt 16 (tiT 16 T (0,id,w.heap.size))∧Turned [bt] w V∧V.heap[w.heap.size]?=some (.cells #[.int .u64 (q.place v n), .int .i64 id, .int .i64 (bringR n 1 4096)] tTk (0,0)))→Turned [] V D→D.cell? ⟨b,3,none⟩=some (.pointer (some ⟨br,0,none⟩))∧D.cell? ⟨w.heap.size,0,none⟩=some (.int .u64 (q.place v n))∧D.cell? ⟨w.heap.size,1,none⟩=some (.int .i64 id)∧
     (TAt D bt 16 (tiT 16 T (0,id,w.heap.size))∧Turned [bt] w D∧D.heap[w.heap.size]?=some (.cells #[.int .u64 (q.place v n), .int .i64 id, .int .i64 (bringR n 1 4096)] tTk (0,0)))):=xhd fun V D g tD=>by
    have t2:Turned [bt] w D:=g.2.1.trans (tD.mono (X:=[bt]) (fun k hk=>by simp at hk)) (Newer.refl _ _)
    have k2:=tD.same g.2.2 (by simp)
    obtain⟨⟨_,_,_,c3,_,_⟩,_⟩:=cells6 (t2.same h.h0 (by simp;exact h.nbt))
    obtain⟨⟨k0,k1,_⟩,_⟩:=cells3k k2
    exact⟨c3,k0,k1,g.1.later tD,t2,k2⟩
   have HI2:Hid (∀D,(TAt D bt 16 (tiT 16 T (0,id,w.heap.size))∧Turned [bt] w D∧D.heap[w.heap.size]?=some (.cells #[.int .u64 (q.place v n), .int .i64 id, .int .i64 (bringR n 1 4096)] tTk (0,0)))→Calls Tryz.prog 55 #[.pointer (some ⟨br,0,none⟩), .agg #[.int .u64 (q.place v n), .int .i64 id], .pointer (some ⟨w.heap.size,0,none⟩)] D fun e V'=>e= .returned (.int .i64 (tiE 16 R (q.place v n,id)))∧
     (TAt V' bt 16 (tiT 16 T (0,id,w.heap.size))∧TAt V' br 16 (tiT 16 R (q.place v n,id,w.heap.size))∧Turned [bt,br] w V'∧V'.heap[w.heap.size]?=some (.cells #[.int .u64 (q.place v n), .int .i64 id, .int .i64 (bringR n 1 4096)] tTk (0,0)))):=xhd fun D g=>by
    have n1:KeepsN w D:=keepsN_of g.2.1 fun k hk=>h.kinds k (by simp at hk;exact mem_blocksQ.2 (.inr (.inl hk)))
    have hrD:=h.h2.keep g.2.1 (by simp;exact fun e=>h.ne e.symm) n1
    refine (insert_any hrD (q.place v n) id w.heap.size (h.len hq).2).mono fun e V' g3=>⟨g3.1,?_,g3.2.1,?_,g3.2.2.same g.2.2 ?_⟩
    ·obtain⟨p,hp,_⟩:=hrD
     exact g.1.keep g3.2.2 (by simp;exact h.ne) (keepsN_of g3.2.2 fun k hk=>by
      have e:k=br:=by simpa using hk
      rw [e]
      exact⟨_,_,hp,by decide⟩)
    ·exact (g.2.1.mono (X:=[bt,br]) (fun k hk=> .inl (by simp at hk;simp [hk]))).trans g3.2.2 (fun k hk=> .inl (by simp at hk;simp [hk]))
    ·simp
     have:=h.h2.lt
     omega
   have HF2:Hid (∀V,(TAt V bt 16 (tiT 16 T (0,id,w.heap.size))∧TAt V br 16 (tiT 16 R (q.place v n,id,w.heap.size))∧Turned [bt,br] w V∧V.heap[w.heap.size]?=some (.cells #[.int .u64 (q.place v n), .int .i64 id, .int .i64 (bringR n 1 4096)] tTk (0,0)))→RpAt V b (blocksQ b bt br (fun i=>if i=id then w.heap.size else B i) (q.add id v n).l) (q.add id v n)∧Turned [bt,br] w V∧Newer (blocksQ b bt br B q.l) w.heap.size (blocksQ b bt br (fun i=>if i=id then w.heap.size else B i) (q.add id v n).l)∧V.cell? ⟨w.heap.size,0,none⟩=some (.int .u64 (q.place v n))):=xhd fun V g=>by
    have hm:=h.more hq h00 hfn hl16 (Nat.le_refl _) g.2.2.1 g.2.2.2 g.1 g.2.1
    refine⟨⟨bt,br,_,_,_,r,rfl,by rw [hadd];exact hm⟩,g.2.2.1,fun k hk=>?_,(cells3k g.2.2.2).1.1⟩
    rw [hadd] at hk
    rcases mem_blocksQ.1 hk with rfl|rfl|rfl|⟨x,hx,rfl⟩
    ·exact .inl (mem_blocksQ.2 (.inl rfl))
    ·exact .inl (mem_blocksQ.2 (.inr (.inl rfl)))
    ·exact .inl (mem_blocksQ.2 (.inr (.inr (.inl rfl))))
    ·rcases List.mem_append.1 hx with hx|hx
     ·rw [if_neg (findQ_none hfn x hx)]
      exact .inl (mem_blocksQ.2 (.inr (.inr (.inr ⟨x,hx,rfl⟩))))
     ·simp at hx
      subst hx
      exact .inr (by simp)
   obtain⟨re,hre⟩:∃re,tiE 16 R (q.place v n,id)=re:=⟨_,rfl⟩
   rw [hre] at HI2
   obtain⟨pl,hplq⟩:∃pl,q.place v n=pl:=⟨_,rfl⟩
   rw [hplq] at HCL HI1 HC3 HMV HI2 HF2 ⊢
   obtain⟨wb,hwb⟩:∃wb,bringR n 1 4096=wb:=⟨_,rfl⟩
   rw [hwb] at HWI HI1 HC3 HMV HI2 HF2
   have hid1:¬id < 0:=by omega
   have hid2:decide (id < 0)=false:=by simpa using h00
   clear h hq hv hpl hE he hfn hl16 hadd hV hre hplq hwb
   suffices Hsuf:Calls Tryz.prog 35 #[.pointer (some ⟨b,0,none⟩), .int .i64 id, .int .u64 v, .int .i64 n] w fun e w'=>e= .returned (.tuple #[.int .u64 pl, .int .i64 0])∧(RpAt w' b (blocksQ b bt br (fun i=>if i=id then w.heap.size else B i) (q.add id v n).l) (q.add id v n)∧Turned [bt,br] w w'∧Newer (blocksQ b bt br B q.l) w.heap.size (blocksQ b bt br (fun i=>if i=id then w.heap.size else B i) (q.add id v n).l)) from Hsuf.mono fun e w' g=>⟨g.1,_,g.2⟩
   go_enter Tryz.func35,Tryz.ntmps35
   go_wp2_with fail
   with_reducible refine HCL.out.mono ?_
   rintro e V0 ⟨rfl,k1,rfl⟩
   go_wp2_with fail
   with_reducible refine (HWI.out _).mono ?_
   rintro e V1 ⟨rfl,rfl⟩
   have TW:=xhd (((Turned.refl [] w).drewN k1).alloc (.cells #[.int .u64 pl, .int .i64 id, .int .i64 wb] tTk))
   have KW:=xhd (heap_alloc_new (w.drewN k1) (.cells #[.int .u64 pl, .int .i64 id, .int .i64 wb] tTk))
   obtain⟨W1,hW1⟩:∃W1,(w.drewN k1).alloc (.cells #[.int .u64 pl, .int .i64 id, .int .i64 wb] tTk)=W1:=⟨_,rfl⟩
   rw [hW1] at TW KW
   have HW1:=xhd hW1
   have HT0:=xhd TW.out.drew
   have e2:=HC2.out _ TW.out.drew
   clear hW1
   go_wp2_with fail
   (try rw [HW1.out])
   go_region_held3 (fun W=>W.cell? ⟨b,2,none⟩=some (.pointer (some ⟨bt,0,none⟩)))
    (first|exact g2|exact f2|exact e2)
    (first
      |(go_at_call 67
        with_reducible refine (HB.out _).mono ?_
        rintro e V1 ⟨rfl,t1⟩
        have T1:=xhd (HT0.out.join t1)
        have KA:=xhd (show V1.heap[w.heap.size]?=_ from ((Turned.refl [] W1).drew.join t1).same KW.out (by simp))
        have f2:=HC2.out _ T1.out
        clear t1)
      |(go_at_call 55
        with_reducible refine (HI1.out _ T1.out KA.out).mono ?_
        rintro e V2 ⟨rfl,a2⟩
        have A2:=xhd a2
        have g2:=(HC3.out _ a2).1
        clear a2))
   clear g2 f2 e2
   go_wp2_with fail
   obtain⟨D,hD⟩:∃D,V2.drew=D:=⟨_,rfl⟩
   have tD:Turned [] V2 D:=hD ▸ (Turned.refl [] V2).drew
   have A3:=xhd (HMV.out V2 D A2.out tD)
   obtain⟨n3,n0,n1,_⟩:=A3.out
   clear tD
   refine wp_still_tail_at 9 hD (by kernel_rfl) (by kernel_rfl) ?_
   clear hD
   simp only [List.take_succ_cons,List.take_zero,List.drop_succ_cons,List.drop_zero]
   repeat still_step
   refine wpStill_nil ?_
   go_wp2_with fail
   with_reducible refine (HI2.out D A3.out.2.2.2).mono ?_
   rintro e V3 ⟨rfl,a3⟩
   have F:=xhd (HF2.out V3 a3)
   have v3:=F.out.2.2.2
   clear a3 n0 n1 n3
   go_wp2
   go_ret2
   exact⟨rfl,F.out.1,F.out.2.1,F.out.2.2.1⟩
  ·
   have hfix:q.add id v n=q:=by
    rw [Rq.add,if_pos]
    rw [addE,if_neg (by omega)] at he
    by_cases hs:(findQ q.l id).isSome=true
    ·exact .inr (.inl hs)
    ·rw [if_neg hs] at he
     by_cases h16:16≤q.l.length
     ·exact .inr (.inr h16)
     ·rw [if_neg h16] at he
      omega
   have hV:addV q id v n=0:=by rw [addV,if_neg he]
   have hT:tiT 16 T (0,id,w.heap.size)=T:=tiT_not (by show tiE 16 T (0,id)≠0;rw [hE];exact he)
   have HF1:Hid (∀V,(TAt V bt 16 (tiT 16 T (0,id,w.heap.size))∧Turned [bt] w V∧V.heap[w.heap.size]?=some (.cells #[.int .u64 (q.place v n), .int .i64 id, .int .i64 (bringR n 1 4096)] tTk (0,0)))→∃X',RpAt V b X' q∧Turned [bt,br] w V∧Newer (blocksQ b bt br B q.l) w.heap.size X'):=xhd fun V g=>by
    have g1:=g.1
    rw [hT] at g1
    exact⟨_,⟨bt,br,T,R,B,r,rfl,h.sameT g.2.1 g1⟩,g.2.1.mono (X:=[bt,br]) (fun k hk=> .inl (by simp at hk;simp [hk])),Newer.refl _ _⟩
   rw [hV,hfix]
   have hE2:addE q id=12∨addE q id=3:=by
    rw [addE,if_neg (by omega)] at he ⊢
    split
    ·exact .inl rfl
    ·next hh=>
     rw [if_neg hh] at he
     split
     ·exact .inr rfl
     ·next hh2=>
      rw [if_neg hh2] at he
      omega
   obtain⟨pl,hplq⟩:∃pl,q.place v n=pl:=⟨_,rfl⟩
   rw [hplq] at HCL HI1 HC3 HF1
   obtain⟨wb,hwb⟩:∃wb,bringR n 1 4096=wb:=⟨_,rfl⟩
   rw [hwb] at HWI HI1 HC3 HF1
   have hid1:¬id < 0:=by omega
   have hid2:decide (id < 0)=false:=by simpa using h00
   obtain⟨ee,hee⟩:∃ee,addE q id=ee:=⟨_,rfl⟩
   rw [hee] at HI1 hE2 ⊢
   clear h hq hv hpl hE he hfix hV hT hplq hwb hee
   rcases hE2 with rfl|rfl
   all_goals
    go_enter Tryz.func35,Tryz.ntmps35
    go_wp2_with fail
    with_reducible refine HCL.out.mono ?_
    rintro e V0 ⟨rfl,k1,rfl⟩
    go_wp2_with fail
    with_reducible refine (HWI.out _).mono ?_
    rintro e V1 ⟨rfl,rfl⟩
    have TW:=xhd (((Turned.refl [] w).drewN k1).alloc (.cells #[.int .u64 pl, .int .i64 id, .int .i64 wb] tTk))
    have KW:=xhd (heap_alloc_new (w.drewN k1) (.cells #[.int .u64 pl, .int .i64 id, .int .i64 wb] tTk))
    obtain⟨W1,hW1⟩:∃W1,(w.drewN k1).alloc (.cells #[.int .u64 pl, .int .i64 id, .int .i64 wb] tTk)=W1:=⟨_,rfl⟩
    rw [hW1] at TW KW
    have HW1:=xhd hW1
    have HT0:=xhd TW.out.drew
    have e2:=HC2.out _ TW.out.drew
    clear hW1
    go_wp2_with fail
    (try rw [HW1.out])
    go_region_held3 (fun W=>W.cell? ⟨b,2,none⟩=some (.pointer (some ⟨bt,0,none⟩)))
     (first|exact g2|exact f2|exact e2)
     (first
       |(go_at_call 67
         with_reducible refine (HB.out _).mono ?_
         rintro e V1 ⟨rfl,t1⟩
         have T1:=xhd (HT0.out.join t1)
         have KA:=xhd (show V1.heap[w.heap.size]?=_ from ((Turned.refl [] W1).drew.join t1).same KW.out (by simp))
         have f2:=HC2.out _ T1.out
         clear t1)
       |(go_at_call 55
         with_reducible refine (HI1.out _ T1.out KA.out).mono ?_
         rintro e V2 ⟨rfl,a2⟩
         have A2:=xhd a2
         have g2:=(HC3.out _ a2).1
         clear a2))
    have F:=xhd (HF1.out V2 A2.out)
    clear g2 f2 e2
    go_wp2
    go_ret2
    exact⟨rfl,F.out⟩
 ·have e1:addE q id=1:=by rw [addE,if_pos (by omega)]
  have e2:addV q id v n=0:=by rw [addV,if_neg (by omega)]
  have e3:q.add id v n=q:=by rw [Rq.add,if_pos (.inl (by omega))]
  rw [e1,e2,e3]
  have hid1:id < 0:=by omega
  have hid2:decide (id < 0)=true:=by simpa using h00
  have H:=xhd h
  clear h hq hv e1 e2 e3 h00
  go_enter Tryz.func35,Tryz.ntmps35
  go_wp2
  go_ret2
  exact⟨rfl,_,⟨bt,br,T,R,B,r,rfl,H.out⟩,Turned.refl _ _,Newer.refl _ _⟩
end
end Go.Proofs.YtfmciiffcmfagaaGreat
namespace Go.Proofs.YtfmciiffcmfagaaGreat
open Go.RowKit
section
variable {w w':World} {b bt br:Nat} {q q':Rq} {T T' R R':Tr Nat} {B:Int→Nat} {r r' c:Int} {X Y:List Nat}
theorem weigh_l (hq:QOk q c) {id:Int} {x:Int×Int} (hf:findQ q.l id=some x) (n:Int):
  q.weigh id n= { q with l:=q.l.map (fun z=>if z.1=id then (id,q.place x.1 n,bringR n 1 4096) else z),ran:=if x.2≠bringR n 1 4096∧q.cur=id then q.g else q.ran } :=by
 rw [Rq.weigh,hf]
 simp only
 congr 1
 refine List.map_congr_left fun z hz=>?_
 by_cases e:z.1=id
 ·rw [if_pos e,if_pos e,findQ_one hq.uniq hz (findQ_mem hf) e,place_bring]
 ·rw [if_neg e,if_neg e]
def WgG (w V:World) (b:Nat) (q:Rq) (bt br:Nat) (B:Int→Nat) (r id x1 x2 pl wb:Int) (kx N:Nat):Prop:=
 Turned [kx] w V∧V.heap[kx]?=some (.cells #[.int .u64 pl, .int .i64 id, .int .i64 wb] tTk (0,0))∧V.cell? ⟨b,4,none⟩=some (.pointer (curP B q))∧V.heap[b]?=some (.cells (quC q bt br (curP B q) r) tQu (0,0))∧V.heap[N]?=some (.cells #[.int .u64 x1, .int .i64 id, .int .i64 x2] tTk (0,0))∧w.heap.size≤N
theorem rpWeigh (h:RpI w b q bt br T R B r) (hq:QOk q c) (id n:Int):Calls Tryz.prog 49 #[.pointer (some ⟨b,0,none⟩), .int .i64 id, .int .i64 n] w fun e w'=>e= .returned (.bool (findQ q.l id).isSome)∧(∃R' r',RpI w' b (q.weigh id n) bt br T R' B r')∧∃Y,(∀k ∈ Y,k ∈ blocksQ b bt br B q.l)∧Turned Y w w':=by
 have HF:=xhd (rpFind h id)
 rw [findP] at HF
 cases hfq:findQ q.l id with
 |none=>
  have e1:q.weigh id n=q:=by rw [Rq.weigh,hfq]
  rw [e1,Option.isSome_none]
  rw [hfq,Option.isSome_none,if_neg (by simp)] at HF
  have H:=xhd h
  clear h hq e1 hfq
  go_enter Tryz.func49,Tryz.ntmps49
  go_wp2_with fail
  with_reducible refine HF.out.mono ?_
  rintro e V ⟨rfl,t⟩
  have HT:=xhd t
  clear t
  go_wp2
  go_ret
  exact⟨rfl,⟨R,r,H.out.later HT.out⟩,[],by simp,HT.out⟩
 |some x=>
  have hx:(id,x) ∈ q.l:=findQ_mem hfq
  have hwl:=weigh_l hq hfq n
  rw [Option.isSome_some]
  rw [hfq,Option.isSome_some,if_pos rfl] at HF
  have hM:=h.mem3 hx
  have HWI:=xhd (fun V=>rpWithin n V)
  have HCL:=xhd (fun V (t:Turned [] w V)=>rpClamp (h.later t) hq.f x.1 n)
  have HK:Hid (∀V,Turned [] w V→V.cell? ⟨B id,0,none⟩=some (.int .u64 x.1)∧V.cell? ⟨B id,1,none⟩=some (.int .i64 id)∧V.cell? ⟨B id,2,none⟩=some (.int .i64 x.2)∧B id < V.heap.size):=xhd fun V tV=>by
   obtain⟨⟨k0,k1,k2⟩,_⟩:=cells3k (tV.same (h.k _ hx) (by simp))
   exact⟨k0,k1,k2,lt_of_block (tV.same (h.k _ hx) (by simp))⟩
  have HKF:Hid (∀V,Turned [] w V→V.frozen? ⟨B id,0,none⟩=false∧V.frozen? ⟨B id,2,none⟩=false):=xhd fun V tV=>by
   obtain⟨_,f⟩:=cells3k (tV.same (h.k _ hx) (by simp))
   exact⟨f 0,f 2⟩
  have HG2:Hid (∀(V W1 W2:World) (kk:Nat),Turned [] w V→Turned [] w W1→W1.heap[V.heap.size]?=some (.cells #[.int .u64 x.1, .int .i64 id, .int .i64 x.2] tTk (0,0))→((W1.drewN kk).setCell ⟨B id,0,none⟩ (.int .u64 (q.place x.1 n))).setCell ⟨B id,2,none⟩ (.int .i64 (bringR n 1 4096))=W2→WgG w W2 b q bt br B r id x.1 x.2 (q.place x.1 n) (bringR n 1 4096) (B id) V.heap.size):=xhd fun V W1 W2 kk tV t1 hN e=>by
   have t2:Turned [B id] w W2:=by
    rw [←e]
    exact (((t1.mono (X:=[B id]) (fun k hk=>by simp at hk)).drewN kk).setCell (.inl (by simp)) _).setCell (.inl (by simp)) _
   have hk2:W2.heap[B id]?=some (.cells #[.int .u64 (q.place x.1 n), .int .i64 id, .int .i64 (bringR n 1 4096)] tTk (0,0)):=by
    rw [←e,heap_setCell_same _ _ _ _ _ _ (heap_setCell_same _ _ _ _ _ _ (show (W1.drewN kk).heap[B id]?=_ from t1.same (h.k _ hx) (by simp)))]
    rfl
   have hb2:=t2.same h.h0 (by simp;exact fun e=>h.nkb hx e.symm)
   have hlt:B id < V.heap.size:=Nat.lt_of_lt_of_le (lt_of_block (h.k _ hx)) tV.size
   refine⟨t2,hk2,(cells6 hb2).1.2.2.2.2.1,hb2,?_,tV.size⟩
   rw [←e]
   exact ((Below.heap_setCell _ _ _ _ (by simp;omega)).trans (Below.heap_setCell _ _ _ _ (by simp;omega))).trans (show (W1.drewN kk).heap[V.heap.size]?=_ from hN)
  by_cases hc:q.cur=id
  ·
   have hid:=hq.ids _ hx
   have hcp:curP B q=some ⟨B id,0,none⟩:=by rw [curP,hc,if_pos hid]
   have hrr:=h.rn (by rw [hc];exact hid)
   have hready:(q.weigh id n).ready=q.ready:=by
    rw [hwl]
    show (q.l.map _).filter (fun (z:Tk)=>decide (z.1≠q.cur))=_
    rw [ready_map (x:=(id,x)) (y:=(id,q.place x.1 n,bringR n 1 4096)) rfl,map_off]
    ·rfl
    ·intro z hz
     have:=(ready_sub hz).2
     show z.1≠id
     rw [←hc]
     exact this
   have HU:Hid (∀V N,WgG w V b q bt br B r id x.1 x.2 (q.place x.1 n) (bringR n 1 4096) (B id) N→V.cell? ⟨B id,2,none⟩=some (.int .i64 (bringR n 1 4096))∧V.cell? ⟨b,5,none⟩=some (.int .i64 r)∧V.cell? ⟨b,0,none⟩=some (.int .i64 q.g)∧V.frozen? ⟨b,5,none⟩=false∧V.cell? ⟨N,2,none⟩=some (.int .i64 x.2)∧True):=xhd fun V N g=>by
    obtain⟨g1,g2,g3,g4,g5,g6⟩:=g
    obtain⟨⟨c0,_,_,_,_,c5⟩,f⟩:=cells6 g4
    exact⟨(cells3k g2).1.2.2,c5,c0,f 5,(cells3k g5).1.2.2,trivial⟩
   by_cases hw:x.2=bringR n 1 4096
   ·have HFC:Hid (∀V N k,WgG w V b q bt br B r id x.1 x.2 (q.place x.1 n) (bringR n 1 4096) (B id) N→(∃R' r',RpI (V.drewN k) b (q.weigh id n) bt br T R' B r')∧∃Y,(∀k ∈ Y,k ∈ blocksQ b bt br B q.l)∧Turned Y w (V.drewN k)):=xhd fun V N k g=>by
      obtain⟨g1,g2,g3,g4,g5,g6⟩:=g
      have t3:=(g1.drewN k)
      have n3:KeepsN w (V.drewN k):=keepsN_of t3 fun k hk=>h.kinds k (by simp at hk;subst hk;exact mem_blocksQ.2 (.inr (.inr (.inr ⟨_,hx,rfl⟩))))
      refine⟨⟨R,r,h.task (y:=(id,q.place x.1 n,bringR n 1 4096)) hx rfl (by rw [hwl]) (t3.mono (fun k hk=> .inl (by simp at hk;simp [hk]))) ?_ g2 (h.h2.keep t3 (by simp;exact fun e=>h.nkr hx e.symm) n3) (by rw [hready];exact h.hr) (fun _=>?_)⟩,_,hM,t3.mono (X:=[b,br,B id]) (fun k hk=> .inl (by simp at hk;simp [hk]))⟩
      ·rw [show (V.drewN k).heap[b]?=V.heap[b]? from rfl,g4,hwl]
       rfl
      ·rw [hwl]
       show r=if _ then q.g else q.ran
       rw [if_neg (fun e=>e.1 hw)]
       exact hrr
    have HCP:=xhd hcp
    have HM:=xhd hM
    obtain⟨x1,x2⟩:=x
    simp only at HCL HK HG2 HU HFC hw
    obtain⟨pl,hpl⟩:∃pl,q.place x1 n=pl:=⟨_,rfl⟩
    rw [hpl] at HCL HG2 HU HFC
    obtain⟨wb,hwb⟩:∃wb,bringR n 1 4096=wb:=⟨_,rfl⟩
    rw [hwb] at HWI HG2 HU HFC hw
    obtain⟨kx,hkx⟩:∃kx,B id=kx:=⟨_,rfl⟩
    rw [hkx] at HF HK HKF HG2 HU HFC HCP
    have HWE:=xhd hw.symm
    clear h hq hfq hx hwl hM hc hid hcp hrr hready hpl hwb hkx hw
    go_enter Tryz.func49,Tryz.ntmps49
    go_wp2_with fail
    with_reducible refine HF.out.mono ?_
    rintro e V ⟨rfl,t0⟩
    have HT0:=xhd t0
    obtain⟨k0,k1,k2,klt⟩:=HK.out V t0
    have HB:=xhd (heap_alloc_new V (.cells #[.int .u64 x1, .int .i64 id, .int .i64 x2] tTk))
    have HTA:=xhd (t0.alloc (.cells #[.int .u64 x1, .int .i64 id, .int .i64 x2] tTk))
    obtain⟨W1,hW1⟩:∃W1,V.alloc (.cells #[.int .u64 x1, .int .i64 id, .int .i64 x2] tTk)=W1:=⟨_,rfl⟩
    rw [hW1] at HB HTA
    have HW1:=xhd hW1
    obtain⟨a0,a1,a2,alt⟩:=HK.out W1 HTA.out
    clear t0 hW1
    go_wp2_with fail
    (try rw [HW1.out])
    with_reducible refine (HCL.out _ HTA.out).mono ?_
    rintro e V0 ⟨rfl,kk,rfl⟩
    have HTB:=xhd (HTA.out.drewN kk)
    obtain⟨b0,b1,b2,blt⟩:=HK.out _ HTB.out
    obtain⟨bf0,bf2⟩:=HKF.out _ HTB.out
    clear k0 k1 k2 klt a0 a1 a2 alt
    go_wp2_with fail
    with_reducible refine (HWI.out _).mono ?_
    rintro e V1 ⟨rfl,rfl⟩
    obtain⟨W2,hW2⟩:∃W2,((W1.drewN kk).setCell ⟨kx,0,none⟩ (.int .u64 pl)).setCell ⟨kx,2,none⟩ (.int .i64 wb)=W2:=⟨_,rfl⟩
    have HG:=xhd (HG2.out V W1 W2 kk HT0.out HTA.out HB.out hW2)
    obtain⟨_,_,m4,_⟩:=HG.out
    rw [HCP.out] at m4
    have heq:=neq_of_eql (tp_same kx W2)
    clear b1
    go_wp2_with fail
    (try rw [hW2])
    obtain⟨u2,u5,u0,uf,w2,_⟩:=HU.out W2 V.heap.size HG.out
    clear m4 heq hW2
    have hw3:=HWE.out
    subst hw3
    go_wp2_with fail
    go_quiet (fail)
    go_wp2
    go_ret
    exact⟨rfl,HFC.out W2 V.heap.size nq HG.out⟩
   ·have HFC:Hid (∀V N k,WgG w V b q bt br B r id x.1 x.2 (q.place x.1 n) (bringR n 1 4096) (B id) N→(∃R' r',RpI ((V.drewN k).setCell ⟨b,5,none⟩ (.int .i64 q.g)) b (q.weigh id n) bt br T R' B r')∧∃Y,(∀k ∈ Y,k ∈ blocksQ b bt br B q.l)∧Turned Y w ((V.drewN k).setCell ⟨b,5,none⟩ (.int .i64 q.g))):=xhd fun V N k g=>by
      obtain⟨g1,g2,g3,g4,g5,g6⟩:=g
      have t3:Turned [b,B id] w ((V.drewN k).setCell ⟨b,5,none⟩ (.int .i64 q.g)):=((g1.drewN k).mono (X:=[b,B id]) (fun k hk=> .inl (by simp at hk;simp [hk]))).setCell (.inl (by simp)) _
      have n3:KeepsN w ((V.drewN k).setCell ⟨b,5,none⟩ (.int .i64 q.g)):=keepsN_of t3 fun k hk=>h.kinds k (by
       simp at hk
       rcases hk with rfl|rfl
       ·exact mem_blocksQ.2 (.inl rfl)
       ·exact mem_blocksQ.2 (.inr (.inr (.inr ⟨_,hx,rfl⟩))))
      refine⟨⟨R,q.g,h.task (y:=(id,q.place x.1 n,bringR n 1 4096)) hx rfl (by rw [hwl]) (t3.mono (fun k hk=> .inl (by simp at hk;rcases hk with rfl|rfl<;>simp))) ?_ ?_ (h.h2.keep t3 (by simp;exact⟨fun e=>h.nbr e.symm,fun e=>h.nkr hx e.symm⟩) n3) (by rw [hready];exact h.hr) (fun _=>?_)⟩,_,hM,t3.mono (X:=[b,br,B id]) (fun k hk=> .inl (by simp at hk;rcases hk with rfl|rfl<;>simp))⟩
      ·rw [heap_setCell_same _ _ _ _ _ _ (show (V.drewN k).heap[b]?=_ from g4),hwl]
       rfl
      ·exact (Below.heap_setCell _ _ _ _ (by simp;exact h.nkb hx)).trans g2
      ·rw [hwl]
       show q.g=if _ then q.g else q.ran
       rw [if_pos ⟨hw,hc⟩]
    have HCP:=xhd hcp
    have HM:=xhd hM
    obtain⟨x1,x2⟩:=x
    simp only at HCL HK HG2 HU HFC hw
    obtain⟨pl,hpl⟩:∃pl,q.place x1 n=pl:=⟨_,rfl⟩
    rw [hpl] at HCL HG2 HU HFC
    obtain⟨wb,hwb⟩:∃wb,bringR n 1 4096=wb:=⟨_,rfl⟩
    rw [hwb] at HWI HG2 HU HFC hw
    obtain⟨kx,hkx⟩:∃kx,B id=kx:=⟨_,rfl⟩
    rw [hkx] at HF HK HKF HG2 HU HFC HCP
    have hw2:(wb == x2)=false:=by simpa using fun e:wb=x2=>hw e.symm
    have hw3:¬wb=x2:=fun e=>hw e.symm
    clear h hq hfq hx hwl hM hc hid hcp hrr hready hpl hwb hkx
    go_enter Tryz.func49,Tryz.ntmps49
    go_wp2_with fail
    with_reducible refine HF.out.mono ?_
    rintro e V ⟨rfl,t0⟩
    have HT0:=xhd t0
    obtain⟨k0,k1,k2,klt⟩:=HK.out V t0
    have HB:=xhd (heap_alloc_new V (.cells #[.int .u64 x1, .int .i64 id, .int .i64 x2] tTk))
    have HTA:=xhd (t0.alloc (.cells #[.int .u64 x1, .int .i64 id, .int .i64 x2] tTk))
    obtain⟨W1,hW1⟩:∃W1,V.alloc (.cells #[.int .u64 x1, .int .i64 id, .int .i64 x2] tTk)=W1:=⟨_,rfl⟩
    rw [hW1] at HB HTA
    have HW1:=xhd hW1
    obtain⟨a0,a1,a2,alt⟩:=HK.out W1 HTA.out
    clear t0 hW1
    go_wp2_with fail
    (try rw [HW1.out])
    with_reducible refine (HCL.out _ HTA.out).mono ?_
    rintro e V0 ⟨rfl,kk,rfl⟩
    have HTB:=xhd (HTA.out.drewN kk)
    obtain⟨b0,b1,b2,blt⟩:=HK.out _ HTB.out
    obtain⟨bf0,bf2⟩:=HKF.out _ HTB.out
    clear k0 k1 k2 klt a0 a1 a2 alt
    go_wp2_with fail
    with_reducible refine (HWI.out _).mono ?_
    rintro e V1 ⟨rfl,rfl⟩
    obtain⟨W2,hW2⟩:∃W2,((W1.drewN kk).setCell ⟨kx,0,none⟩ (.int .u64 pl)).setCell ⟨kx,2,none⟩ (.int .i64 wb)=W2:=⟨_,rfl⟩
    have HG:=xhd (HG2.out V W1 W2 kk HT0.out HTA.out HB.out hW2)
    obtain⟨_,_,m4,_⟩:=HG.out
    rw [HCP.out] at m4
    have heq:=neq_of_eql (tp_same kx W2)
    clear b1
    go_wp2_with fail
    (try rw [hW2])
    obtain⟨u2,u5,u0,uf,w2,_⟩:=HU.out W2 V.heap.size HG.out
    clear m4 heq hW2
    go_wp2_with fail
    go_quiet (fail)
    go_wp2
    go_ret
    exact⟨rfl,HFC.out W2 V.heap.size nq HG.out⟩
  ·
   have hrd:(id,x) ∈ q.ready:=ready_or hx (fun e=>hc e.symm)
   have hready:(q.weigh id n).ready=q.ready.map fun z=>if z.1=id then (id,q.place x.1 n,bringR n 1 4096) else z:=by
    rw [hwl]
    show (q.l.map _).filter (fun (z:Tk)=>decide (z.1≠q.cur))=_
    exact ready_map (x:=(id,x)) (y:=(id,q.place x.1 n,bringR n 1 4096)) rfl q.cur
   have HMV:Hid (∀V D N,WgG w V b q bt br B r id x.1 x.2 (q.place x.1 n) (bringR n 1 4096) (B id) N→Turned [] V D→D.cell? ⟨b,3,none⟩=some (.pointer (some ⟨br,0,none⟩))∧D.cell? ⟨B id,0,none⟩=some (.int .u64 (q.place x.1 n))∧D.cell? ⟨B id,1,none⟩=some (.int .i64 id)∧D.cell? ⟨N,0,none⟩=some (.int .u64 x.1)∧D.cell? ⟨N,1,none⟩=some (.int .i64 id)∧
     (Turned [B id] w D∧D.heap[B id]?=some (.cells #[.int .u64 (q.place x.1 n), .int .i64 id, .int .i64 (bringR n 1 4096)] tTk (0,0))∧D.heap[b]?=some (.cells (quC q bt br (curP B q) r) tQu (0,0)))):=xhd fun V D N g tD=>by
    obtain⟨g1,g2,g3,g4,g5,g6⟩:=g
    obtain⟨⟨k0,k1,_⟩,_⟩:=cells3k (tD.same g2 (by simp))
    obtain⟨⟨m0,m1,_⟩,_⟩:=cells3k (tD.same g5 (by simp))
    exact⟨(cells6 (tD.same g4 (by simp))).1.2.2.2.1,k0,k1,m0,m1,g1.trans (tD.mono (X:=[B id]) (fun k hk=>by simp at hk)) (Newer.refl _ _),tD.same g2 (by simp),tD.same g4 (by simp)⟩
   have HM2:Hid (∀D,(Turned [B id] w D∧D.heap[B id]?=some (.cells #[.int .u64 (q.place x.1 n), .int .i64 id, .int .i64 (bringR n 1 4096)] tTk (0,0))∧D.heap[b]?=some (.cells (quC q bt br (curP B q) r) tQu (0,0)))→Calls Tryz.prog 75 #[.pointer (some ⟨br,0,none⟩), .agg #[.int .u64 x.1, .int .i64 id], .agg #[.int .u64 (q.place x.1 n), .int .i64 id]] D fun e V'=>e= .returned (.int .i64 (tmE R (x.1,id) (q.place x.1 n,id)))∧
     (TAt V' br 16 (tmT R (x.1,id) (q.place x.1 n,id))∧Turned [b,br,B id] w V'∧V'.heap[B id]?=some (.cells #[.int .u64 (q.place x.1 n), .int .i64 id, .int .i64 (bringR n 1 4096)] tTk (0,0))∧V'.heap[b]?=some (.cells (quC q bt br (curP B q) r) tQu (0,0)))):=xhd fun D g=>by
    have n1:KeepsN w D:=keepsN_of g.1 fun k hk=>h.kinds k (by simp at hk;subst hk;exact mem_blocksQ.2 (.inr (.inr (.inr ⟨_,hx,rfl⟩))))
    refine (move_any (h.h2.keep g.1 (by simp;exact fun e=>h.nkr hx e.symm) n1) x.1 id (q.place x.1 n) id (h.len hq).2).mono fun e V' g3=>⟨g3.1,g3.2.1,?_,g3.2.2.same g.2.1 (by simp;exact h.nkr hx),g3.2.2.same g.2.2 (by simp;exact h.nbr)⟩
    exact (g.1.mono (X:=[b,br,B id]) (fun k hk=> .inl (by simp at hk;simp [hk]))).trans g3.2.2 (fun k hk=> .inl (by simp at hk;simp [hk]))
   have HF2:Hid (∀V,(TAt V br 16 (tmT R (x.1,id) (q.place x.1 n,id))∧Turned [b,br,B id] w V∧V.heap[B id]?=some (.cells #[.int .u64 (q.place x.1 n), .int .i64 id, .int .i64 (bringR n 1 4096)] tTk (0,0))∧V.heap[b]?=some (.cells (quC q bt br (curP B q) r) tQu (0,0)))→(∃R' r',RpI V b (q.weigh id n) bt br T R' B r')∧∃Y,(∀k ∈ Y,k ∈ blocksQ b bt br B q.l)∧Turned Y w V):=xhd fun V g=>by
    obtain⟨g1,g2,g3,g4⟩:=g
    refine⟨⟨_,r,h.task (y:=(id,q.place x.1 n,bringR n 1 4096)) hx rfl (by rw [hwl]) g2 ?_ g3 g1 ?_ (fun h0=>?_)⟩,_,hM,g2⟩
    ·rw [g4,hwl]
     rfl
    ·rw [hready]
     exact h.hr.move (ready_nodup hq.uniq) hrd (q.place x.1 n) (bringR n 1 4096)
    ·rw [hwl] at h0 ⊢
     show r=if _ then q.g else q.ran
     rw [if_neg (fun e=>hc e.2)]
     exact h.rn h0
   obtain⟨me,hme⟩:∃me,tmE R (x.1,id) (q.place x.1 n,id)=me:=⟨_,rfl⟩
   rw [hme] at HM2
   by_cases h0:0≤q.cur
   ·obtain⟨y,hy,ey,hcp⟩:=curP_some hq h0 B
    have hne:¬B id=B y.1:=fun e=>hc (by rw [←ey];exact (h.inj _ hx _ hy e).symm)
    have HEQ:Hid (∀V N,WgG w V b q bt br B r id x.1 x.2 (q.place x.1 n) (bringR n 1 4096) (B id) N→(binOp .eql tTp (.pointer (some ⟨B id,0,none⟩)) (.pointer (some ⟨B y.1,0,none⟩))).run Tryz.prog V= .ok (.bool false) V):=xhd fun V N g=>
     tp_other hne g.2.1 (g.1.same (h.k _ hy) (by simp;exact fun e=>hne e.symm))
    obtain⟨ky,hky⟩:∃ky,B y.1=ky:=⟨_,rfl⟩
    rw [hky] at hcp HEQ
    have HCP:=xhd hcp
    have HM:=xhd hM
    obtain⟨x1,x2⟩:=x
    simp only at HCL HK HG2 HMV HM2 HF2 HEQ
    obtain⟨pl,hpl⟩:∃pl,q.place x1 n=pl:=⟨_,rfl⟩
    rw [hpl] at HCL HG2 HMV HM2 HF2 HEQ
    obtain⟨wb,hwb⟩:∃wb,bringR n 1 4096=wb:=⟨_,rfl⟩
    rw [hwb] at HWI HG2 HMV HM2 HF2 HEQ
    obtain⟨kx,hkx⟩:∃kx,B id=kx:=⟨_,rfl⟩
    rw [hkx] at HF HK HKF HG2 HMV HM2 HF2 HEQ
    clear h hq hfq hx hwl hM hc hrd hready hme h0 hy ey hcp hne hky hpl hwb hkx HM
    go_enter Tryz.func49,Tryz.ntmps49
    go_wp2_with fail
    with_reducible refine HF.out.mono ?_
    rintro e V ⟨rfl,t0⟩
    have HT0:=xhd t0
    obtain⟨k0,k1,k2,klt⟩:=HK.out V t0
    have HB:=xhd (heap_alloc_new V (.cells #[.int .u64 x1, .int .i64 id, .int .i64 x2] tTk))
    have HTA:=xhd (t0.alloc (.cells #[.int .u64 x1, .int .i64 id, .int .i64 x2] tTk))
    obtain⟨W1,hW1⟩:∃W1,V.alloc (.cells #[.int .u64 x1, .int .i64 id, .int .i64 x2] tTk)=W1:=⟨_,rfl⟩
    rw [hW1] at HB HTA
    have HW1:=xhd hW1
    obtain⟨a0,a1,a2,alt⟩:=HK.out W1 HTA.out
    clear t0 hW1
    go_wp2_with fail
    (try rw [HW1.out])
    with_reducible refine (HCL.out _ HTA.out).mono ?_
    rintro e V0 ⟨rfl,kk,rfl⟩
    have HTB:=xhd (HTA.out.drewN kk)
    obtain⟨b0,b1,b2,blt⟩:=HK.out _ HTB.out
    obtain⟨bf0,bf2⟩:=HKF.out _ HTB.out
    clear k0 k1 k2 klt a0 a1 a2 alt
    go_wp2_with fail
    with_reducible refine (HWI.out _).mono ?_
    rintro e V1 ⟨rfl,rfl⟩
    obtain⟨W2,hW2⟩:∃W2,((W1.drewN kk).setCell ⟨kx,0,none⟩ (.int .u64 pl)).setCell ⟨kx,2,none⟩ (.int .i64 wb)=W2:=⟨_,rfl⟩
    have HG:=xhd (HG2.out V W1 W2 kk HT0.out HTA.out HB.out hW2)
    obtain⟨_,_,m4,_⟩:=HG.out
    rw [HCP.out] at m4
    have heq:=neq_of_eql (HEQ.out W2 V.heap.size HG.out)
    clear b1
    go_wp2_with fail
    (try rw [hW2])
    clear m4 hW2
    obtain⟨D,hD⟩:∃D,W2.drew=D:=⟨_,rfl⟩
    have tD:Turned [] W2 D:=hD ▸ (Turned.refl [] W2).drew
    have A3:=xhd (HMV.out W2 D V.heap.size HG.out tD)
    obtain⟨n3,n0,n1,w0,w1,_⟩:=A3.out
    clear tD heq
    refine wp_still_tail_at 10 hD (by kernel_rfl) (by kernel_rfl) ?_
    clear hD
    simp only [List.take_succ_cons,List.take_zero,List.drop_succ_cons,List.drop_zero]
    repeat still_step
    refine wpStill_nil ?_
    go_wp2_with fail
    with_reducible refine (HM2.out D A3.out.2.2.2.2.2).mono ?_
    rintro e V3 ⟨rfl,a3⟩
    have F:=xhd (HF2.out V3 a3)
    clear a3 n0 n1 n3 w0 w1
    go_wp2
    go_ret
    exact⟨rfl,F.out⟩
   ·have hcp:=curP_none h0 B
    have HCP:=xhd hcp
    have HM:=xhd hM
    obtain⟨x1,x2⟩:=x
    simp only at HCL HK HG2 HMV HM2 HF2
    obtain⟨pl,hpl⟩:∃pl,q.place x1 n=pl:=⟨_,rfl⟩
    rw [hpl] at HCL HG2 HMV HM2 HF2
    obtain⟨wb,hwb⟩:∃wb,bringR n 1 4096=wb:=⟨_,rfl⟩
    rw [hwb] at HWI HG2 HMV HM2 HF2
    obtain⟨kx,hkx⟩:∃kx,B id=kx:=⟨_,rfl⟩
    rw [hkx] at HF HK HKF HG2 HMV HM2 HF2
    clear h hq hfq hx hwl hM hc hrd hready hme h0 hcp hpl hwb hkx HM
    go_enter Tryz.func49,Tryz.ntmps49
    go_wp2_with fail
    with_reducible refine HF.out.mono ?_
    rintro e V ⟨rfl,t0⟩
    have HT0:=xhd t0
    obtain⟨k0,k1,k2,klt⟩:=HK.out V t0
    have HB:=xhd (heap_alloc_new V (.cells #[.int .u64 x1, .int .i64 id, .int .i64 x2] tTk))
    have HTA:=xhd (t0.alloc (.cells #[.int .u64 x1, .int .i64 id, .int .i64 x2] tTk))
    obtain⟨W1,hW1⟩:∃W1,V.alloc (.cells #[.int .u64 x1, .int .i64 id, .int .i64 x2] tTk)=W1:=⟨_,rfl⟩
    rw [hW1] at HB HTA
    have HW1:=xhd hW1
    obtain⟨a0,a1,a2,alt⟩:=HK.out W1 HTA.out
    clear t0 hW1
    go_wp2_with fail
    (try rw [HW1.out])
    with_reducible refine (HCL.out _ HTA.out).mono ?_
    rintro e V0 ⟨rfl,kk,rfl⟩
    have HTB:=xhd (HTA.out.drewN kk)
    obtain⟨b0,b1,b2,blt⟩:=HK.out _ HTB.out
    obtain⟨bf0,bf2⟩:=HKF.out _ HTB.out
    clear k0 k1 k2 klt a0 a1 a2 alt
    go_wp2_with fail
    with_reducible refine (HWI.out _).mono ?_
    rintro e V1 ⟨rfl,rfl⟩
    obtain⟨W2,hW2⟩:∃W2,((W1.drewN kk).setCell ⟨kx,0,none⟩ (.int .u64 pl)).setCell ⟨kx,2,none⟩ (.int .i64 wb)=W2:=⟨_,rfl⟩
    have HG:=xhd (HG2.out V W1 W2 kk HT0.out HTA.out HB.out hW2)
    obtain⟨_,_,m4,_⟩:=HG.out
    rw [HCP.out] at m4
    clear b1
    go_wp2_with fail
    (try rw [hW2])
    clear m4 hW2
    obtain⟨D,hD⟩:∃D,W2.drew=D:=⟨_,rfl⟩
    have tD:Turned [] W2 D:=hD ▸ (Turned.refl [] W2).drew
    have A3:=xhd (HMV.out W2 D V.heap.size HG.out tD)
    obtain⟨n3,n0,n1,w0,w1,_⟩:=A3.out
    clear tD
    refine wp_still_tail_at 10 hD (by kernel_rfl) (by kernel_rfl) ?_
    clear hD
    simp only [List.take_succ_cons,List.take_zero,List.drop_succ_cons,List.drop_zero]
    repeat still_step
    refine wpStill_nil ?_
    go_wp2_with fail
    with_reducible refine (HM2.out D A3.out.2.2.2.2.2).mono ?_
    rintro e V3 ⟨rfl,a3⟩
    have F:=xhd (HF2.out V3 a3)
    clear a3 n0 n1 n3 w0 w1
    go_wp2
    go_ret
    exact⟨rfl,F.out⟩
end
end Go.Proofs.YtfmciiffcmfagaaGreat
namespace Go.Proofs.YtfmciiffcmfagaaGreat
open Go.RowKit
attribute [local go_sem] Oper.semAt_some
abbrev tSqK:TypeId:=111
abbrev tYd:TypeId:=128
def idV (x:Itm Nat):Int×Int:=(x.2.1,x.1)
theorem TurnSeqY.later {α:Type} {F:Fence} {n:Nat} {P:Program} {g:Nat} {lb:Array Value} {encs:α→Array Value} {Y X:List Nat} {Sp:List α→Prop} {S Sx:List α→List Nat→World→Prop} {w w1:World} (h:TurnSeqY F n P g lb encs Y X Sp S Sx w) (t:Turned [] w w1):
 TurnSeqY F n P g lb encs Y X Sp S Sx w1:=fun l J Jx W hW=>h l J Jx W (t.join hW)
theorem ready_seq {w:World} {Bx Bk Bf:Nat} {t:Tr Nat} (hb:w.heap[Bx]?=some (.cells #[allV Bk Bf] tSqK (0,0))) (hk:KeptT w Bk Bf t) (hL:∀x ∈ t.list,KeyOk x):
  ∃Y:List Nat,(∀k ∈ Y,k < w.heap.size∧∃cs,w.heap[k]?=some (.cells cs tNd (0,0)))∧∀n,TurnSeqY Fence.wide n Tryz.prog 93 #[.pointer (some ⟨Bx,0,none⟩)] encR Y [] (fun xs=>xs <+:t.list.map idV) (fun xs _ _=>xs=t.list.map idV) (fun xs _ _=>xs <+:t.list.map idV) w:=by
 obtain⟨Y,hY,hseq⟩:=tall_seq hk hL
 refine⟨Y,hY,fun n=>?_⟩
 intro l J Jx W hW hJY hJxY hJ hJx hYi hj0
 have b0:=cell1 (hW.same hb (by simp))
 have hYl:∀k ∈ Y,k < W.heap.size:=fun k hk=>Nat.lt_of_lt_of_le (hY k hk).1 hW.size
 obtain⟨W1,hW1⟩:∃W1,W.alloc (.cells #[.func (.yield l) #[] #[]] tYd)=W1:=⟨_,rfl⟩
 have t1:Turned [] W W1:=hW1 ▸ (Turned.refl [] W).alloc _
 have y1:W1.heap[W.heap.size]?=some (.cells #[.func (.yield l) #[] #[]] tYd (0,0)):=hW1 ▸ heap_alloc_new W _
 have hlt:=lt_of_block y1
 have b1:=cell1 y1
 have hbl:Bx < W.heap.size:=Nat.lt_of_lt_of_le (lt_of_block hb) hW.size
 have HJ:=xhd hJ
 have HJX:=xhd hJx
 have HJY:=xhd hJY
 have HJXY:=xhd hJxY
 have HYI:=xhd hYi
 have HSQ:=xhd (fun n=>(hseq n).later (hW.join t1))
 have HJ0:=xhd hj0
 have HY1:=xhd y1
 have HT1:=xhd t1
 have HYL:=xhd hYl
 have HYL1:Hid (∀k ∈ Y,k < W1.heap.size):=xhd fun k hk=>Nat.lt_of_lt_of_le (hYl k hk) t1.size
 have HLT:=xhd hlt
 have HW1:=xhd hW1
 clear hJ hJx hJY hJxY hYi hseq hY hb hk hj0 hW t1 y1 hYl hL hW1
 refine callsIn_of_wp_marks Tryz.func93 rfl trivial ?_ rfl
 simp only [Tryz.ntmps93,List.size_toArray,List.length_cons,List.length_nil,Nat.reduceAdd,Nat.reduceSub,Array.replicate_succ,Array.replicate_zero,List.push_toArray,List.append_toArray,List.nil_append,List.cons_append]
 refine wpIn_wide.2 ?_
 go_wp2_with fail
 (try rw [HW1.out])
 refine (wpIn_wide (n:=20)).1 ?_
 refine range_turnsV rfl (by omega) rfl trivial (fun _ _=>rfl) (Y:=Y) (X:=[]) (by simp) HYL1.out (HSQ.out 19) (fun _=>rfl) (fun _ _ _ _ h _=>h) (fun _ _ _ _ h _=>h)
  (fun xs Z V=>∃Zo,J (xs.map idV) Zo V∧(∀k ∈ Z,k ∈ Zo)∧W.heap.size ∈ Zo∧W1.heap.size ∈ Zo∧W1.heap.size+1 ∈ Zo∧(∀k ∈ Zo,k < V.heap.size)∧V.heap[W.heap.size]?=some (.cells #[.func (.yield l) #[] #[]] tYd (0,0))∧∀k ∈ Z,W1.heap.size≤k)
  (fun cc xs Z V=>cc= .ret∧∃Zo,Jx (xs.map idV) Zo V∧(∀k ∈ Z,k ∈ Zo)∧W1.heap.size ∈ Zo∧W1.heap.size+1 ∈ Zo∧(∀k ∈ Zo,k < V.heap.size))
  ?hI ?hIx ?h0 ?hIY ?hIxY ?hsz tKy (fun x=> #[.int .u64 x.1, .int .i64 x.2.1]) ?a1 ?assign ?body ?done ?stop
 case assign=>
  intro l' x Bb V K hBk hK
  gi_wp2
  exact hK
 case hI=>
  rintro xs Z Z' A V ⟨Zo,h1,h2,h3,h4,h5,h6,h7,h8⟩ hz ht hn hb'
  have hsV:=ht.size
  have hZo:∀k ∈ Zo++Z',k < V.heap.size:=fun k hk=>by
   rcases List.mem_append.1 hk with hk|hk
   ·have:=h6 k hk;omega
   ·exact hb' k hk
  refine⟨Zo++Z',HJ.out _ _ _ _ _ h1 (ht.mono (fun k hk=> .inl (by simp at hk;rcases hk with rfl|rfl|hk;exact h4;exact h5;exact h2 k hk))) (fun k hk=>?_) hZo,fun k hk=>List.mem_append_right _ hk,List.mem_append_left _ h3,List.mem_append_left _ h4,List.mem_append_left _ h5,hZo,ht.same h7 (fun hx=>?_),fun k hk=>?_⟩
  ·rcases List.mem_append.1 hk with hk|hk
   ·exact .inl hk
   ·rcases hn k hk with h|h
    ·exact .inl (h2 k h)
    ·exact .inr h
  ·have:=HLT.out
   simp at hx
   rcases hx with hx|hx|hx
   ·omega
   ·omega
   ·have:=h8 _ hx;omega
  ·rcases hn k hk with h|h
   ·exact h8 k h
   ·have:=h6 _ h4;omega
 case hIx=>
  rintro cc xs Z Z' A V ⟨rfl,Zo,h1,h2,h4,h5,h6⟩ hz ht hn hb'
  have hsV:=ht.size
  have hZo:∀k ∈ Zo++Z',k < V.heap.size:=fun k hk=>by
   rcases List.mem_append.1 hk with hk|hk
   ·have:=h6 k hk;omega
   ·exact hb' k hk
  refine⟨rfl,Zo++Z',HJX.out _ _ _ _ _ h1 (ht.mono (fun k hk=> .inl (by simp at hk;rcases hk with rfl|rfl|hk;exact h4;exact h5;exact h2 k hk))) (fun k hk=>?_) hZo,fun k hk=>List.mem_append_right _ hk,List.mem_append_left _ h4,List.mem_append_left _ h5,hZo⟩
  rcases List.mem_append.1 hk with hk|hk
  ·exact .inl hk
  ·rcases hn k hk with h|h
   ·exact .inl (h2 k h)
   ·exact .inr h
 case h0=>
  intro V tV hV
  have tWV:Turned [] W V:=HT1.out.join tV
  have hs1:=HT1.out.size
  have hb':∀k ∈ [W.heap.size,W1.heap.size,W1.heap.size+1],k < V.heap.size:=fun k hk=>by
   have:=HLT.out
   simp at hk
   omega
  refine⟨[W.heap.size,W1.heap.size,W1.heap.size+1],HJ.out _ _ _ _ _ HJ0.out tWV (fun k hk=> .inr (by simp at hk;omega)) hb',by simp,by simp,by simp,by simp,hb',tV.same HY1.out (by simp),by simp⟩
 case hIY=>
  rintro xs Z V ⟨Zo,h1,_⟩ k hk
  exact (HJY.out _ _ _ h1 k hk).trans (HT1.out.block k (HYL.out k hk) (by simp)).symm
 case hIxY=>
  rintro cc xs Z V ⟨_,Zo,h1,_⟩ k hk
  exact (HJXY.out _ _ _ h1 k hk).trans (HT1.out.block k (HYL.out k hk) (by simp)).symm
 case hsz=>
  rintro xs Z V ⟨Zo,_,_,_,_,h5,h6,_⟩
  exact h6 _ h5
 case body=>
  rintro l' pre ⟨x1,x2,x3⟩ Z Bb V hbk hBk hzl ⟨Zo,h1,h2,h3,h4,h5,h6,h7,h8⟩ hsp
  simp only at hbk
  have k0:V.cell? ⟨Bb,0,none⟩=some (.int .u64 x1):=by simp [World.cell?,hbk]
  have k1:V.cell? ⟨Bb,1,none⟩=some (.int .i64 x2):=by simp [World.cell?,hbk]
  have c7:=cell1 h7
  have hpre:(pre.map idV++[(x2,x1)]) <+:t.list.map idV:=by
   obtain⟨r,hr⟩:=hsp
   exact⟨r.map idV,by rw [←hr];simp [idV]⟩
  obtain⟨fn,tmps,assign,bodyc,hy,hR⟩:=HYI.out (pre.map idV) (x2,x1) Zo V h1 hpre
  have HRR:=xhd hR
  have HZZ:=xhd (And.intro h2 (And.intro h3 (And.intro h4 (And.intro h5 (And.intro h6 (And.intro h7 h8))))))
  clear hR h1 h2 h3 h4 h5 h6 h7 h8 hbk hpre hsp hzl
  (try dsimp only at hy)
  gi_wp2
  refine (RoundIn.any HRR.out).mono ?_
  rintro e V3 ⟨hs,hz,⟨rfl,hj3⟩ |⟨rfl,hx3⟩⟩
  ·have FIN:Hid (SameAt [W1.heap.size,W1.heap.size+1] V V3∧V.heap.size≤V3.heap.size∧SameAt Z V V3∧∃Zo,J ((pre++[(x1,x2,x3)]).map idV) Zo V3∧(∀k ∈ Z,k ∈ Zo)∧W.heap.size ∈ Zo∧W1.heap.size ∈ Zo∧W1.heap.size+1 ∈ Zo∧(∀k ∈ Zo,k < V3.heap.size)∧V3.heap[W.heap.size]?=some (.cells #[.func (.yield l) #[] #[]] tYd (0,0))∧∀k ∈ Z,W1.heap.size≤k):=xhd (by
     obtain⟨h2,h3,h4,h5,h6,h7,h8⟩:=HZZ.out
     refine⟨fun k hk=>hs k (by simp at hk;rcases hk with rfl|rfl;exact h4;exact h5),hz,fun k hk=>hs k (h2 k hk),Zo,?_,h2,h3,h4,h5,fun k hk=>Nat.lt_of_lt_of_le (h6 k hk) hz,(hs _ h3).trans h7,h8⟩
     rw [show (pre++[(x1,x2,x3)]).map idV=pre.map idV++[(x2,x1)] by simp [idV]]
     exact hj3)
   clear hs hz hj3
   gi_wp2
   exact FIN.out
  ·have FIN:Hid (SameAt [W1.heap.size,W1.heap.size+1] V V3∧V.heap.size≤V3.heap.size∧SameAt Z V V3∧(Code.ret=Code.ret∧∃Zo,Jx ((pre++[(x1,x2,x3)]).map idV) Zo V3∧(∀k ∈ Z,k ∈ Zo)∧W1.heap.size ∈ Zo∧W1.heap.size+1 ∈ Zo∧(∀k ∈ Zo,k < V3.heap.size))):=xhd (by
     obtain⟨h2,h3,h4,h5,h6,h7,h8⟩:=HZZ.out
     refine⟨fun k hk=>hs k (by simp at hk;rcases hk with rfl|rfl;exact h4;exact h5),hz,fun k hk=>hs k (h2 k hk),rfl,Zo,?_,h2,h4,h5,fun k hk=>Nat.lt_of_lt_of_le (h6 k hk) hz⟩
     rw [show (pre++[(x1,x2,x3)]).map idV=pre.map idV++[(x2,x1)] by simp [idV]]
     exact hx3)
   clear hs hz hx3
   gi_wp2
   obtain⟨f1,f2,f3,_,f4⟩:=FIN.out
   exact⟨f1,f2,f3,rfl,f4⟩
 case done=>
  rintro xs Z V rfl ⟨Zo,h1,h2,h3,h4,h5,h6,h7,h8⟩ hK
  have HF:=xhd (show ∃Z,J (t.list.map idV) Z (V.putObj W1.heap.size (.deferred none)) from⟨Zo,HJ.out _ _ _ _ _ h1 ((Turned.refl Zo V).grown (grownBy_putObj' V _ _) (fun k e=> .inl (by cases e;exact h4))) (Newer.refl _ _) (fun k hk=>by have:=h6 k hk;simp;omega)⟩)
  have HKK:=xhd hK
  clear h1 h2 h3 h4 h5 h6 h7 h8 hK
  go_wp2
  refine⟨by simp, .inl ⟨_,_,rfl,run_takeDeferred HKK.out,?_⟩⟩
  obtain⟨Z2,h1⟩:=HF.out
  exact⟨_,results_none rfl _ _ _,⟨_,rfl⟩, .inl ⟨_,Z2,rfl,h1⟩⟩
 case stop=>
  rintro cc xs Z V hsx ⟨rfl,Zo,h1,h2,h4,h5,h6⟩ hK
  have HF:=xhd (show ∃Z,Jx (xs.map idV) Z (V.putObj W1.heap.size (.deferred none)) from⟨Zo,HJX.out _ _ _ _ _ h1 ((Turned.refl Zo V).grown (grownBy_putObj' V _ _) (fun k e=> .inl (by cases e;exact h4))) (Newer.refl _ _) (fun k hk=>by have:=h6 k hk;simp;omega)⟩)
  have HKK:=xhd hK
  clear h1 h2 h4 h5 h6 hK
  have hpre:xs.map idV <+:t.list.map idV:=by
   obtain⟨r,hr⟩:=hsx
   exact⟨r.map idV,by rw [←hr];simp⟩
  refine wpIn_ret ?_
  simp only [Exit.inBlock]
  refine⟨by simp, .inl ⟨_,_,rfl,run_takeDeferred HKK.out,?_⟩⟩
  obtain⟨Z2,h1⟩:=HF.out
  exact⟨_,results_none rfl _ _ _,⟨_,rfl⟩, .inr ⟨_,Z2,hpre,h1⟩⟩
theorem box_funcR {P:Program} (w:World) (f:Fn) (vs lb:Array Value) (x:Value) (t:TypeId):
  (store ⟨w.heap.size,0,none⟩ (.func f vs lb)).run P (w.alloc (.cells #[x] t))= .ok () (w.alloc (.cells #[.func f vs lb] t)):=by
 rw [run_store _ _ _ _ _ rfl,World.cell?_alloc_at _ _ _ _ rfl,World.frozen?_alloc_at _ _ _ _ rfl,World.setCell_alloc_at _ _ _ _ _ rfl]
 rfl
section
variable {w w':World} {b bt br:Nat} {q q':Rq} {T T' R R':Tr Nat} {B:Int→Nat} {r r' c:Int} {X Y:List Nat}
theorem rpReady (h:RpI w b q bt br T R B r) (hq:QOk q c):Calls Tryz.prog 74 #[.pointer (some ⟨b,0,none⟩)] w fun e w'=>∃Bx,e= .returned (.func (.func 93) #[] #[.pointer (some ⟨Bx,0,none⟩)])∧Turned [] w w'∧
  ∃Y:List Nat,(∀k ∈ Y,k < w'.heap.size∧∃cs,w'.heap[k]?=some (.cells cs tNd (0,0)))∧∀n,TurnSeqY Fence.wide n Tryz.prog 93 #[.pointer (some ⟨Bx,0,none⟩)] encR Y [] (fun xs=>xs <+:rdyL q) (fun xs _ _=>xs=rdyL q) (fun xs _ _=>xs <+:rdyL q) w':=by
 obtain⟨⟨c0,c1,c2,c3,c4,c5⟩,_⟩:=cells6 h.h0
 have HA:=xhd (tall_any h.h2)
 have hkey:=h.hr.key (fun x hx=>hq.ids x (ready_sub hx).1) (fun x hx=>hq.v x (ready_sub hx).1)
 have hlist:R.list.map idV=rdyL q:=by
  rw [h.hr.sorted (ready_nodup hq.uniq),rdyL,List.map_map]
  rfl
 have HR:Hid (∀V Bx Bk Bf,V.heap[Bx]?=some (.cells #[allV Bk Bf] tSqK (0,0))→KeptT V Bk Bf R→∃Y:List Nat,(∀k ∈ Y,k < V.heap.size∧∃cs,V.heap[k]?=some (.cells cs tNd (0,0)))∧∀n,TurnSeqY Fence.wide n Tryz.prog 93 #[.pointer (some ⟨Bx,0,none⟩)] encR Y [] (fun xs=>xs <+:rdyL q) (fun xs _ _=>xs=rdyL q) (fun xs _ _=>xs <+:rdyL q) V):=xhd fun V Bx Bk Bf h1 h2=>by
  rw [←hlist]
  exact ready_seq h1 h2 hkey
 clear h hq c0 c1 c2 c4 c5 hkey hlist
 go_enter Tryz.func74,Tryz.ntmps74
 go_wp2_with fail
 with_reducible refine HA.out.mono ?_
 rintro e w2 ⟨Bk,Bf,rfl,h1,h2,h3,t2⟩
 have ta:=(Turned.refl [] w2).alloc (.cells #[allV Bk Bf] tSqK)
 have HF:=xhd (And.intro (t2.join ta) (HR.out (w2.alloc (.cells #[allV Bk Bf] tSqK)) w2.heap.size Bk Bf (heap_alloc_new w2 _) (h3.later ta)))
 have hst:=box_funcR (P:=Tryz.prog) w2 (.func 102) #[] #[.pointer (some ⟨Bk,0,none⟩), .pointer (some ⟨Bf,0,none⟩)] .nilFunc tSqK
 clear h1 h2 h3 t2 ta
 go_wp2
 go_ret
 exact⟨_,rfl,HF.out.1,HF.out.2⟩
end
end Go.Proofs.YtfmciiffcmfagaaGreat
