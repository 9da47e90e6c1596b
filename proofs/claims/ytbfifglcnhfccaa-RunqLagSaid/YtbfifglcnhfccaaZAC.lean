/-
  A region that draws its order, in a round of a loop over a function: what its loads read abides till its last operation, which waits for them all, and may turn it. No program.
  A region that draws its order, whose store (number e) turns what its loads read, and some of whose operations may come behind the store ('a.x, _ = f(a.x)'). No program.
  The document's Tick. (Made by gen_rqtick.py.)
-/
import Derived.Test.YtbfifglcnhfccaaZAB
import Derived.Test.YtbfifglcnhfccaaZAl
set_option maxRecDepth 100000
set_option maxHeartbeats 25600000
namespace Go.Proofs.Ytbfifglcnhfccaa
open Go.RowKit
def waitsFor (md:Region.Mode) (ops:Array Oper) (e i:Nat):Bool:=
 match ops[e]? with
 |some o=>o.after.any fun d=>Region.binds md d&&d.on == i
 |none=>false
def wpAnyE (P:Program) (md:Region.Mode) (ops:Array Oper) (Q:Exit→Act→World→Prop) (S:World→Prop) (e:Nat):Nat→Array Bool→Act→World→Prop
 |0,done,a,w=>Region.ready md ops done=[]∧Q .normal a w
 |fuel+1,done,a,w=>(Region.ready md ops done=[]→Q .normal a w)∧
  ∀i ∈ Region.ready md ops done,wpOp P ops Q i (fun a' w'=>(i=e∨S w')∧wpAnyE P md ops Q S e fuel (done.setIfInBounds i true) a' w') a w
section
variable {P:Program} {md:Region.Mode} {ops:Array Oper} {Q:Exit→Act→World→Prop} {S:World→Prop} {e:Nat}
def ReadyE (P:Program) (md:Region.Mode) (ops:Array Oper) (Q:Exit→Act→World→Prop) (S:World→Prop) (e fuel:Nat) (done:Array Bool) (a:Act) (w:World) (rs:List Nat):Prop:=
 ∀i ∈ rs,wpOp P ops Q i (fun a' w'=>(i=e∨S w')∧wpAnyE P md ops Q S e fuel (done.setIfInBounds i true) a' w') a w
theorem ReadyE.nil {fuel:Nat} {done:Array Bool} {a:Act} {w:World} :ReadyE P md ops Q S e fuel done a w []:=fun _ h=>by cases h
theorem ReadyE.cons {fuel:Nat} {done:Array Bool} {a:Act} {w:World} {i:Nat} {o:Oper} {rs:List Nat} (ho:ops[i]?=some o)
  (h:∀K':Act→World→Prop,Shut (∀a w,(i=e∨S w)→wpAnyE P md ops Q S e fuel (done.setIfInBounds i true) a w→K' a w)→if Region.wanted o (yielded ops a.tmps)=true then Oper.wp P o a w K' Q else K' (a.put o.dst undef) w)
  (hs:ReadyE P md ops Q S e fuel done a w rs):ReadyE P md ops Q S e fuel done a w (i::rs):=fun j hj=>by
 rcases List.mem_cons.1 hj with rfl|hj
 ·exact wpOp_step ho fun K' hK=>h K' fun a w h1 h2=>hK a w ⟨h1,h2⟩
 ·exact hs j hj
end
end Go.Proofs.Ytbfifglcnhfccaa
namespace Go.Proofs.Ytbfifglcnhfccaa
open Go.RowKit
def wpAnyF (P:Program) (md:Region.Mode) (ops:Array Oper) (Q:Exit→Act→World→Prop) (S:World→Prop) (e:Nat):Nat→Array Bool→Act→World→Prop
 |0,done,a,w=>Region.ready md ops done=[]∧Q .normal a w
 |fuel+1,done,a,w=>(Region.ready md ops done=[]→Q .normal a w)∧
  ∀i ∈ Region.ready md ops done,wpOp P ops Q i (fun a' w'=>((done.setIfInBounds i true).getD e true=true∨S w')∧wpAnyF P md ops Q S e fuel (done.setIfInBounds i true) a' w') a w
section
variable {P:Program} {md:Region.Mode} {ops:Array Oper} {Q:Exit→Act→World→Prop} {S:World→Prop} {e:Nat}
theorem wpAny_of_F:∀(fuel:Nat) (done:Array Bool) (a:Act) (w:World),wpAnyF P md ops Q S e fuel done a w→wpAny P md ops Q fuel done a w
 |0,_,_,_,h=>h
 |fuel+1,_,_,_,h=>⟨h.1,fun i hi=>wpOp_mono (fun a' w' h'=>wpAny_of_F fuel _ a' w' h'.2) (h.2 i hi)⟩
theorem done_set (done:Array Bool) (e:Nat):(done.setIfInBounds e true).getD e true=true:=by
 simp only [Array.getD_eq_getD_getElem?,Array.getElem?_setIfInBounds]
 split
 ·split<;>rfl
 ·next h=>exact absurd trivial h
theorem done_later {done:Array Bool} {e j:Nat} (h:done.getD e true=true):(done.setIfInBounds j true).getD e true=true:=by
 by_cases hj:j=e
 ·subst hj;exact done_set _ _
 ·rw [getD_set_ne true hj];exact h
theorem wpAnyF_take {i:Nat} {oi:Oper} {v:Value} {a:Act} {w:World} (hi:ops[i]?=some oi) (hs:Region.noSelect ops=true) (he:waitsFor md ops e i=true)
  (hQ:∀c a w,Q (.panic c) (a.put oi.dst v) w→Q (.panic c) a w):
  ∀ {fuel:Nat} {done:Array Bool},Region.free md ops done i=true→(Region.ready md ops done).contains i=true→done.getD e true=false→YieldsIf P ops S oi v a→S w→
   wpAnyF P md ops Q S e fuel (done.setIfInBounds i true) (a.put oi.dst v) w→wpAnyF P md ops Q S e (fuel+1) done a w:=by
 have hsel:=Region.noSelect_spec hs
 intro fuel done hf hr hd0
 have hfree:=Region.free_spec hi hf
 have hr':i ∈ Region.ready md ops done:=by simpa using hr
 clear hf hr
 suffices H:∀(fuel:Nat) (done:Array Bool) (a:Act) (w:World),(∀j oj,ops[j]?=some oj→j≠i→done.getD j true=false→(∀d ∈ oj.after,Region.binds md d=true→d.on≠i)→oi.apart ops oj=true)→
  i ∈ Region.ready md ops done→done.getD e true=false→YieldsIf P ops S oi v a→S w→wpAnyF P md ops Q S e fuel (done.setIfInBounds i true) (a.put oi.dst v) w→wpAnyF P md ops Q S e (fuel+1) done a w from H fuel done a w hfree hr' hd0
 intro fuel
 induction fuel with
 |zero=>
  intro done a w _ hr _ hy hS h
  refine⟨fun h0=>by simp [h0] at hr,fun j hj=>?_⟩
  by_cases hji:j=i
  ·subst hji
   exact hy.wpOp hi hS ⟨.inr hS,h⟩
  ·have:=ready_mono hj hji
   simp [h.1] at this
 |succ fuel ih=>
  intro done a w hfr hr hde hy hS h
  refine⟨fun h0=>by simp [h0] at hr,fun j hj=>?_⟩
  by_cases hji:j=i
  ·subst hji
   exact hy.wpOp hi hS ⟨.inr hS,h⟩
  obtain⟨hjd,oj,hoj,hall⟩:=mem_ready.1 hj
  have hno:∀d ∈ oj.after,Region.binds md d=true→d.on≠i:=by
   rintro d hd hb rfl
   have h1:=hall d hd hb
   have h0:=(mem_ready.1 hr).1
   simp only [Array.getD_eq_getD_getElem?] at h0 h1
   cases hq:done[d.on]? with
   |none=>simp [hq] at h0 h1
   |some q=>simp [hq] at h0 h1;rw [h0] at h1;cases h1
  have hje:j≠e:=by
   rintro rfl
   unfold waitsFor at he
   rw [hoj] at he
   obtain⟨k,hk,hd⟩:=Array.any_eq_true.1 he
   simp only [Bool.and_eq_true,beq_iff_eq] at hd
   exact hno _ (Array.getElem_mem hk) hd.1 hd.2
  have hie:i≠e:=by
   rintro rfl
   unfold waitsFor at he
   rw [hi] at he
   obtain⟨k,hk,hd⟩:=Array.any_eq_true.1 he
   simp only [Bool.and_eq_true,beq_iff_eq] at hd
   obtain⟨_,oi',hoi',hall'⟩:=mem_ready.1 hr
   rw [hi] at hoi'
   cases hoi'
   have h1:=hall' _ (Array.getElem_mem hk) hd.1
   have h0:=(mem_ready.1 hr).1
   rw [hd.2] at h1
   simp only [Array.getD_eq_getD_getElem?] at h0 h1
   cases hq:done[i]? with
   |none=>simp [hq] at h0 h1
   |some q=>simp [hq] at h0 h1;rw [h0] at h1;cases h1
  have hstep:=wpOp_putIf hoj (hfr j oj hoj hji hjd hno) (fun cs b=>hsel i oi cs b hi) (fun cs b=>hsel j oj cs b hoj) hQ hy (h.2 j (ready_mono hj hji))
  have hdj:(done.setIfInBounds j true).getD e true=false:=by rw [getD_set_ne true hje];exact hde
  have hdij:((done.setIfInBounds i true).setIfInBounds j true).getD e true=false:=by rw [getD_set_ne true hje,getD_set_ne true hie];exact hde
  refine wpOp_mono (fun a' w' hk=>?_) hstep
  obtain⟨hy',hS',hrest⟩:=hk
  have hS2:S w':=by
   rcases hS' with h1|h1
   ·rw [hdij] at h1;cases h1
   ·exact h1
  refine⟨.inr hS2,ih _ a' w' (fun k ok hk hki hun hn=>hfr k ok hk hki ?_ hn) (ready_mono hr (Ne.symm hji)) hdj hy' hS2 ?_⟩
  ·by_cases hjk:j=k
   ·subst hjk;exact hjd
   ·rwa [getD_set_ne true hjk] at hun
  ·rwa [Array.setIfInBounds_comm _ _ hji]
theorem wpAnyF_free {i:Nat} {oi:Oper} {v:Value} {a:Act} {w:World} (hi:ops[i]?=some oi) (hs:Region.noSelect ops=true) (hie:i≠e)
  (hQ:∀c a w,Q (.panic c) (a.put oi.dst v) w→Q (.panic c) a w):
  ∀ {fuel:Nat} {done:Array Bool},Region.free md ops done i=true→(Region.ready md ops done).contains i=true→YieldsIf P ops (fun _=>True) oi v a→S w→
   wpAnyF P md ops Q S e fuel (done.setIfInBounds i true) (a.put oi.dst v) w→wpAnyF P md ops Q S e (fuel+1) done a w:=by
 have hsel:=Region.noSelect_spec hs
 intro fuel done hf hr hy0 hS0
 have hfree:=Region.free_spec hi hf
 have hr':i ∈ Region.ready md ops done:=by simpa using hr
 clear hf hr
 suffices H:∀(fuel:Nat) (done:Array Bool) (a:Act) (w:World),(∀j oj,ops[j]?=some oj→j≠i→done.getD j true=false→(∀d ∈ oj.after,Region.binds md d=true→d.on≠i)→oi.apart ops oj=true)→
  i ∈ Region.ready md ops done→YieldsIf P ops (fun _=>True) oi v a→(done.getD e true=true∨S w)→wpAnyF P md ops Q S e fuel (done.setIfInBounds i true) (a.put oi.dst v) w→wpAnyF P md ops Q S e (fuel+1) done a w from H fuel done a w hfree hr' hy0 (.inr hS0)
 intro fuel
 induction fuel with
 |zero=>
  intro done a w _ hr hy hS h
  refine⟨fun h0=>by simp [h0] at hr,fun j hj=>?_⟩
  by_cases hji:j=i
  ·subst hji
   exact hy.wpOp hi trivial ⟨hS.imp done_later id,h⟩
  ·have:=ready_mono hj hji
   simp [h.1] at this
 |succ fuel ih=>
  intro done a w hfr hr hy hS h
  refine⟨fun h0=>by simp [h0] at hr,fun j hj=>?_⟩
  by_cases hji:j=i
  ·subst hji
   exact hy.wpOp hi trivial ⟨hS.imp done_later id,h⟩
  obtain⟨hjd,oj,hoj,hall⟩:=mem_ready.1 hj
  have hno:∀d ∈ oj.after,Region.binds md d=true→d.on≠i:=by
   rintro d hd hb rfl
   have h1:=hall d hd hb
   have h0:=(mem_ready.1 hr).1
   simp only [Array.getD_eq_getD_getElem?] at h0 h1
   cases hq:done[d.on]? with
   |none=>simp [hq] at h0 h1
   |some q=>simp [hq] at h0 h1;rw [h0] at h1;cases h1
  have hstep:=wpOp_putIf hoj (hfr j oj hoj hji hjd hno) (fun cs b=>hsel i oi cs b hi) (fun cs b=>hsel j oj cs b hoj) hQ hy (h.2 j (ready_mono hj hji))
  refine wpOp_mono (fun a' w' hk=>?_) hstep
  obtain⟨hy',hS',hrest⟩:=hk
  have hS2:(done.setIfInBounds j true).getD e true=true∨S w':=by
   rcases hS' with h1|h1
   ·rw [Array.setIfInBounds_comm _ _ (Ne.symm hji),getD_set_ne true hie] at h1
    exact .inl h1
   ·exact .inr h1
  refine⟨hS2,ih _ a' w' (fun k ok hk hki hun hn=>hfr k ok hk hki ?_ hn) (ready_mono hr (Ne.symm hji)) hy' hS2 ?_⟩
  ·by_cases hjk:j=k
   ·subst hjk;exact hjd
   ·rwa [getD_set_ne true hjk] at hun
  ·rwa [Array.setIfInBounds_comm _ _ hji]
def ReadyF (P:Program) (md:Region.Mode) (ops:Array Oper) (Q:Exit→Act→World→Prop) (S:World→Prop) (e fuel:Nat) (done:Array Bool) (a:Act) (w:World) (rs:List Nat):Prop:=
 ∀i ∈ rs,wpOp P ops Q i (fun a' w'=>((done.setIfInBounds i true).getD e true=true∨S w')∧wpAnyF P md ops Q S e fuel (done.setIfInBounds i true) a' w') a w
theorem ReadyF.nil {fuel:Nat} {done:Array Bool} {a:Act} {w:World} :ReadyF P md ops Q S e fuel done a w []:=fun _ h=>by cases h
theorem ReadyF.cons {fuel:Nat} {done:Array Bool} {a:Act} {w:World} {i:Nat} {o:Oper} {rs:List Nat} (ho:ops[i]?=some o)
  (h:∀K':Act→World→Prop,Shut (∀a w,((done.setIfInBounds i true).getD e true=true∨S w)→wpAnyF P md ops Q S e fuel (done.setIfInBounds i true) a w→K' a w)→if Region.wanted o (yielded ops a.tmps)=true then Oper.wp P o a w K' Q else K' (a.put o.dst undef) w)
  (hs:ReadyF P md ops Q S e fuel done a w rs):ReadyF P md ops Q S e fuel done a w (i::rs):=fun j hj=>by
 rcases List.mem_cons.1 hj with rfl|hj
 ·exact wpOp_step ho fun K' hK=>h K' fun a w h1 h2=>hK a w ⟨h1,h2⟩
 ·exact hs j hj
theorem wpAnyF_ready {rs:List Nat} {fuel:Nat} {done:Array Bool} {a:Act} {w:World} (hr:Region.ready md ops done=rs) (hne:rs≠[]) (h:ReadyF P md ops Q S e fuel done a w rs):wpAnyF P md ops Q S e (fuel+1) done a w:=
 ⟨fun h0=>absurd (hr ▸ h0) hne,hr ▸ h⟩
theorem wpAnyF_done {done:Array Bool} {a:Act} {w:World} (hr:Region.ready md ops done=[]) (h:Q .normal a w):∀fuel,wpAnyF P md ops Q S e fuel done a w
 |0=>⟨hr,h⟩
 |_+1=>⟨fun _=>h,by rw [hr];simp⟩
end
theorem wp_region_lastF {P:Program} {id:Nat} {Q:Exit→Act→World→Prop} {a:Act} {w:World} {ops:Array Oper} (S:World→Prop) (e:Nat) (hm:P.follows .mixedOrders=true) (hS:S w.drew)
  (h:S w.drew→wpAnyF P .any ops Q S e ops.size (Array.replicate ops.size false) a w.drew):(Code.region id ops true).wp P Q a w:=
 wp_region_any hm (wpAny_of_F _ _ _ _ (h hS))
end Go.Proofs.Ytbfifglcnhfccaa
namespace Go.Proofs.Ytbfifglcnhfccaa
open Go.RowKit
theorem R16.store {w:World} {b:Nat} {X:List Nat} {q:Rq} (h:R16 w b X q) {g n cap:Nat} (hv:w.cell? ⟨b,2,none⟩=some (.slice (some ⟨g,0,none⟩) n cap)) {k:Nat} (hk:k < q.l.length) {v:Int} :R16 (w.setCell ⟨g,k*3+1,none⟩ (.int .u64 v)) b X { q with l:=q.l.set k (q.l[k].1,v,q.l[k].2.2) } ∧Turned X w (w.setCell ⟨g,k*3+1,none⟩ (.int .u64 v)):=by
 obtain⟨v0,h1,h2,h3⟩:=id h
 have e:=(cells5q h1).2.2.1
 rw [hv] at e
 cases e
 have:=LAt.cellSet (tS:=tQ16) (tE:=tT16) (k:=3) (enc:=encTk) (cs:=fun v=> #[.int .i64 q.g, .int .u64 q.f,v, .int .i64 q.cur, .int .i64 q.ran]) encTk_len (by decide) h1 h2 (j:=k) (i:=1) (x:=(q.l[k].1,v,q.l[k].2.2)) (u:= .int .u64 v) hk (by decide) rfl
 rw [h3]
 exact this
theorem R16.storeW {w:World} {b:Nat} {X:List Nat} {q:Rq} (h:R16 w b X q) {g n cap:Nat} (hv:w.cell? ⟨b,2,none⟩=some (.slice (some ⟨g,0,none⟩) n cap)) {k:Nat} (hk:k < q.l.length) {v:Int} :R16 (w.setCell ⟨g,k*3+2,none⟩ (.int .i64 v)) b X { q with l:=q.l.set k (q.l[k].1,q.l[k].2.1,v) } ∧Turned X w (w.setCell ⟨g,k*3+2,none⟩ (.int .i64 v)):=by
 obtain⟨v0,h1,h2,h3⟩:=id h
 have e:=(cells5q h1).2.2.1
 rw [hv] at e
 cases e
 have:=LAt.cellSet (tS:=tQ16) (tE:=tT16) (k:=3) (enc:=encTk) (cs:=fun v=> #[.int .i64 q.g, .int .u64 q.f,v, .int .i64 q.cur, .int .i64 q.ran]) encTk_len (by decide) h1 h2 (j:=k) (i:=2) (x:=(q.l[k].1,q.l[k].2.1,v)) (u:= .int .i64 v) hk (by decide) rfl
 rw [h3]
 exact this
theorem R16.setRan {w:World} {b:Nat} {X:List Nat} {q:Rq} (h:R16 w b X q) (r:Int):R16 (w.setCell ⟨b,4,none⟩ (.int .i64 r)) b X { q with ran:=r } ∧Turned X w (w.setCell ⟨b,4,none⟩ (.int .i64 r)):=
 LAt.field (tS:=tQ16) (tE:=tT16) (cs':=fun v=> #[.int .i64 q.g, .int .u64 q.f,v, .int .i64 q.cur, .int .i64 r]) h (by decide) (fun _=>rfl)
theorem R16.setCur {w:World} {b:Nat} {X:List Nat} {q:Rq} (h:R16 w b X q) (c:Int):R16 (w.setCell ⟨b,3,none⟩ (.int .i64 c)) b X { q with cur:=c } ∧Turned X w (w.setCell ⟨b,3,none⟩ (.int .i64 c)):=
 LAt.field (tS:=tQ16) (tE:=tT16) (cs':=fun v=> #[.int .i64 q.g, .int .u64 q.f,v, .int .i64 c, .int .i64 q.ran]) h (by decide) (fun _=>rfl)
theorem R16.task {w:World} {b:Nat} {X:List Nat} {q:Rq} (h:R16 w b X q) {k:Nat} (hk:k < q.l.length):∃g cap,w.cell? ⟨b,2,none⟩=some (.slice (some ⟨g,0,none⟩) q.l.length cap)∧w.cell? ⟨g,k*3,none⟩=some (.int .i64 q.l[k].1)∧w.cell? ⟨g,k*3+1,none⟩=some (.int .u64 q.l[k].2.1)∧w.cell? ⟨g,k*3+2,none⟩=some (.int .i64 q.l[k].2.2)∧(∀i,w.frozen? ⟨g,i,none⟩=false)∧b≠g:=by
 obtain⟨a,cap,⟨_,_,c2,_⟩,_,hr⟩:=h.rows
 obtain⟨g,rfl,r0,r1,r2⟩:=hr k hk
 obtain⟨v0,h1,h2,h3⟩:=id h
 have e:=(cells5q h1).2.2.1
 rw [c2] at e
 cases e
 refine⟨g,cap,c2,r0,r1,r2,fun i=>h2.frozenAt _,fun e=>block_off h1 h2 (by decide) (by simp [Value.ownBlock,e])⟩
theorem rtick_any {w:World} {b:Nat} {X:List Nat} {q:Rq} (h:R16 w b X q) (hu:(q.l.map (·.1)).Nodup) (hc:0≤q.cur→∃x ∈ q.l,x.1=q.cur) (hv:∀x ∈ q.l,Word x.2.1) (hr0:0≤q.ran) (hr1:q.ran≤100000):
  Calls Try.prog 20 #[.pointer (some ⟨b,0,none⟩)] w fun e w'=>e= .returned (.int .i64 q.cur)∧R16 w' b X q.tick∧Turned X w w':=by
 by_cases hcur:0≤q.cur
 ·obtain⟨x0,hx0,hx1⟩:=hc hcur
  obtain⟨k,hk,hat,hid⟩:∃k:Nat,∃hk:k < q.l.length,atQ q.l q.cur=k∧q.l[k].1=q.cur:=by
   rcases atQ_cases q.l q.cur with⟨_,h2⟩ |h2
   ·exact absurd hx1 (h2 x0 hx0)
   ·exact h2
  have HAT:=xhd (rat_any h q.cur)
  rw [hat] at HAT
  have etick:q.tick= { q with l:=q.l.set k (q.l[k].1,satV (q.l[k].2.1+coreR q.l[k].2.2),q.l[k].2.2),ran:=q.ran+1 } :=by
   unfold Rq.tick
   rw [if_pos hcur,tick_set hu hk hid]
  obtain⟨g,cap,c2,r0,r1,r2,frz,hbg⟩:=h.task hk
  obtain⟨v0,h1,h2,_⟩:=id h
  obtain⟨_,_,_,c3,c4,cf⟩:=cells5q h1
  have hgl:g < w.heap.size:=World.block_lt_of_cell? w _ r1
  have hbl:b < w.heap.size:=lt_of_block h1
  have hwv:=hv _ (List.getElem_mem hk)
  have hcr:=core_range q.l[k].2.2
  have HC:=xhd (fun V=>rcore_any q.l[k].2.2 V)
  have HA:=xhd (fun V=>refadd_any q.l[k].2.1 (coreR q.l[k].2.2) hwv ⟨hcr.1,by omega⟩ V)
  have HFIN:Hid (∀V,Below w.heap.size w V→R16 ((V.setCell ⟨g,k*3+1,none⟩ (.int .u64 (satV (q.l[k].2.1+coreR q.l[k].2.2)))).setCell ⟨b,4,none⟩ (.int .i64 (q.ran+1))) b X q.tick∧Turned X w ((V.setCell ⟨g,k*3+1,none⟩ (.int .u64 (satV (q.l[k].2.1+coreR q.l[k].2.2)))).setCell ⟨b,4,none⟩ (.int .i64 (q.ran+1)))):=xhd fun V hV=>by
   have c2V:=(hV.cell (p:=⟨b,2,none⟩) hbl).trans c2
   obtain⟨s1,s2⟩:=(h.below hV).store c2V hk (v:=satV (q.l[k].2.1+coreR q.l[k].2.2))
   obtain⟨s3,s4⟩:=s1.setRan (q.ran+1)
   refine⟨?_,((turned_below hV).trans s2 (Newer.refl _ _)).trans s4 (Newer.refl _ _)⟩
   rw [etick]
   exact s3
  have hwr:IntKind.i64.wrap (q.ran+1)=q.ran+1:=by rw [IntKind.wrap_i64];omega
  have i0:(0:Int)≤k:=by omega
  have i1:(k:Int) < q.l.length:=by omega
  have HCUR:=xhd hcur
  generalize q.tick=Q at HFIN ⊢
  generalize q.l[k].2.1=v at r1 HA HFIN
  generalize q.l[k].2.2=wt at r2 HC HA HFIN
  generalize q.l.length=n at c2 i1
  generalize coreR wt=c at HC HA HFIN
  generalize satV (v+c)=s at HA HFIN
  generalize satE (v+c)=se at HA
  generalize q.cur=cur at c3 hcur HAT ⊢
  generalize q.ran=ran at c4 HFIN hwr
  have HKP:Hid (∀V,Below w.heap.size w V→V.cell? ⟨b,2,none⟩=some (.slice (some ⟨g,0,none⟩) n cap)∧V.cell? ⟨g,k*3+1,none⟩=some (.int .u64 v)∧V.cell? ⟨g,k*3+2,none⟩=some (.int .i64 wt)∧V.frozen? ⟨g,k*3+1,none⟩=false∧V.cell? ⟨b,3,none⟩=some (.int .i64 cur)∧V.cell? ⟨b,4,none⟩=some (.int .i64 ran)∧V.frozen? ⟨b,4,none⟩=false):=xhd fun V hV=>
   ⟨(hV.cell (p:=⟨b,2,none⟩) hbl).trans c2,(hV.cell (p:=⟨g,k*3+1,none⟩) hgl).trans r1,(hV.cell (p:=⟨g,k*3+2,none⟩) hgl).trans r2,(hV.frozen (p:=⟨g,k*3+1,none⟩) hgl).trans (frz _),(hV.cell (p:=⟨b,3,none⟩) hbl).trans c3,(hV.cell (p:=⟨b,4,none⟩) hbl).trans c4,(hV.frozen (p:=⟨b,4,none⟩) hbl).trans (cf 4)⟩
  have hgb:g≠b:=fun e=>hbg e.symm
  clear h h1 h2 hv hwv hcr etick frz cf hu hc hx0 hx1 r0 hat hid hk
  go_enter Try.func20,Try.ntmps20
  go_wp2_with fail
  with_reducible refine HAT.out.mono ?_
  rintro e w2 ⟨rfl,rfl⟩
  go_wp2_with fail
  have hmix:Try.prog.follows .mixedOrders=true:=by kernel_rfl
  refine wp_region_noPanic ?_
  refine wp_region_lastF (fun V=>V.cell? ⟨b,2,none⟩=some (.slice (some ⟨g,0,none⟩) n cap)∧V.cell? ⟨g,k*3+1,none⟩=some (.int .u64 v)∧V.cell? ⟨g,k*3+2,none⟩=some (.int .i64 wt)) 28 hmix ⟨c2,r1,r2⟩ (fun hS0=>?_)
  refine wpAnyF_free (i:=0) (v:=?_) rfl (by kernel_rfl) (by decide) (fun _ _ _ h=>h) (by kernel_rfl) (by kernel_rfl) (Or.inl ⟨by rfl,?hy⟩) (by assumption) ?_
  case hy=>
   intro w _
   go_simp
   try with_reducible rfl
  try simp only [xga];try simp only [xgs];try simp only [xgz];try simp only [Act.put];try simp only [xsa];try simp only [xss];try simp only [xsz]
  refine wpAnyF_free (i:=1) (v:=?_) rfl (by kernel_rfl) (by decide) (fun _ _ _ h=>h) (by kernel_rfl) (by kernel_rfl) (Or.inl ⟨by rfl,?hy⟩) (by assumption) ?_
  case hy=>
   intro w _
   go_simp
   try with_reducible rfl
  try simp only [xga];try simp only [xgs];try simp only [xgz];try simp only [Act.put];try simp only [xsa];try simp only [xss];try simp only [xsz]
  refine wpAnyF_free (i:=2) (v:=?_) rfl (by kernel_rfl) (by decide) (fun _ _ _ h=>h) (by kernel_rfl) (by kernel_rfl) (Or.inl ⟨by rfl,?hy⟩) (by assumption) ?_
  case hy=>
   intro w _
   go_simp
   try with_reducible rfl
  try simp only [xga];try simp only [xgs];try simp only [xgz];try simp only [Act.put];try simp only [xsa];try simp only [xss];try simp only [xsz]
  refine wpAnyF_take (i:=3) (v:=?_) rfl (by kernel_rfl) (by kernel_rfl) (fun _ _ _ h=>h) (by kernel_rfl) (by kernel_rfl) (by kernel_rfl) (Or.inl ⟨by rfl,?hy⟩) (by assumption) ?_
  case hy=>
   intro w hSw
   (try dsimp only at hSw)
   obtain⟨s0,s1,s2⟩:=hSw
   go_simp
   try with_reducible rfl
  try simp only [xga];try simp only [xgs];try simp only [xgz];try simp only [Act.put];try simp only [xsa];try simp only [xss];try simp only [xsz]
  refine wpAnyF_free (i:=4) (v:=?_) rfl (by kernel_rfl) (by decide) (fun _ _ _ h=>h) (by kernel_rfl) (by kernel_rfl) (Or.inl ⟨by rfl,?hy⟩) (by assumption) ?_
  case hy=>
   intro w _
   go_simp
   try with_reducible rfl
  try simp only [xga];try simp only [xgs];try simp only [xgz];try simp only [Act.put];try simp only [xsa];try simp only [xss];try simp only [xsz]
  refine wpAnyF_free (i:=5) (v:=?_) rfl (by kernel_rfl) (by decide) (fun _ _ _ h=>h) (by kernel_rfl) (by kernel_rfl) (Or.inl ⟨by rfl,?hy⟩) (by assumption) ?_
  case hy=>
   intro w _
   go_simp
   try with_reducible rfl
  try simp only [xga];try simp only [xgs];try simp only [xgz];try simp only [Act.put];try simp only [xsa];try simp only [xss];try simp only [xsz]
  refine wpAnyF_free (i:=6) (v:=?_) rfl (by kernel_rfl) (by decide) (fun _ _ _ h=>h) (by kernel_rfl) (by kernel_rfl) (Or.inl ⟨by rfl,?hy⟩) (by assumption) ?_
  case hy=>
   intro w _
   go_simp
   try with_reducible rfl
  try simp only [xga];try simp only [xgs];try simp only [xgz];try simp only [Act.put];try simp only [xsa];try simp only [xss];try simp only [xsz]
  refine wpAnyF_free (i:=7) (v:=?_) rfl (by kernel_rfl) (by decide) (fun _ _ _ h=>h) (by kernel_rfl) (by kernel_rfl) (Or.inl ⟨by rfl,?hy⟩) (by assumption) ?_
  case hy=>
   intro w _
   go_simp
   try with_reducible rfl
  try simp only [xga];try simp only [xgs];try simp only [xgz];try simp only [Act.put];try simp only [xsa];try simp only [xss];try simp only [xsz]
  refine wpAnyF_take (i:=8) (v:=?_) rfl (by kernel_rfl) (by kernel_rfl) (fun _ _ _ h=>h) (by kernel_rfl) (by kernel_rfl) (by kernel_rfl) (Or.inl ⟨by rfl,?hy⟩) (by assumption) ?_
  case hy=>
   intro w hSw
   (try dsimp only at hSw)
   obtain⟨s0,s1,s2⟩:=hSw
   go_simp
   try with_reducible rfl
  try simp only [xga];try simp only [xgs];try simp only [xgz];try simp only [Act.put];try simp only [xsa];try simp only [xss];try simp only [xsz]
  refine wpAnyF_free (i:=9) (v:=?_) rfl (by kernel_rfl) (by decide) (fun _ _ _ h=>h) (by kernel_rfl) (by kernel_rfl) (Or.inl ⟨by rfl,?hy⟩) (by assumption) ?_
  case hy=>
   intro w _
   go_simp
   try with_reducible rfl
  try simp only [xga];try simp only [xgs];try simp only [xgz];try simp only [Act.put];try simp only [xsa];try simp only [xss];try simp only [xsz]
  refine wpAnyF_free (i:=10) (v:=?_) rfl (by kernel_rfl) (by decide) (fun _ _ _ h=>h) (by kernel_rfl) (by kernel_rfl) (Or.inl ⟨by rfl,?hy⟩) (by assumption) ?_
  case hy=>
   intro w _
   go_simp
   try with_reducible rfl
  try simp only [xga];try simp only [xgs];try simp only [xgz];try simp only [Act.put];try simp only [xsa];try simp only [xss];try simp only [xsz]
  refine wpAnyF_free (i:=11) (v:=?_) rfl (by kernel_rfl) (by decide) (fun _ _ _ h=>h) (by kernel_rfl) (by kernel_rfl) (Or.inl ⟨by rfl,?hy⟩) (by assumption) ?_
  case hy=>
   intro w _
   go_simp
   try with_reducible rfl
  try simp only [xga];try simp only [xgs];try simp only [xgz];try simp only [Act.put];try simp only [xsa];try simp only [xss];try simp only [xsz]
  refine wpAnyF_take (i:=12) (v:=?_) rfl (by kernel_rfl) (by kernel_rfl) (fun _ _ _ h=>h) (by kernel_rfl) (by kernel_rfl) (by kernel_rfl) (Or.inl ⟨by rfl,?hy⟩) (by assumption) ?_
  case hy=>
   intro w hSw
   (try dsimp only at hSw)
   obtain⟨s0,s1,s2⟩:=hSw
   go_simp
   try with_reducible rfl
  try simp only [xga];try simp only [xgs];try simp only [xgz];try simp only [Act.put];try simp only [xsa];try simp only [xss];try simp only [xsz]
  refine wpAnyF_free (i:=13) (v:=?_) rfl (by kernel_rfl) (by decide) (fun _ _ _ h=>h) (by kernel_rfl) (by kernel_rfl) (Or.inl ⟨by rfl,?hy⟩) (by assumption) ?_
  case hy=>
   intro w _
   go_simp
   try with_reducible rfl
  try simp only [xga];try simp only [xgs];try simp only [xgz];try simp only [Act.put];try simp only [xsa];try simp only [xss];try simp only [xsz]
  refine wpAnyF_free (i:=14) (v:=?_) rfl (by kernel_rfl) (by decide) (fun _ _ _ h=>h) (by kernel_rfl) (by kernel_rfl) (Or.inl ⟨by rfl,?hy⟩) (by assumption) ?_
  case hy=>
   intro w _
   go_simp
   try with_reducible rfl
  try simp only [xga];try simp only [xgs];try simp only [xgz];try simp only [Act.put];try simp only [xsa];try simp only [xss];try simp only [xsz]
  refine wpAnyF_free (i:=15) (v:=?_) rfl (by kernel_rfl) (by decide) (fun _ _ _ h=>h) (by kernel_rfl) (by kernel_rfl) (Or.inl ⟨by rfl,?hy⟩) (by assumption) ?_
  case hy=>
   intro w _
   go_simp
   try with_reducible rfl
  try simp only [xga];try simp only [xgs];try simp only [xgz];try simp only [Act.put];try simp only [xsa];try simp only [xss];try simp only [xsz]
  refine wpAnyF_take (i:=16) (v:=?_) rfl (by kernel_rfl) (by kernel_rfl) (fun _ _ _ h=>h) (by kernel_rfl) (by kernel_rfl) (by kernel_rfl) (Or.inl ⟨by rfl,?hy⟩) (by assumption) ?_
  case hy=>
   intro w hSw
   (try dsimp only at hSw)
   obtain⟨s0,s1,s2⟩:=hSw
   go_simp
   try with_reducible rfl
  try simp only [xga];try simp only [xgs];try simp only [xgz];try simp only [Act.put];try simp only [xsa];try simp only [xss];try simp only [xsz]
  refine wpAnyF_free (i:=17) (v:=?_) rfl (by kernel_rfl) (by decide) (fun _ _ _ h=>h) (by kernel_rfl) (by kernel_rfl) (Or.inl ⟨by rfl,?hy⟩) (by assumption) ?_
  case hy=>
   intro w _
   go_simp
   try with_reducible rfl
  try simp only [xga];try simp only [xgs];try simp only [xgz];try simp only [Act.put];try simp only [xsa];try simp only [xss];try simp only [xsz]
  refine wpAnyF_free (i:=18) (v:=?_) rfl (by kernel_rfl) (by decide) (fun _ _ _ h=>h) (by kernel_rfl) (by kernel_rfl) (Or.inl ⟨by rfl,?hy⟩) (by assumption) ?_
  case hy=>
   intro w _
   go_simp
   try with_reducible rfl
  try simp only [xga];try simp only [xgs];try simp only [xgz];try simp only [Act.put];try simp only [xsa];try simp only [xss];try simp only [xsz]
  refine wpAnyF_free (i:=19) (v:=?_) rfl (by kernel_rfl) (by decide) (fun _ _ _ h=>h) (by kernel_rfl) (by kernel_rfl) (Or.inl ⟨by rfl,?hy⟩) (by assumption) ?_
  case hy=>
   intro w _
   go_simp
   try with_reducible rfl
  try simp only [xga];try simp only [xgs];try simp only [xgz];try simp only [Act.put];try simp only [xsa];try simp only [xss];try simp only [xsz]
  refine wpAnyF_take (i:=20) (v:=?_) rfl (by kernel_rfl) (by kernel_rfl) (fun _ _ _ h=>h) (by kernel_rfl) (by kernel_rfl) (by kernel_rfl) (Or.inl ⟨by rfl,?hy⟩) (by assumption) ?_
  case hy=>
   intro w hSw
   (try dsimp only at hSw)
   obtain⟨s0,s1,s2⟩:=hSw
   go_simp
   try with_reducible rfl
  try simp only [xga];try simp only [xgs];try simp only [xgz];try simp only [Act.put];try simp only [xsa];try simp only [xss];try simp only [xsz]
  refine wpAnyF_ready (rs:=[21]) (by kernel_rfl) (by simp) ?_
  refine ReadyF.cons rfl (fun K' hK=>?_) ReadyF.nil
  go_simp
  with_reducible refine (HC.out _).mono ?_
  rintro e w3 ⟨rfl,rfl⟩
  skip
  go_wp2_with fail
  refine hK.out _ _ (.inr ?_) ?_
  ·exact⟨c2,r1,r2⟩
  clear hK K'
  try simp only [xga];try simp only [xgs];try simp only [xgz];try simp only [Act.put];try simp only [xsa];try simp only [xss];try simp only [xsz]
  refine wpAnyF_ready (rs:=[22]) (by kernel_rfl) (by simp) ?_
  refine ReadyF.cons rfl (fun K' hK=>?_) ReadyF.nil
  go_simp
  with_reducible refine (HA.out _).mono ?_
  rintro e w4 ⟨rfl,hb⟩
  have HB:=xhd (((Below.refl _ w).drew).trans (hb.mono (Nat.le_refl _)))
  clear hb
  obtain⟨d2,e1,e2,fg,d3,d4,fr⟩:=HKP.out _ HB.out
  have hS1:(fun V:World=>V.cell? ⟨b,2,none⟩=some (.slice (some ⟨g,0,none⟩) n cap)∧V.cell? ⟨g,k*3+1,none⟩=some (.int .u64 v)∧V.cell? ⟨g,k*3+2,none⟩=some (.int .i64 wt)) w4:=⟨d2,e1,e2⟩
  go_wp2_with fail
  refine hK.out _ _ (.inr ?_) ?_
  ·exact hS1
  clear hK K'
  try simp only [xga];try simp only [xgs];try simp only [xgz];try simp only [Act.put];try simp only [xsa];try simp only [xss];try simp only [xsz]
  refine wpAnyF_free (i:=23) (v:=?_) rfl (by kernel_rfl) (by decide) (fun _ _ _ h=>h) (by kernel_rfl) (by kernel_rfl) (Or.inl ⟨by rfl,?hy⟩) (by assumption) ?_
  case hy=>
   intro w _
   go_simp
   try with_reducible rfl
  try simp only [xga];try simp only [xgs];try simp only [xgz];try simp only [Act.put];try simp only [xsa];try simp only [xss];try simp only [xsz]
  refine wpAnyF_free (i:=24) (v:=?_) rfl (by kernel_rfl) (by decide) (fun _ _ _ h=>h) (by kernel_rfl) (by kernel_rfl) (Or.inl ⟨by rfl,?hy⟩) (by assumption) ?_
  case hy=>
   intro w _
   go_simp
   try with_reducible rfl
  try simp only [xga];try simp only [xgs];try simp only [xgz];try simp only [Act.put];try simp only [xsa];try simp only [xss];try simp only [xsz]
  refine wpAnyF_free (i:=25) (v:=?_) rfl (by kernel_rfl) (by decide) (fun _ _ _ h=>h) (by kernel_rfl) (by kernel_rfl) (Or.inl ⟨by rfl,?hy⟩) (by assumption) ?_
  case hy=>
   intro w _
   go_simp
   try with_reducible rfl
  try simp only [xga];try simp only [xgs];try simp only [xgz];try simp only [Act.put];try simp only [xsa];try simp only [xss];try simp only [xsz]
  refine wpAnyF_free (i:=26) (v:=?_) rfl (by kernel_rfl) (by decide) (fun _ _ _ h=>h) (by kernel_rfl) (by kernel_rfl) (Or.inl ⟨by rfl,?hy⟩) (by assumption) ?_
  case hy=>
   intro w _
   go_simp
   try with_reducible rfl
  try simp only [xga];try simp only [xgs];try simp only [xgz];try simp only [Act.put];try simp only [xsa];try simp only [xss];try simp only [xsz]
  refine wpAnyF_free (i:=27) (v:=?_) rfl (by kernel_rfl) (by decide) (fun _ _ _ h=>h) (by kernel_rfl) (by kernel_rfl) (Or.inl ⟨by rfl,?hy⟩) (by assumption) ?_
  case hy=>
   intro w _
   go_simp
   try with_reducible rfl
  try simp only [xga];try simp only [xgs];try simp only [xgz];try simp only [Act.put];try simp only [xsa];try simp only [xss];try simp only [xsz]
  refine wpAnyF_ready (rs:=[28]) (by kernel_rfl) (by simp) ?_
  refine ReadyF.cons rfl (fun K' hK=>?_) ReadyF.nil
  go_simp
  refine hK.out _ _ (.inl (by kernel_rfl)) ?_
  clear hK K'
  try simp only [xga];try simp only [xgs];try simp only [xgz];try simp only [Act.put];try simp only [xsa];try simp only [xss];try simp only [xsz]
  refine wpAnyF_done (by kernel_rfl) ?_ _
  refine NoPanic.normal ?_
  try simp only [xga];try simp only [xgs];try simp only [xgz];try simp only [Act.put];try simp only [xsa];try simp only [xss];try simp only [xsz]
  have HF:=xhd (HFIN.out _ HB.out)
  go_wp2
  go_ret
  exact⟨rfl,HF.out.1,HF.out.2⟩
 ·have e:q.tick=q:=if_neg hcur
  rw [e]
  have H:=xhd h
  obtain⟨v0,h1,h2,h3⟩:=id h
  obtain⟨_,_,_,c3,_,_⟩:=cells5q h1
  generalize q.cur=cur at c3 hcur ⊢
  clear h h1 h2 h3 hu hc hv hr0 hr1
  go_enter Try.func20,Try.ntmps20
  go_wp2
  go_ret
  exact⟨rfl,H.out,Turned.refl _ _⟩
end Go.Proofs.Ytbfifglcnhfccaa
