/-
  A region that draws its order, in a round of a loop over a function: what its loads read abides till its last operation, which waits for them all, and may turn it. No program.
  A region that draws its order, whose store (number e) turns what its loads read, and some of whose operations may come behind the store ('a.x, _ = f(a.x)'). No program.
  The document's ledger in memory: Charge, Weigh. (Made by gen_lgref.py.)
  The document's ledger in memory: Settle. (Made by gen_lgset.py.)
  The document's New of ledgers. (Made by gen_lgnew.py.)
  What is to be said of the program's ledgers, for the laws of stage 18. (Made by gen_lgsaid.py.)
  Layer 18's awake, given what is said of the program's ledger. (Made by gen_lgawake.py.)
  Both ledgers side by side: calls that only read. (Made by gen_lgrd.py.)
  Deeds of stage 18's laws; New of both sides.
  Stage 18's arguments, opened to their cells. (Made by gen_lgrow.py.)
  The library's table of places (math/bits), as it lies in its variable.
  The library's table (math/bits) out of a row's condition, where it is the one variable that the rows list. (Made by ledger/gen_lgcard.py.)
-/
import Derived.Test.YtcgjbllmoglhfaaDoorZAB
import Derived.OwnWalk
import Derived.Maps.AppendAt
import Derived.Test.YtcgjbllmoglhfaaDoorZAA
import Derived.Lib.TrailingZeros
import Derived.Test.YtcgjbllmoglhfaaDoorTie
import Derived.Test.YtcgjbllmoglhfaaDoorCards
import Derived.Lib.LaidTab
import Derived.LaidMore
import Derived.Stop.Joined
import Derived.SevenTiedAt
import Derived.Test.YtcgjbllmoglhfaaDoorZAl
set_option maxRecDepth 100000
set_option maxHeartbeats 25600000
namespace Go.Proofs.YtcgjbllmoglhfaaDoor
open Go.RowKit
def waitsFor (md:Region.Mode) (ops:Array Oper) (e i:Nat):Bool:=
 match ops[e]? with
 |some o=>o.after.any fun d=>Region.binds md d&&d.on == i
 |none=>false
def wpAnyE (P:Program) (md:Region.Mode) (ops:Array Oper) (Q:Exit→Act→World→Prop) (S:World→Prop) (e:Nat):Nat→Array Bool→Act→World→Prop
 |0,done,a,w=>Region.ready md ops done=[]∧Q .normal a w
 |fuel+1,done,a,w=>(Region.ready md ops done=[]→Q .normal a w)∧
  ∀i ∈ Region.ready md ops done,wpOp P ops Q i (fun a' w'=>(i=e∨S w')∧wpAnyE P md ops Q S e fuel (done.setIfInBounds i true) a' w') a w
section
variable {P:Program} {md:Region.Mode} {ops:Array Oper} {Q:Exit→Act→World→Prop} {S:World→Prop} {e:Nat}
def ReadyE (P:Program) (md:Region.Mode) (ops:Array Oper) (Q:Exit→Act→World→Prop) (S:World→Prop) (e fuel:Nat) (done:Array Bool) (a:Act) (w:World) (rs:List Nat):Prop:=
 ∀i ∈ rs,wpOp P ops Q i (fun a' w'=>(i=e∨S w')∧wpAnyE P md ops Q S e fuel (done.setIfInBounds i true) a' w') a w
theorem ReadyE.nil {fuel:Nat} {done:Array Bool} {a:Act} {w:World} :ReadyE P md ops Q S e fuel done a w []:=fun _ h=>by cases h
theorem ReadyE.cons {fuel:Nat} {done:Array Bool} {a:Act} {w:World} {i:Nat} {o:Oper} {rs:List Nat} (ho:ops[i]?=some o)
  (h:∀K':Act→World→Prop,Shut (∀a w,(i=e∨S w)→wpAnyE P md ops Q S e fuel (done.setIfInBounds i true) a w→K' a w)→if Region.wanted o (yielded ops a.tmps)=true then Oper.wp P o a w K' Q else K' (a.put o.dst undef) w)
  (hs:ReadyE P md ops Q S e fuel done a w rs):ReadyE P md ops Q S e fuel done a w (i::rs):=fun j hj=>by
 rcases List.mem_cons.1 hj with rfl|hj
 ·exact wpOp_step ho fun K' hK=>h K' fun a w h1 h2=>hK a w ⟨h1,h2⟩
 ·exact hs j hj
end
end Go.Proofs.YtcgjbllmoglhfaaDoor
namespace Go.Proofs.YtcgjbllmoglhfaaDoor
open Go.RowKit
def wpAnyF (P:Program) (md:Region.Mode) (ops:Array Oper) (Q:Exit→Act→World→Prop) (S:World→Prop) (e:Nat):Nat→Array Bool→Act→World→Prop
 |0,done,a,w=>Region.ready md ops done=[]∧Q .normal a w
 |fuel+1,done,a,w=>(Region.ready md ops done=[]→Q .normal a w)∧
  ∀i ∈ Region.ready md ops done,wpOp P ops Q i (fun a' w'=>((done.setIfInBounds i true).getD e true=true∨S w')∧wpAnyF P md ops Q S e fuel (done.setIfInBounds i true) a' w') a w
section
variable {P:Program} {md:Region.Mode} {ops:Array Oper} {Q:Exit→Act→World→Prop} {S:World→Prop} {e:Nat}
theorem wpAny_of_F:∀(fuel:Nat) (done:Array Bool) (a:Act) (w:World),wpAnyF P md ops Q S e fuel done a w→wpAny P md ops Q fuel done a w
 |0,_,_,_,h=>h
 |fuel+1,_,_,_,h=>⟨h.1,fun i hi=>wpOp_mono (fun a' w' h'=>wpAny_of_F fuel _ a' w' h'.2) (h.2 i hi)⟩
theorem done_set (done:Array Bool) (e:Nat):(done.setIfInBounds e true).getD e true=true:=by
 simp only [Array.getD_eq_getD_getElem?,Array.getElem?_setIfInBounds]
 split
 ·split<;>rfl
 ·next h=>exact absurd trivial h
theorem done_later {done:Array Bool} {e j:Nat} (h:done.getD e true=true):(done.setIfInBounds j true).getD e true=true:=by
 by_cases hj:j=e
 ·subst hj;exact done_set _ _
 ·rw [getD_set_ne true hj];exact h
theorem wpAnyF_take {i:Nat} {oi:Oper} {v:Value} {a:Act} {w:World} (hi:ops[i]?=some oi) (hs:Region.noSelect ops=true) (he:waitsFor md ops e i=true)
  (hQ:∀c a w,Q (.panic c) (a.put oi.dst v) w→Q (.panic c) a w):
  ∀ {fuel:Nat} {done:Array Bool},Region.free md ops done i=true→(Region.ready md ops done).contains i=true→done.getD e true=false→YieldsIf P ops S oi v a→S w→
   wpAnyF P md ops Q S e fuel (done.setIfInBounds i true) (a.put oi.dst v) w→wpAnyF P md ops Q S e (fuel+1) done a w:=by
 have hsel:=Region.noSelect_spec hs
 intro fuel done hf hr hd0
 have hfree:=Region.free_spec hi hf
 have hr':i ∈ Region.ready md ops done:=by simpa using hr
 clear hf hr
 suffices H:∀(fuel:Nat) (done:Array Bool) (a:Act) (w:World),(∀j oj,ops[j]?=some oj→j≠i→done.getD j true=false→(∀d ∈ oj.after,Region.binds md d=true→d.on≠i)→oi.apart ops oj=true)→
  i ∈ Region.ready md ops done→done.getD e true=false→YieldsIf P ops S oi v a→S w→wpAnyF P md ops Q S e fuel (done.setIfInBounds i true) (a.put oi.dst v) w→wpAnyF P md ops Q S e (fuel+1) done a w from H fuel done a w hfree hr' hd0
 intro fuel
 induction fuel with
 |zero=>
  intro done a w _ hr _ hy hS h
  refine⟨fun h0=>by simp [h0] at hr,fun j hj=>?_⟩
  by_cases hji:j=i
  ·subst hji
   exact hy.wpOp hi hS ⟨.inr hS,h⟩
  ·have:=ready_mono hj hji
   simp [h.1] at this
 |succ fuel ih=>
  intro done a w hfr hr hde hy hS h
  refine⟨fun h0=>by simp [h0] at hr,fun j hj=>?_⟩
  by_cases hji:j=i
  ·subst hji
   exact hy.wpOp hi hS ⟨.inr hS,h⟩
  obtain⟨hjd,oj,hoj,hall⟩:=mem_ready.1 hj
  have hno:∀d ∈ oj.after,Region.binds md d=true→d.on≠i:=by
   rintro d hd hb rfl
   have h1:=hall d hd hb
   have h0:=(mem_ready.1 hr).1
   simp only [Array.getD_eq_getD_getElem?] at h0 h1
   cases hq:done[d.on]? with
   |none=>simp [hq] at h0 h1
   |some q=>simp [hq] at h0 h1;rw [h0] at h1;cases h1
  have hje:j≠e:=by
   rintro rfl
   unfold waitsFor at he
   rw [hoj] at he
   obtain⟨k,hk,hd⟩:=Array.any_eq_true.1 he
   simp only [Bool.and_eq_true,beq_iff_eq] at hd
   exact hno _ (Array.getElem_mem hk) hd.1 hd.2
  have hie:i≠e:=by
   rintro rfl
   unfold waitsFor at he
   rw [hi] at he
   obtain⟨k,hk,hd⟩:=Array.any_eq_true.1 he
   simp only [Bool.and_eq_true,beq_iff_eq] at hd
   obtain⟨_,oi',hoi',hall'⟩:=mem_ready.1 hr
   rw [hi] at hoi'
   cases hoi'
   have h1:=hall' _ (Array.getElem_mem hk) hd.1
   have h0:=(mem_ready.1 hr).1
   rw [hd.2] at h1
   simp only [Array.getD_eq_getD_getElem?] at h0 h1
   cases hq:done[i]? with
   |none=>simp [hq] at h0 h1
   |some q=>simp [hq] at h0 h1;rw [h0] at h1;cases h1
  have hstep:=wpOp_putIf hoj (hfr j oj hoj hji hjd hno) (fun cs b=>hsel i oi cs b hi) (fun cs b=>hsel j oj cs b hoj) hQ hy (h.2 j (ready_mono hj hji))
  have hdj:(done.setIfInBounds j true).getD e true=false:=by rw [getD_set_ne true hje];exact hde
  have hdij:((done.setIfInBounds i true).setIfInBounds j true).getD e true=false:=by rw [getD_set_ne true hje,getD_set_ne true hie];exact hde
  refine wpOp_mono (fun a' w' hk=>?_) hstep
  obtain⟨hy',hS',hrest⟩:=hk
  have hS2:S w':=by
   rcases hS' with h1|h1
   ·rw [hdij] at h1;cases h1
   ·exact h1
  refine⟨.inr hS2,ih _ a' w' (fun k ok hk hki hun hn=>hfr k ok hk hki ?_ hn) (ready_mono hr (Ne.symm hji)) hdj hy' hS2 ?_⟩
  ·by_cases hjk:j=k
   ·subst hjk;exact hjd
   ·rwa [getD_set_ne true hjk] at hun
  ·rwa [Array.setIfInBounds_comm _ _ hji]
theorem wpAnyF_free {i:Nat} {oi:Oper} {v:Value} {a:Act} {w:World} (hi:ops[i]?=some oi) (hs:Region.noSelect ops=true) (hie:i≠e)
  (hQ:∀c a w,Q (.panic c) (a.put oi.dst v) w→Q (.panic c) a w):
  ∀ {fuel:Nat} {done:Array Bool},Region.free md ops done i=true→(Region.ready md ops done).contains i=true→YieldsIf P ops (fun _=>True) oi v a→S w→
   wpAnyF P md ops Q S e fuel (done.setIfInBounds i true) (a.put oi.dst v) w→wpAnyF P md ops Q S e (fuel+1) done a w:=by
 have hsel:=Region.noSelect_spec hs
 intro fuel done hf hr hy0 hS0
 have hfree:=Region.free_spec hi hf
 have hr':i ∈ Region.ready md ops done:=by simpa using hr
 clear hf hr
 suffices H:∀(fuel:Nat) (done:Array Bool) (a:Act) (w:World),(∀j oj,ops[j]?=some oj→j≠i→done.getD j true=false→(∀d ∈ oj.after,Region.binds md d=true→d.on≠i)→oi.apart ops oj=true)→
  i ∈ Region.ready md ops done→YieldsIf P ops (fun _=>True) oi v a→(done.getD e true=true∨S w)→wpAnyF P md ops Q S e fuel (done.setIfInBounds i true) (a.put oi.dst v) w→wpAnyF P md ops Q S e (fuel+1) done a w from H fuel done a w hfree hr' hy0 (.inr hS0)
 intro fuel
 induction fuel with
 |zero=>
  intro done a w _ hr hy hS h
  refine⟨fun h0=>by simp [h0] at hr,fun j hj=>?_⟩
  by_cases hji:j=i
  ·subst hji
   exact hy.wpOp hi trivial ⟨hS.imp done_later id,h⟩
  ·have:=ready_mono hj hji
   simp [h.1] at this
 |succ fuel ih=>
  intro done a w hfr hr hy hS h
  refine⟨fun h0=>by simp [h0] at hr,fun j hj=>?_⟩
  by_cases hji:j=i
  ·subst hji
   exact hy.wpOp hi trivial ⟨hS.imp done_later id,h⟩
  obtain⟨hjd,oj,hoj,hall⟩:=mem_ready.1 hj
  have hno:∀d ∈ oj.after,Region.binds md d=true→d.on≠i:=by
   rintro d hd hb rfl
   have h1:=hall d hd hb
   have h0:=(mem_ready.1 hr).1
   simp only [Array.getD_eq_getD_getElem?] at h0 h1
   cases hq:done[d.on]? with
   |none=>simp [hq] at h0 h1
   |some q=>simp [hq] at h0 h1;rw [h0] at h1;cases h1
  have hstep:=wpOp_putIf hoj (hfr j oj hoj hji hjd hno) (fun cs b=>hsel i oi cs b hi) (fun cs b=>hsel j oj cs b hoj) hQ hy (h.2 j (ready_mono hj hji))
  refine wpOp_mono (fun a' w' hk=>?_) hstep
  obtain⟨hy',hS',hrest⟩:=hk
  have hS2:(done.setIfInBounds j true).getD e true=true∨S w':=by
   rcases hS' with h1|h1
   ·rw [Array.setIfInBounds_comm _ _ (Ne.symm hji),getD_set_ne true hie] at h1
    exact .inl h1
   ·exact .inr h1
  refine⟨hS2,ih _ a' w' (fun k ok hk hki hun hn=>hfr k ok hk hki ?_ hn) (ready_mono hr (Ne.symm hji)) hy' hS2 ?_⟩
  ·by_cases hjk:j=k
   ·subst hjk;exact hjd
   ·rwa [getD_set_ne true hjk] at hun
  ·rwa [Array.setIfInBounds_comm _ _ hji]
def ReadyF (P:Program) (md:Region.Mode) (ops:Array Oper) (Q:Exit→Act→World→Prop) (S:World→Prop) (e fuel:Nat) (done:Array Bool) (a:Act) (w:World) (rs:List Nat):Prop:=
 ∀i ∈ rs,wpOp P ops Q i (fun a' w'=>((done.setIfInBounds i true).getD e true=true∨S w')∧wpAnyF P md ops Q S e fuel (done.setIfInBounds i true) a' w') a w
theorem ReadyF.nil {fuel:Nat} {done:Array Bool} {a:Act} {w:World} :ReadyF P md ops Q S e fuel done a w []:=fun _ h=>by cases h
theorem ReadyF.cons {fuel:Nat} {done:Array Bool} {a:Act} {w:World} {i:Nat} {o:Oper} {rs:List Nat} (ho:ops[i]?=some o)
  (h:∀K':Act→World→Prop,Shut (∀a w,((done.setIfInBounds i true).getD e true=true∨S w)→wpAnyF P md ops Q S e fuel (done.setIfInBounds i true) a w→K' a w)→if Region.wanted o (yielded ops a.tmps)=true then Oper.wp P o a w K' Q else K' (a.put o.dst undef) w)
  (hs:ReadyF P md ops Q S e fuel done a w rs):ReadyF P md ops Q S e fuel done a w (i::rs):=fun j hj=>by
 rcases List.mem_cons.1 hj with rfl|hj
 ·exact wpOp_step ho fun K' hK=>h K' fun a w h1 h2=>hK a w ⟨h1,h2⟩
 ·exact hs j hj
theorem wpAnyF_ready {rs:List Nat} {fuel:Nat} {done:Array Bool} {a:Act} {w:World} (hr:Region.ready md ops done=rs) (hne:rs≠[]) (h:ReadyF P md ops Q S e fuel done a w rs):wpAnyF P md ops Q S e (fuel+1) done a w:=
 ⟨fun h0=>absurd (hr ▸ h0) hne,hr ▸ h⟩
theorem wpAnyF_done {done:Array Bool} {a:Act} {w:World} (hr:Region.ready md ops done=[]) (h:Q .normal a w):∀fuel,wpAnyF P md ops Q S e fuel done a w
 |0=>⟨hr,h⟩
 |_+1=>⟨fun _=>h,by rw [hr];simp⟩
end
theorem wp_region_lastF {P:Program} {id:Nat} {Q:Exit→Act→World→Prop} {a:Act} {w:World} {ops:Array Oper} (S:World→Prop) (e:Nat) (hm:P.follows .mixedOrders=true) (hS:S w.drew)
  (h:S w.drew→wpAnyF P .any ops Q S e ops.size (Array.replicate ops.size false) a w.drew):(Code.region id ops true).wp P Q a w:=
 wp_region_any hm (wpAny_of_F _ _ _ _ (h hS))
theorem wpRound_lastF {P:Program} {id r n:Nat} {Q:Exit→Act→World→Prop} {a:Act} {w:World} {l:List Oper} (S:World→Prop) (e:Nat) (hnd:noDefer l=true) (hQ:¬LetsOut Q) (hm:P.follows .mixedOrders=true) (hS:S w.drew)
  (h:S w.drew→wpAnyF P .any l.toArray Q S e l.toArray.size (Array.replicate l.toArray.size false) a w.drew):(Code.region id l.toArray true).wpIn (Fence.wide.inRound r) n P Q a w:=
 wpIn_region_any hm (wpAnyIn_of_wpAny (by simpa using hnd) hQ _ _ _ _ (wpAny_of_F _ _ _ _ (h hS)))
end Go.Proofs.YtcgjbllmoglhfaaDoor
namespace Go.Proofs.YtcgjbllmoglhfaaDoor
open Go.RowKit
section
variable {w w':World} {b:Nat} {X Y:List Nat} {g:Lg} {n:Int}
theorem r18_below (h:R18 w b X g) (hb:Below w.heap.size w w'):R18 w' b X g:=h.keep0 ⟨hb.os,hb.tape,hb.output,hb.size,fun k hk _=>hb.block k hk⟩
theorem below_turned {a c:World} (hb:Below a.heap.size a c):Turned [] a c:=⟨hb.os,hb.tape,hb.output,hb.size,fun k hk _=>hb.block k hk⟩
theorem modify_set18 {l:List Pty} {p:Nat} {x:Pty} (h:l[p]?=some x) (f:Pty→Pty):l.modify p f=l.set p (f x):=by
 apply List.ext_getElem?
 intro j
 rw [List.getElem?_set,List.getElem?_modify]
 by_cases hkj:p=j
 ·subst hkj
  have hl:p < l.length:=(List.getElem?_eq_some_iff.1 h).1
  rw [if_pos rfl,if_pos hl,h]
  simp
 ·rw [if_neg hkj]
  simp [hkj]
theorem rcharge_any (h:R18 w b X g) (ho:LgOk g n) (hn:n≤100000) (p:Int):Calls Tryd.prog 10 #[.pointer (some ⟨b,0,none⟩), .int .i64 p] w fun e w'=>e= .returned (.bool (isP g p))∧R18 w' b X (g.charge p)∧Turned X w w':=by
 have HI:=xhd (ris_any h p)
 cases hip:isP g p with
 |false=>
  have e:g.charge p=g:=by unfold Lg.charge;rw [hip];rfl
  rw [e]
  rw [hip] at HI
  have H:=xhd h
  clear h ho hip e
  go_enter Tryd.func10,Tryd.ntmps10
  go_wp2_with fail
  with_reducible refine HI.out.mono ?_
  rintro e w1 ⟨rfl,rfl⟩
  go_wp2
  go_ret
  exact⟨rfl,H.out,Turned.refl _ _⟩
 |true=>
  obtain⟨p,rfl,hpl⟩:=isP_nat hip
  rw [hip] at HI
  have hx:g.l[p]?=some g.l[p]:=List.getElem?_eq_getElem hpl
  obtain⟨⟨wt,v,hd,ac⟩,hxx⟩:∃x,g.l[p]=x:=⟨_,rfl⟩
  rw [hxx] at hx
  have hxm:(wt,v,hd,ac) ∈ g.l:=List.mem_iff_getElem?.2 ⟨p,hx⟩
  have hvw:Word v:=ho.v _ hxm
  have hhd:0≤hd∧hd≤n:=ho.held _ hxm
  have hlr:=lock_range wt
  obtain⟨a,cap,c0,_,_,_,bf,_,hr⟩:=h.rows
  obtain⟨r,rfl,r0,r1,r2,r3,rf,hbr⟩:=hr p _ hx
  simp only at r0 r1 r2 r3
  have HL:=xhd (fun V=>rlock_any wt V)
  have HA:=xhd (fun V=>refadd_any v (lockR wt) hvw ⟨hlr.1,by omega⟩ V)
  have hcell:∀ {q:Addr} {u:Value} (V:World),Below w.heap.size w V→w.cell? q=some u→V.cell? q=some u:=fun {q} {u} V hV hq=>(hV.cell (World.block_lt_of_cell? w q hq)).trans hq
  have hbl:=World.block_lt_of_cell? w _ c0
  have hrl:=World.block_lt_of_cell? w _ r1
  have HFIN:Hid (∀V,Below w.heap.size w V→R18 ((V.setCell ⟨r,p*4+1,none⟩ (.int .u64 (satV (v+lockR wt)))).setCell ⟨r,p*4+2,none⟩ (.int .i64 (hd+1))) b X (g.charge p)∧Turned X w ((V.setCell ⟨r,p*4+1,none⟩ (.int .u64 (satV (v+lockR wt)))).setCell ⟨r,p*4+2,none⟩ (.int .i64 (hd+1)))):=xhd fun V hV=>by
   obtain⟨s1,s2,s3⟩:=(r18_below h hV).put (hcell V hV c0) hx (y:=(wt,satV (v+lockR wt),hd,ac)) (i:=1) (by omega) (u:= .int .u64 (satV (v+lockR wt))) rfl
   obtain⟨s4,s5,_⟩:=s1.put s3 (x:=(wt,satV (v+lockR wt),hd,ac)) (p:=p) (by simp [hpl]) (y:=(wt,satV (v+lockR wt),hd+1,ac)) (i:=2) (by omega) (u:= .int .i64 (hd+1)) rfl
   refine⟨?_,((below_turned hV).mono (fun k hk=>by simp at hk)).trans (s2.trans s5 (Newer.refl _ _)) (Newer.refl _ _)⟩
   have e:g.charge p= { g with l:=g.l.set p (wt,satV (v+lockR wt),hd+1,ac) } :=by
    rw [charge_l hpl,modify_set18 hx]
    rfl
   rw [e]
   rw [List.set_set] at s4
   exact s4
  have HKP:Hid (∀V,Below w.heap.size w V→V.cell? ⟨b,0,none⟩=some (.slice (some ⟨r,0,none⟩) g.l.length cap)∧V.cell? ⟨r,p*4,none⟩=some (.int .i64 wt)∧V.cell? ⟨r,p*4+1,none⟩=some (.int .u64 v)∧V.cell? ⟨r,p*4+2,none⟩=some (.int .i64 hd)∧V.frozen? ⟨r,p*4+1,none⟩=false∧V.frozen? ⟨r,p*4+2,none⟩=false):=xhd fun V hV=>
   ⟨hcell V hV c0,hcell V hV r0,hcell V hV r1,hcell V hV r2,(hV.frozen (p:=⟨r,p*4+1,none⟩) hrl).trans (rf _),(hV.frozen (p:=⟨r,p*4+2,none⟩) hrl).trans (rf _)⟩
  have hwr:IntKind.i64.wrap (hd+1)=hd+1:=by rw [IntKind.wrap_i64];omega
  have i0:(0:Int)≤p:=by omega
  have i1:(p:Int) < (g.l.length:Nat):=by omega
  have hrb:r≠b:=fun e=>hbr e.symm
  generalize g.charge p=Q at HFIN ⊢
  generalize g.l.length=m at c0 i1 HKP
  generalize satV (v+lockR wt)=s at HA HFIN
  generalize satE (v+lockR wt)=se at HA
  generalize lockR wt=c at HL HA
  clear h ho hip hpl hx hxx hxm hvw hhd hlr hr r2 r3 rf bf hcell
  go_enter Tryd.func10,Tryd.ntmps10
  go_wp2_with fail
  with_reducible refine HI.out.mono ?_
  rintro e w2 ⟨rfl,rfl⟩
  go_wp2_with fail
  have hmix:Tryd.prog.follows .mixedOrders=true:=by kernel_rfl
  refine wp_region_noPanic ?_
  refine wp_region_lastF (fun V=>V.cell? ⟨b,0,none⟩=some (.slice (some ⟨r,0,none⟩) m cap)∧V.cell? ⟨r,p*4,none⟩=some (.int .i64 wt)∧V.cell? ⟨r,p*4+1,none⟩=some (.int .u64 v)) 28 hmix ⟨c0,r0,r1⟩ (fun hS0=>?_)
  refine wpAnyF_free (i:=0) (v:=?_) rfl (by kernel_rfl) (by decide) (fun _ _ _ h=>h) (by kernel_rfl) (by kernel_rfl) (Or.inl ⟨by rfl,?hy⟩) (by assumption) ?_
  case hy=>
   intro w _
   go_simp
   try with_reducible rfl
  try simp only [xga];try simp only [xgs];try simp only [xgz];try simp only [Act.put];try simp only [xsa];try simp only [xss];try simp only [xsz]
  refine wpAnyF_free (i:=1) (v:=?_) rfl (by kernel_rfl) (by decide) (fun _ _ _ h=>h) (by kernel_rfl) (by kernel_rfl) (Or.inl ⟨by rfl,?hy⟩) (by assumption) ?_
  case hy=>
   intro w _
   go_simp
   try with_reducible rfl
  try simp only [xga];try simp only [xgs];try simp only [xgz];try simp only [Act.put];try simp only [xsa];try simp only [xss];try simp only [xsz]
  refine wpAnyF_free (i:=2) (v:=?_) rfl (by kernel_rfl) (by decide) (fun _ _ _ h=>h) (by kernel_rfl) (by kernel_rfl) (Or.inl ⟨by rfl,?hy⟩) (by assumption) ?_
  case hy=>
   intro w _
   go_simp
   try with_reducible rfl
  try simp only [xga];try simp only [xgs];try simp only [xgz];try simp only [Act.put];try simp only [xsa];try simp only [xss];try simp only [xsz]
  refine wpAnyF_take (i:=3) (v:=?_) rfl (by kernel_rfl) (by kernel_rfl) (fun _ _ _ h=>h) (by kernel_rfl) (by kernel_rfl) (by kernel_rfl) (Or.inl ⟨by rfl,?hy⟩) (by assumption) ?_
  case hy=>
   intro w hSw
   (try dsimp only at hSw)
   obtain⟨s0,s1,s2⟩:=hSw
   go_simp
   try with_reducible rfl
  try simp only [xga];try simp only [xgs];try simp only [xgz];try simp only [Act.put];try simp only [xsa];try simp only [xss];try simp only [xsz]
  refine wpAnyF_free (i:=4) (v:=?_) rfl (by kernel_rfl) (by decide) (fun _ _ _ h=>h) (by kernel_rfl) (by kernel_rfl) (Or.inl ⟨by rfl,?hy⟩) (by assumption) ?_
  case hy=>
   intro w _
   go_simp
   try with_reducible rfl
  try simp only [xga];try simp only [xgs];try simp only [xgz];try simp only [Act.put];try simp only [xsa];try simp only [xss];try simp only [xsz]
  refine wpAnyF_free (i:=5) (v:=?_) rfl (by kernel_rfl) (by decide) (fun _ _ _ h=>h) (by kernel_rfl) (by kernel_rfl) (Or.inl ⟨by rfl,?hy⟩) (by assumption) ?_
  case hy=>
   intro w _
   go_simp
   try with_reducible rfl
  try simp only [xga];try simp only [xgs];try simp only [xgz];try simp only [Act.put];try simp only [xsa];try simp only [xss];try simp only [xsz]
  refine wpAnyF_free (i:=6) (v:=?_) rfl (by kernel_rfl) (by decide) (fun _ _ _ h=>h) (by kernel_rfl) (by kernel_rfl) (Or.inl ⟨by rfl,?hy⟩) (by assumption) ?_
  case hy=>
   intro w _
   go_simp
   try with_reducible rfl
  try simp only [xga];try simp only [xgs];try simp only [xgz];try simp only [Act.put];try simp only [xsa];try simp only [xss];try simp only [xsz]
  refine wpAnyF_free (i:=7) (v:=?_) rfl (by kernel_rfl) (by decide) (fun _ _ _ h=>h) (by kernel_rfl) (by kernel_rfl) (Or.inl ⟨by rfl,?hy⟩) (by assumption) ?_
  case hy=>
   intro w _
   go_simp
   try with_reducible rfl
  try simp only [xga];try simp only [xgs];try simp only [xgz];try simp only [Act.put];try simp only [xsa];try simp only [xss];try simp only [xsz]
  refine wpAnyF_take (i:=8) (v:=?_) rfl (by kernel_rfl) (by kernel_rfl) (fun _ _ _ h=>h) (by kernel_rfl) (by kernel_rfl) (by kernel_rfl) (Or.inl ⟨by rfl,?hy⟩) (by assumption) ?_
  case hy=>
   intro w hSw
   (try dsimp only at hSw)
   obtain⟨s0,s1,s2⟩:=hSw
   go_simp
   try with_reducible rfl
  try simp only [xga];try simp only [xgs];try simp only [xgz];try simp only [Act.put];try simp only [xsa];try simp only [xss];try simp only [xsz]
  refine wpAnyF_free (i:=9) (v:=?_) rfl (by kernel_rfl) (by decide) (fun _ _ _ h=>h) (by kernel_rfl) (by kernel_rfl) (Or.inl ⟨by rfl,?hy⟩) (by assumption) ?_
  case hy=>
   intro w _
   go_simp
   try with_reducible rfl
  try simp only [xga];try simp only [xgs];try simp only [xgz];try simp only [Act.put];try simp only [xsa];try simp only [xss];try simp only [xsz]
  refine wpAnyF_free (i:=10) (v:=?_) rfl (by kernel_rfl) (by decide) (fun _ _ _ h=>h) (by kernel_rfl) (by kernel_rfl) (Or.inl ⟨by rfl,?hy⟩) (by assumption) ?_
  case hy=>
   intro w _
   go_simp
   try with_reducible rfl
  try simp only [xga];try simp only [xgs];try simp only [xgz];try simp only [Act.put];try simp only [xsa];try simp only [xss];try simp only [xsz]
  refine wpAnyF_free (i:=11) (v:=?_) rfl (by kernel_rfl) (by decide) (fun _ _ _ h=>h) (by kernel_rfl) (by kernel_rfl) (Or.inl ⟨by rfl,?hy⟩) (by assumption) ?_
  case hy=>
   intro w _
   go_simp
   try with_reducible rfl
  try simp only [xga];try simp only [xgs];try simp only [xgz];try simp only [Act.put];try simp only [xsa];try simp only [xss];try simp only [xsz]
  refine wpAnyF_take (i:=12) (v:=?_) rfl (by kernel_rfl) (by kernel_rfl) (fun _ _ _ h=>h) (by kernel_rfl) (by kernel_rfl) (by kernel_rfl) (Or.inl ⟨by rfl,?hy⟩) (by assumption) ?_
  case hy=>
   intro w hSw
   (try dsimp only at hSw)
   obtain⟨s0,s1,s2⟩:=hSw
   go_simp
   try with_reducible rfl
  try simp only [xga];try simp only [xgs];try simp only [xgz];try simp only [Act.put];try simp only [xsa];try simp only [xss];try simp only [xsz]
  refine wpAnyF_free (i:=13) (v:=?_) rfl (by kernel_rfl) (by decide) (fun _ _ _ h=>h) (by kernel_rfl) (by kernel_rfl) (Or.inl ⟨by rfl,?hy⟩) (by assumption) ?_
  case hy=>
   intro w _
   go_simp
   try with_reducible rfl
  try simp only [xga];try simp only [xgs];try simp only [xgz];try simp only [Act.put];try simp only [xsa];try simp only [xss];try simp only [xsz]
  refine wpAnyF_free (i:=14) (v:=?_) rfl (by kernel_rfl) (by decide) (fun _ _ _ h=>h) (by kernel_rfl) (by kernel_rfl) (Or.inl ⟨by rfl,?hy⟩) (by assumption) ?_
  case hy=>
   intro w _
   go_simp
   try with_reducible rfl
  try simp only [xga];try simp only [xgs];try simp only [xgz];try simp only [Act.put];try simp only [xsa];try simp only [xss];try simp only [xsz]
  refine wpAnyF_free (i:=15) (v:=?_) rfl (by kernel_rfl) (by decide) (fun _ _ _ h=>h) (by kernel_rfl) (by kernel_rfl) (Or.inl ⟨by rfl,?hy⟩) (by assumption) ?_
  case hy=>
   intro w _
   go_simp
   try with_reducible rfl
  try simp only [xga];try simp only [xgs];try simp only [xgz];try simp only [Act.put];try simp only [xsa];try simp only [xss];try simp only [xsz]
  refine wpAnyF_take (i:=16) (v:=?_) rfl (by kernel_rfl) (by kernel_rfl) (fun _ _ _ h=>h) (by kernel_rfl) (by kernel_rfl) (by kernel_rfl) (Or.inl ⟨by rfl,?hy⟩) (by assumption) ?_
  case hy=>
   intro w hSw
   (try dsimp only at hSw)
   obtain⟨s0,s1,s2⟩:=hSw
   go_simp
   try with_reducible rfl
  try simp only [xga];try simp only [xgs];try simp only [xgz];try simp only [Act.put];try simp only [xsa];try simp only [xss];try simp only [xsz]
  refine wpAnyF_free (i:=17) (v:=?_) rfl (by kernel_rfl) (by decide) (fun _ _ _ h=>h) (by kernel_rfl) (by kernel_rfl) (Or.inl ⟨by rfl,?hy⟩) (by assumption) ?_
  case hy=>
   intro w _
   go_simp
   try with_reducible rfl
  try simp only [xga];try simp only [xgs];try simp only [xgz];try simp only [Act.put];try simp only [xsa];try simp only [xss];try simp only [xsz]
  refine wpAnyF_free (i:=18) (v:=?_) rfl (by kernel_rfl) (by decide) (fun _ _ _ h=>h) (by kernel_rfl) (by kernel_rfl) (Or.inl ⟨by rfl,?hy⟩) (by assumption) ?_
  case hy=>
   intro w _
   go_simp
   try with_reducible rfl
  try simp only [xga];try simp only [xgs];try simp only [xgz];try simp only [Act.put];try simp only [xsa];try simp only [xss];try simp only [xsz]
  refine wpAnyF_free (i:=19) (v:=?_) rfl (by kernel_rfl) (by decide) (fun _ _ _ h=>h) (by kernel_rfl) (by kernel_rfl) (Or.inl ⟨by rfl,?hy⟩) (by assumption) ?_
  case hy=>
   intro w _
   go_simp
   try with_reducible rfl
  try simp only [xga];try simp only [xgs];try simp only [xgz];try simp only [Act.put];try simp only [xsa];try simp only [xss];try simp only [xsz]
  refine wpAnyF_take (i:=20) (v:=?_) rfl (by kernel_rfl) (by kernel_rfl) (fun _ _ _ h=>h) (by kernel_rfl) (by kernel_rfl) (by kernel_rfl) (Or.inl ⟨by rfl,?hy⟩) (by assumption) ?_
  case hy=>
   intro w hSw
   (try dsimp only at hSw)
   obtain⟨s0,s1,s2⟩:=hSw
   go_simp
   try with_reducible rfl
  try simp only [xga];try simp only [xgs];try simp only [xgz];try simp only [Act.put];try simp only [xsa];try simp only [xss];try simp only [xsz]
  refine wpAnyF_ready (rs:=[21]) (by kernel_rfl) (by simp) ?_
  refine ReadyF.cons rfl (fun K' hK=>?_) ReadyF.nil
  go_simp
  with_reducible refine (HL.out _).mono ?_
  rintro e w3 ⟨rfl,rfl⟩
  skip
  go_wp2_with fail
  refine hK.out _ _ (.inr ?_) ?_
  ·exact⟨c0,r0,r1⟩
  clear hK K'
  try simp only [xga];try simp only [xgs];try simp only [xgz];try simp only [Act.put];try simp only [xsa];try simp only [xss];try simp only [xsz]
  refine wpAnyF_ready (rs:=[22]) (by kernel_rfl) (by simp) ?_
  refine ReadyF.cons rfl (fun K' hK=>?_) ReadyF.nil
  go_simp
  with_reducible refine (HA.out _).mono ?_
  rintro e w4 ⟨rfl,hb⟩
  have HB:=xhd (((Below.refl _ w).drew).trans (hb.mono (Nat.le_refl _)))
  clear hb
  obtain⟨d0,d1,d2,d3,f1,f2⟩:=HKP.out _ HB.out
  have hS1:(fun V:World=>V.cell? ⟨b,0,none⟩=some (.slice (some ⟨r,0,none⟩) m cap)∧V.cell? ⟨r,p*4,none⟩=some (.int .i64 wt)∧V.cell? ⟨r,p*4+1,none⟩=some (.int .u64 v)) w4:=⟨d0,d1,d2⟩
  go_wp2_with fail
  refine hK.out _ _ (.inr ?_) ?_
  ·exact hS1
  clear hK K'
  try simp only [xga];try simp only [xgs];try simp only [xgz];try simp only [Act.put];try simp only [xsa];try simp only [xss];try simp only [xsz]
  refine wpAnyF_free (i:=23) (v:=?_) rfl (by kernel_rfl) (by decide) (fun _ _ _ h=>h) (by kernel_rfl) (by kernel_rfl) (Or.inl ⟨by rfl,?hy⟩) (by assumption) ?_
  case hy=>
   intro w _
   go_simp
   try with_reducible rfl
  try simp only [xga];try simp only [xgs];try simp only [xgz];try simp only [Act.put];try simp only [xsa];try simp only [xss];try simp only [xsz]
  refine wpAnyF_free (i:=24) (v:=?_) rfl (by kernel_rfl) (by decide) (fun _ _ _ h=>h) (by kernel_rfl) (by kernel_rfl) (Or.inl ⟨by rfl,?hy⟩) (by assumption) ?_
  case hy=>
   intro w _
   go_simp
   try with_reducible rfl
  try simp only [xga];try simp only [xgs];try simp only [xgz];try simp only [Act.put];try simp only [xsa];try simp only [xss];try simp only [xsz]
  refine wpAnyF_free (i:=25) (v:=?_) rfl (by kernel_rfl) (by decide) (fun _ _ _ h=>h) (by kernel_rfl) (by kernel_rfl) (Or.inl ⟨by rfl,?hy⟩) (by assumption) ?_
  case hy=>
   intro w _
   go_simp
   try with_reducible rfl
  try simp only [xga];try simp only [xgs];try simp only [xgz];try simp only [Act.put];try simp only [xsa];try simp only [xss];try simp only [xsz]
  refine wpAnyF_free (i:=26) (v:=?_) rfl (by kernel_rfl) (by decide) (fun _ _ _ h=>h) (by kernel_rfl) (by kernel_rfl) (Or.inl ⟨by rfl,?hy⟩) (by assumption) ?_
  case hy=>
   intro w _
   go_simp
   try with_reducible rfl
  try simp only [xga];try simp only [xgs];try simp only [xgz];try simp only [Act.put];try simp only [xsa];try simp only [xss];try simp only [xsz]
  refine wpAnyF_free (i:=27) (v:=?_) rfl (by kernel_rfl) (by decide) (fun _ _ _ h=>h) (by kernel_rfl) (by kernel_rfl) (Or.inl ⟨by rfl,?hy⟩) (by assumption) ?_
  case hy=>
   intro w _
   go_simp
   try with_reducible rfl
  try simp only [xga];try simp only [xgs];try simp only [xgz];try simp only [Act.put];try simp only [xsa];try simp only [xss];try simp only [xsz]
  refine wpAnyF_ready (rs:=[28]) (by kernel_rfl) (by simp) ?_
  refine ReadyF.cons rfl (fun K' hK=>?_) ReadyF.nil
  go_simp
  refine hK.out _ _ (.inl (by kernel_rfl)) ?_
  clear hK K'
  try simp only [xga];try simp only [xgs];try simp only [xgz];try simp only [Act.put];try simp only [xsa];try simp only [xss];try simp only [xsz]
  refine wpAnyF_done (by kernel_rfl) ?_ _
  refine NoPanic.normal ?_
  try simp only [xga];try simp only [xgs];try simp only [xgz];try simp only [Act.put];try simp only [xsa];try simp only [xss];try simp only [xsz]
  go_wp2
  go_ret
  exact⟨rfl,HFIN.out _ HB.out⟩
theorem rweigh18_any (h:R18 w b X g) (ho:LgOk g n) (p wn:Int):Calls Tryd.prog 14 #[.pointer (some ⟨b,0,none⟩), .int .i64 p, .int .i64 wn] w fun e w'=>e= .returned (.bool (isP g p))∧R18 w' b X (g.weigh p wn)∧Turned X w w':=by
 have HI:=xhd (ris_any h p)
 have HBR:=xhd (fun V=>bring_any wn 1 16 V)
 have hu:=bring_range (n:=wn) (lo:=1) (hi:=16) (by decide)
 cases hip:isP g p with
 |false=>
  have e:g.weigh p wn=g:=by unfold Lg.weigh;rw [hip];rfl
  rw [e]
  rw [hip] at HI
  have H:=xhd h
  clear h ho hip e hu HBR
  go_enter Tryd.func14,Tryd.ntmps14
  go_wp2_with fail
  with_reducible refine HI.out.mono ?_
  rintro e w1 ⟨rfl,rfl⟩
  go_wp2
  go_ret
  exact⟨rfl,H.out,Turned.refl _ _⟩
 |true=>
  obtain⟨p,rfl,hpl⟩:=isP_nat hip
  rw [hip] at HI
  have hx:g.l[p]?=some g.l[p]:=List.getElem?_eq_getElem hpl
  obtain⟨⟨wt,v,hd,ac⟩,hxx⟩:∃x,g.l[p]=x:=⟨_,rfl⟩
  rw [hxx] at hx
  have hxm:(wt,v,hd,ac) ∈ g.l:=List.mem_iff_getElem?.2 ⟨p,hx⟩
  have hvw:Word v:=ho.v _ hxm
  obtain⟨a,cap,c0,c1,_,c3,bf,_,hr⟩:=h.rows
  obtain⟨r,rfl,r0,r1,r2,r3,rf,hbr⟩:=hr p _ hx
  simp only at r0 r1 r2 r3
  obtain⟨u,hud⟩:∃u,bringR wn 1 16=u:=⟨_,rfl⟩
  rw [hud] at HBR hu
  have ew:weighP g wn (wt,v,hd,ac)=if u=wt then (wt,v,hd,ac) else (u,clampR v g.f (lockR u*g.s),hd,ac):=by unfold weighP;rw [hud]
  have ew2:g.weigh p wn= { g with l:=g.l.set p (weighP g wn (wt,v,hd,ac)) } :=by rw [weigh_l hpl,modify_set18 hx]
  have hcell:∀ {q:Addr} {u:Value} (V:World),Below w.heap.size w V→w.cell? q=some u→V.cell? q=some u:=fun {q} {u} V hV hq=>(hV.cell (World.block_lt_of_cell? w q hq)).trans hq
  have hrl:=World.block_lt_of_cell? w _ r1
  have i0:(0:Int)≤p:=by omega
  have i1:(p:Int) < (g.l.length:Nat):=by omega
  have hrb:r≠b:=fun e=>hbr e.symm
  by_cases hc:u=wt
  ·have e:g.weigh p wn=g:=by
     rw [ew2,ew,if_pos hc]
     have:g.l.set p (wt,v,hd,ac)=g.l:=by rw [←hxx];exact List.set_getElem_self hpl
     rw [this]
   rw [e]
   have H:=xhd h
   have b1:(u != wt)=false:=by simpa using hc
   generalize g.l.length=m at c0 i1
   subst hc
   clear h ho hip hpl hx hxx hxm hvw hr r1 r2 r3 rf bf hcell ew ew2 e hud hu c1 c3
   go_enter Tryd.func14,Tryd.ntmps14
   go_wp2_with fail
   with_reducible refine HI.out.mono ?_
   rintro e w1 ⟨rfl,rfl⟩
   go_wp2_with fail
   with_reducible refine (HBR.out _).mono ?_
   rintro e w2 ⟨rfl,rfl⟩
   go_wp2
   go_ret
   exact⟨rfl,H.out,Turned.refl _ _⟩
  ·rw [if_neg hc] at ew
   have hlr:=lock_range u
   have hprod:0≤lockR u*g.s∧lockR u*g.s≤23063040:=⟨Int.mul_nonneg hlr.1 (by have:=ho.s;omega),by have:=Int.mul_le_mul hlr.2 ho.s.2 (by have:=ho.s;omega) (by decide:(0:Int)≤720720);omega⟩
   have HL:=xhd (fun V=>rlock_any u V)
   have HC:=xhd (fun V=>rclamp_any v g.f (lockR u*g.s) ho.f ⟨hprod.1,by omega⟩ V)
   have hb1:(u != wt)=true:=by simpa using hc
   have hws:IntKind.u64.wrap g.s=g.s:=by rw [IntKind.wrap_u64];have:=ho.s;omega
   have hwp:IntKind.u64.wrap (lockR u*g.s)=lockR u*g.s:=by rw [IntKind.wrap_u64];omega
   have HFIN:Hid (∀V,Below w.heap.size (w.setCell ⟨r,p*4,none⟩ (.int .i64 u)) V→R18 (V.setCell ⟨r,p*4+1,none⟩ (.int .u64 (clampR v g.f (lockR u*g.s)))) b X (g.weigh p wn)∧Turned X w (V.setCell ⟨r,p*4+1,none⟩ (.int .u64 (clampR v g.f (lockR u*g.s))))):=xhd fun V hV=>by
    obtain⟨s1,s2,s3⟩:=h.put c0 hx (y:=(u,v,hd,ac)) (i:=0) (by omega) (u:= .int .i64 u) rfl
    rw [Nat.add_zero] at s1 s2 s3
    have hV2:Below (w.setCell ⟨r,p*4,none⟩ (.int .i64 u)).heap.size (w.setCell ⟨r,p*4,none⟩ (.int .i64 u)) V:=by
     rw [World.size_setCell]
     exact hV
    have s3V:=(hV2.cell (World.block_lt_of_cell? _ _ s3)).trans s3
    obtain⟨s4,s5,_⟩:=(r18_below s1 hV2).put s3V (x:=(u,v,hd,ac)) (p:=p) (by simp [hpl]) (y:=(u,clampR v g.f (lockR u*g.s),hd,ac)) (i:=1) (by omega) (u:= .int .u64 (clampR v g.f (lockR u*g.s))) rfl
    refine⟨?_,s2.trans (((below_turned hV2).mono (fun k hk=>by simp at hk)).trans s5 (Newer.refl _ _)) (Newer.refl _ _)⟩
    rw [ew2,ew]
    rw [List.set_set] at s4
    exact s4
   have HKP:Hid ((w.setCell ⟨r,p*4,none⟩ (.int .i64 u)).cell? ⟨b,0,none⟩=some (.slice (some ⟨r,0,none⟩) g.l.length cap)∧(w.setCell ⟨r,p*4,none⟩ (.int .i64 u)).cell? ⟨r,p*4+1,none⟩=some (.int .u64 v)∧(w.setCell ⟨r,p*4,none⟩ (.int .i64 u)).cell? ⟨b,1,none⟩=some (.int .i64 g.s)∧(w.setCell ⟨r,p*4,none⟩ (.int .i64 u)).cell? ⟨b,3,none⟩=some (.int .u64 g.f)∧(w.setCell ⟨r,p*4,none⟩ (.int .i64 u)).frozen? ⟨r,p*4+1,none⟩=false∧b < (w.setCell ⟨r,p*4,none⟩ (.int .i64 u)).heap.size∧r < (w.setCell ⟨r,p*4,none⟩ (.int .i64 u)).heap.size):=by
    have o:∀ {q:Addr} {x:Value},q≠⟨r,p*4,none⟩→w.cell? q=some x→(w.setCell ⟨r,p*4,none⟩ (.int .i64 u)).cell? q=some x:=fun hq hx=>(World.cell?_setCell_other _ _ _ _ hq.symm).trans hx
    refine⟨o (by simp) c0,o (by simp) r1,o (by simp) c1,o (by simp) c3,?_,?_,?_⟩
    ·rw [World.frozen?_setCell];exact rf _
    ·rw [World.size_setCell];exact World.block_lt_of_cell? w _ c0
    ·rw [World.size_setCell];exact hrl
   have rf0:=rf (p*4)
   generalize g.weigh p wn=Q at HFIN ⊢
   generalize g.l.length=m at c0 i1 HKP
   generalize g.s=sl at c1 hws hwp HC HFIN HKP
   generalize g.f=fl at c3 HC HFIN HKP
   generalize clampR v fl (lockR u*sl)=z at HC HFIN
   generalize lockR u=c at HL HC hwp HFIN
   clear h ho hip hpl hx hxx hxm hr r2 r3 rf bf hcell ew ew2 hud hu hlr hprod hc
   go_enter Tryd.func14,Tryd.ntmps14
   go_wp2_with fail
   with_reducible refine HI.out.mono ?_
   rintro e w1 ⟨rfl,rfl⟩
   go_wp2_with fail
   with_reducible refine (HBR.out _).mono ?_
   rintro e w2 ⟨rfl,hw2⟩
   obtain rfl:=hw2.symm
   have HWS:=xhd (World.size_setCell w ⟨r,p*4,none⟩ (.int .i64 u))
   obtain⟨W2,hW2⟩:∃W2,w.setCell ⟨r,p*4,none⟩ (.int .i64 u)=W2:=⟨_,rfl⟩
   rw [hW2] at HKP HFIN HWS
   have HW2:=xhd hW2
   clear hW2
   go_wp2_with fail
   rw [HW2.out]
   clear c0 r0 r1 c1 c3 rf0
   obtain⟨d0,d1,d2,d3,f1,_,_⟩:=HKP.out
   have hmix:Tryd.prog.follows .mixedOrders=true:=by kernel_rfl
   refine wp_region_noPanic ?_
   refine wp_region_lastF (fun V=>V.cell? ⟨b,0,none⟩=some (.slice (some ⟨r,0,none⟩) m cap)∧V.cell? ⟨r,p*4+1,none⟩=some (.int .u64 v)∧V.cell? ⟨b,1,none⟩=some (.int .i64 sl)∧V.cell? ⟨b,3,none⟩=some (.int .u64 fl)) 28 hmix ⟨d0,d1,d2,d3⟩ (fun hS0=>?_)
   refine wpAnyF_free (i:=0) (v:=?_) rfl (by kernel_rfl) (by decide) (fun _ _ _ h=>h) (by kernel_rfl) (by kernel_rfl) (Or.inl ⟨by rfl,?hy⟩) (by assumption) ?_
   case hy=>
    intro w _
    go_simp
    try with_reducible rfl
   try simp only [xga];try simp only [xgs];try simp only [xgz];try simp only [Act.put];try simp only [xsa];try simp only [xss];try simp only [xsz]
   refine wpAnyF_free (i:=1) (v:=?_) rfl (by kernel_rfl) (by decide) (fun _ _ _ h=>h) (by kernel_rfl) (by kernel_rfl) (Or.inl ⟨by rfl,?hy⟩) (by assumption) ?_
   case hy=>
    intro w _
    go_simp
    try with_reducible rfl
   try simp only [xga];try simp only [xgs];try simp only [xgz];try simp only [Act.put];try simp only [xsa];try simp only [xss];try simp only [xsz]
   refine wpAnyF_free (i:=2) (v:=?_) rfl (by kernel_rfl) (by decide) (fun _ _ _ h=>h) (by kernel_rfl) (by kernel_rfl) (Or.inl ⟨by rfl,?hy⟩) (by assumption) ?_
   case hy=>
    intro w _
    go_simp
    try with_reducible rfl
   try simp only [xga];try simp only [xgs];try simp only [xgz];try simp only [Act.put];try simp only [xsa];try simp only [xss];try simp only [xsz]
   refine wpAnyF_take (i:=3) (v:=?_) rfl (by kernel_rfl) (by kernel_rfl) (fun _ _ _ h=>h) (by kernel_rfl) (by kernel_rfl) (by kernel_rfl) (Or.inl ⟨by rfl,?hy⟩) (by assumption) ?_
   case hy=>
    intro w hSw
    (try dsimp only at hSw)
    obtain⟨s0,s1,s2,s3⟩:=hSw
    go_simp
    try with_reducible rfl
   try simp only [xga];try simp only [xgs];try simp only [xgz];try simp only [Act.put];try simp only [xsa];try simp only [xss];try simp only [xsz]
   refine wpAnyF_free (i:=4) (v:=?_) rfl (by kernel_rfl) (by decide) (fun _ _ _ h=>h) (by kernel_rfl) (by kernel_rfl) (Or.inl ⟨by rfl,?hy⟩) (by assumption) ?_
   case hy=>
    intro w _
    go_simp
    try with_reducible rfl
   try simp only [xga];try simp only [xgs];try simp only [xgz];try simp only [Act.put];try simp only [xsa];try simp only [xss];try simp only [xsz]
   refine wpAnyF_free (i:=5) (v:=?_) rfl (by kernel_rfl) (by decide) (fun _ _ _ h=>h) (by kernel_rfl) (by kernel_rfl) (Or.inl ⟨by rfl,?hy⟩) (by assumption) ?_
   case hy=>
    intro w _
    go_simp
    try with_reducible rfl
   try simp only [xga];try simp only [xgs];try simp only [xgz];try simp only [Act.put];try simp only [xsa];try simp only [xss];try simp only [xsz]
   refine wpAnyF_free (i:=6) (v:=?_) rfl (by kernel_rfl) (by decide) (fun _ _ _ h=>h) (by kernel_rfl) (by kernel_rfl) (Or.inl ⟨by rfl,?hy⟩) (by assumption) ?_
   case hy=>
    intro w _
    go_simp
    try with_reducible rfl
   try simp only [xga];try simp only [xgs];try simp only [xgz];try simp only [Act.put];try simp only [xsa];try simp only [xss];try simp only [xsz]
   refine wpAnyF_free (i:=7) (v:=?_) rfl (by kernel_rfl) (by decide) (fun _ _ _ h=>h) (by kernel_rfl) (by kernel_rfl) (Or.inl ⟨by rfl,?hy⟩) (by assumption) ?_
   case hy=>
    intro w _
    go_simp
    try with_reducible rfl
   try simp only [xga];try simp only [xgs];try simp only [xgz];try simp only [Act.put];try simp only [xsa];try simp only [xss];try simp only [xsz]
   refine wpAnyF_take (i:=8) (v:=?_) rfl (by kernel_rfl) (by kernel_rfl) (fun _ _ _ h=>h) (by kernel_rfl) (by kernel_rfl) (by kernel_rfl) (Or.inl ⟨by rfl,?hy⟩) (by assumption) ?_
   case hy=>
    intro w hSw
    (try dsimp only at hSw)
    obtain⟨s0,s1,s2,s3⟩:=hSw
    go_simp
    try with_reducible rfl
   try simp only [xga];try simp only [xgs];try simp only [xgz];try simp only [Act.put];try simp only [xsa];try simp only [xss];try simp only [xsz]
   refine wpAnyF_free (i:=9) (v:=?_) rfl (by kernel_rfl) (by decide) (fun _ _ _ h=>h) (by kernel_rfl) (by kernel_rfl) (Or.inl ⟨by rfl,?hy⟩) (by assumption) ?_
   case hy=>
    intro w _
    go_simp
    try with_reducible rfl
   try simp only [xga];try simp only [xgs];try simp only [xgz];try simp only [Act.put];try simp only [xsa];try simp only [xss];try simp only [xsz]
   refine wpAnyF_free (i:=10) (v:=?_) rfl (by kernel_rfl) (by decide) (fun _ _ _ h=>h) (by kernel_rfl) (by kernel_rfl) (Or.inl ⟨by rfl,?hy⟩) (by assumption) ?_
   case hy=>
    intro w _
    go_simp
    try with_reducible rfl
   try simp only [xga];try simp only [xgs];try simp only [xgz];try simp only [Act.put];try simp only [xsa];try simp only [xss];try simp only [xsz]
   refine wpAnyF_free (i:=11) (v:=?_) rfl (by kernel_rfl) (by decide) (fun _ _ _ h=>h) (by kernel_rfl) (by kernel_rfl) (Or.inl ⟨by rfl,?hy⟩) (by assumption) ?_
   case hy=>
    intro w _
    go_simp
    try with_reducible rfl
   try simp only [xga];try simp only [xgs];try simp only [xgz];try simp only [Act.put];try simp only [xsa];try simp only [xss];try simp only [xsz]
   refine wpAnyF_take (i:=12) (v:=?_) rfl (by kernel_rfl) (by kernel_rfl) (fun _ _ _ h=>h) (by kernel_rfl) (by kernel_rfl) (by kernel_rfl) (Or.inl ⟨by rfl,?hy⟩) (by assumption) ?_
   case hy=>
    intro w hSw
    (try dsimp only at hSw)
    obtain⟨s0,s1,s2,s3⟩:=hSw
    go_simp
    try with_reducible rfl
   try simp only [xga];try simp only [xgs];try simp only [xgz];try simp only [Act.put];try simp only [xsa];try simp only [xss];try simp only [xsz]
   refine wpAnyF_free (i:=13) (v:=?_) rfl (by kernel_rfl) (by decide) (fun _ _ _ h=>h) (by kernel_rfl) (by kernel_rfl) (Or.inl ⟨by rfl,?hy⟩) (by assumption) ?_
   case hy=>
    intro w _
    go_simp
    try with_reducible rfl
   try simp only [xga];try simp only [xgs];try simp only [xgz];try simp only [Act.put];try simp only [xsa];try simp only [xss];try simp only [xsz]
   refine wpAnyF_free (i:=14) (v:=?_) rfl (by kernel_rfl) (by decide) (fun _ _ _ h=>h) (by kernel_rfl) (by kernel_rfl) (Or.inl ⟨by rfl,?hy⟩) (by assumption) ?_
   case hy=>
    intro w _
    go_simp
    try with_reducible rfl
   try simp only [xga];try simp only [xgs];try simp only [xgz];try simp only [Act.put];try simp only [xsa];try simp only [xss];try simp only [xsz]
   refine wpAnyF_free (i:=15) (v:=?_) rfl (by kernel_rfl) (by decide) (fun _ _ _ h=>h) (by kernel_rfl) (by kernel_rfl) (Or.inl ⟨by rfl,?hy⟩) (by assumption) ?_
   case hy=>
    intro w _
    go_simp
    try with_reducible rfl
   try simp only [xga];try simp only [xgs];try simp only [xgz];try simp only [Act.put];try simp only [xsa];try simp only [xss];try simp only [xsz]
   refine wpAnyF_take (i:=16) (v:=?_) rfl (by kernel_rfl) (by kernel_rfl) (fun _ _ _ h=>h) (by kernel_rfl) (by kernel_rfl) (by kernel_rfl) (Or.inl ⟨by rfl,?hy⟩) (by assumption) ?_
   case hy=>
    intro w hSw
    (try dsimp only at hSw)
    obtain⟨s0,s1,s2,s3⟩:=hSw
    go_simp
    try with_reducible rfl
   try simp only [xga];try simp only [xgs];try simp only [xgz];try simp only [Act.put];try simp only [xsa];try simp only [xss];try simp only [xsz]
   refine wpAnyF_free (i:=17) (v:=?_) rfl (by kernel_rfl) (by decide) (fun _ _ _ h=>h) (by kernel_rfl) (by kernel_rfl) (Or.inl ⟨by rfl,?hy⟩) (by assumption) ?_
   case hy=>
    intro w _
    go_simp
    try with_reducible rfl
   try simp only [xga];try simp only [xgs];try simp only [xgz];try simp only [Act.put];try simp only [xsa];try simp only [xss];try simp only [xsz]
   refine wpAnyF_free (i:=19) (v:=?_) rfl (by kernel_rfl) (by decide) (fun _ _ _ h=>h) (by kernel_rfl) (by kernel_rfl) (Or.inl ⟨by rfl,?hy⟩) (by assumption) ?_
   case hy=>
    intro w _
    go_simp
    try with_reducible rfl
   try simp only [xga];try simp only [xgs];try simp only [xgz];try simp only [Act.put];try simp only [xsa];try simp only [xss];try simp only [xsz]
   refine wpAnyF_free (i:=20) (v:=?_) rfl (by kernel_rfl) (by decide) (fun _ _ _ h=>h) (by kernel_rfl) (by kernel_rfl) (Or.inl ⟨by rfl,?hy⟩) (by assumption) ?_
   case hy=>
    intro w _
    go_simp
    try with_reducible rfl
   try simp only [xga];try simp only [xgs];try simp only [xgz];try simp only [Act.put];try simp only [xsa];try simp only [xss];try simp only [xsz]
   refine wpAnyF_free (i:=21) (v:=?_) rfl (by kernel_rfl) (by decide) (fun _ _ _ h=>h) (by kernel_rfl) (by kernel_rfl) (Or.inl ⟨by rfl,?hy⟩) (by assumption) ?_
   case hy=>
    intro w _
    go_simp
    try with_reducible rfl
   try simp only [xga];try simp only [xgs];try simp only [xgz];try simp only [Act.put];try simp only [xsa];try simp only [xss];try simp only [xsz]
   refine wpAnyF_take (i:=22) (v:=?_) rfl (by kernel_rfl) (by kernel_rfl) (fun _ _ _ h=>h) (by kernel_rfl) (by kernel_rfl) (by kernel_rfl) (Or.inl ⟨by rfl,?hy⟩) (by assumption) ?_
   case hy=>
    intro w hSw
    (try dsimp only at hSw)
    obtain⟨s0,s1,s2,s3⟩:=hSw
    go_simp
    try with_reducible rfl
   try simp only [xga];try simp only [xgs];try simp only [xgz];try simp only [Act.put];try simp only [xsa];try simp only [xss];try simp only [xsz]
   refine wpAnyF_free (i:=23) (v:=?_) rfl (by kernel_rfl) (by decide) (fun _ _ _ h=>h) (by kernel_rfl) (by kernel_rfl) (Or.inl ⟨by rfl,?hy⟩) (by assumption) ?_
   case hy=>
    intro w _
    go_simp
    try with_reducible rfl
   try simp only [xga];try simp only [xgs];try simp only [xgz];try simp only [Act.put];try simp only [xsa];try simp only [xss];try simp only [xsz]
   refine wpAnyF_ready (rs:=[18]) (by kernel_rfl) (by simp) ?_
   refine ReadyF.cons rfl (fun K' hK=>?_) ReadyF.nil
   go_simp
   with_reducible refine (HL.out _).mono ?_
   rintro e w3 ⟨rfl,rfl⟩
   skip
   go_wp2_with fail
   refine hK.out _ _ (.inr ?_) ?_
   ·exact⟨d0,d1,d2,d3⟩
   clear hK K'
   try simp only [xga];try simp only [xgs];try simp only [xgz];try simp only [Act.put];try simp only [xsa];try simp only [xss];try simp only [xsz]
   refine wpAnyF_free (i:=24) (v:=?_) rfl (by kernel_rfl) (by decide) (fun _ _ _ h=>h) (by kernel_rfl) (by kernel_rfl) (Or.inl ⟨by rfl,?hy⟩) (by assumption) ?_
   case hy=>
    intro w _
    go_simp
    try with_reducible rfl
   try simp only [xga];try simp only [xgs];try simp only [xgz];try simp only [Act.put];try simp only [xsa];try simp only [xss];try simp only [xsz]
   refine wpAnyF_ready (rs:=[25]) (by kernel_rfl) (by simp) ?_
   refine ReadyF.cons rfl (fun K' hK=>?_) ReadyF.nil
   go_simp
   with_reducible refine (HC.out _).mono ?_
   rintro e w4 ⟨rfl,hb⟩
   have HB2:Hid (Below W2.heap.size W2 w4):=xhd (((Below.refl _ W2).drew).trans (hb.mono (Nat.le_refl _)))
   have HB:Hid (Below w.heap.size W2 w4):=xhd (by rw [←HWS.out];exact HB2.out)
   clear hb
   have e0:=(HB2.out.cell (p:=⟨b,0,none⟩) HKP.out.2.2.2.2.2.1).trans d0
   have e1:=(HB2.out.cell (p:=⟨r,p*4+1,none⟩) HKP.out.2.2.2.2.2.2).trans d1
   have e2:=(HB2.out.cell (p:=⟨b,1,none⟩) HKP.out.2.2.2.2.2.1).trans d2
   have e3:=(HB2.out.cell (p:=⟨b,3,none⟩) HKP.out.2.2.2.2.2.1).trans d3
   have f4:=(HB2.out.frozen (p:=⟨r,p*4+1,none⟩) HKP.out.2.2.2.2.2.2).trans f1
   have hS1:(fun V:World=>V.cell? ⟨b,0,none⟩=some (.slice (some ⟨r,0,none⟩) m cap)∧V.cell? ⟨r,p*4+1,none⟩=some (.int .u64 v)∧V.cell? ⟨b,1,none⟩=some (.int .i64 sl)∧V.cell? ⟨b,3,none⟩=some (.int .u64 fl)) w4:=⟨e0,e1,e2,e3⟩
   go_wp2_with fail
   refine hK.out _ _ (.inr ?_) ?_
   ·exact hS1
   clear hK K'
   try simp only [xga];try simp only [xgs];try simp only [xgz];try simp only [Act.put];try simp only [xsa];try simp only [xss];try simp only [xsz]
   refine wpAnyF_free (i:=26) (v:=?_) rfl (by kernel_rfl) (by decide) (fun _ _ _ h=>h) (by kernel_rfl) (by kernel_rfl) (Or.inl ⟨by rfl,?hy⟩) (by assumption) ?_
   case hy=>
    intro w _
    go_simp
    try with_reducible rfl
   try simp only [xga];try simp only [xgs];try simp only [xgz];try simp only [Act.put];try simp only [xsa];try simp only [xss];try simp only [xsz]
   refine wpAnyF_free (i:=27) (v:=?_) rfl (by kernel_rfl) (by decide) (fun _ _ _ h=>h) (by kernel_rfl) (by kernel_rfl) (Or.inl ⟨by rfl,?hy⟩) (by assumption) ?_
   case hy=>
    intro w _
    go_simp
    try with_reducible rfl
   try simp only [xga];try simp only [xgs];try simp only [xgz];try simp only [Act.put];try simp only [xsa];try simp only [xss];try simp only [xsz]
   refine wpAnyF_ready (rs:=[28]) (by kernel_rfl) (by simp) ?_
   refine ReadyF.cons rfl (fun K' hK=>?_) ReadyF.nil
   go_simp
   refine hK.out _ _ (.inl (by kernel_rfl)) ?_
   clear hK K'
   try simp only [xga];try simp only [xgs];try simp only [xgz];try simp only [Act.put];try simp only [xsa];try simp only [xss];try simp only [xsz]
   refine wpAnyF_done (by kernel_rfl) ?_ _
   refine NoPanic.normal ?_
   try simp only [xga];try simp only [xgs];try simp only [xgz];try simp only [Act.put];try simp only [xsa];try simp only [xss];try simp only [xsz]
   go_wp2
   go_ret
   exact⟨rfl,HFIN.out _ HB.out⟩
end
end Go.Proofs.YtcgjbllmoglhfaaDoor
namespace Go.Proofs.YtcgjbllmoglhfaaDoor
open Go.RowKit
theorem minTo_congr {l m:List Pty} {S:Nat} :∀k:Nat,(∀i:Nat,i < k→l[i]?=m[i]?)→minTo l S k=minTo m S k
 |0,_=>rfl
 |k+1,h=>by
  have ih:=minTo_congr (S:=S) k (fun i hi=>h i (by omega))
  unfold minTo
  rw [h k (by omega),ih]
def lmTo (g:Lg) (S k:Nat):Option Int:=minTo (setTo g S k) S k
theorem lmTo_succ {g:Lg} {S k:Nat} {x:Pty} (hx:g.l[k]?=some x):lmTo g S (k+1)=if hasN S k=true then (match lmTo g S k with
  |none=>some (setP g S k x).2.1
  |some m=>if (setP g S k x).2.1 < m then some (setP g S k x).2.1 else some m) else lmTo g S k:=by
 have e:minTo (setTo g S (k+1)) S k=lmTo g S k:=minTo_congr k fun i hi=>by rw [setTo_at,setTo_at,if_pos (by omega),if_pos hi]
 unfold lmTo
 rw [minTo,setTo_at,if_pos (Nat.lt_succ_self k),hx,Option.map_some]
 simp only
 rw [e]
 rfl
theorem setTo_next {g:Lg} {S k:Nat} {x:Pty} (hx:g.l[k]?=some x):setTo g S (k+1)=(setTo g S k).set k (setP g S k x)∧(setTo g S k)[k]?=some x:=by
 have h2:(setTo g S k)[k]?=some x:=by rw [setTo_at,if_neg (Nat.lt_irrefl k)];exact hx
 exact⟨modify_set18 h2 _,h2⟩
section
variable {w w':World} {b:Nat} {X Y:List Nat} {g:Lg} {n:Int}
theorem rsettle18_any (h:R18 w b X g) (ho:LgOk g n) (S:Nat):Calls Tryd.prog 12 #[.pointer (some ⟨b,0,none⟩), .int .u64 S] w fun e w'=>e= .returned (.tuple #[])∧R18 w' b X (g.settle S)∧Turned X w w':=by
 have HH:=xhd (fun (i:Int) (V:World)=>rhasS_same S i V)
 have HOK:=xhd ho
 have H0:Hid (R18 w b X { g with l:=setTo g S 0 }):=xhd h
 have hlen:=ho.len
 have HFE:Hid (g.settle S= { g with l:=setTo g S g.l.length,f:=match lmTo g S g.l.length with
  |none=>g.f
  |some m=>if g.f < m then m else g.f }):=xhd rfl
 obtain⟨N,hN⟩:∃N,g.l.length=N:=⟨_,rfl⟩
 have HN:=xhd hN
 rw [hN] at HFE hlen
 clear h ho hN
 go_enter Tryd.func12,Tryd.ntmps12
 go_wp2
 go_loopw [4,5,6] (fun le me iv V=>∃(k:Nat) (om:Option Int),k≤N∧iv= .int .i64 k∧le= .int .u64 (om.getD 0)∧me= .bool om.isSome∧Hid (om=lmTo g S k)∧Hid (R18 V b X { g with l:=setTo g S k })∧Hid (Turned X w V)) (fun _ _ iv _=>N - (intOf iv).toNat)
 case atStart=>exact⟨0,none,Nat.zero_le _,rfl,rfl,rfl,xhd rfl,H0,xhd (Turned.refl _ _)⟩
 case round=>
  clear H0
  obtain⟨k,om,hk,rfl,rfl,rfl,HOM,HR,HT⟩:=hrel
  obtain⟨a,cap,c0,c1,c2,c3,bf,_,hr⟩:=HR.out.rows
  simp only at c1 c2 c3
  rw [setTo_len,HN.out] at c0
  by_cases hlt:k < N
  ·have hx:g.l[k]?=some (g.l[k]'(by rw [HN.out];exact hlt)):=List.getElem?_eq_getElem _
   obtain⟨⟨wt,v,hd,ac⟩,hxx⟩:∃x,g.l[k]'(by rw [HN.out];exact hlt)=x:=⟨_,rfl⟩
   rw [hxx] at hx
   obtain⟨hsn,hsa⟩:=setTo_next (S:=S) hx
   obtain⟨r,rfl,r0,r1,r2,r3,rf,hbr⟩:=hr k _ hsa
   simp only at r0 r1 r2 r3
   have hls:=lmTo_succ (S:=S) hx
   have hxm:(wt,v,hd,ac) ∈ g.l:=List.mem_iff_getElem?.2 ⟨k,hx⟩
   have hvw:Word v:=HOK.out.v _ hxm
   have HC:=xhd (HH.out k)
   have i0:(0:Int)≤k:=by omega
   have i1:(k:Int) < N:=by omega
   have HKN:=xhd hlt
   have hrb:r≠b:=fun e=>hbr e.symm
   have f1:=rf (k*4+1)
   have f3:=rf (k*4+3)
   have hcell:∀ {q:Addr} {u:Value} (V:World),Below wr.heap.size wr V→wr.cell? q=some u→V.cell? q=some u:=fun {q} {u} V hV hq=>(hV.cell (World.block_lt_of_cell? wr q hq)).trans hq
   have hrl:=World.block_lt_of_cell? wr _ r1
   obtain⟨hs,hhs⟩:∃hs,hasN S k=hs:=⟨_,rfl⟩
   rw [hhs] at HC hls
   rw [←HOM.out] at hls
   have esp:setP g S k (wt,v,hd,ac)=(wt,if hs=true∧ac=false then clampR v g.f (slackR wt g.s g.c) else v,hd,hs):=by unfold setP;rw [hhs]
   rw [esp] at hls hsn
   have HT0:=HT
   have HPUT:Hid (∀V z,Below wr.heap.size wr V→(if hs=true∧ac=false then clampR v g.f (slackR wt g.s g.c) else v)=z→R18 ((V.setCell ⟨r,k*4+1,none⟩ (.int .u64 z)).setCell ⟨r,k*4+3,none⟩ (.bool hs)) b X { g with l:=setTo g S (k+1) } ∧Turned X w ((V.setCell ⟨r,k*4+1,none⟩ (.int .u64 z)).setCell ⟨r,k*4+3,none⟩ (.bool hs))):=xhd fun V z hV hz=>by
    obtain⟨s1,s2,s3⟩:=(r18_below HR.out hV).put (hcell V hV c0) hsa (y:=(wt,z,hd,ac)) (i:=1) (by omega) (u:= .int .u64 z) rfl
    obtain⟨s4,s5,_⟩:=s1.put s3 (x:=(wt,z,hd,ac)) (p:=k) (by simp [setTo_len,HN.out,HKN.out]) (y:=(wt,z,hd,hs)) (i:=3) (by omega) (u:= .bool hs) rfl
    refine⟨?_,HT.out.trans (((below_turned hV).mono (fun k hk=>by simp at hk)).trans (s2.trans s5 (Newer.refl _ _)) (Newer.refl _ _)) (Newer.refl _ _)⟩
    rw [hsn,hz]
    simp only [List.set_set] at s4
    exact s4
   have HPUT1:Hid ((if hs=true∧ac=false then clampR v g.f (slackR wt g.s g.c) else v)=v→R18 (wr.setCell ⟨r,k*4+3,none⟩ (.bool hs)) b X { g with l:=setTo g S (k+1) } ∧Turned X w (wr.setCell ⟨r,k*4+3,none⟩ (.bool hs))):=xhd fun hz=>by
    obtain⟨s4,s5,_⟩:=HR.out.put c0 hsa (y:=(wt,v,hd,hs)) (i:=3) (by omega) (u:= .bool hs) rfl
    refine⟨?_,HT.out.trans s5 (Newer.refl _ _)⟩
    rw [hsn,hz]
    exact s4
   have HLS:=xhd hls
   clear hx hxx hsn hsa hr hls hxm hhs esp hlt rf bf
   cases hs with
   |false=>
    have hz:=HPUT1.out (if_neg (by simp))
    have hl:=HLS.out
    rw [if_neg (by simp)] at hl
    have HZ:=xhd hz
    have HL:=xhd hl
    clear hz hl HPUT HPUT1 HLS hcell
    go_wp2_with fail
    with_reducible refine (HC.out _).mono ?_
    rintro e w1 ⟨rfl,hw⟩
    obtain rfl:=hw.symm
    go_wp2
    go_roundw
    case rel=>exact⟨k+1,om,by have:=HKN.out;omega,by go_num,rfl,rfl,xhd HL.out.symm,xhd HZ.out.1,xhd HZ.out.2⟩
    case measure=>have:=HKN.out;simp [intOf];omega
   |true=>
    cases ac with
    |true=>
     have hz:=HPUT1.out (if_neg (by simp))
     have hl:=HLS.out
     rw [if_pos rfl,if_neg (show ¬((true:Bool)=true∧(true:Bool)=false) by simp)] at hl
     have HZ:=xhd hz
     clear hz HPUT HPUT1 HLS hcell
     cases om with
     |none=>
      have HL:Hid (lmTo g S (k+1)=some v):=xhd hl
      clear hl
      simp only [Option.getD_none,Option.isSome_none]
      go_wp2_with fail
      with_reducible refine (HC.out _).mono ?_
      rintro e w1 ⟨rfl,hw⟩
      obtain rfl:=hw.symm
      go_wp2
      go_roundw
      case rel=>exact⟨k+1,some v,by have:=HKN.out;omega,by go_num,rfl,rfl,xhd HL.out.symm,xhd HZ.out.1,xhd HZ.out.2⟩
      case measure=>have:=HKN.out;simp [intOf];omega
     |some m=>
      simp only at hl
      simp only [Option.getD_some,Option.isSome_some]
      by_cases hvm:v < m
      ·rw [if_pos hvm] at hl
       have HL:=xhd hl
       have b1:decide (v < m)=true:=by simpa using hvm
       clear hl hvm
       go_wp2_with fail
       with_reducible refine (HC.out _).mono ?_
       rintro e w1 ⟨rfl,hw⟩
       obtain rfl:=hw.symm
       go_wp2
       go_roundw
       case rel=>exact⟨k+1,some v,by have:=HKN.out;omega,by go_num,rfl,rfl,xhd HL.out.symm,xhd HZ.out.1,xhd HZ.out.2⟩
       case measure=>have:=HKN.out;simp [intOf];omega
      ·rw [if_neg hvm] at hl
       have HL:=xhd hl
       have b1:decide (v < m)=false:=by simpa using hvm
       clear hl hvm
       go_wp2_with fail
       with_reducible refine (HC.out _).mono ?_
       rintro e w1 ⟨rfl,hw⟩
       obtain rfl:=hw.symm
       go_wp2
       go_roundw
       case rel=>exact⟨k+1,some m,by have:=HKN.out;omega,by go_num,rfl,rfl,xhd HL.out.symm,xhd HZ.out.1,xhd HZ.out.2⟩
       case measure=>have:=HKN.out;simp [intOf];omega
    |false=>
     have hcond:(true:Bool)=true∧(false:Bool)=false:=⟨rfl,rfl⟩
     have hsr:=slack_range wt g.s g.c
     have HSL:=xhd (fun V=>rslack_any wt g.s g.c V)
     have HCL:=xhd (fun V=>rclamp_any v g.f (slackR wt g.s g.c) HOK.out.f ⟨hsr.1,by omega⟩ V)
     have hl:=HLS.out
     rw [if_pos rfl,if_pos hcond] at hl
     have hpz:=fun V hV=>HPUT.out V _ hV (if_pos hcond)
     generalize clampR v g.f (slackR wt g.s g.c)=z at hl hpz HCL
     generalize slackR wt g.s g.c=sk at HSL HCL
     have HPZ:=xhd hpz
     have HKP:Hid (∀V,Below wr.heap.size wr V→V.cell? ⟨b,0,none⟩=some (.slice (some ⟨r,0,none⟩) N cap)∧V.cell? ⟨r,k*4+1,none⟩=some (.int .u64 v)∧V.cell? ⟨b,3,none⟩=some (.int .u64 g.f)∧V.cell? ⟨r,k*4,none⟩=some (.int .i64 wt)∧V.cell? ⟨b,1,none⟩=some (.int .i64 g.s)∧V.cell? ⟨b,2,none⟩=some (.int .i64 g.c)∧V.cell? ⟨r,k*4+3,none⟩=some (.bool false)∧V.frozen? ⟨r,k*4+1,none⟩=false∧V.frozen? ⟨r,k*4+3,none⟩=false):=xhd fun V hV=>
      ⟨hcell V hV c0,hcell V hV r1,hcell V hV c3,hcell V hV r0,hcell V hV c1,hcell V hV c2,hcell V hV r3,(hV.frozen (p:=⟨r,k*4+1,none⟩) hrl).trans f1,(hV.frozen (p:=⟨r,k*4+3,none⟩) hrl).trans f3⟩
     clear hpz HPUT HPUT1 HLS hcell hsr hcond r2
     obtain⟨sl,hsl⟩:∃x,g.s=x:=⟨_,rfl⟩
     obtain⟨cl,hcl⟩:∃x,g.c=x:=⟨_,rfl⟩
     obtain⟨fl,hfl⟩:∃x,g.f=x:=⟨_,rfl⟩
     rw [hsl] at HSL HKP c1
     rw [hcl] at HSL HKP c2
     rw [hfl] at HCL HKP c3
     clear hsl hcl hfl
     go_wp2_with fail
     with_reducible refine (HC.out _).mono ?_
     rintro e w1 ⟨rfl,hw⟩
     obtain rfl:=hw.symm
     go_wp2_with fail
     have hmix:Tryd.prog.follows .mixedOrders=true:=by kernel_rfl
     refine wp_region_noPanic ?_
     refine wp_region_lastF (fun V=>V.cell? ⟨b,0,none⟩=some (.slice (some ⟨r,0,none⟩) N cap)∧V.cell? ⟨r,k*4+1,none⟩=some (.int .u64 v)∧V.cell? ⟨b,3,none⟩=some (.int .u64 fl)∧V.cell? ⟨r,k*4,none⟩=some (.int .i64 wt)∧V.cell? ⟨b,1,none⟩=some (.int .i64 sl)∧V.cell? ⟨b,2,none⟩=some (.int .i64 cl)) 37 hmix ⟨c0,r1,c3,r0,c1,c2⟩ (fun hS0=>?_)
     refine wpAnyF_free (i:=0) (v:=?_) rfl (by kernel_rfl) (by decide) (fun _ _ _ h=>h) (by kernel_rfl) (by kernel_rfl) (Or.inl ⟨by rfl,?hy⟩) (by assumption) ?_
     case hy=>
      intro w _
      go_simp
      try with_reducible rfl
     try simp only [xga];try simp only [xgs];try simp only [xgz];try simp only [Act.put];try simp only [xsa];try simp only [xss];try simp only [xsz]
     refine wpAnyF_free (i:=1) (v:=?_) rfl (by kernel_rfl) (by decide) (fun _ _ _ h=>h) (by kernel_rfl) (by kernel_rfl) (Or.inl ⟨by rfl,?hy⟩) (by assumption) ?_
     case hy=>
      intro w _
      go_simp
      try with_reducible rfl
     try simp only [xga];try simp only [xgs];try simp only [xgz];try simp only [Act.put];try simp only [xsa];try simp only [xss];try simp only [xsz]
     refine wpAnyF_free (i:=2) (v:=?_) rfl (by kernel_rfl) (by decide) (fun _ _ _ h=>h) (by kernel_rfl) (by kernel_rfl) (Or.inl ⟨by rfl,?hy⟩) (by assumption) ?_
     case hy=>
      intro w _
      go_simp
      try with_reducible rfl
     try simp only [xga];try simp only [xgs];try simp only [xgz];try simp only [Act.put];try simp only [xsa];try simp only [xss];try simp only [xsz]
     refine wpAnyF_take (i:=3) (v:=?_) rfl (by kernel_rfl) (by kernel_rfl) (fun _ _ _ h=>h) (by kernel_rfl) (by kernel_rfl) (by kernel_rfl) (Or.inl ⟨by rfl,?hy⟩) (by assumption) ?_
     case hy=>
      intro w hSw
      (try dsimp only at hSw)
      obtain⟨s0,s1,s2,s3,s4,s5⟩:=hSw
      go_simp
      try with_reducible rfl
     try simp only [xga];try simp only [xgs];try simp only [xgz];try simp only [Act.put];try simp only [xsa];try simp only [xss];try simp only [xsz]
     refine wpAnyF_free (i:=4) (v:=?_) rfl (by kernel_rfl) (by decide) (fun _ _ _ h=>h) (by kernel_rfl) (by kernel_rfl) (Or.inl ⟨by rfl,?hy⟩) (by assumption) ?_
     case hy=>
      intro w _
      go_simp
      try with_reducible rfl
     try simp only [xga];try simp only [xgs];try simp only [xgz];try simp only [Act.put];try simp only [xsa];try simp only [xss];try simp only [xsz]
     refine wpAnyF_free (i:=5) (v:=?_) rfl (by kernel_rfl) (by decide) (fun _ _ _ h=>h) (by kernel_rfl) (by kernel_rfl) (Or.inl ⟨by rfl,?hy⟩) (by assumption) ?_
     case hy=>
      intro w _
      go_simp
      try with_reducible rfl
     try simp only [xga];try simp only [xgs];try simp only [xgz];try simp only [Act.put];try simp only [xsa];try simp only [xss];try simp only [xsz]
     refine wpAnyF_free (i:=6) (v:=?_) rfl (by kernel_rfl) (by decide) (fun _ _ _ h=>h) (by kernel_rfl) (by kernel_rfl) (Or.inl ⟨by rfl,?hy⟩) (by assumption) ?_
     case hy=>
      intro w _
      go_simp
      try with_reducible rfl
     try simp only [xga];try simp only [xgs];try simp only [xgz];try simp only [Act.put];try simp only [xsa];try simp only [xss];try simp only [xsz]
     refine wpAnyF_free (i:=7) (v:=?_) rfl (by kernel_rfl) (by decide) (fun _ _ _ h=>h) (by kernel_rfl) (by kernel_rfl) (Or.inl ⟨by rfl,?hy⟩) (by assumption) ?_
     case hy=>
      intro w _
      go_simp
      try with_reducible rfl
     try simp only [xga];try simp only [xgs];try simp only [xgz];try simp only [Act.put];try simp only [xsa];try simp only [xss];try simp only [xsz]
     refine wpAnyF_take (i:=8) (v:=?_) rfl (by kernel_rfl) (by kernel_rfl) (fun _ _ _ h=>h) (by kernel_rfl) (by kernel_rfl) (by kernel_rfl) (Or.inl ⟨by rfl,?hy⟩) (by assumption) ?_
     case hy=>
      intro w hSw
      (try dsimp only at hSw)
      obtain⟨s0,s1,s2,s3,s4,s5⟩:=hSw
      go_simp
      try with_reducible rfl
     try simp only [xga];try simp only [xgs];try simp only [xgz];try simp only [Act.put];try simp only [xsa];try simp only [xss];try simp only [xsz]
     refine wpAnyF_free (i:=9) (v:=?_) rfl (by kernel_rfl) (by decide) (fun _ _ _ h=>h) (by kernel_rfl) (by kernel_rfl) (Or.inl ⟨by rfl,?hy⟩) (by assumption) ?_
     case hy=>
      intro w _
      go_simp
      try with_reducible rfl
     try simp only [xga];try simp only [xgs];try simp only [xgz];try simp only [Act.put];try simp only [xsa];try simp only [xss];try simp only [xsz]
     refine wpAnyF_free (i:=10) (v:=?_) rfl (by kernel_rfl) (by decide) (fun _ _ _ h=>h) (by kernel_rfl) (by kernel_rfl) (Or.inl ⟨by rfl,?hy⟩) (by assumption) ?_
     case hy=>
      intro w _
      go_simp
      try with_reducible rfl
     try simp only [xga];try simp only [xgs];try simp only [xgz];try simp only [Act.put];try simp only [xsa];try simp only [xss];try simp only [xsz]
     refine wpAnyF_free (i:=11) (v:=?_) rfl (by kernel_rfl) (by decide) (fun _ _ _ h=>h) (by kernel_rfl) (by kernel_rfl) (Or.inl ⟨by rfl,?hy⟩) (by assumption) ?_
     case hy=>
      intro w _
      go_simp
      try with_reducible rfl
     try simp only [xga];try simp only [xgs];try simp only [xgz];try simp only [Act.put];try simp only [xsa];try simp only [xss];try simp only [xsz]
     refine wpAnyF_take (i:=12) (v:=?_) rfl (by kernel_rfl) (by kernel_rfl) (fun _ _ _ h=>h) (by kernel_rfl) (by kernel_rfl) (by kernel_rfl) (Or.inl ⟨by rfl,?hy⟩) (by assumption) ?_
     case hy=>
      intro w hSw
      (try dsimp only at hSw)
      obtain⟨s0,s1,s2,s3,s4,s5⟩:=hSw
      go_simp
      try with_reducible rfl
     try simp only [xga];try simp only [xgs];try simp only [xgz];try simp only [Act.put];try simp only [xsa];try simp only [xss];try simp only [xsz]
     refine wpAnyF_free (i:=13) (v:=?_) rfl (by kernel_rfl) (by decide) (fun _ _ _ h=>h) (by kernel_rfl) (by kernel_rfl) (Or.inl ⟨by rfl,?hy⟩) (by assumption) ?_
     case hy=>
      intro w _
      go_simp
      try with_reducible rfl
     try simp only [xga];try simp only [xgs];try simp only [xgz];try simp only [Act.put];try simp only [xsa];try simp only [xss];try simp only [xsz]
     refine wpAnyF_free (i:=14) (v:=?_) rfl (by kernel_rfl) (by decide) (fun _ _ _ h=>h) (by kernel_rfl) (by kernel_rfl) (Or.inl ⟨by rfl,?hy⟩) (by assumption) ?_
     case hy=>
      intro w _
      go_simp
      try with_reducible rfl
     try simp only [xga];try simp only [xgs];try simp only [xgz];try simp only [Act.put];try simp only [xsa];try simp only [xss];try simp only [xsz]
     refine wpAnyF_free (i:=15) (v:=?_) rfl (by kernel_rfl) (by decide) (fun _ _ _ h=>h) (by kernel_rfl) (by kernel_rfl) (Or.inl ⟨by rfl,?hy⟩) (by assumption) ?_
     case hy=>
      intro w _
      go_simp
      try with_reducible rfl
     try simp only [xga];try simp only [xgs];try simp only [xgz];try simp only [Act.put];try simp only [xsa];try simp only [xss];try simp only [xsz]
     refine wpAnyF_take (i:=16) (v:=?_) rfl (by kernel_rfl) (by kernel_rfl) (fun _ _ _ h=>h) (by kernel_rfl) (by kernel_rfl) (by kernel_rfl) (Or.inl ⟨by rfl,?hy⟩) (by assumption) ?_
     case hy=>
      intro w hSw
      (try dsimp only at hSw)
      obtain⟨s0,s1,s2,s3,s4,s5⟩:=hSw
      go_simp
      try with_reducible rfl
     try simp only [xga];try simp only [xgs];try simp only [xgz];try simp only [Act.put];try simp only [xsa];try simp only [xss];try simp only [xsz]
     refine wpAnyF_free (i:=17) (v:=?_) rfl (by kernel_rfl) (by decide) (fun _ _ _ h=>h) (by kernel_rfl) (by kernel_rfl) (Or.inl ⟨by rfl,?hy⟩) (by assumption) ?_
     case hy=>
      intro w _
      go_simp
      try with_reducible rfl
     try simp only [xga];try simp only [xgs];try simp only [xgz];try simp only [Act.put];try simp only [xsa];try simp only [xss];try simp only [xsz]
     refine wpAnyF_free (i:=18) (v:=?_) rfl (by kernel_rfl) (by decide) (fun _ _ _ h=>h) (by kernel_rfl) (by kernel_rfl) (Or.inl ⟨by rfl,?hy⟩) (by assumption) ?_
     case hy=>
      intro w _
      go_simp
      try with_reducible rfl
     try simp only [xga];try simp only [xgs];try simp only [xgz];try simp only [Act.put];try simp only [xsa];try simp only [xss];try simp only [xsz]
     refine wpAnyF_free (i:=19) (v:=?_) rfl (by kernel_rfl) (by decide) (fun _ _ _ h=>h) (by kernel_rfl) (by kernel_rfl) (Or.inl ⟨by rfl,?hy⟩) (by assumption) ?_
     case hy=>
      intro w _
      go_simp
      try with_reducible rfl
     try simp only [xga];try simp only [xgs];try simp only [xgz];try simp only [Act.put];try simp only [xsa];try simp only [xss];try simp only [xsz]
     refine wpAnyF_take (i:=20) (v:=?_) rfl (by kernel_rfl) (by kernel_rfl) (fun _ _ _ h=>h) (by kernel_rfl) (by kernel_rfl) (by kernel_rfl) (Or.inl ⟨by rfl,?hy⟩) (by assumption) ?_
     case hy=>
      intro w hSw
      (try dsimp only at hSw)
      obtain⟨s0,s1,s2,s3,s4,s5⟩:=hSw
      go_simp
      try with_reducible rfl
     try simp only [xga];try simp only [xgs];try simp only [xgz];try simp only [Act.put];try simp only [xsa];try simp only [xss];try simp only [xsz]
     refine wpAnyF_free (i:=21) (v:=?_) rfl (by kernel_rfl) (by decide) (fun _ _ _ h=>h) (by kernel_rfl) (by kernel_rfl) (Or.inl ⟨by rfl,?hy⟩) (by assumption) ?_
     case hy=>
      intro w _
      go_simp
      try with_reducible rfl
     try simp only [xga];try simp only [xgs];try simp only [xgz];try simp only [Act.put];try simp only [xsa];try simp only [xss];try simp only [xsz]
     refine wpAnyF_free (i:=22) (v:=?_) rfl (by kernel_rfl) (by decide) (fun _ _ _ h=>h) (by kernel_rfl) (by kernel_rfl) (Or.inl ⟨by rfl,?hy⟩) (by assumption) ?_
     case hy=>
      intro w _
      go_simp
      try with_reducible rfl
     try simp only [xga];try simp only [xgs];try simp only [xgz];try simp only [Act.put];try simp only [xsa];try simp only [xss];try simp only [xsz]
     refine wpAnyF_free (i:=23) (v:=?_) rfl (by kernel_rfl) (by decide) (fun _ _ _ h=>h) (by kernel_rfl) (by kernel_rfl) (Or.inl ⟨by rfl,?hy⟩) (by assumption) ?_
     case hy=>
      intro w _
      go_simp
      try with_reducible rfl
     try simp only [xga];try simp only [xgs];try simp only [xgz];try simp only [Act.put];try simp only [xsa];try simp only [xss];try simp only [xsz]
     refine wpAnyF_take (i:=24) (v:=?_) rfl (by kernel_rfl) (by kernel_rfl) (fun _ _ _ h=>h) (by kernel_rfl) (by kernel_rfl) (by kernel_rfl) (Or.inl ⟨by rfl,?hy⟩) (by assumption) ?_
     case hy=>
      intro w hSw
      (try dsimp only at hSw)
      obtain⟨s0,s1,s2,s3,s4,s5⟩:=hSw
      go_simp
      try with_reducible rfl
     try simp only [xga];try simp only [xgs];try simp only [xgz];try simp only [Act.put];try simp only [xsa];try simp only [xss];try simp only [xsz]
     refine wpAnyF_free (i:=25) (v:=?_) rfl (by kernel_rfl) (by decide) (fun _ _ _ h=>h) (by kernel_rfl) (by kernel_rfl) (Or.inl ⟨by rfl,?hy⟩) (by assumption) ?_
     case hy=>
      intro w _
      go_simp
      try with_reducible rfl
     try simp only [xga];try simp only [xgs];try simp only [xgz];try simp only [Act.put];try simp only [xsa];try simp only [xss];try simp only [xsz]
     refine wpAnyF_free (i:=26) (v:=?_) rfl (by kernel_rfl) (by decide) (fun _ _ _ h=>h) (by kernel_rfl) (by kernel_rfl) (Or.inl ⟨by rfl,?hy⟩) (by assumption) ?_
     case hy=>
      intro w _
      go_simp
      try with_reducible rfl
     try simp only [xga];try simp only [xgs];try simp only [xgz];try simp only [Act.put];try simp only [xsa];try simp only [xss];try simp only [xsz]
     refine wpAnyF_free (i:=27) (v:=?_) rfl (by kernel_rfl) (by decide) (fun _ _ _ h=>h) (by kernel_rfl) (by kernel_rfl) (Or.inl ⟨by rfl,?hy⟩) (by assumption) ?_
     case hy=>
      intro w _
      go_simp
      try with_reducible rfl
     try simp only [xga];try simp only [xgs];try simp only [xgz];try simp only [Act.put];try simp only [xsa];try simp only [xss];try simp only [xsz]
     refine wpAnyF_take (i:=28) (v:=?_) rfl (by kernel_rfl) (by kernel_rfl) (fun _ _ _ h=>h) (by kernel_rfl) (by kernel_rfl) (by kernel_rfl) (Or.inl ⟨by rfl,?hy⟩) (by assumption) ?_
     case hy=>
      intro w hSw
      (try dsimp only at hSw)
      obtain⟨s0,s1,s2,s3,s4,s5⟩:=hSw
      go_simp
      try with_reducible rfl
     try simp only [xga];try simp only [xgs];try simp only [xgz];try simp only [Act.put];try simp only [xsa];try simp only [xss];try simp only [xsz]
     refine wpAnyF_free (i:=29) (v:=?_) rfl (by kernel_rfl) (by decide) (fun _ _ _ h=>h) (by kernel_rfl) (by kernel_rfl) (Or.inl ⟨by rfl,?hy⟩) (by assumption) ?_
     case hy=>
      intro w _
      go_simp
      try with_reducible rfl
     try simp only [xga];try simp only [xgs];try simp only [xgz];try simp only [Act.put];try simp only [xsa];try simp only [xss];try simp only [xsz]
     refine wpAnyF_free (i:=30) (v:=?_) rfl (by kernel_rfl) (by decide) (fun _ _ _ h=>h) (by kernel_rfl) (by kernel_rfl) (Or.inl ⟨by rfl,?hy⟩) (by assumption) ?_
     case hy=>
      intro w _
      go_simp
      try with_reducible rfl
     try simp only [xga];try simp only [xgs];try simp only [xgz];try simp only [Act.put];try simp only [xsa];try simp only [xss];try simp only [xsz]
     refine wpAnyF_free (i:=31) (v:=?_) rfl (by kernel_rfl) (by decide) (fun _ _ _ h=>h) (by kernel_rfl) (by kernel_rfl) (Or.inl ⟨by rfl,?hy⟩) (by assumption) ?_
     case hy=>
      intro w _
      go_simp
      try with_reducible rfl
     try simp only [xga];try simp only [xgs];try simp only [xgz];try simp only [Act.put];try simp only [xsa];try simp only [xss];try simp only [xsz]
     refine wpAnyF_take (i:=32) (v:=?_) rfl (by kernel_rfl) (by kernel_rfl) (fun _ _ _ h=>h) (by kernel_rfl) (by kernel_rfl) (by kernel_rfl) (Or.inl ⟨by rfl,?hy⟩) (by assumption) ?_
     case hy=>
      intro w hSw
      (try dsimp only at hSw)
      obtain⟨s0,s1,s2,s3,s4,s5⟩:=hSw
      go_simp
      try with_reducible rfl
     try simp only [xga];try simp only [xgs];try simp only [xgz];try simp only [Act.put];try simp only [xsa];try simp only [xss];try simp only [xsz]
     refine wpAnyF_ready (rs:=[33]) (by kernel_rfl) (by simp) ?_
     refine ReadyF.cons rfl (fun K' hK=>?_) ReadyF.nil
     go_simp
     with_reducible refine (HSL.out _).mono ?_
     rintro e w3 ⟨rfl,hw⟩
     obtain rfl:=hw.symm
     skip
     go_wp2_with fail
     refine hK.out _ _ (.inr ?_) ?_
     ·exact⟨c0,r1,c3,r0,c1,c2⟩
     clear hK K'
     try simp only [xga];try simp only [xgs];try simp only [xgz];try simp only [Act.put];try simp only [xsa];try simp only [xss];try simp only [xsz]
     refine wpAnyF_ready (rs:=[34]) (by kernel_rfl) (by simp) ?_
     refine ReadyF.cons rfl (fun K' hK=>?_) ReadyF.nil
     go_simp
     with_reducible refine (HCL.out _).mono ?_
     rintro e w4 ⟨rfl,hb⟩
     have HB:=xhd (((Below.refl _ wr).drew).trans (hb.mono (Nat.le_refl _)))
     clear hb
     obtain⟨d0,d1,d3,dw,ds,dc,d4,g1,g3⟩:=HKP.out _ HB.out
     have hS1:(fun V:World=>V.cell? ⟨b,0,none⟩=some (.slice (some ⟨r,0,none⟩) N cap)∧V.cell? ⟨r,k*4+1,none⟩=some (.int .u64 v)∧V.cell? ⟨b,3,none⟩=some (.int .u64 fl)∧V.cell? ⟨r,k*4,none⟩=some (.int .i64 wt)∧V.cell? ⟨b,1,none⟩=some (.int .i64 sl)∧V.cell? ⟨b,2,none⟩=some (.int .i64 cl)) w4:=⟨d0,d1,d3,dw,ds,dc⟩
     clear c0 c1 c2 c3 r0 r1 r3 f1 f3
     go_wp2_with fail
     refine hK.out _ _ (.inr ?_) ?_
     ·exact hS1
     clear hK K'
     try simp only [xga];try simp only [xgs];try simp only [xgz];try simp only [Act.put];try simp only [xsa];try simp only [xss];try simp only [xsz]
     refine wpAnyF_free (i:=35) (v:=?_) rfl (by kernel_rfl) (by decide) (fun _ _ _ h=>h) (by kernel_rfl) (by kernel_rfl) (Or.inl ⟨by rfl,?hy⟩) (by assumption) ?_
     case hy=>
      intro w _
      go_simp
      try with_reducible rfl
     try simp only [xga];try simp only [xgs];try simp only [xgz];try simp only [Act.put];try simp only [xsa];try simp only [xss];try simp only [xsz]
     refine wpAnyF_free (i:=36) (v:=?_) rfl (by kernel_rfl) (by decide) (fun _ _ _ h=>h) (by kernel_rfl) (by kernel_rfl) (Or.inl ⟨by rfl,?hy⟩) (by assumption) ?_
     case hy=>
      intro w _
      go_simp
      try with_reducible rfl
     try simp only [xga];try simp only [xgs];try simp only [xgz];try simp only [Act.put];try simp only [xsa];try simp only [xss];try simp only [xsz]
     refine wpAnyF_ready (rs:=[37]) (by kernel_rfl) (by simp) ?_
     refine ReadyF.cons rfl (fun K' hK=>?_) ReadyF.nil
     go_simp
     refine hK.out _ _ (.inl (by kernel_rfl)) ?_
     clear hK K'
     try simp only [xga];try simp only [xgs];try simp only [xgz];try simp only [Act.put];try simp only [xsa];try simp only [xss];try simp only [xsz]
     refine wpAnyF_done (by kernel_rfl) ?_ _
     refine NoPanic.normal ?_
     try simp only [xga];try simp only [xgs];try simp only [xgz];try simp only [Act.put];try simp only [xsa];try simp only [xss];try simp only [xsz]
     cases om with
     |none=>
      have HL:Hid (lmTo g S (k+1)=some z):=xhd hl
      clear hl
      simp only [Option.getD_none,Option.isSome_none]
      go_wp2
      go_roundw
      case rel=>exact⟨k+1,some z,by have:=HKN.out;omega,by go_num,rfl,rfl,xhd HL.out.symm,xhd (HPZ.out _ HB.out).1,xhd (HPZ.out _ HB.out).2⟩
      case measure=>have:=HKN.out;simp [intOf];omega
     |some m=>
      simp only at hl
      simp only [Option.getD_some,Option.isSome_some]
      by_cases hvm:z < m
      ·rw [if_pos hvm] at hl
       have HL:=xhd hl
       have b1:decide (z < m)=true:=by simpa using hvm
       clear hl hvm
       go_wp2
       go_roundw
       case rel=>exact⟨k+1,some z,by have:=HKN.out;omega,by go_num,rfl,rfl,xhd HL.out.symm,xhd (HPZ.out _ HB.out).1,xhd (HPZ.out _ HB.out).2⟩
       case measure=>have:=HKN.out;simp [intOf];omega
      ·rw [if_neg hvm] at hl
       have HL:=xhd hl
       have b1:decide (z < m)=false:=by simpa using hvm
       clear hl hvm
       go_wp2
       go_roundw
       case rel=>exact⟨k+1,some m,by have:=HKN.out;omega,by go_num,rfl,rfl,xhd HL.out.symm,xhd (HPZ.out _ HB.out).1,xhd (HPZ.out _ HB.out).2⟩
       case measure=>have:=HKN.out;simp [intOf];omega
  ·have hkN:k=N:=by omega
   subst hkN
   have hfe:=HFE.out
   rw [←HOM.out] at hfe
   have hf3:=bf 3
   clear hr hlt c1 c2 bf
   cases om with
   |none=>
    have HE:Hid (R18 wr b X (g.settle S)∧Turned X w wr):=xhd (by rw [hfe];exact⟨HR.out,HT.out⟩)
    clear hfe
    simp only [Option.getD_none,Option.isSome_none]
    go_wp2
    refine bodyPost_end (results_none rfl _ _ _) rfl ?_
    exact⟨rfl,HE.out⟩
   |some m=>
    simp only at hfe
    simp only [Option.getD_some,Option.isSome_some]
    by_cases hfm:g.f < m
    ·rw [if_pos hfm] at hfe
     have HE:Hid (R18 (wr.setCell ⟨b,3,none⟩ (.int .u64 m)) b X (g.settle S)∧Turned X w (wr.setCell ⟨b,3,none⟩ (.int .u64 m))):=xhd (by
      rw [hfe]
      obtain⟨s1,s2⟩:=HR.out.setF m
      exact⟨s1,HT.out.trans s2 (Newer.refl _ _)⟩)
     have b1:decide (g.f < m)=true:=by simpa using hfm
     clear hfe hfm
     go_wp2
     refine bodyPost_end (results_none rfl _ _ _) rfl ?_
     exact⟨rfl,HE.out⟩
    ·rw [if_neg hfm] at hfe
     have HE:Hid (R18 wr b X (g.settle S)∧Turned X w wr):=xhd (by rw [hfe];exact⟨HR.out,HT.out⟩)
     have b1:decide (g.f < m)=false:=by simpa using hfm
     clear hfe hfm
     go_wp2
     refine bodyPost_end (results_none rfl _ _ _) rfl ?_
     exact⟨rfl,HE.out⟩
end
end Go.Proofs.YtcgjbllmoglhfaaDoor
namespace Go.Proofs.YtcgjbllmoglhfaaDoor
open Go.RowKit
theorem infoP18:(Tryd.prog.info? tP18).map (fun i=>(i.zero,i.size,i.bytes))=some (some (.agg #[.int .i64 0, .int .u64 0, .int .i64 0, .bool false]),4,32):=by kernel_rfl
theorem four_new (W:World) (x y z u:Value) (t:TypeId):∀(j:Nat) (v:Value),[x,y,z,u][j]?=some v→(W.alloc (.cells #[x,y,z,u] t)).cell? ((⟨W.heap.size,0,none⟩:Addr).add j)=some v:=by
 intro j v hj
 match j,hj with
 |0,hj=>simp at hj;subst hj;simp [Addr.add]
 |1,hj=>simp at hj;subst hj;simp [Addr.add]
 |2,hj=>simp at hj;subst hj;simp [Addr.add]
 |3,hj=>simp at hj;subst hj;simp [Addr.add]
def newTo (E:Nat→Int) (i:Nat):List Pty:=(List.range i).map fun j=>(bringR (E j) 1 16,0,0,false)
theorem newTo_succ (E:Nat→Int) (i:Nat):newTo E (i+1)=newTo E i++[(bringR (E i) 1 16,0,0,false)]:=by
 unfold newTo
 rw [List.range_succ,List.map_append]
 rfl
theorem newTo_len (E:Nat→Int) (i:Nat):(newTo E i).length=i:=by simp [newTo]
theorem new_of (E:Nat→Int) (n:Nat) (s c:Int):Lg.new ((List.range n).map E) s c=⟨newTo E (min n 8),bringR s 1 32,bringR c 1 32,0⟩:=by
 unfold Lg.new newTo
 rw [←List.map_take,List.take_range,List.map_map,Nat.min_comm]
 rfl
theorem R18.more {w w4 W5:World} {b i cap cap5:Nat} {a a5:Option Addr} {X:List Nat} {g:Lg} {x:Pty} (h:R18 w b X g) (hi:g.l.length=i) (hc:w.cell? ⟨b,0,none⟩=some (.slice a i cap))
  (t4:Turned [] w w4) (own5:W5.ownsRow 0 tP18 4 (.slice a5 (i+1) cap5) (i+1) (cellsOf encPt g.l++encPt x))
  (grow5:(w4.alloc (.cells (encPt x).toArray tP18)).grownBy W5 (Value.slice a i cap).ownBlock)
  (new5:∀g ∈ (Value.slice a5 (i+1) cap5).ownBlock.toList,g ∈ (Value.slice a i cap).ownBlock.toList∨(w4.alloc (.cells (encPt x).toArray tP18)).heap.size≤g):
  W5.cell? ⟨b,0,none⟩=some (.slice a i cap)∧W5.frozen? ⟨b,0,none⟩=false∧∃X1,R18 (W5.setCell ⟨b,0,none⟩ (.slice a5 (i+1) cap5)) b X1 { g with l:=g.l++[x] } ∧
   Turned X w (W5.setCell ⟨b,0,none⟩ (.slice a5 (i+1) cap5))∧Newer X w.heap.size X1:=by
 obtain⟨v,h1,h2,h3⟩:=h
 have hv:v= .slice a i cap:=by
  have:w.cell? ⟨b,0,none⟩=some v:=by simp [World.cell?,h1]
  rw [hc] at this
  exact (Option.some.inj this).symm
 subst hv
 have tw:Turned [] w (w4.alloc (.cells (encPt x).toArray tP18)):=t4.alloc _
 have e1:cellsOf encPt g.l++encPt x=cellsOf encPt (g.l++[x]):=by rw [cellsOf_snoc]
 have e2:i+1=(g.l++[x]).length:=by simp [hi]
 have R:=LAt.appended (W:=w) (W2:=w4.alloc (.cells (encPt x).toArray tP18)) (W1:=W5) (tS:=tL18) (tE:=tP18) (k:=4) (enc:=encPt) (cs:=fun v=> #[v, .int .i64 g.s, .int .i64 g.c, .int .u64 g.f]) (v:= .slice a i cap) (i:=0) (v':= .slice a5 (i+1) cap5) (M:=g.l++[x]) (by decide) rfl h1 h2 tw grow5 (by rw [←e1, ←e2];exact own5) new5
 obtain⟨r1,r2,r3,r4⟩:=R
 rw [←h3] at r3 r4
 exact⟨by simp [World.cell?,r1],frozen_of_row W5 b 0 _ _ r1,_,r2,r3,r4⟩
theorem more_keeps {w wr w4 W5:World} {b i cap cap5 lb o:Nat} {a a5:Option Addr} {X:List Nat} {g:Lg} {x:Pty} {v:Value} (h:R18 wr b X g) (hK:∀k ∈ X,b≤k) (hT:Turned [] w wr) (hb:w.heap.size=b) (hc:wr.cell? ⟨b,0,none⟩=some (.slice a i cap)) (hi:g.l.length=i)
  (t4:Turned [] wr w4) (ce:w4.cell? ⟨lb,o,none⟩=some v) (hlb:lb < w.heap.size)
  (own5:W5.ownsRow 0 tP18 4 (.slice a5 (i+1) cap5) (i+1) (cellsOf encPt g.l++encPt x))
  (grow5:(w4.alloc (.cells (encPt x).toArray tP18)).grownBy W5 (Value.slice a i cap).ownBlock)
  (new5:∀g ∈ (Value.slice a5 (i+1) cap5).ownBlock.toList,g ∈ (Value.slice a i cap).ownBlock.toList∨(w4.alloc (.cells (encPt x).toArray tP18)).heap.size≤g):
  W5.cell? ⟨b,0,none⟩=some (.slice a i cap)∧W5.cell? ⟨lb,o,none⟩=some v∧W5.frozen? ⟨b,0,none⟩=false∧∃X1,R18 (W5.setCell ⟨b,0,none⟩ (.slice a5 (i+1) cap5)) b X1 { g with l:=g.l++[x] } ∧
   Turned X wr (W5.setCell ⟨b,0,none⟩ (.slice a5 (i+1) cap5))∧Newer X wr.heap.size X1:=by
 obtain⟨r1,r2,r3⟩:=h.more (w4:=w4) hi hc t4 own5 grow5 new5
 refine⟨r1,?_,r2,r3⟩
 have hl:lb < (w4.alloc (.cells (encPt x).toArray tP18)).heap.size:=by
  have h1:=hT.size
  have h2:=t4.size
  rw [World.size_alloc]
  omega
 have hne:some lb≠(Value.slice a i cap).ownBlock:=fun e=>by
  obtain⟨u,h1,_,h3⟩:=h
  have hu:u= .slice a i cap:=by
   have:wr.cell? ⟨b,0,none⟩=some u:=by simp [World.cell?,h1]
   rw [hc] at this
   exact (Option.some.inj this).symm
  subst hu
  have:=hK lb (by rw [h3, ←e];simp)
  omega
 have h2:=grow5.block lb hl hne
 have h3:(w4.alloc (.cells (encPt x).toArray tP18)).heap[lb]?=w4.heap[lb]?:=Below.heap_alloc _ _ _ (by show lb < w4.heap.size;have:=hT.size;have:=t4.size;omega)
 unfold World.cell? at ce ⊢
 rw [h2,h3]
 exact ce
theorem rnew18_any (ao:Option Addr) (lb off n cpw:Nat) (E:Nat→Int) (s c:Int) (w:World) (hao:0 < n→ao=some ⟨lb,off,none⟩) (hE:∀i,i < n→w.cell? ⟨lb,off+i,none⟩=some (.int .i64 (E i))) (hm:n≤maxLen):
  Calls Tryd.prog 8 #[.slice ao n cpw, .int .i64 s, .int .i64 c] w fun e w'=>∃b X,e= .returned (.pointer (some ⟨b,0,none⟩))∧R18 w' b X (Lg.new ((List.range n).map E) s c)∧Turned [] w w'∧∀k ∈ X,w.heap.size≤k:=by
 rw [new_of]
 unfold maxLen at hm
 have HBR0:=xhd (fun q V=>bring_any q 1 32 V)
 have HBR1:=xhd (fun q V=>bring_any q 1 16 V)
 obtain⟨ii,hi,hz0,hz1,hz2⟩:=info_parts infoP18
 obtain⟨m,hmm⟩:∃m:Nat,min n 8=m:=⟨_,rfl⟩
 have hm8:m≤8∧m≤n:=by omega
 have HM:=xhd hmm
 rw [hmm]
 clear hmm
 obtain⟨s1,hs1⟩:∃q,bringR s 1 32=q:=⟨_,rfl⟩
 obtain⟨c1,hc1⟩:∃q,bringR c 1 32=q:=⟨_,rfl⟩
 have HB1:=xhd (fun V=>HBR0.out s V)
 have HB2:=xhd (fun V=>HBR0.out c V)
 rw [hs1] at HB1 ⊢
 rw [hc1] at HB2 ⊢
 have h0:R18 (w.alloc (.cells #[.slice none 0 0, .int .i64 s1, .int .i64 c1, .int .u64 0] tL18)) w.heap.size [w.heap.size] ⟨newTo E 0,s1,c1,0⟩:=
  ⟨.slice none 0 0,heap_alloc_new w _,World.ownsRow_nil _ _ _ _,rfl⟩
 have H0:=xhd h0
 have HT0:=xhd ((Turned.refl [] w).alloc (.cells #[.slice none 0 0, .int .i64 s1, .int .i64 c1, .int .u64 0] tL18))
 have HE:=xhd hE
 clear h0 hs1 hc1 hE HBR0
 go_enter Tryd.func8,Tryd.ntmps8
 go_wp2_with fail
 with_reducible refine (HB1.out _).mono ?_
 rintro e w1 ⟨rfl,hw⟩
 obtain rfl:=hw.symm
 go_wp2_with fail
 with_reducible refine (HB2.out _).mono ?_
 rintro e w1 ⟨rfl,hw⟩
 obtain rfl:=hw.symm
 go_wp2
 obtain⟨b,hb⟩:∃b,w.heap.size=b:=⟨_,rfl⟩
 rw [hb] at H0 ⊢
 have HB0:=xhd hb
 clear hb
 go_loopw [8] (fun iv V=>∃(i:Nat) (X:List Nat),i≤m∧iv= .int .i64 i∧Hid (R18 V b X ⟨newTo E i,s1,c1,0⟩)∧Hid (Turned [] w V)∧Hid (∀k ∈ X,b≤k)) (fun iv _=>m - (intOf iv).toNat)
 case atStart=>exact⟨0,_,Nat.zero_le _,rfl,H0,HT0,xhd (fun k hk=>by simp at hk;omega)⟩
 case round=>
  clear H0 HT0
  obtain⟨i,X,him,rfl,HR,HT,HK⟩:=hrel
  by_cases hlt:i < m
  ·have i1:(i:Int) < n:=by omega
   have i2:(i:Int) < 8:=by omega
   have i3:(0:Int)≤i:=by omega
   have d1:decide ((i:Int) < n)=true:=by simpa using i1
   have d2:decide ((i:Int) < 8)=true:=by simpa using i2
   obtain⟨a,cap,c0,_,_,_,_,_,_⟩:=HR.out.rows
   simp only [newTo_len] at c0
   have hE1:=HE.out i (by omega)
   have ce:wr.cell? ⟨lb,off+i,none⟩=some (.int .i64 (E i)):=((HT.out.below (by simp) (Nat.le_refl _)).cell (World.block_lt_of_cell? w _ hE1)).trans hE1
   have hao2:=hao (by omega)
   obtain⟨ei,hei⟩:∃ei,E i=ei:=⟨_,rfl⟩
   obtain⟨u,hu⟩:∃u,bringR ei 1 16=u:=⟨_,rfl⟩
   have HBR:=xhd (fun V=>HBR1.out ei V)
   rw [hu] at HBR
   rw [hei] at ce
   have hns:newTo E (i+1)=newTo E i++[(u,0,0,false)]:=by rw [newTo_succ,hei,hu]
   have HO4:Hid (∀w4,Turned [] wr w4→(w4.alloc (.cells #[.int .i64 u, .int .u64 0, .int .i64 0, .bool false] tP18)).ownsRow 0 tP18 4 (.slice a i cap) i (cellsOf encPt (newTo E i))∧True):=by
    obtain⟨v,h1,h2,h3⟩:=HR.out
    have hv:v= .slice a i cap:=by
     have:wr.cell? ⟨b,0,none⟩=some v:=by simp [World.cell?,h1]
     rw [c0] at this
     exact (Option.some.inj this).symm
    subst hv
    rw [newTo_len] at h2
    exact xhd fun w4 t4=>⟨(ownsRow_same h2 fun g _ hl=>t4.block g hl (by simp)).alloc _,trivial⟩
   have HAP:=xhd (fun (w4:World) (t4:Turned [] wr w4) (ce4:w4.cell? ⟨lb,off+i,none⟩=some (.int .i64 ei)) (a5:Option Addr) (cap5:Nat) (W5:World) (own5:W5.ownsRow 0 tP18 4 (.slice a5 (i+1) cap5) (i+1) (cellsOf encPt (newTo E i)++encPt (u,0,0,false))) (grow5:(w4.alloc (.cells (encPt (u,0,0,false)).toArray tP18)).grownBy W5 (Value.slice a i cap).ownBlock) (new5:∀g ∈ (Value.slice a5 (i+1) cap5).ownBlock.toList,g ∈ (Value.slice a i cap).ownBlock.toList∨(w4.alloc (.cells (encPt (u,0,0,false)).toArray tP18)).heap.size≤g)=>more_keeps HR.out HK.out HT.out HB0.out c0 (newTo_len E i) t4 ce4 (World.block_lt_of_cell? w _ hE1) own5 grow5 new5)
   have HLT:=xhd hlt
   clear hlt hE1 hu
   subst hao2
   go_wp2_with fail
   have hmix:Tryd.prog.follows .mixedOrders=true:=by kernel_rfl
   refine wp_region_noPanic ?_
   refine wp_region_lastF (fun V=>V.cell? ⟨b,0,none⟩=some (.slice a i cap)∧V.cell? ⟨lb,off+i,none⟩=some (.int .i64 ei)) 15 hmix ⟨c0,ce⟩ (fun hS0=>?_)
   refine wpAnyF_free (i:=0) (v:=?_) rfl (by kernel_rfl) (by decide) (fun _ _ _ h=>h) (by kernel_rfl) (by kernel_rfl) (Or.inl ⟨by rfl,?hy⟩) (by assumption) ?_
   case hy=>
    intro w _
    go_simp
    try with_reducible rfl
   try simp only [xga];try simp only [xgs];try simp only [xgz];try simp only [Act.put];try simp only [xsa];try simp only [xss];try simp only [xsz]
   refine wpAnyF_free (i:=1) (v:=?_) rfl (by kernel_rfl) (by decide) (fun _ _ _ h=>h) (by kernel_rfl) (by kernel_rfl) (Or.inl ⟨by rfl,?hy⟩) (by assumption) ?_
   case hy=>
    intro w _
    go_simp
    try with_reducible rfl
   try simp only [xga];try simp only [xgs];try simp only [xgz];try simp only [Act.put];try simp only [xsa];try simp only [xss];try simp only [xsz]
   refine wpAnyF_free (i:=2) (v:=?_) rfl (by kernel_rfl) (by decide) (fun _ _ _ h=>h) (by kernel_rfl) (by kernel_rfl) (Or.inl ⟨by rfl,?hy⟩) (by assumption) ?_
   case hy=>
    intro w _
    go_simp
    try with_reducible rfl
   try simp only [xga];try simp only [xgs];try simp only [xgz];try simp only [Act.put];try simp only [xsa];try simp only [xss];try simp only [xsz]
   refine wpAnyF_free (i:=3) (v:=?_) rfl (by kernel_rfl) (by decide) (fun _ _ _ h=>h) (by kernel_rfl) (by kernel_rfl) (Or.inl ⟨by rfl,?hy⟩) (by assumption) ?_
   case hy=>
    intro w _
    go_simp
    try with_reducible rfl
   try simp only [xga];try simp only [xgs];try simp only [xgz];try simp only [Act.put];try simp only [xsa];try simp only [xss];try simp only [xsz]
   refine wpAnyF_take (i:=4) (v:=?_) rfl (by kernel_rfl) (by kernel_rfl) (fun _ _ _ h=>h) (by kernel_rfl) (by kernel_rfl) (by kernel_rfl) (Or.inl ⟨by rfl,?hy⟩) (by assumption) ?_
   case hy=>
    intro w hSw
    (try dsimp only at hSw)
    obtain⟨s0,s1⟩:=hSw
    go_simp
    try with_reducible rfl
   try simp only [xga];try simp only [xgs];try simp only [xgz];try simp only [Act.put];try simp only [xsa];try simp only [xss];try simp only [xsz]
   refine wpAnyF_free (i:=5) (v:=?_) rfl (by kernel_rfl) (by decide) (fun _ _ _ h=>h) (by kernel_rfl) (by kernel_rfl) (Or.inl ⟨by rfl,?hy⟩) (by assumption) ?_
   case hy=>
    intro w _
    go_simp
    try with_reducible rfl
   try simp only [xga];try simp only [xgs];try simp only [xgz];try simp only [Act.put];try simp only [xsa];try simp only [xss];try simp only [xsz]
   refine wpAnyF_free (i:=6) (v:=?_) rfl (by kernel_rfl) (by decide) (fun _ _ _ h=>h) (by kernel_rfl) (by kernel_rfl) (Or.inl ⟨by rfl,?hy⟩) (by assumption) ?_
   case hy=>
    intro w _
    go_simp
    try with_reducible rfl
   try simp only [xga];try simp only [xgs];try simp only [xgz];try simp only [Act.put];try simp only [xsa];try simp only [xss];try simp only [xsz]
   refine wpAnyF_free (i:=7) (v:=?_) rfl (by kernel_rfl) (by decide) (fun _ _ _ h=>h) (by kernel_rfl) (by kernel_rfl) (Or.inl ⟨by rfl,?hy⟩) (by assumption) ?_
   case hy=>
    intro w _
    go_simp
    try with_reducible rfl
   try simp only [xga];try simp only [xgs];try simp only [xgz];try simp only [Act.put];try simp only [xsa];try simp only [xss];try simp only [xsz]
   refine wpAnyF_take (i:=8) (v:=?_) rfl (by kernel_rfl) (by kernel_rfl) (fun _ _ _ h=>h) (by kernel_rfl) (by kernel_rfl) (by kernel_rfl) (Or.inl ⟨by rfl,?hy⟩) (by assumption) ?_
   case hy=>
    intro w hSw
    (try dsimp only at hSw)
    obtain⟨s0,s1⟩:=hSw
    go_simp
    try with_reducible rfl
   try simp only [xga];try simp only [xgs];try simp only [xgz];try simp only [Act.put];try simp only [xsa];try simp only [xss];try simp only [xsz]
   refine wpAnyF_ready (rs:=[9]) (by kernel_rfl) (by simp) ?_
   refine ReadyF.cons rfl (fun K' hK=>?_) ReadyF.nil
   go_simp
   with_reducible refine (HBR.out _).mono ?_
   rintro e w4 ⟨rfl,hw⟩
   have T4:Hid (Turned [] wr w4):=xhd (by rw [hw];exact (Turned.refl [] wr).drew)
   have c4:w4.cell? ⟨b,0,none⟩=some (.slice a i cap):=by rw [hw];exact c0
   have ce4:w4.cell? ⟨lb,off+i,none⟩=some (.int .i64 ei):=by rw [hw];exact ce
   clear hw c0 ce
   have hS1:(fun V:World=>V.cell? ⟨b,0,none⟩=some (.slice a i cap)∧V.cell? ⟨lb,off+i,none⟩=some (.int .i64 ei)) w4:=⟨c4,ce4⟩
   go_wp2_with fail
   refine hK.out _ _ (.inr ?_) ?_
   ·exact hS1
   clear hK K'
   try simp only [xga];try simp only [xgs];try simp only [xgz];try simp only [Act.put];try simp only [xsa];try simp only [xss];try simp only [xsz]
   refine wpAnyF_free (i:=10) (v:=?_) rfl (by kernel_rfl) (by decide) (fun _ _ _ h=>h) (by kernel_rfl) (by kernel_rfl) (Or.inl ⟨by rfl,?hy⟩) (by assumption) ?_
   case hy=>
    intro w _
    go_simp
    try with_reducible rfl
   try simp only [xga];try simp only [xgs];try simp only [xgz];try simp only [Act.put];try simp only [xsa];try simp only [xss];try simp only [xsz]
   refine wpAnyF_ready (rs:=[11]) (by kernel_rfl) (by simp) ?_
   refine ReadyF.cons rfl (fun K' hK=>?_) ReadyF.nil
   go_simp
   refine hK.out _ _ (.inr ?_) ?_
   ·exact⟨(World.cell?_alloc_old _ _ _ (Nat.ne_of_lt (World.block_lt_of_cell? _ _ c4))).trans c4,(World.cell?_alloc_old _ _ _ (Nat.ne_of_lt (World.block_lt_of_cell? _ _ ce4))).trans ce4⟩
   clear hK K'
   try simp only [xga];try simp only [xgs];try simp only [xgz];try simp only [Act.put];try simp only [xsa];try simp only [xss];try simp only [xsz]
   refine wpAnyF_ready (rs:=[12]) (by kernel_rfl) (by simp) ?_
   refine ReadyF.cons rfl (fun K' hK=>?_) ReadyF.nil
   refine wp_append_any _ _ _ 37 rfl tP18 ii (.agg #[.int .i64 0, .int .u64 0, .int .i64 0, .bool false]) 4 32 Tryd.underlying37 hi hz0 hz1 hz2 rfl (by decide) (.slice a i cap) i _ rfl (HO4.out w4 T4.out).1 (some ⟨w4.heap.size,0,none⟩) 1 1 [.int .i64 u, .int .u64 0, .int .i64 0, .bool false] rfl rfl (by intro h;cases h) (by intro ad had;cases had;exact four_new _ _ _ _ _ _) (by intro y hy;simp at hy;rcases hy with rfl|rfl|rfl|rfl<;>rfl) (by unfold maxLen;omega) (by omega) ?_
   intro a5 cap5 W5 own5 grow5 new5
   have HE5:=xhd (HAP.out w4 T4.out ce4 a5 cap5 W5 own5 grow5 new5)
   clear own5 grow5 new5
   have hS2:(fun V:World=>V.cell? ⟨b,0,none⟩=some (.slice a i cap)∧V.cell? ⟨lb,off+i,none⟩=some (.int .i64 ei)) W5:=⟨HE5.out.1,HE5.out.2.1⟩
   refine hK.out _ _ (.inr ?_) ?_
   ·exact hS2
   clear hK K'
   have c5:=HE5.out.1
   have f5:=HE5.out.2.2.1
   try simp only [xga];try simp only [xgs];try simp only [xgz];try simp only [Act.put];try simp only [xsa];try simp only [xss];try simp only [xsz]
   refine wpAnyF_free (i:=13) (v:=?_) rfl (by kernel_rfl) (by decide) (fun _ _ _ h=>h) (by kernel_rfl) (by kernel_rfl) (Or.inl ⟨by rfl,?hy⟩) (by assumption) ?_
   case hy=>
    intro w _
    go_simp
    try with_reducible rfl
   try simp only [xga];try simp only [xgs];try simp only [xgz];try simp only [Act.put];try simp only [xsa];try simp only [xss];try simp only [xsz]
   refine wpAnyF_free (i:=14) (v:=?_) rfl (by kernel_rfl) (by decide) (fun _ _ _ h=>h) (by kernel_rfl) (by kernel_rfl) (Or.inl ⟨by rfl,?hy⟩) (by assumption) ?_
   case hy=>
    intro w _
    go_simp
    try with_reducible rfl
   try simp only [xga];try simp only [xgs];try simp only [xgz];try simp only [Act.put];try simp only [xsa];try simp only [xss];try simp only [xsz]
   refine wpAnyF_ready (rs:=[15]) (by kernel_rfl) (by simp) ?_
   refine ReadyF.cons rfl (fun K' hK=>?_) ReadyF.nil
   go_simp
   refine hK.out _ _ (.inl (by kernel_rfl)) ?_
   clear hK K'
   try simp only [xga];try simp only [xgs];try simp only [xgz];try simp only [Act.put];try simp only [xsa];try simp only [xss];try simp only [xsz]
   refine wpAnyF_done (by kernel_rfl) ?_ _
   refine NoPanic.normal ?_
   try simp only [xga];try simp only [xgs];try simp only [xgz];try simp only [Act.put];try simp only [xsa];try simp only [xss];try simp only [xsz]
   obtain⟨_,_,_,X1,r17,t17,n17⟩:=HE5.out
   have hw1:=HT.out.size
   have hwb:=HB0.out
   have R6:Hid (R18 (W5.setCell ⟨b,0,none⟩ (.slice a5 (i+1) cap5)) b X1 ⟨newTo E (i+1),s1,c1,0⟩):=xhd (by rw [hns];exact r17)
   have T6:=xhd (HT.out.trans t17 fun k hk=> .inr (by have:=HK.out k hk;omega))
   have K6:Hid (∀k ∈ X1,b≤k):=xhd fun k hk=>by
    rcases n17 k hk with e'|e'
    ·exact HK.out k e'
    ·omega
   clear r17 t17 n17 hw1 hwb HE5 HAP HO4 hns
   go_wp2
   go_roundw
   case rel=>exact⟨i+1,_,by have:=HLT.out;omega,by go_num,R6,T6,K6⟩
   case measure=>have:=HLT.out;simp [intOf];omega
  ·have hik:i=m:=by omega
   subst hik
   have HMM:=HM.out
   by_cases hn8:n≤8
   ·have hin:i=n:=by omega
    have d1:decide ((i:Int) < n)=false:=by simp;omega
    have d3:¬(i:Int) < n:=by omega
    clear HMM hn8 hm8 hlt hin
    go_wp2
    go_ret
    rw [HB0.out]
    exact⟨b,rfl,X,HR.out,HT.out,HK.out⟩
   ·have hin:i=8:=by omega
    have d1:decide ((i:Int) < n)=true:=by simp;omega
    have d4:(i:Int) < n:=by omega
    have d2:decide ((i:Int) < 8)=false:=by simp;omega
    have d3:¬(i:Int) < 8:=by omega
    clear HMM hn8 hm8 hlt hin
    go_wp2
    go_ret
    rw [HB0.out]
    exact⟨b,rfl,X,HR.out,HT.out,HK.out⟩
end Go.Proofs.YtcgjbllmoglhfaaDoor
namespace Go.Proofs.YtcgjbllmoglhfaaDoor
open Go.RowKit
structure LgSaid where
 At:World→Nat→List Nat→Lg→Prop
 Good:World→Prop
 good:∀ {w w':World},Good w→Turned [] w w'→Good w'
 keep:∀ {w w':World} {b:Nat} {X Y:List Nat} {g:Lg},At w b X g→Turned Y w w'→(∀k ∈ X,k ∉ Y)→At w' b X g
 lt:∀ {w:World} {b:Nat} {X:List Nat} {g:Lg},At w b X g→∀k ∈ X,k < w.heap.size
 new:∀(ao:Option Addr) (lb off n cap:Nat) (E:Nat→Int) (s c:Int) (w:World),Good w→(0 < n→ao=some ⟨lb,off,none⟩)→(∀i,i < n→w.cell? ⟨lb,off+i,none⟩=some (.int .i64 (E i)))→(∀i,i < n→isJ (E i))→n≤maxLen→n≤cap→cap≤maxLen→isJ s→isJ c→
  Calls Tryd.prog 7 #[.slice ao n cap, .int .i64 s, .int .i64 c] w fun e w'=>∃b X,e= .returned (.pointer (some ⟨b,0,none⟩))∧At w' b X (Lg.new ((List.range n).map E) s c)∧Turned [] w w'∧∀k ∈ X,w.heap.size≤k
 charge:∀ {w:World} {b:Nat} {X:List Nat} {g:Lg} {n:Int} (p:Int),At w b X g→LgOk g n→n≤10000→Good w→isJ p→
  Calls Tryd.prog 9 #[.pointer (some ⟨b,0,none⟩), .int .i64 p] w fun e w'=>e= .returned (.bool (isP g p))∧∃X',At w' b X' (g.charge p)∧Turned X w w'∧Newer X w.heap.size X'
 settle:∀ {w:World} {b:Nat} {X:List Nat} {g:Lg} {n:Int} (S:Nat),At w b X g→LgOk g n→n≤10000→Good w→S < 18446744073709551616→
  Calls Tryd.prog 11 #[.pointer (some ⟨b,0,none⟩), .int .u64 (S:Int)] w fun e w'=>e= .returned (.tuple #[])∧∃X',At w' b X' (g.settle S)∧Turned X w w'∧Newer X w.heap.size X'
 weigh:∀ {w:World} {b:Nat} {X:List Nat} {g:Lg} {n:Int} (p wt:Int),At w b X g→LgOk g n→n≤10000→Good w→isJ p→isJ wt→
  Calls Tryd.prog 13 #[.pointer (some ⟨b,0,none⟩), .int .i64 p, .int .i64 wt] w fun e w'=>e= .returned (.bool (isP g p))∧∃X',At w' b X' (g.weigh p wt)∧Turned X w w'∧Newer X w.heap.size X'
 weight:∀ {w:World} {b:Nat} {X:List Nat} {g:Lg} {n:Int} (p:Int),At w b X g→LgOk g n→n≤10000→Good w→isJ p→
  Calls Tryd.prog 26 #[.pointer (some ⟨b,0,none⟩), .int .i64 p] w fun e w'=>e= .returned (.int .i64 (wtAt g.l p))∧Turned [] w w'
 least:∀ {w:World} {b:Nat} {X:List Nat} {g:Lg} {n:Int} (S:Nat),At w b X g→LgOk g n→n≤10000→Good w→S < 18446744073709551616→
  Calls Tryd.prog 19 #[.pointer (some ⟨b,0,none⟩), .int .u64 (S:Int)] w fun e w'=>e= .returned (.int .i64 (g.least S))∧Turned [] w w'
 vv:∀ {w:World} {b:Nat} {X:List Nat} {g:Lg} {n:Int} (p:Int),At w b X g→LgOk g n→n≤10000→Good w→isJ p→
  Calls Tryd.prog 24 #[.pointer (some ⟨b,0,none⟩), .int .i64 p] w fun e w'=>e= .returned (.int .u64 (vAt g.l p))∧Turned [] w w'
 held:∀ {w:World} {b:Nat} {X:List Nat} {g:Lg} {n:Int} (p:Int),At w b X g→LgOk g n→n≤10000→Good w→isJ p→
  Calls Tryd.prog 25 #[.pointer (some ⟨b,0,none⟩), .int .i64 p] w fun e w'=>e= .returned (.int .i64 (heldAt g.l p))∧Turned [] w w'
 floor:∀ {w:World} {b:Nat} {X:List Nat} {g:Lg} {n:Int},At w b X g→LgOk g n→n≤10000→Good w→
  Calls Tryd.prog 15 #[.pointer (some ⟨b,0,none⟩)] w fun e w'=>e= .returned (.int .u64 g.f)∧Turned [] w w'
 active:∀ {w:World} {b:Nat} {X:List Nat} {g:Lg} {n:Int},At w b X g→LgOk g n→n≤10000→Good w→
  Calls Tryd.prog 16 #[.pointer (some ⟨b,0,none⟩)] w fun e w'=>e= .returned (.int .u64 (g.active:Int))∧Turned [] w w'
 len:∀ {w:World} {b:Nat} {X:List Nat} {g:Lg} {n:Int},At w b X g→LgOk g n→n≤10000→Good w→
  Calls Tryd.prog 18 #[.pointer (some ⟨b,0,none⟩)] w fun e w'=>e= .returned (.int .i64 (g.l.length:Nat))∧Turned [] w w'
 behind:∀ {w:World} {b:Nat} {X:List Nat} {g:Lg} {n:Int} (p:Int) (S:Nat),At w b X g→LgOk g n→n≤10000→Good w→isJ p→S < 18446744073709551616→
  Calls Tryd.prog 21 #[.pointer (some ⟨b,0,none⟩), .int .i64 p, .int .u64 (S:Int)] w fun e w'=>e= .returned (.int .i64 (g.behind p S))∧Turned [] w w'
def LgOn (C:LgSaid) (w V:World) (b:Nat) (g:Lg):Prop:=C.Good w∧∃X,C.At V b X g∧Turned [] w V∧∀k ∈ X,w.heap.size≤k
def DuL (C:LgSaid) (w W:World) (b d z:Nat) (bx:Obj) (g m:Lg):Prop:=
 C.Good w∧∃X X1,C.At W b X g∧R18 W d X1 m∧Turned [] w W∧(∀k ∈ X,w.heap.size≤k)∧(∀k ∈ X1,w.heap.size≤k)∧(∀k ∈ X,k ∉ X1)∧W.heap[z]?=some bx∧z ∉ X∧z ∉ X1
section
variable {C:LgSaid} {w V W W':World} {b d z:Nat} {bx:Obj} {g g' m m':Lg} {n:Int} {X X' X1:List Nat}
theorem lt_of_heap18 {W:World} {z:Nat} {o:Obj} (h:W.heap[z]?=some o):z < W.heap.size:=(Array.getElem?_eq_some_iff.1 h).1
theorem LgOn.t (h:LgOn C w V b g):Turned [] w V:=by
 obtain⟨_,_,_,t,_⟩:=h
 exact t
theorem LgOn.good (h:LgOn C w V b g):C.Good V:=C.good h.1 h.t
theorem LgOn.later (h:LgOn C w V b g) (t:Turned [] V W):LgOn C w W b g:=by
 obtain⟨hg,X,a,t0,n⟩:=h
 exact⟨hg,X,C.keep a t (by simp),t0.also18 t,n⟩
theorem LgOn.step {X X':List Nat} (hg:C.Good w) (t0:Turned [] w V) (n:∀k ∈ X,w.heap.size≤k) (a:C.At W b X' g') (t:Turned X V W) (n':Newer X V.heap.size X'):LgOn C w W b g':=
 ⟨hg,X',a,t0.trans t (fun k hk=> .inr (n k hk)),fun k hk=>by
   rcases n' k hk with h|h
   ·exact n k h
   ·have:=t0.size;omega⟩
theorem DuL.t (h:DuL C w W b d z bx g m):Turned [] w W:=by
 obtain⟨_,_,_,_,_,t,_⟩:=h
 exact t
theorem DuL.good (h:DuL C w W b d z bx g m):C.Good W:=C.good h.1 h.t
theorem DuL.box (h:DuL C w W b d z bx g m):W.heap[z]?=some bx:=by
 obtain⟨_,_,_,_,_,_,_,_,_,h,_⟩:=h
 exact h
theorem DuL.ref (h:DuL C w W b d z bx g m):∃X1,R18 W d X1 m:=by
 obtain⟨_,_,X1,_,h,_⟩:=h
 exact⟨X1,h⟩
theorem DuL.later (h:DuL C w W b d z bx g m) (t:Turned [] W W'):DuL C w W' b d z bx g m:=by
 obtain⟨hg,X,X1,a,r,t0,n1,n2,dj,hz,z1,z2⟩:=h
 exact⟨hg,X,X1,C.keep a t (by simp),r.keep0 t,t0.also18 t,n1,n2,dj,t.same hz (by simp),z1,z2⟩
theorem DuL.boxed (h:DuL C w W b d z bx g m) {y:Nat} {by_:Obj} (t:Turned [] W W') (hy:W'.heap[y]?=some by_) (hyz:W.heap.size≤y):DuL C w W' b d y by_ g m:=by
 obtain⟨hg,X,X1,a,r,t0,n1,n2,dj,hz,z1,z2⟩:=h
 exact⟨hg,X,X1,C.keep a t (by simp),r.keep0 t,t0.also18 t,n1,n2,dj,hy,fun hx=>by have:=C.lt a _ hx;omega,fun hx=>by have:=r.lt _ hx;omega⟩
theorem DuL.start {V0 V1 V2:World} {X1:List Nat} (hg:C.Good w) (t0:Turned [] w V0) (hb:V0.heap[z]?=some bx) (a:LgOn C V0 V1 b g) (r:R18 V2 d X1 m) (t2:Turned [] V1 V2) (n2:∀k ∈ X1,V1.heap.size≤k):DuL C w V2 b d z bx g m:=by
 obtain⟨_,X,h1,t1,n1⟩:=a
 have s0:=t0.size
 have s1:=t1.size
 have hz:=lt_of_heap18 hb
 exact⟨hg,X,X1,C.keep h1 t2 (by simp),r,(t0.also18 t1).also18 t2,fun k hk=>by have:=n1 k hk;omega,fun k hk=>by have:=n2 k hk;omega,fun k hk hy=>by have:=C.lt h1 k hk;have:=n2 k hy;omega,(t1.also18 t2).same hb (by simp),fun hx=>by have:=n1 _ hx;omega,fun hx=>by have:=n2 _ hx;omega⟩
theorem on_charge (h:LgOn C w V b g) (hc:LgOk g n) (h1:n≤10000) (p:Int) (i0:isJ p):Calls Tryd.prog 9 #[.pointer (some ⟨b,0,none⟩), .int .i64 p] V fun e w'=>e= .returned (.bool (isP g p))∧LgOn C w w' b (g.charge p):=by
 have hgd:=h.good
 obtain⟨hg,X,a,t0,n0⟩:=h
 refine (C.charge p a hc h1 hgd i0).mono fun e w' hh=>?_
 obtain⟨e1,X',a',t',n'⟩:=hh
 exact⟨e1,LgOn.step hg t0 n0 a' t' n'⟩
theorem dl_charge (h:DuL C w W b d z bx g m) (hc:LgOk g n) (h1:n≤10000) (p:Int) (i0:isJ p):Calls Tryd.prog 9 #[.pointer (some ⟨b,0,none⟩), .int .i64 p] W fun e w'=>e= .returned (.bool (isP g p))∧DuL C w w' b d z bx (g.charge p) m:=by
 have hgd:=h.good
 obtain⟨hg,X,X1,a,r,t0,n1,n2,dj,hz,z1,z2⟩:=h
 refine (C.charge p a hc h1 hgd i0).mono fun e w' hh=>?_
 obtain⟨e1,X',a',t',n'⟩:=hh
 have s0:=t0.size
 have hzl:=lt_of_heap18 hz
 refine⟨e1,hg,X',X1,a',r.keep t' (fun k hk hx=>dj k hx hk),t0.trans t' (fun k hk=> .inr (n1 k hk)),fun k hk=>?_,n2,fun k hk hy=>?_,t'.same hz z1,fun hx=>?_,z2⟩
 ·rcases n' k hk with h|h
  ·exact n1 k h
  ·omega
 ·rcases n' k hk with h|h
  ·exact dj k h hy
  ·have:=r.lt k hy;omega
 ·rcases n' _ hx with h|h
  ·exact z1 h
  ·omega
theorem on_settle (h:LgOn C w V b g) (hc:LgOk g n) (h1:n≤10000) (S:Nat) (i0:S < 18446744073709551616):Calls Tryd.prog 11 #[.pointer (some ⟨b,0,none⟩), .int .u64 (S:Int)] V fun e w'=>e= .returned (.tuple #[])∧LgOn C w w' b (g.settle S):=by
 have hgd:=h.good
 obtain⟨hg,X,a,t0,n0⟩:=h
 refine (C.settle S a hc h1 hgd i0).mono fun e w' hh=>?_
 obtain⟨e1,X',a',t',n'⟩:=hh
 exact⟨e1,LgOn.step hg t0 n0 a' t' n'⟩
theorem dl_settle (h:DuL C w W b d z bx g m) (hc:LgOk g n) (h1:n≤10000) (S:Nat) (i0:S < 18446744073709551616):Calls Tryd.prog 11 #[.pointer (some ⟨b,0,none⟩), .int .u64 (S:Int)] W fun e w'=>e= .returned (.tuple #[])∧DuL C w w' b d z bx (g.settle S) m:=by
 have hgd:=h.good
 obtain⟨hg,X,X1,a,r,t0,n1,n2,dj,hz,z1,z2⟩:=h
 refine (C.settle S a hc h1 hgd i0).mono fun e w' hh=>?_
 obtain⟨e1,X',a',t',n'⟩:=hh
 have s0:=t0.size
 have hzl:=lt_of_heap18 hz
 refine⟨e1,hg,X',X1,a',r.keep t' (fun k hk hx=>dj k hx hk),t0.trans t' (fun k hk=> .inr (n1 k hk)),fun k hk=>?_,n2,fun k hk hy=>?_,t'.same hz z1,fun hx=>?_,z2⟩
 ·rcases n' k hk with h|h
  ·exact n1 k h
  ·omega
 ·rcases n' k hk with h|h
  ·exact dj k h hy
  ·have:=r.lt k hy;omega
 ·rcases n' _ hx with h|h
  ·exact z1 h
  ·omega
theorem dl_weigh (h:DuL C w W b d z bx g m) (hc:LgOk g n) (h1:n≤10000) (p wt:Int) (i0:isJ p) (i1:isJ wt):Calls Tryd.prog 13 #[.pointer (some ⟨b,0,none⟩), .int .i64 p, .int .i64 wt] W fun e w'=>e= .returned (.bool (isP g p))∧DuL C w w' b d z bx (g.weigh p wt) m:=by
 have hgd:=h.good
 obtain⟨hg,X,X1,a,r,t0,n1,n2,dj,hz,z1,z2⟩:=h
 refine (C.weigh p wt a hc h1 hgd i0 i1).mono fun e w' hh=>?_
 obtain⟨e1,X',a',t',n'⟩:=hh
 have s0:=t0.size
 have hzl:=lt_of_heap18 hz
 refine⟨e1,hg,X',X1,a',r.keep t' (fun k hk hx=>dj k hx hk),t0.trans t' (fun k hk=> .inr (n1 k hk)),fun k hk=>?_,n2,fun k hk hy=>?_,t'.same hz z1,fun hx=>?_,z2⟩
 ·rcases n' k hk with h|h
  ·exact n1 k h
  ·omega
 ·rcases n' k hk with h|h
  ·exact dj k h hy
  ·have:=r.lt k hy;omega
 ·rcases n' _ hx with h|h
  ·exact z1 h
  ·omega
theorem on_least (h:LgOn C w V b g) (hc:LgOk g n) (h1:n≤10000) (S:Nat) (i0:S < 18446744073709551616):Calls Tryd.prog 19 #[.pointer (some ⟨b,0,none⟩), .int .u64 (S:Int)] V fun e w'=>e= .returned (.int .i64 (g.least S))∧LgOn C w w' b g:=by
 have h0:=h
 obtain⟨hg,X,a,t0,n0⟩:=h
 exact (C.least S a hc h1 h0.good i0).mono fun e w' hh=>⟨hh.1,h0.later hh.2⟩
theorem on_vv (h:LgOn C w V b g) (hc:LgOk g n) (h1:n≤10000) (p:Int) (i0:isJ p):Calls Tryd.prog 24 #[.pointer (some ⟨b,0,none⟩), .int .i64 p] V fun e w'=>e= .returned (.int .u64 (vAt g.l p))∧LgOn C w w' b g:=by
 have h0:=h
 obtain⟨hg,X,a,t0,n0⟩:=h
 exact (C.vv p a hc h1 h0.good i0).mono fun e w' hh=>⟨hh.1,h0.later hh.2⟩
theorem on_held (h:LgOn C w V b g) (hc:LgOk g n) (h1:n≤10000) (p:Int) (i0:isJ p):Calls Tryd.prog 25 #[.pointer (some ⟨b,0,none⟩), .int .i64 p] V fun e w'=>e= .returned (.int .i64 (heldAt g.l p))∧LgOn C w w' b g:=by
 have h0:=h
 obtain⟨hg,X,a,t0,n0⟩:=h
 exact (C.held p a hc h1 h0.good i0).mono fun e w' hh=>⟨hh.1,h0.later hh.2⟩
theorem on_floor (h:LgOn C w V b g) (hc:LgOk g n) (h1:n≤10000):Calls Tryd.prog 15 #[.pointer (some ⟨b,0,none⟩)] V fun e w'=>e= .returned (.int .u64 g.f)∧LgOn C w w' b g:=by
 have h0:=h
 obtain⟨hg,X,a,t0,n0⟩:=h
 exact (C.floor a hc h1 h0.good).mono fun e w' hh=>⟨hh.1,h0.later hh.2⟩
theorem on_len (h:LgOn C w V b g) (hc:LgOk g n) (h1:n≤10000):Calls Tryd.prog 18 #[.pointer (some ⟨b,0,none⟩)] V fun e w'=>e= .returned (.int .i64 (g.l.length:Nat))∧LgOn C w w' b g:=by
 have h0:=h
 obtain⟨hg,X,a,t0,n0⟩:=h
 exact (C.len a hc h1 h0.good).mono fun e w' hh=>⟨hh.1,h0.later hh.2⟩
theorem on_behind (h:LgOn C w V b g) (hc:LgOk g n) (h1:n≤10000) (p:Int) (S:Nat) (i0:isJ p) (i1:S < 18446744073709551616):Calls Tryd.prog 21 #[.pointer (some ⟨b,0,none⟩), .int .i64 p, .int .u64 (S:Int)] V fun e w'=>e= .returned (.int .i64 (g.behind p S))∧LgOn C w w' b g:=by
 have h0:=h
 obtain⟨hg,X,a,t0,n0⟩:=h
 exact (C.behind p S a hc h1 h0.good i0 i1).mono fun e w' hh=>⟨hh.1,h0.later hh.2⟩
theorem dl_rcharge (h:DuL C w W b d z bx g m) (hc:LgOk m n) (h1:n≤10000) (p:Int):Calls Tryd.prog 10 #[.pointer (some ⟨d,0,none⟩), .int .i64 p] W fun e w'=>e= .returned (.bool (isP m p))∧DuL C w w' b d z bx g (m.charge p):=by
 have _:=h1
 obtain⟨hg,X,X1,a,r,t0,n1,n2,dj,hz,z1,z2⟩:=h
 refine (rcharge_any r hc (by omega) p).mono fun e w' hh=>?_
 obtain⟨e1,r',t'⟩:=hh
 exact⟨e1,hg,X,X1,C.keep a t' dj,r',t0.trans t' (fun k hk=> .inr (n2 k hk)),n1,n2,dj,t'.same hz z2,z1,z2⟩
theorem dl_rsettle (h:DuL C w W b d z bx g m) (hc:LgOk m n) (h1:n≤10000) (S:Nat):Calls Tryd.prog 12 #[.pointer (some ⟨d,0,none⟩), .int .u64 (S:Int)] W fun e w'=>e= .returned (.tuple #[])∧DuL C w w' b d z bx g (m.settle S):=by
 have _:=h1
 obtain⟨hg,X,X1,a,r,t0,n1,n2,dj,hz,z1,z2⟩:=h
 refine (rsettle18_any r hc S).mono fun e w' hh=>?_
 obtain⟨e1,r',t'⟩:=hh
 exact⟨e1,hg,X,X1,C.keep a t' dj,r',t0.trans t' (fun k hk=> .inr (n2 k hk)),n1,n2,dj,t'.same hz z2,z1,z2⟩
theorem dl_rweigh (h:DuL C w W b d z bx g m) (hc:LgOk m n) (h1:n≤10000) (p wt:Int):Calls Tryd.prog 14 #[.pointer (some ⟨d,0,none⟩), .int .i64 p, .int .i64 wt] W fun e w'=>e= .returned (.bool (isP m p))∧DuL C w w' b d z bx g (m.weigh p wt):=by
 have _:=h1
 obtain⟨hg,X,X1,a,r,t0,n1,n2,dj,hz,z1,z2⟩:=h
 refine (rweigh18_any r hc p wt).mono fun e w' hh=>?_
 obtain⟨e1,r',t'⟩:=hh
 exact⟨e1,hg,X,X1,C.keep a t' dj,r',t0.trans t' (fun k hk=> .inr (n2 k hk)),n1,n2,dj,t'.same hz z2,z1,z2⟩
end
end Go.Proofs.YtcgjbllmoglhfaaDoor
namespace Go.Proofs.YtcgjbllmoglhfaaDoor
open Go.RowKit
theorem LgOn.start {C:LgSaid} {w V:World} {b:Nat} {g:Lg} {X:List Nat} (hg:C.Good w) (a:C.At V b X g) (t:Turned [] w V) (n:∀k ∈ X,w.heap.size≤k):LgOn C w V b g:=⟨hg,X,a,t,n⟩
def lA0:Lg:=Lg.new [2,1] 1 1
def lA1:Lg:=lA0.settle 3
def lA2:Lg:=lA1.charge 0
def lA3:Lg:=lA2.charge 1
def lA4:Lg:=lA3.settle 3
theorem lA0_ok:LgOk lA0 8:=(new_ok _ 1 1).later (by omega)
theorem lA1_ok:LgOk lA1 8:=lA0_ok.settle 3
theorem lA2_ok:LgOk lA2 9:=lA1_ok.charge 0
theorem lA3_ok:LgOk lA3 10:=lA2_ok.charge 1
theorem lA4_ok:LgOk lA4 10:=lA3_ok.settle 3
theorem on_new18 (C:LgSaid) (w V:World) (lb cap:Nat) (hg:C.Good w) (t:Turned [] w V) (h0:V.cell? ⟨lb,0,none⟩=some (.int .i64 2)) (h1:V.cell? ⟨lb,1,none⟩=some (.int .i64 1)) (hc:2≤cap) (hm:cap≤maxLen):
  Calls Tryd.prog 7 #[.slice (some ⟨lb,0,none⟩) 2 cap, .int .i64 1, .int .i64 1] V fun e w'=>∃b,e= .returned (.pointer (some ⟨b,0,none⟩))∧LgOn C w w' b lA0:=by
 refine (C.new (some ⟨lb,0,none⟩) lb 0 2 cap (fun i=>if i=0 then 2 else 1) 1 1 V (C.good hg t) (fun _=>rfl) ?_ ?_ (by unfold maxLen;omega) hc hm (by unfold isJ;omega) (by unfold isJ;omega)).mono ?_
 ·intro i hi
  match i,hi with
  |0,_=>exact h0
  |1,_=>exact h1
 ·intro i hi
  match i,hi with
  |0,_=>exact⟨by decide,by decide⟩
  |1,_=>exact⟨by decide,by decide⟩
 ·rintro e w' ⟨b,X,rfl,a,t',n'⟩
  have s:=t.size
  exact⟨b,rfl,hg,X,a,t.also18 t',fun k hk=>by have:=n' k hk;omega⟩
theorem awake18 (C:LgSaid) (w:World) (hg:C.Good w):Calls Tryd.prog 6 #[] w fun e w'=>e= .returned (.bool true)∧Turned [] w w':=by
 have i0:isJ 0:=by unfold isJ;omega
 have i1:isJ 1:=by unfold isJ;omega
 have HN:=xhd (fun V lb cap t h0 h1 hc hm=>on_new18 C w V lb cap hg t h0 h1 hc hm)
 have HS:=xhd (fun V b (h:LgOn C w V b lA0)=>on_settle h lA0_ok (by omega) 3 (by omega))
 rw [show ((3:Nat):Int)=3 from rfl] at HS
 have HC:=xhd (fun V b (h:LgOn C w V b lA1)=>on_charge h lA1_ok (by omega) 0 i0)
 have HD:=xhd (fun V b (h:LgOn C w V b lA2)=>on_charge h lA2_ok (by omega) 1 i1)
 have HT:=xhd (fun V b (h:LgOn C w V b lA3)=>on_settle h lA3_ok (by omega) 3 (by omega))
 rw [show ((3:Nat):Int)=3 from rfl] at HT
 have e0:vAt lA4.l 0=360360:=by decide+kernel
 have HV0:=xhd (fun V b (h:LgOn C w V b lA4)=>on_vv h lA4_ok (by omega) 0 i0)
 rw [e0] at HV0
 clear e0
 have e1:vAt lA4.l 1=720720:=by decide+kernel
 have HV1:=xhd (fun V b (h:LgOn C w V b lA4)=>on_vv h lA4_ok (by omega) 1 i1)
 rw [e1] at HV1
 clear e1
 have e2:lA4.f=360360:=by decide+kernel
 have HF:=xhd (fun V b (h:LgOn C w V b lA4)=>on_floor h lA4_ok (by omega))
 rw [e2] at HF
 clear e2
 have e3:lA4.least 3=0:=by decide+kernel
 have HL:=xhd (fun V b (h:LgOn C w V b lA4)=>on_least h lA4_ok (by omega) 3 (by omega))
 rw [e3] at HL
 rw [show ((3:Nat):Int)=3 from rfl] at HL
 clear e3
 have e4:lA4.behind 1 3=1:=by decide+kernel
 have HB:=xhd (fun V b (h:LgOn C w V b lA4)=>on_behind h lA4_ok (by omega) 1 3 i1 (by omega))
 rw [e4] at HB
 rw [show ((3:Nat):Int)=3 from rfl] at HB
 clear e4
 have e5:heldAt lA4.l 1=1:=by decide+kernel
 have HH:=xhd (fun V b (h:LgOn C w V b lA4)=>on_held h lA4_ok (by omega) 1 i1)
 rw [e5] at HH
 clear e5
 have e6:lA4.l.length=2:=by decide+kernel
 have HE:=xhd (fun V b (h:LgOn C w V b lA4)=>on_len h lA4_ok (by omega))
 rw [e6] at HE
 clear e6
 clear i0 i1
 go_enter Tryd.func6,Tryd.ntmps6
 go_wp2_with fail
 with_reducible refine (HN.out _ _ _ ((Turned.refl [] w).alloc _) (by simp) (by simp) (by omega) (by unfold maxLen;omega)).mono ?_
 rintro e w1 ⟨b,rfl,a1⟩
 have A1:=xhd a1
 clear a1 HN
 go_wp2_with fail
 with_reducible refine (HS.out _ _ A1.out).mono ?_
 rintro e w2 ⟨rfl,a2⟩
 have A2:=xhd a2
 clear a2 A1 HS
 go_wp2_with fail
 with_reducible refine (HC.out _ _ A2.out).mono ?_
 rintro e w3 ⟨rfl,a3⟩
 have A3:=xhd a3
 clear a3 A2 HC
 go_wp2_with fail
 with_reducible refine (HD.out _ _ A3.out).mono ?_
 rintro e w4 ⟨rfl,a4⟩
 have A4:=xhd a4
 clear a4 A3 HD
 go_wp2_with fail
 with_reducible refine (HT.out _ _ A4.out).mono ?_
 rintro e w5 ⟨rfl,a5⟩
 have A5:=xhd a5
 clear a5 A4 HT
 go_wp2_with fail
 with_reducible refine (HV0.out _ _ A5.out).mono ?_
 rintro e w6 ⟨rfl,a6⟩
 have A6:=xhd a6
 clear a6 A5 HV0
 go_wp2_with fail
 with_reducible refine (HV1.out _ _ A6.out).mono ?_
 rintro e w7 ⟨rfl,a7⟩
 have A7:=xhd a7
 clear a7 A6 HV1
 go_wp2_with fail
 with_reducible refine (HF.out _ _ A7.out).mono ?_
 rintro e w8 ⟨rfl,a8⟩
 have A8:=xhd a8
 clear a8 A7 HF
 go_wp2_with fail
 with_reducible refine (HL.out _ _ A8.out).mono ?_
 rintro e w9 ⟨rfl,a9⟩
 have A9:=xhd a9
 clear a9 A8 HL
 go_wp2_with fail
 with_reducible refine (HB.out _ _ A9.out).mono ?_
 rintro e w10 ⟨rfl,a10⟩
 have A10:=xhd a10
 clear a10 A9 HB
 go_wp2_with fail
 with_reducible refine (HH.out _ _ A10.out).mono ?_
 rintro e w11 ⟨rfl,a11⟩
 have A11:=xhd a11
 clear a11 A10 HH
 go_wp2_with fail
 with_reducible refine (HE.out _ _ A11.out).mono ?_
 rintro e w12 ⟨rfl,a12⟩
 have A12:=xhd a12
 clear a12 A11 HE
 go_wp2
 go_ret
 exact⟨rfl,A12.out.t⟩
end Go.Proofs.YtcgjbllmoglhfaaDoor
namespace Go.Proofs.YtcgjbllmoglhfaaDoor
open Go.RowKit
theorem heldAt_nat18 (l:List Pty) (i:Nat):heldAt l i=((l[i]?).map (·.2.2.1)).getD 0:=by
 unfold heldAt
 rw [if_neg (by omega),Int.toNat_natCast]
section
variable {C:LgSaid} {w V W:World} {b d z:Nat} {bx:Obj} {g:Lg} {n:Int}
theorem rd_weight (h:DuL C w W b d z bx g g) (hc:LgOk g n) (h1:n≤10000) (p:Int) (i0:isJ p) (V:World) (t:Turned [] W V):Calls Tryd.prog 26 #[.pointer (some ⟨b,0,none⟩), .int .i64 p] V fun e w'=>e= .returned (.int .i64 (wtAt g.l p))∧Turned [] W w':=by
 have hgd:=(h.later t).good
 obtain⟨hg,X,X1,a,r,_⟩:=h.later t
 exact (C.weight p a hc h1 hgd i0).mono fun e w' hh=>⟨hh.1,t.also18 hh.2⟩
theorem rd_least (h:DuL C w W b d z bx g g) (hc:LgOk g n) (h1:n≤10000) (S:Nat) (i0:S < 18446744073709551616) (V:World) (t:Turned [] W V):Calls Tryd.prog 19 #[.pointer (some ⟨b,0,none⟩), .int .u64 (S:Int)] V fun e w'=>e= .returned (.int .i64 (g.least S))∧Turned [] W w':=by
 have hgd:=(h.later t).good
 obtain⟨hg,X,X1,a,r,_⟩:=h.later t
 exact (C.least S a hc h1 hgd i0).mono fun e w' hh=>⟨hh.1,t.also18 hh.2⟩
theorem rd_vv (h:DuL C w W b d z bx g g) (hc:LgOk g n) (h1:n≤10000) (p:Int) (i0:isJ p) (V:World) (t:Turned [] W V):Calls Tryd.prog 24 #[.pointer (some ⟨b,0,none⟩), .int .i64 p] V fun e w'=>e= .returned (.int .u64 (vAt g.l p))∧Turned [] W w':=by
 have hgd:=(h.later t).good
 obtain⟨hg,X,X1,a,r,_⟩:=h.later t
 exact (C.vv p a hc h1 hgd i0).mono fun e w' hh=>⟨hh.1,t.also18 hh.2⟩
theorem rd_held (h:DuL C w W b d z bx g g) (hc:LgOk g n) (h1:n≤10000) (p:Int) (i0:isJ p) (V:World) (t:Turned [] W V):Calls Tryd.prog 25 #[.pointer (some ⟨b,0,none⟩), .int .i64 p] V fun e w'=>e= .returned (.int .i64 (heldAt g.l p))∧Turned [] W w':=by
 have hgd:=(h.later t).good
 obtain⟨hg,X,X1,a,r,_⟩:=h.later t
 exact (C.held p a hc h1 hgd i0).mono fun e w' hh=>⟨hh.1,t.also18 hh.2⟩
theorem rd_floor (h:DuL C w W b d z bx g g) (hc:LgOk g n) (h1:n≤10000) (V:World) (t:Turned [] W V):Calls Tryd.prog 15 #[.pointer (some ⟨b,0,none⟩)] V fun e w'=>e= .returned (.int .u64 g.f)∧Turned [] W w':=by
 have hgd:=(h.later t).good
 obtain⟨hg,X,X1,a,r,_⟩:=h.later t
 exact (C.floor a hc h1 hgd).mono fun e w' hh=>⟨hh.1,t.also18 hh.2⟩
theorem rd_active (h:DuL C w W b d z bx g g) (hc:LgOk g n) (h1:n≤10000) (V:World) (t:Turned [] W V):Calls Tryd.prog 16 #[.pointer (some ⟨b,0,none⟩)] V fun e w'=>e= .returned (.int .u64 (g.active:Int))∧Turned [] W w':=by
 have hgd:=(h.later t).good
 obtain⟨hg,X,X1,a,r,_⟩:=h.later t
 exact (C.active a hc h1 hgd).mono fun e w' hh=>⟨hh.1,t.also18 hh.2⟩
theorem rd_len (h:DuL C w W b d z bx g g) (hc:LgOk g n) (h1:n≤10000) (V:World) (t:Turned [] W V):Calls Tryd.prog 18 #[.pointer (some ⟨b,0,none⟩)] V fun e w'=>e= .returned (.int .i64 (g.l.length:Nat))∧Turned [] W w':=by
 have hgd:=(h.later t).good
 obtain⟨hg,X,X1,a,r,_⟩:=h.later t
 exact (C.len a hc h1 hgd).mono fun e w' hh=>⟨hh.1,t.also18 hh.2⟩
theorem rd_behind (h:DuL C w W b d z bx g g) (hc:LgOk g n) (h1:n≤10000) (p:Int) (S:Nat) (i0:isJ p) (i1:S < 18446744073709551616) (V:World) (t:Turned [] W V):Calls Tryd.prog 21 #[.pointer (some ⟨b,0,none⟩), .int .i64 p, .int .u64 (S:Int)] V fun e w'=>e= .returned (.int .i64 (g.behind p S))∧Turned [] W w':=by
 have hgd:=(h.later t).good
 obtain⟨hg,X,X1,a,r,_⟩:=h.later t
 exact (C.behind p S a hc h1 hgd i0 i1).mono fun e w' hh=>⟨hh.1,t.also18 hh.2⟩
theorem rd_rleast (h:DuL C w W b d z bx g g) (hc:LgOk g n) (S:Nat) (V:World) (t:Turned [] W V):Calls Tryd.prog 20 #[.pointer (some ⟨d,0,none⟩), .int .u64 (S:Int)] V fun e w'=>e= .returned (.int .i64 (g.least S))∧Turned [] W w':=by
 obtain⟨hg,X,X1,a,r,_⟩:=h.later t
 exact (rleast_any r hc.len S).mono fun e w' hh=>⟨hh.1,t.also18 hh.2⟩
theorem rd_ractive (h:DuL C w W b d z bx g g) (hc:LgOk g n) (V:World) (t:Turned [] W V):Calls Tryd.prog 17 #[.pointer (some ⟨d,0,none⟩)] V fun e w'=>e= .returned (.int .u64 (g.active:Int))∧Turned [] W w':=by
 obtain⟨hg,X,X1,a,r,_⟩:=h.later t
 exact (ractive_any r hc.len).mono fun e w' hh=>⟨hh.1,by rw [←hh.2];exact t⟩
theorem rd_rbehind (h:DuL C w W b d z bx g g) (hc:LgOk g n) (p:Int) (S:Nat) (V:World) (t:Turned [] W V):Calls Tryd.prog 22 #[.pointer (some ⟨d,0,none⟩), .int .i64 p, .int .u64 (S:Int)] V fun e w'=>e= .returned (.int .i64 (g.behind p S))∧Turned [] W w':=by
 obtain⟨hg,X,X1,a,r,_⟩:=h.later t
 exact (rbehind_any r hc p S).mono fun e w' hh=>⟨hh.1,t.also18 hh.2⟩
theorem rd_ris (h:DuL C w W b d z bx g g) (p:Int) (V:World) (t:Turned [] W V):Calls Tryd.prog 23 #[.pointer (some ⟨d,0,none⟩), .int .i64 p] V fun e w'=>e= .returned (.bool (isP g p))∧Turned [] W w':=by
 obtain⟨hg,X,X1,a,r,_⟩:=h.later t
 exact (ris_any r p).mono fun e w' hh=>⟨hh.1,by rw [←hh.2];exact t⟩
theorem DuL.view {x0 x1 x2 x3:Value} {ty:TypeId} (h:DuL C w W b d z (.cells #[x0,x1,x2,x3] ty (0,0)) g g):∃a cap,
  (∀V,Turned [] W V→V.cell? ⟨d,3,none⟩=some (.int .u64 g.f)∧V.cell? ⟨d,0,none⟩=some (.slice a g.l.length cap)∧V.cell? ⟨z,1,none⟩=some x1∧V.cell? ⟨z,3,none⟩=some x3∧Turned [] W V)∧
  ∀j:Nat,j < g.l.length→∃r,a=some ⟨r,0,none⟩∧∀V,Turned [] W V→V.cell? ⟨r,j*4,none⟩=some (.int .i64 (wtAt g.l j))∧V.cell? ⟨r,j*4+1,none⟩=some (.int .u64 (vAt g.l j))∧V.cell? ⟨r,j*4+2,none⟩=some (.int .i64 (heldAt g.l j)):=by
 obtain⟨z0,z1,z2,z3,_⟩:=cells4l h.box
 obtain⟨X1,r1⟩:=h.ref
 obtain⟨a,cap,c0,_,_,c3,_,_,hr⟩:=r1.rows
 refine⟨a,cap,fun V t=>⟨up18 t c3,up18 t c0,up18 t z1,up18 t z3,t⟩,fun j hj=>?_⟩
 have hx:g.l[j]?=some g.l[j]:=List.getElem?_eq_getElem hj
 obtain⟨r,e,r0,r1,r2,_⟩:=hr j _ hx
 refine⟨r,e,fun V t=>⟨?_,?_,?_⟩⟩
 ·rw [wtAt_nat,hx];exact up18 t r0
 ·rw [vAt_nat,hx];exact up18 t r1
 ·rw [heldAt_nat18,hx];exact up18 t r2
end
end Go.Proofs.YtcgjbllmoglhfaaDoor
namespace Go.Proofs.YtcgjbllmoglhfaaDoor
open Go.RowKit
abbrev Dd:=Int×Int×Int×Int
def wfL (x:Dd):Prop:=0≤x.1∧isJ x.2.1∧isJ x.2.2.1∧0≤x.2.2.2∧x.2.2.2 < 18446744073709551616
theorem cells2l {w:World} {b:Nat} {x y:Value} {t:TypeId} (h:w.heap[b]?=some (.cells #[x,y] t (0,0))):
  w.cell? ⟨b,0,none⟩=some x∧w.cell? ⟨b,1,none⟩=some y:=by
 refine⟨?_,?_⟩<;>simp [World.cell?,h]
theorem none_at {g:Lg} {p:Int} (h:isP g p=false):vAt g.l p=0∧heldAt g.l p=0∧wtAt g.l p=0:=by
 unfold isP at h
 unfold vAt heldAt wtAt
 by_cases h0:p < 0
 ·simp [h0]
 ·have:g.l.length≤p.toNat:=by
    simp at h
    have:=h (by omega)
    omega
  simp [h0,List.getElem?_eq_none this]
theorem new_both (C:LgSaid) {w:World} (hg:C.Good w) (ao:Option Addr) (lb off n cap:Nat) (E:Nat→Int) (s c:Int) (hao:0 < n→ao=some ⟨lb,off,none⟩∧lb < w.heap.size) (hE:∀i,i < n→w.cell? ⟨lb,off+i,none⟩=some (.int .i64 (E i))) (hJ:∀i,i < n→isJ (E i)) (hm:n≤maxLen) (h1:n≤cap) (h2:cap≤maxLen) (js:isJ s) (jc:isJ c):
  (∀V,Turned [] w V→Calls Tryd.prog 7 #[.slice ao n cap, .int .i64 s, .int .i64 c] V fun e w'=>∃b,e= .returned (.pointer (some ⟨b,0,none⟩))∧LgOn C V w' b (Lg.new ((List.range n).map E) s c))∧
  (∀V,Turned [] w V→Calls Tryd.prog 8 #[.slice ao n cap, .int .i64 s, .int .i64 c] V fun e w'=>∃b X,e= .returned (.pointer (some ⟨b,0,none⟩))∧R18 w' b X (Lg.new ((List.range n).map E) s c)∧Turned [] V w'∧∀k ∈ X,V.heap.size≤k):=by
 refine⟨fun V t=>?_,fun V t=>?_⟩
 ·refine (C.new ao lb off n cap E s c V (C.good hg t) (fun h=>(hao h).1) (fun i hi=>up18 t (hE i hi)) hJ hm h1 h2 js jc).mono ?_
  rintro e w' ⟨b,X,rfl,a,t',n'⟩
  exact⟨b,rfl,C.good hg t,X,a,t',n'⟩
 ·exact rnew18_any ao lb off n cap E s c V (fun h=>(hao h).1) (fun i hi=>up18 t (hE i hi)) hm
end Go.Proofs.YtcgjbllmoglhfaaDoor
namespace Go.Proofs.YtcgjbllmoglhfaaDoor
open Go.ChangeShapes Go.WideShapes Go.ChangeAt Go.RowKit Go.Deep
section
variable {H:Type} {enc:TypeId×Value→H} {P:Program}
variable {w:World} {base:Nat} {spare:Nat→Bool} {held:Bool}
theorem open_list18 {t e:TypeId} (ht:P.underlying t=some (.slice e)) (he:P.underlying e=some (.int .i64)) (hC:P.cellsOf e=1) {v:Value} {d:DataW H} {p:List MemPlace} {r:Reach} {b0:Nat}
  (hok:Value.okWide P w r b0 t v) (h:DataW.Trod enc P w base (fun _=>true) held t v d p):
  ∃(ao:Option Addr) (b off n cap:Nat) (f:Nat→Int),v= .slice ao n cap∧n≤maxLen∧n≤cap∧cap≤maxLen∧(0 < n→ao=some ⟨b,off,none⟩∧b < w.heap.size)∧(∀i,i < n→w.cell? ⟨b,off+i,none⟩=some (.int .i64 (f i)))∧∀i,i < n→isJ (f i):=by
 obtain⟨fuel,hf⟩:=h
 obtain⟨a',len',cap',rfl⟩:=okWide_slice ht hok
 rcases open_ints ht he hC hf with⟨hcs,_⟩ |⟨a,len,cap,zs,hcs,_,hl,hm,hlen,_,hc,hwf⟩
 ·have hv:Value.slice a' len' cap'= .slice none 0 0:=by simpa [Value.cells] using hcs
  exact⟨none,0,0,0,0,fun _=>0,hv,by simp,by simp,by simp,fun h=>by omega,fun i h=>by omega,fun i h=>by omega⟩
 ·have hv:Value.slice a' len' cap'= .slice (some a) len cap:=by simpa [Value.cells] using hcs
  simp only [if_true] at hlen
  have hw:∀i,i < len→isJ (zs.getD i 0):=fun i hi=>by
   rw [List.getD_eq_getElem?_getD,List.getElem?_eq_getElem (by omega)]
   exact isJ_of (hwf _ (List.getElem_mem _))
  by_cases h0:0 < len
  ·have c0:=hc 0 (by omega)
   have ha0:a.add 0=a:=by
    unfold Addr.add
    simp
   rw [ha0] at c0
   obtain⟨b,off,rfl,hbl⟩:=spot_none c0
   refine⟨_,b,off,len,cap,fun i=>zs.getD i 0,hv,by omega,hl,hm,fun _=>⟨rfl,hbl⟩,fun i hi=>?_,hw⟩
   have hci:=hc i (by omega)
   rwa [Addr.add_lit] at hci
  ·exact⟨some a,0,0,len,cap,fun i=>zs.getD i 0,hv,by omega,hl,hm,fun h=>by omega,fun i hi=>by omega,fun i hi=>by omega⟩
theorem open_deeds18 {t e:TypeId} {f0 f1 f2 f3:Field} (ht:P.underlying t=some (.slice e)) (he:P.underlying e=some (.struct #[f0,f1,f2,f3])) (hC:P.cellsOf e=4)
  (o0:f0.offset=0) (o1:f1.offset=1) (o2:f2.offset=2) (o3:f3.offset=3) (c0:P.cellsOf f0.type=1) (c1:P.cellsOf f1.type=1) (c2:P.cellsOf f2.type=1) (c3:P.cellsOf f3.type=1)
  (k0:P.underlying f0.type=some (.int .u8)) (k1:P.underlying f1.type=some (.int .i64)) (k2:P.underlying f2.type=some (.int .i64)) (k3:P.underlying f3.type=some (.int .u64))
  {v:Value} {d:DataW H} {p:List MemPlace} {r:Reach} {b0:Nat} (hok:Value.okWide P w r b0 t v) (h:DataW.Trod enc P w base spare held t v d p):
  ∃(ao:Option Addr) (b off n cap:Nat) (E:Nat→Dd),v= .slice ao n cap∧n≤maxLen∧(0 < n→ao=some ⟨b,off,none⟩∧b < w.heap.size)∧
   (∀i,i < n→w.cell? ⟨b,off+i*4,none⟩=some (.int .u8 (E i).1)∧w.cell? ⟨b,off+i*4+1,none⟩=some (.int .i64 (E i).2.1)∧w.cell? ⟨b,off+i*4+2,none⟩=some (.int .i64 (E i).2.2.1)∧w.cell? ⟨b,off+i*4+3,none⟩=some (.int .u64 (E i).2.2.2))∧
   (∀i,i < n→wfL (E i)):=by
 obtain⟨fuel,hf⟩:=h
 obtain⟨a',len',cap',rfl⟩:=okWide_slice ht hok
 rcases open_slice ht hf with⟨hcs,_⟩ |⟨a,len,cap,m,n,D,Pl,hcs,hb,hl,hm,hmm,hx,hi⟩
 ·have hv:Value.slice a' len' cap'= .slice none 0 0:=by simpa [Value.cells] using hcs
  exact⟨none,0,0,0,0,fun _=>(0,0,0,0),hv,Nat.zero_le _,fun h=>by omega,fun i h=>by omega,fun i h=>by omega⟩
 ·have hv:Value.slice a' len' cap'= .slice (some a) len cap:=by simpa [Value.cells] using hcs
  have hlm:len≤m:=by rw [hmm];split<;>omega
  have each:∀i,∃x:Dd,i < len→(w.cell? (a.add (i*4))=some (.int .u8 x.1)∧w.cell? ((a.add (i*4)).add 1)=some (.int .i64 x.2.1)∧w.cell? ((a.add (i*4)).add 2)=some (.int .i64 x.2.2.1)∧w.cell? ((a.add (i*4)).add 3)=some (.int .u64 x.2.2.2))∧wfL x:=by
   intro i
   by_cases hil:i < len
   ·obtain⟨cs',hc,ht'⟩:=hi i (by omega)
    rw [hC] at hc
    obtain⟨ys,n',hn',hy,hlen,hyl,hg⟩:=DataW.trod_struct he ht'
    simp only [List.size_toArray,List.length_cons,List.length_nil] at hyl
    obtain⟨_,hcl,hat⟩:=World.cells?_some hc
    have t0:=hg 0 f0 rfl
    have t1:=hg 1 f1 rfl
    have t2:=hg 2 f2 rfl
    have t3:=hg 3 f3 rfl
    rw [o0,c0,List.getElem?_eq_getElem (by omega)] at t0
    rw [o1,c1,List.getElem?_eq_getElem (by omega)] at t1
    rw [o2,c2,List.getElem?_eq_getElem (by omega)] at t2
    rw [o3,c3,List.getElem?_eq_getElem (by omega)] at t3
    obtain⟨x0,e0,_,w0⟩:=DataW.trod_int k0 t0
    obtain⟨x1,e1,_,w1⟩:=DataW.trod_int k1 t1
    obtain⟨x2,e2,_,w2⟩:=DataW.trod_int k2 t2
    obtain⟨x3,e3,_,w3⟩:=DataW.trod_int k3 t3
    have e0:=cut_one e0
    have e1:=cut_one e1
    have e2:=cut_one e2
    have e3:=cut_one e3
    refine⟨(x0,x1,x2,x3),fun _=>⟨⟨?_,?_,?_,?_⟩,(byte_of18 w0).1,isJ_of w1,isJ_of w2,word_of18 w3⟩⟩
    ·have h0:=hat 0 (by omega)
     rw [e0] at h0
     have:a.add (i*4)=(a.add (i*4)).add 0:=by
      unfold Addr.add
      simp
     rw [this]
     exact h0
    ·rw [hat 1 (by omega),e1]
    ·rw [hat 2 (by omega),e2]
    ·rw [hat 3 (by omega),e3]
   ·exact⟨(0,0,0,0),fun h=>absurd h hil⟩
  obtain⟨G,hG⟩:=Classical.axiomOfChoice each
  by_cases h0:0 < len
  ·obtain⟨⟨c0,_⟩,_⟩:=hG 0 h0
   have ha0:a.add (0*4)=a:=by
    unfold Addr.add
    simp
   rw [ha0] at c0
   obtain⟨b,off,rfl,hbl⟩:=spot_none c0
   refine⟨_,b,off,len,cap,G,hv,by omega,fun _=>⟨rfl,hbl⟩,fun i hil=>?_,fun i hil=>(hG i hil).2⟩
   obtain⟨⟨g0,g1,g2,g3⟩,_⟩:=hG i hil
   simp only [Addr.add_lit] at g0 g1 g2 g3
   exact⟨g0,g1,g2,g3⟩
  ·exact⟨some a,0,0,len,cap,G,hv,by omega,fun h=>absurd h h0,fun i hil=>by omega,fun i hil=>by omega⟩
end
end Go.Proofs.YtcgjbllmoglhfaaDoor
namespace Go.Proofs.YtcgjbllmoglhfaaDoor
open Go.RowKit
def TabOk (w:World):Prop:=∀j,j < 64→w.cell? ⟨0,j,none⟩=some (.int .u8 (Lib.deBruijn64tab.getD j 0))
theorem TabOk.below {n:Nat} {w w':World} (h:TabOk w) (hb:Below n w w') (hn:0 < n):TabOk w':=fun j hj=>by
 rw [hb.cell (p:=⟨0,j,none⟩) hn]
 exact h j hj
theorem TabOk.drewN {w:World} (h:TabOk w) (n:Nat):TabOk (w.drewN n):=h
theorem TabOk.lt {w:World} (h:TabOk w):0 < w.heap.size:=by
 have h0:=h 0 (by decide)
 unfold World.cell? at h0
 refine Nat.lt_of_not_le fun hle=>?_
 rw [Array.getElem?_eq_none hle] at h0
 simp at h0
theorem TabOk.same {w w':World} (h:TabOk w) (hs:w'.heap[0]?=w.heap[0]?):TabOk w':=fun j hj=>by
 have:=h j hj
 unfold World.cell? at this ⊢
 rw [hs]
 exact this
theorem TabOk.turned {X:List Nat} {w w':World} (h:TabOk w) (t:Turned X w w') (hX:0 ∉ X):TabOk w':=h.same (t.block _ h.lt hX)
end Go.Proofs.YtcgjbllmoglhfaaDoor
namespace Go.Proofs.YtcgjbllmoglhfaaDoor
open Go.ChangeShapes Go.WideShapes Go.ChangeAt Go.RowKit Go.Deep
def tabZ:List Int:=Lib.deBruijn64tab.map fun n:Nat=>(n:Int)
abbrev laidT:List (String×DataW Unit):=[("math/bits.deBruijn64tab",Rows.laid_math_bits_deBruijn64tab)]
theorem tab_data:(Rows.laid_math_bits_deBruijn64tab:DataW Unit)=Lib.tabData .u8 tabZ:=by kernel_rfl
theorem gTab:Tryd.prog.globalNamed "math/bits.deBruijn64tab" =some 0:=by kernel_rfl
theorem gTabType:(Tryd.prog.globals[0]?).map (·.type)=some 79:=by kernel_rfl
theorem cellsB:Tryd.prog.cellsOf 5=1:=by kernel_rfl
theorem cellsT:Tryd.prog.cellsOf 79=64:=by kernel_rfl
theorem tab_len:Lib.deBruijn64tab.length=64:=by decide+kernel
theorem tab_of_laid {W:World} (h:laidMetH Tryd.prog laidT W):TabOk W:=by
 rw [MakeChecks.laidMetH_plain _ _ _ (by kernel_rfl)] at h
 unfold laidT at h
 rw [tab_data] at h
 have hT:=Lib.tabIs_of_head gTab gTabType Tryd.underlying79 Tryd.underlying5 cellsB cellsT h
 intro j hj
 have hc:=hT.cell gTab j (by simp [tabZ,tab_len];exact hj)
 rw [hc]
 have hj':j < Lib.deBruijn64tab.length:=by rw [tab_len];exact hj
 simp [tabZ,List.getD_eq_getElem?_getD,hj']
theorem door_met (os:Os) (args:Array Value):laidMetH Tryd.prog laidT ((World.doorLaid Tryd.prog 14 os).forCall (fun _ _=>0) ⟨#[],args,[]⟩).memory:=
 laidMetH_of_parts3 (fuel:=8) (laidMet_of_run' 8 (by kernel_rfl) (by kernel_rfl)) (by kernel_rfl) (by kernel_rfl)
end Go.Proofs.YtcgjbllmoglhfaaDoor
