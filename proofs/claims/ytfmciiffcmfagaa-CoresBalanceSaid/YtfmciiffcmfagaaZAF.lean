/-
  Bytes and arrays by value, opened.
  CoresBalance: what the law needs to know; no program.
  squares: the sum of the squares of a row of loads.
  CoresBalance: the walk, given what is said of the program's cores.
  CoresBalance's row, given what is said of the program's cores.
-/
import Derived.Test.YtfmciiffcmfagaaZAC
import Derived.Test.YtfmciiffcmfagaaZAl
set_option maxRecDepth 100000
set_option maxHeartbeats 25600000
namespace Go.Proofs.Ytfmciiffcmfagaa
open Go.ChangeShapes Go.WideShapes Go.ChangeAt Go.RowKit Go.Deep
section
variable {H:Type} {enc:TypeId×Value→H} {P:Program}
variable {w:World} {base:Nat} {spare:Nat→Bool} {held:Bool}
theorem open_u8s {t e:TypeId} (ht:P.underlying t=some (.slice e)) (he:P.underlying e=some (.int .u8)) (hC:P.cellsOf e=1)
  {v:Value} {d:DataW H} {p:List MemPlace} {r:Reach} {b0:Nat} (hok:Value.okWide P w r b0 t v) (h:DataW.Trod enc P w base spare held t v d p):
  ∃(ao:Option Addr) (b off n cap:Nat) (F:Nat→Int),v= .slice ao n cap∧n≤maxLen∧(0 < n→ao=some ⟨b,off,none⟩∧b < w.heap.size)∧
   (∀i,i < n→w.cell? ⟨b,off+i,none⟩=some (.int .u8 (F i)))∧(∀i,i < n→0≤F i∧F i≤255):=by
 obtain⟨fuel,hf⟩:=h
 obtain⟨a',len',cap',rfl⟩:=okWide_slice ht hok
 rcases open_slice ht hf with⟨hcs,_⟩ |⟨a,len,cap,m,n,D,Pl,hcs,hb,hl,hm,hmm,hx,hi⟩
 ·have hv:Value.slice a' len' cap'= .slice none 0 0:=by simpa [Value.cells] using hcs
  exact⟨none,0,0,0,0,fun _=>0,hv,Nat.zero_le _,fun h=>by omega,fun i h=>by omega,fun i h=>by omega⟩
 ·have hv:Value.slice a' len' cap'= .slice (some a) len cap:=by simpa [Value.cells] using hcs
  have hlm:len≤m:=by rw [hmm];split<;>omega
  have each:∀i,∃x:Int,i < len→w.cell? (a.add i)=some (.int .u8 x)∧(Lit.int .u8 x).wf=true:=by
   intro i
   by_cases hil:i < len
   ·obtain⟨cs',hc,ht'⟩:=hi i (by omega)
    rw [hC,Nat.mul_one] at hc
    obtain⟨x,e0,_,w0⟩:=DataW.trod_int he ht'
    obtain⟨_,hcl,hat⟩:=World.cells?_some hc
    refine⟨x,fun _=>⟨?_,w0⟩⟩
    have h0:=hat 0 (by omega)
    rw [e0] at h0
    have:a.add i=(a.add i).add 0:=by
     unfold Addr.add
     simp
    rw [this]
    exact h0
   ·exact⟨0,fun h=>absurd h hil⟩
  obtain⟨G,hG⟩:=Classical.axiomOfChoice each
  by_cases h0:0 < len
  ·obtain⟨c0,_⟩:=hG 0 h0
   have ha0:a.add 0=a:=by
    unfold Addr.add
    simp
   rw [ha0] at c0
   obtain⟨b,off,rfl,hbl⟩:=spot_none c0
   refine⟨_,b,off,len,cap,G,hv,by omega,fun _=>⟨rfl,hbl⟩,fun i hil=>?_,fun i hil=>u8_low (hG i hil).2⟩
   have g0:=(hG i hil).1
   simp only [Addr.add_lit] at g0
   exact g0
  ·exact⟨some a,0,0,len,cap,G,hv,by omega,fun h=>absurd h h0,fun i hil=>by omega,fun i hil=>by omega⟩
end
end Go.Proofs.Ytfmciiffcmfagaa
namespace Go.Proofs.Ytfmciiffcmfagaa
section
variable {l:List Rq} {c n m:Int}
theorem addC_len (l:List Rq) (core id v w:Int):(addC l core id v w).length=l.length:=by
 unfold addC
 split
 ·rw [List.length_modify]
 ·rfl
structure LowC (l:List Rq) (n m:Int):Prop where
 ids:∀q ∈ l,∀x ∈ q.l,x.1 < n
 wts:∀q ∈ l,∀x ∈ q.l,x.2.2≤m
theorem LowC.new (n g m:Int):LowC (newC n g) 0 m:=⟨fun q hq x hx=>(by rw [newC_mem hq] at hx;cases hx),fun q hq x hx=>(by rw [newC_mem hq] at hx;cases hx)⟩
theorem add_mem2 {q:Rq} {id v w:Int} {x:Int×Int×Int} (h:x ∈ (q.add id v w).l):x ∈ q.l∨(x.1=id∧x.2.2=bringR w 1 4096):=by
 unfold Rq.add at h
 split at h
 ·exact .inl h
 ·rcases List.mem_append.1 h with h|h
  ·exact .inl h
  ·rw [List.mem_singleton.1 h]
   exact .inr ⟨rfl,rfl⟩
theorem bring_low {w m:Int} (h1:1≤m) (h2:w≤m):bringR w 1 4096≤m:=by
 unfold bringR
 repeat' split
 all_goals omega
theorem LowC.add (h:LowC l n m) (core v w:Int) {n':Int} (hn:n < n') {id:Int} (hid:id=n) (h1:1≤m) (h2:w≤m):LowC (addC l core id v w) n' m:=by
 have old:LowC l n' m:=⟨fun q hq x hx=>by have:=h.ids q hq x hx;omega,h.wts⟩
 unfold addC
 split
 ·refine⟨fun q hq x hx=>?_,fun q hq x hx=>?_⟩
  ·obtain⟨i,hi⟩:=List.mem_iff_getElem?.1 hq
   by_cases hik:core.toNat=i
   ·subst hik
    rw [modify_same] at hi
    obtain⟨q0,h3,rfl⟩:=Option.map_eq_some_iff.1 hi
    rcases add_mem2 hx with e|⟨e,_⟩
    ·exact old.ids q0 (mem_at h3) x e
    ·omega
   ·rw [modify_other hik] at hi
    exact old.ids q (mem_at hi) x hx
  ·obtain⟨i,hi⟩:=List.mem_iff_getElem?.1 hq
   by_cases hik:core.toNat=i
   ·subst hik
    rw [modify_same] at hi
    obtain⟨q0,h3,rfl⟩:=Option.map_eq_some_iff.1 hi
    rcases add_mem2 hx with e|⟨_,e⟩
    ·exact old.wts q0 (mem_at h3) x e
    ·rw [e]
     exact bring_low h1 h2
   ·rw [modify_other hik] at hi
    exact old.wts q (mem_at hi) x hx
 ·exact old
theorem LowC.none (h:LowC l n m) {id:Int} (hid:n≤id):ofN l id=none:=by
 cases ho:ofN l id with
 |none=>rfl
 |some k=>
  obtain⟨q,hq,hf,_⟩:=ofN_some ho
  obtain⟨x,hx⟩:=Option.isSome_iff_exists.1 hf
  have:=h.ids q (mem_at hq) _ (findQ_mem hx)
  dsimp only at this
  omega
theorem LowC.ok (h:LowC l n m) {core id:Int} (h1:0≤core) (h2:core < l.length) (h3:0≤id) (h4:n≤id) (h5:allC l < 16):addCE l core id=0:=by
 unfold addCE
 have:ofC l id= -1:=by unfold ofC;rw [h.none h4]
 rw [this,if_neg (by omega),if_neg (by omega),if_neg (by omega)]
theorem addC_all (l:List Rq) (core id v w:Int):allC (addC l core id v w)≤allC l+1:=by
 unfold addC
 split
 ·cases hk:l[core.toNat]? with
  |none=>
   rw [List.modify_eq_self (by simpa using hk)]
   omega
  |some q=>
   have h1:=allC_modify (fun q=>q.add id v w) hk
   have h2:=add_len q id v w
   omega
 ·omega
theorem newC_all (n g:Int):allC (newC n g)=0:=by
 have:∀m,allC (List.replicate m (Rq.new g))=0:=fun m=>by
  induction m with
  |zero=>rfl
  |succ m ih=>
   rw [List.replicate_succ,allC_cons,ih]
   rfl
 exact this _
theorem sum_low:∀ {t:List (Int×Int×Int)} {m:Int},0≤m→(∀x ∈ t,1≤x.2.2∧x.2.2≤m)→0≤sumR (t.map (·.2.2))∧sumR (t.map (·.2.2))≤m*t.length
 |[],m,_,_=>by simp [sumR]
 |y::t,m,hm,h=>by
  have ih:=sum_low (t:=t) hm fun x hx=>h x (List.mem_cons_of_mem _ hx)
  have hy:=h y (by simp)
  have e0:sumR ((y::t).map (·.2.2))=y.2.2+sumR (t.map (·.2.2)):=by simp [sumR]
  rw [e0,List.length_cons,Int.natCast_add,Int.mul_add]
  omega
theorem load_low (h:COk l c) (hl:LowC l n 255) (i:Nat):0≤loadAt l i∧loadAt l i≤4080:=by
 unfold loadAt
 cases hi:l[i]? with
 |none=>simp
 |some q=>
  have hq:=h.ok q (mem_at hi)
  have h1:=sum_low (t:=q.l) (m:=255) (by omega) fun x hx=>⟨(hq.wt x hx).1,hl.wts q (mem_at hi) x hx⟩
  have h2:=hq.len
  have h3:loadQ q=sumR (q.l.map (·.2.2)):=rfl
  simp only [Option.map_some,Option.getD_some]
  rw [h3]
  generalize sumR (q.l.map (·.2.2))=s at h1 ⊢
  omega
theorem load_any (h:COk l c) (i:Nat):0≤loadAt l i∧loadAt l i≤65536:=by
 unfold loadAt
 cases hi:l[i]? with
 |none=>simp
 |some q=>
  have hq:=h.ok q (mem_at hi)
  have h1:=sum_low (t:=q.l) (m:=4096) (by omega) hq.wt
  have h2:=hq.len
  have h3:loadQ q=sumR (q.l.map (·.2.2)):=rfl
  simp only [Option.map_some,Option.getD_some]
  rw [h3]
  generalize sumR (q.l.map (·.2.2))=s at h1 ⊢
  omega
def measC (l:List Rq):Int:=5*loadAt l (mostTo l l.length)+cntN (loadAt l) (loadAt l (mostTo l l.length)) l.length
theorem meas_low (h:COk l c) (hl:LowC l n 255):measC l≤20404:=by
 have h1:=load_low h hl (mostTo l l.length)
 have h2:=cnt_le (loadAt l) (loadAt l (mostTo l l.length)) l.length
 have h3:=h.len
 unfold measC
 omega
theorem meas_pos (h:COk l c):0≤measC l:=by
 have h1:=load_any h (mostTo l l.length)
 unfold measC
 omega
theorem ofN_at':∀ {l:List Rq} {id:Int} {k:Nat} {q:Rq},l[k]?=some q→(findQ q.l id).isSome=true→(∀(j:Nat) (r:Rq),j < k→l[j]?=some r→(findQ r.l id).isSome=false)→ofN l id=some k
 |[],id,k,q,h,_,_=>by cases h
 |r::l,id,0,q,h,h1,_=>by
  simp only [List.getElem?_cons_zero,Option.some.injEq] at h
  subst h
  unfold ofN
  rw [if_pos h1]
 |r::l,id,k+1,q,h,h1,h2=>by
  have h0:=h2 0 r (by omega) rfl
  have ih:=ofN_at' (l:=l) (id:=id) (k:=k) (q:=q) (by simpa using h) h1 fun j s hj hs=>h2 (j+1) s (by omega) (by simpa using hs)
  unfold ofN
  rw [if_neg (by rw [h0];exact Bool.false_ne_true),ih]
  rfl
theorem bal_of (h:COk l c) {id:Int} {k t:Nat} (hb:balC l=some (id,k,t)):ofC (balanceC l) id=t∧k≠t:=by
 obtain⟨q,x,hk,hx,ht,_,_,_,_,hkt,_⟩:=balC_some h hb
 have hf:(findQ q.l id).isSome=true:=by rw [hx];rfl
 obtain⟨g1,g2,g3⟩:=h.gone hk hf
 have eb:balanceC l=goC l id k t:=by
  unfold balanceC
  rw [hb]
 refine⟨?_,hkt⟩
 rw [eb,goC_eq hk hx]
 have hr:l[t]?=some l[t]:=List.getElem?_eq_getElem ht
 have hr':(l.modify k (fun q=>q.remove id))[t]?=some l[t]:=by rw [modify_other hkt,hr]
 have hid:=(h.ok q (mem_at hk)).ids _ (findQ_mem hx)
 dsimp only at hid
 have hno:=g2 _ (mem_at hr')
 have hlen:=allC_ge hr'
 unfold ofC
 rw [ofN_at' (k:=t) (q:=(l[t]).add id (satV ((l[t]).f+max 0 (x.1 - q.f))) x.2) (by rw [modify_same,hr'];rfl) ?_ fun j r hj hr2=>?_]
 ·rw [findQ_ids]
  unfold Rq.add
  rw [if_neg (by
   rintro (a|a|a)
   ·omega
   ·rw [hno] at a;cases a
   ·omega)]
  simp
 ·rw [modify_other (by omega)] at hr2
  exact g2 r (mem_at hr2)
end
end Go.Proofs.Ytfmciiffcmfagaa
namespace Go.Proofs.Ytfmciiffcmfagaa
open Go.RowKit
theorem psq_low {f:Nat→Int} (hf:∀i,0≤f i∧f i≤65536):∀n:Nat,0≤psq f n∧psq f n≤4294967296*n
 |0=>by simp [psq]
 |n+1=>by
  have ih:=psq_low hf n
  obtain⟨h1,h2⟩:=hf n
  have h3:0≤f n*f n:=Int.mul_nonneg h1 h1
  have h4:f n*f n≤65536*65536:=Int.mul_le_mul h2 h2 h1 (by omega)
  unfold psq
  omega
theorem squares_any {w:World} {g n cap:Nat} {f:Nat→Int} (hn:n≤4) (hf:∀i,0≤f i∧f i≤65536) (hc:∀i,i < n→w.cell? ⟨g,i,none⟩=some (.int .i64 (f i))):
  Calls Try.prog 9 #[.slice (some ⟨g,0,none⟩) n cap] w fun e w'=>e= .returned (.int .i64 (psq f n))∧w'=w:=by
 have HC:=xhd hc
 have HF:=xhd hf
 have HP:=xhd (psq_low hf)
 clear hc hf
 go_enter Try.func9,Try.ntmps9
 go_wp2
 go_loop [3,8] (fun s i=>∃k:Nat,i= .int .i64 k∧k≤n∧s= .int .i64 (psq f k)) (fun _ i=>n - (intOf i).toNat)
 case atStart=>exact⟨0,rfl,by omega,rfl⟩
 case round=>
  obtain⟨k,rfl,hk,rfl⟩:=hrel
  by_cases hlt:k < n
  ·have c0:=HC.out k hlt
   have i0:(0:Int)≤k:=by omega
   have i1:(k:Int) < n:=by omega
   obtain⟨h1,h2⟩:=HF.out k
   have h3:0≤f k*f k:=Int.mul_nonneg h1 h1
   have h4:f k*f k≤65536*65536:=Int.mul_le_mul h2 h2 h1 (by omega)
   have h5:=HP.out k
   have hs:psq f (k+1)=psq f k+f k*f k:=rfl
   have HS:=xhd hs
   generalize psq f k=s at h5 hs HS
   generalize f k=x at c0 h1 h2 h3 h4 hs HS
   obtain⟨y,hy⟩:∃y,x*x=y:=⟨_,rfl⟩
   have w1:IntKind.i64.wrap (x*x)=y:=by rw [hy] at h3 h4;rw [hy,IntKind.wrap_i64];omega
   have w2:IntKind.i64.wrap (s+y)=s+y:=by rw [hy] at h3 h4;rw [IntKind.wrap_i64];omega
   rw [hy] at h3 h4 hs HS
   clear hs hy h5
   go_wp2
   go_round
   case rel=>exact⟨k+1,by go_num,by omega,by rw [HS.out]⟩
   case measure=>simp [intOf];omega
  ·have hkn:k=n:=by omega
   subst hkn
   go_wp2
   go_ret
   exact⟨rfl,rfl⟩
theorem meas_next {l:List Rq} {c:Int} (h:COk l c) {x:Int×Nat×Nat} (hb:balC l=some x):measC (balanceC l) < measC l∧psq (loadAt (balanceC l)) (balanceC l).length < psq (loadAt l) l.length:=by
 obtain⟨_,h2,h3,h4⟩:=balance_less h hb
 unfold measC
 rw [h2]
 exact⟨by omega,h3⟩
theorem on_loads2 {S:RqSaid} {C:CoSaid S} {w V:World} {b:Nat} {l:List Rq} {c:Int} (h:CoOn S C w V b l) (hc:COk l c) (h1:c≤10000):
  Calls Try.prog 10 #[.pointer (some ⟨b,0,none⟩)] V fun e w'=>∃g cap,e= .returned (.slice (some ⟨g,0,none⟩) l.length cap)∧CoOn S C w w' b l∧
   Calls Try.prog 9 #[.slice (some ⟨g,0,none⟩) l.length cap] w' fun e w2=>e= .returned (.int .i64 (psq (loadAt l) l.length))∧w2=w':=
 (on_loads h hc h1).mono fun e w' hh=>by
   obtain⟨g,cap,e1,t,_,_,_,hcell⟩:=hh
   refine⟨g,cap,e1,h.keep t,squares_any hc.len.2 (fun i=>load_any hc i) fun i hi=>?_⟩
   have hq:l[i]?=some l[i]:=List.getElem?_eq_getElem hi
   rw [hcell i _ hq,loadAt_some hq]
theorem cobal_walk (S:RqSaid) (C:CoSaid S) (m each:Int) (ao:Option Addr) (lb off n cap:Nat) (F:Nat→Int) (w:World) (hm:isI m) (he:0≤each∧each≤255) (hao:0 < n→ao=some ⟨lb,off,none⟩∧lb < w.heap.size)
  (hF:∀i,i < n→w.cell? ⟨lb,off+i,none⟩=some (.int .u8 (F i))) (hW:∀i,i < n→0≤F i∧F i≤255) (hn:n≤maxLen):
  Calls Try.prog 3 #[.int .i64 m, .slice ao n cap, .int .u8 each] w fun r w'=>r= .returned (.bool true)∧Turned [] w w':=by
 unfold maxLen at hn
 have HF:=xhd hF
 have HAO:=xhd hao
 have HWf:=xhd hW
 have AW:=xhd (awake17 S C w)
 have HNP:=xhd (fun V=>on_new C m 1 V hm (by unfold isI;omega))
 obtain⟨rr,hrr⟩:∃r,each.tmod 4=r:=⟨_,rfl⟩
 have hr4:0≤rr∧rr≤3:=by
  rw [←hrr,Int.tmod_eq_emod_of_nonneg he.1]
  omega
 clear hF hao hW hm
 by_cases h16:16 < n
 ·have h16z:(16:Int) < (n:Int):=by omega
  go_enter Try.func3,Try.ntmps3
  go_wp2_with fail
  with_reducible refine AW.out.mono ?_
  rintro e w0 ⟨rfl,t0⟩
  have T0:=xhd t0
  clear t0
  go_wp2
  go_ret
  exact⟨rfl,T0.out⟩
 ·have h16z:¬(16:Int) < (n:Int):=by omega
  go_enter Try.func3,Try.ntmps3
  go_wp2_with fail
  with_reducible refine AW.out.mono ?_
  rintro e w0 ⟨rfl,t0⟩
  have T0:=xhd t0
  clear t0 AW
  go_wp2_with fail
  with_reducible refine (HNP.out _).mono ?_
  rintro e w1 ⟨b,rfl,a1⟩
  have A1:Hid (CoOn S C w w1 b (newC m 1)):=xhd (by
   obtain⟨X0,T,h1,h2,h3⟩:=a1
   exact⟨X0,T,h1,T0.out.also h2,fun k hk=>Nat.le_trans T0.out.size (h3 k hk)⟩)
  obtain⟨ln,hln⟩:∃k,(newC m 1).length=k:=⟨_,rfl⟩
  have hln4:=newC_len m 1
  have HLN0:=xhd hln
  rw [hln] at hln4
  clear a1 T0 HNP hln
  go_wp2_with fail
  go_loopw [28] (fun iv V=>∃(i:Nat) (l:List Rq),i≤n∧iv= .int .i64 i∧Hid (CoOn S C w V b l)∧Hid (COk l 8)∧Hid (IdsC l)∧Hid (LowC l i 255)∧Hid (allC l≤i)∧Hid (l.length=ln)) (fun iv _=>n - (intOf iv).toNat)
  case atStart=>exact⟨0,_,Nat.zero_le _,rfl,A1,xhd (cok_new m 1),xhd (IdsC.new m 1),xhd (LowC.new m 1 255),xhd (by rw [newC_all];omega),HLN0⟩
  case round=>
   clear A1
   obtain⟨i,l,hi,rfl,HA,HC,HI,HL,HN,HLE⟩:=hrel
   by_cases hlt:i < n
   ·obtain⟨rfl,hlb⟩:=HAO.out (by omega)
    have hcell:=HF.out i hlt
    have hwf:=HWf.out i hlt
    have hbb:=HA.out.t.below (B:=w.heap.size) (by simp) (Nat.le_refl _)
    rw [←hbb.cell (p:=⟨lb,off+i,none⟩) hlb] at hcell
    obtain⟨x,hx⟩:∃z,F i=z:=⟨_,rfl⟩
    rw [hx] at hcell hwf
    clear hx hbb
    have l0:(0:Int)≤i:=by omega
    have l1:(i:Int) < n:=by omega
    have HLT:Hid (i < n):=xhd hlt
    have i16:i < 16:=by omega
    have hxI:isI x:=by unfold isI;omega
    have hiI:isI i:=by unfold isI;omega
    have hiW:Word i:=⟨by omega,by omega⟩
    have PL:=xhd (on_len HA.out HC.out (by omega))
    rw [HLE.out] at PL
    have PA:Hid (∀V (at_:Int),CoOn S C w V b l→0≤at_→at_ < ln→Calls Try.prog 8 #[.pointer (some ⟨b,0,none⟩), .int .i64 at_, .int .i64 i, .int .u64 i, .int .i64 x] V fun e w'=>(∃y,e= .returned (.tuple #[y, .int .i64 0]))∧∃l',Hid (CoOn S C w w' b l')∧Hid (COk l' 8)∧Hid (IdsC l')∧Hid (LowC l' ((i+1:Nat):Int) 255)∧Hid (allC l'≤i+1)∧Hid (l'.length=ln)):=xhd fun V at_ hV h1 h2=>
     (on_add hV HC.out (by omega) at_ i i x (by unfold isI;omega) hiI hxI hiW).mono fun e w' hh=>by
       have he:=HL.out.ok (core:=at_) (id:=i) h1 (by rw [HLE.out];exact h2) l0 (Int.le_refl _) (by have:=HN.out;omega)
       rw [he] at hh
       exact⟨⟨_,hh.1⟩,addC l at_ i i x,xhd hh.2,xhd (HC.out.addC at_ i hiW x),xhd (HI.out.addC at_ hiI i x),xhd (HL.out.add at_ i x (by omega) rfl (by omega) hwf.2),xhd (by have:=addC_all l at_ i i x;have:=HN.out;omega),xhd (by rw [addC_len];exact HLE.out)⟩
    obtain⟨s,hs⟩:∃s,(i:Int).tmod (1+rr)=s:=⟨_,rfl⟩
    obtain⟨u,hu⟩:∃s,(i:Int).tmod ln=s:=⟨_,rfl⟩
    have hur:0≤u∧u < ln:=by
     rw [←hu,Int.tmod_eq_emod_of_nonneg l0]
     exact⟨Int.emod_nonneg _ (by omega),Int.emod_lt_of_pos _ (by omega)⟩
    have hd1:(1+rr)≠0:=by omega
    have hl0:(ln:Int)≠0:=by omega
    by_cases h0:s=0
    ·subst h0
     go_wp2_with fail
     with_reducible refine (PA.out _ 0 HA.out (by omega) (by omega)).mono ?_
     rintro e w2 ⟨⟨y,rfl⟩,l',H1,H2,H3,H4,H5,H6⟩
     go_wp2
     go_roundw
     case rel=>exact⟨i+1,l',by have:=HLT.out;omega,by go_num,H1,H2,H3,H4,H5,H6⟩
     case measure=>have:=HLT.out;simp [intOf];omega
    ·go_wp2_with fail
     with_reducible refine PL.out.mono ?_
     rintro e w2 ⟨rfl,t2⟩
     have HA2:=xhd (HA.out.keep t2)
     clear t2
     go_wp2_with fail
     with_reducible refine (PA.out _ u HA2.out hur.1 hur.2).mono ?_
     rintro e w2 ⟨⟨y,rfl⟩,l',H1,H2,H3,H4,H5,H6⟩
     go_wp2
     go_roundw
     case rel=>exact⟨i+1,l',by have:=HLT.out;omega,by go_num,H1,H2,H3,H4,H5,H6⟩
     case measure=>have:=HLT.out;simp [intOf];omega
   ·have hin:i=n:=by omega
    subst hin
    have HM0:Hid (measC l+((0:Nat):Int)≤20404):=xhd (by have:=meas_low HC.out HL.out;omega)
    have PLO:=xhd (on_loads2 HA.out HC.out (by omega))
    clear HL HN HLE HAO HF HWf
    go_wp2_with fail
    with_reducible refine PLO.out.mono ?_
    rintro e w2 ⟨g,cg,rfl,a2,sq⟩
    have HA2:=xhd a2
    have SQ:=xhd sq
    clear a2 sq PLO
    go_wp2_with fail
    with_reducible refine SQ.out.mono ?_
    rintro e w3 ⟨rfl,rfl⟩
    clear SQ HA
    go_wp2_with fail
    obtain⟨K,hK⟩:∃K:Nat,(K:Int)=20405:=⟨20405,rfl⟩
    have HK:=xhd hK
    clear hK
    go_loopw [13,61] (fun sm iv V=>∃(r:Nat) (l:List Rq),iv= .int .i64 r∧sm= .int .i64 (psq (loadAt l) l.length)∧Hid (CoOn S C w V b l)∧Hid (COk l 8)∧Hid (IdsC l)∧Hid (measC l+(r:Nat)≤20404)) (fun _ iv _=>K - (intOf iv).toNat)
    case atStart=>exact⟨0,l,rfl,rfl,HA2,HC,HI,HM0⟩
    case round=>
     clear HA2 HC HI HM0
     obtain⟨r,l,rfl,rfl,HA,HC,HI,HM⟩:=hrel
     have hr:(r:Int)≤20404:=by have:=HM.out;have:=meas_pos HC.out;omega
     have hrd:decide ((r:Int) < 100000)=true:=decide_eq_true (by omega)
     have hwr:IntKind.i64.wrap ((r:Int)+1)=(r:Int)+1:=by rw [IntKind.wrap_i64];omega
     have HR:=xhd hr
     clear hr
     have HB:=xhd (on_bal HA.out HC.out (by omega))
     cases hb:balC l with
     |none=>
      have e1:balV l=(-1, -1, -1):=by unfold balV;rw [hb]
      have e2:balanceC l=l:=by unfold balanceC;rw [hb]
      rw [hb,e1,e2] at HB
      dsimp only [Option.isSome_none] at HB
      have PLO:=xhd (fun V (hV:CoOn S C w V b l)=>on_loads2 hV HC.out (by omega))
      clear hb e1 e2
      generalize psq (loadAt l) l.length=sm at PLO ⊢
      go_wp2_with fail
      with_reducible refine HB.out.mono ?_
      rintro e w2 ⟨rfl,a2⟩
      have HA2:=xhd a2
      clear a2 HB
      go_wp2_with fail
      with_reducible refine (PLO.out _ HA2.out).mono ?_
      rintro e w3 ⟨g,cg,rfl,a3,sq⟩
      have HA3:=xhd a3
      have SQ:=xhd sq
      clear a3 sq
      go_wp2_with fail
      with_reducible refine SQ.out.mono ?_
      rintro e w4 ⟨rfl,rfl⟩
      go_wp2
      go_ret
      exact⟨rfl,HA3.out.t⟩
     |some z=>
      obtain⟨id,k,t⟩:=z
      obtain⟨hme,hsq⟩:=meas_next HC.out hb
      obtain⟨hof,hkt⟩:=bal_of HC.out hb
      have hid:isI id:=by
       obtain⟨q,y,hq,hy,_⟩:=balC_some HC.out hb
       exact HI.out q (mem_at hq) _ (findQ_mem hy)
      have e1:balV l=(id,(k:Int),(t:Int)):=by unfold balV;rw [hb]
      have PLO:=xhd (fun V (hV:CoOn S C w V b (balanceC l))=>on_loads2 hV HC.out.balanceC (by omega))
      have POF:=xhd (fun V (hV:CoOn S C w V b (balanceC l))=>on_of hV HC.out.balanceC (by omega) id hid)
      rw [hof] at POF
      rw [hb,e1] at HB
      dsimp only [Option.isSome_some] at HB
      have HC2:=xhd HC.out.balanceC
      have HI2:=xhd HI.out.balanceC
      have HM2:Hid (measC (balanceC l)+((r+1:Nat):Int)≤20404):=xhd (by have:=HM.out;omega)
      generalize balanceC l=l2 at HB PLO POF HC2 HI2 HM2 hsq
      have hktz:((k:Int) == (t:Int))=false:=by simp;omega
      have hge:¬psq (loadAt l) l.length≤psq (loadAt l2) l2.length:=by omega
      have HSQ2:Hid (∃y,psq (loadAt l2) l2.length=y):=xhd ⟨_,rfl⟩
      clear hb e1 hme hof hkt hsq HC HI HM hid
      generalize psq (loadAt l) l.length=sm at hge ⊢
      obtain⟨s2,hs2⟩:∃y,psq (loadAt l2) l2.length=y:=⟨_,rfl⟩
      have HS2:=xhd hs2
      rw [hs2] at PLO hge
      have hge2:decide (sm≤s2)=false:=decide_eq_false hge
      clear hs2 HSQ2
      go_wp2_with fail
      with_reducible refine HB.out.mono ?_
      rintro e w2 ⟨rfl,a2⟩
      have HA2:=xhd a2
      clear a2 HB
      go_wp2_with fail
      with_reducible refine (PLO.out _ HA2.out).mono ?_
      rintro e w3 ⟨g,cg,rfl,a3,sq⟩
      have HA3:=xhd a3
      have SQ:=xhd sq
      clear a3 sq
      go_wp2_with fail
      with_reducible refine SQ.out.mono ?_
      rintro e w4 ⟨rfl,rfl⟩
      go_wp2_with fail
      with_reducible refine (POF.out _ HA3.out).mono ?_
      rintro e w5 ⟨rfl,t5⟩
      have HA5:=xhd (HA3.out.keep t5)
      clear t5
      go_wp2
      go_roundw
      case rel=>exact⟨r+1,l2,by go_num,by rw [HS2.out],HA5,HC2,HI2,HM2⟩
      case measure=>have:=HK.out;have:=HR.out;simp [intOf];omega
end Go.Proofs.Ytfmciiffcmfagaa
namespace Go.Proofs.Ytfmciiffcmfagaa
open Go.ChangeShapes Go.WideShapes Go.ChangeAt Go.RowKit Go.Deep
theorem cobal_lifted (S:RqSaid) (C:CoSaid S) (os:Os) (started:os.Started) (H:Type) (enc:TypeId×Value→H):
  ReturnsInHanded {} Try.checked os 3 .any (Rows.coresBalanceSpec.pre6 enc Try.prog Try.f3 Rows.coresBalanceRow.domain false) (Rows.coresBalanceSpec.post enc Try.prog Try.f3 false true false false):=by
 refine returnsInHanded_of_change (C:=Try.checked) own started (by kernel_rfl) Try.func3
  (ChangeSpec.witness6 (enc:=enc) (C:=Try.checked) false ⟨#[], #[.int .i64 0, .slice none 0 0, .int .u8 0],[]⟩ 8 (by kernel_rfl) (by kernel_rfl) (by kernel_rfl) (by kernel_rfl)) ?_
 intro W base args ds gs before hval0 hW hcnd _
 have hval:∀(j:Nat) t v,Try.f3.params[j]?=some t→args[j]?=some v→Value.okWide Try.prog W .any base t v:=hval0
 have hW':=hW
 obtain⟨p,q,hA0,hV,rfl,hfz,hnd⟩:=hW
 have hA:DataW.TrodAll enc Try.prog W 0 (fun _=>true) true Try.f3.params.toList args.toList ds p:=hA0
 rw [Try.params3] at hA hval
 obtain⟨v0,v1,v2,d0,d1,d2,p0,p1,p2,rfl,rfl,rfl,h0,h1,h2⟩:=trodAll_three hA
 obtain⟨rfl,rfl⟩:=trodVars_none hV
 have h1k:=h1
 obtain⟨gr,rfl,rfl,rfl,w0⟩:=open_int Try.underlying3 (hval 0 3 v0 rfl rfl) h0
 obtain⟨m,rfl,rfl,rfl,w2⟩:=open_int Try.underlying5 (hval 2 5 v2 rfl rfl) h2
 obtain⟨ao,b,off,n,cap,F,rfl,hm,hao,hE,hWf⟩:=open_u8s Try.underlying22 Try.underlying5 (by kernel_rfl) (hval 1 22 v1 rfl rfl) h1
 clear hA0 hval0
 have hlt1:∀x ∈ p1,x.block < W.heap.size:=fun x hx=>hW'.lt x (by simp [hx])
 refine (cobal_walk S C gr m ao b off n cap F W (isI_of w0) (u8_low w2) hao hE hWf hm).mono fun e W' ⟨he,ht⟩=>?_
 have hb:Below W.heap.size W W':=ht.below (by simp) (Nat.le_refl _)
 subst he
 exact⟨_,rfl,post_law (pv:=[]) hW' hb (fun _ _ _=>trodAll_mk1 (shut_bool Try.underlying4 _))
  (trodAll_mk3 (shut_int Try.underlying3 w0) (Below.trod laidOut (by kernel_rfl) (of_decide_eq_true (by kernel_rfl)) h1k hb hlt1) (shut_int Try.underlying5 w2)) rfl⟩
theorem coresBalance_of (S:RqSaid) (C:CoSaid S):Rows.CoresBalanceSaid:=
 OpenClaim.holds_of_wide 3 Try.f3 rfl rfl rfl rfl rfl rfl rfl ⟨rfl,rfl,rfl,rfl,rfl⟩ rfl rfl rfl rfl rfl (by kernel_rfl) Try.func3 (by kernel_rfl)
  (of_decide_eq_true (by kernel_rfl)) (by unfold Func.isWrapper;first|(rw [if_pos (by decide+kernel)];kernel_rfl) |(rw [if_neg (by decide+kernel)];exact⟨rfl,rfl⟩))
  (fun os started H enc _=>cobal_lifted S C os started H enc)
end Go.Proofs.Ytfmciiffcmfagaa
