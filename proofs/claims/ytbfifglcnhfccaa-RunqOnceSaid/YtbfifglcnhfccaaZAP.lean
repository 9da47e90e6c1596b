/-
  Bytes and arrays by value, opened.
  A queue whose tasks are numbered, in memory; the tasks' V's.
-/
import Derived.Test.YtbfifglcnhfccaaZAG
import Derived.Test.YtbfifglcnhfccaaZAH
import Derived.Test.YtbfifglcnhfccaaZAO
import Derived.Test.YtbfifglcnhfccaaZAl
set_option maxRecDepth 100000
set_option maxHeartbeats 25600000
namespace Go.Proofs.Ytbfifglcnhfccaa
open Go.ChangeShapes Go.WideShapes Go.ChangeAt Go.RowKit Go.Deep
section
variable {H:Type} {enc:TypeId×Value→H} {P:Program}
variable {w:World} {base:Nat} {spare:Nat→Bool} {held:Bool}
theorem open_u8s {t e:TypeId} (ht:P.underlying t=some (.slice e)) (he:P.underlying e=some (.int .u8)) (hC:P.cellsOf e=1)
  {v:Value} {d:DataW H} {p:List MemPlace} {r:Reach} {b0:Nat} (hok:Value.okWide P w r b0 t v) (h:DataW.Trod enc P w base spare held t v d p):
  ∃(ao:Option Addr) (b off n cap:Nat) (F:Nat→Int),v= .slice ao n cap∧n≤maxLen∧(0 < n→ao=some ⟨b,off,none⟩∧b < w.heap.size)∧
   (∀i,i < n→w.cell? ⟨b,off+i,none⟩=some (.int .u8 (F i)))∧(∀i,i < n→0≤F i∧F i≤255):=by
 obtain⟨fuel,hf⟩:=h
 obtain⟨a',len',cap',rfl⟩:=okWide_slice ht hok
 rcases open_slice ht hf with⟨hcs,_⟩ |⟨a,len,cap,m,n,D,Pl,hcs,hb,hl,hm,hmm,hx,hi⟩
 ·have hv:Value.slice a' len' cap'= .slice none 0 0:=by simpa [Value.cells] using hcs
  exact⟨none,0,0,0,0,fun _=>0,hv,Nat.zero_le _,fun h=>by omega,fun i h=>by omega,fun i h=>by omega⟩
 ·have hv:Value.slice a' len' cap'= .slice (some a) len cap:=by simpa [Value.cells] using hcs
  have hlm:len≤m:=by rw [hmm];split<;>omega
  have each:∀i,∃x:Int,i < len→w.cell? (a.add i)=some (.int .u8 x)∧(Lit.int .u8 x).wf=true:=by
   intro i
   by_cases hil:i < len
   ·obtain⟨cs',hc,ht'⟩:=hi i (by omega)
    rw [hC,Nat.mul_one] at hc
    obtain⟨x,e0,_,w0⟩:=DataW.trod_int he ht'
    obtain⟨_,hcl,hat⟩:=World.cells?_some hc
    refine⟨x,fun _=>⟨?_,w0⟩⟩
    have h0:=hat 0 (by omega)
    rw [e0] at h0
    have:a.add i=(a.add i).add 0:=by
     unfold Addr.add
     simp
    rw [this]
    exact h0
   ·exact⟨0,fun h=>absurd h hil⟩
  obtain⟨G,hG⟩:=Classical.axiomOfChoice each
  by_cases h0:0 < len
  ·obtain⟨c0,_⟩:=hG 0 h0
   have ha0:a.add 0=a:=by
    unfold Addr.add
    simp
   rw [ha0] at c0
   obtain⟨b,off,rfl,hbl⟩:=spot_none c0
   refine⟨_,b,off,len,cap,G,hv,by omega,fun _=>⟨rfl,hbl⟩,fun i hil=>?_,fun i hil=>u8_low (hG i hil).2⟩
   have g0:=(hG i hil).1
   simp only [Addr.add_lit] at g0
   exact g0
  ·exact⟨some a,0,0,len,cap,G,hv,by omega,fun h=>absurd h h0,fun i hil=>by omega,fun i hil=>by omega⟩
theorem open_arr {k0:IntKind} {r:Reach} {b0:Nat} {t e:TypeId} {n:Nat} {v:Value} {d:DataW H} {p:List MemPlace} (ht:P.underlying t=some (.array n e)) (he:P.underlying e=some (.int k0)) (hC:P.cellsOf t=n) (hE:P.cellsOf e=1)
  (hv:Value.okWide P w r b0 t v) (h:DataW.Trod enc P w base spare held t v d p):
  ∃xs:List Int,xs.length=n∧v= .agg ⟨xs.map (Value.int k0)⟩∧d= .agg (xs.map fun x=>DataW.lit (.int k0 x))∧p=[]∧∀x ∈ xs,(Lit.int k0 x).wf=true:=by
 obtain⟨cs,rfl,hsz⟩:∃cs,v= .agg cs∧cs.size=P.cellsOf t:=by
  have hv':=hv
  simp [Value.okWide,ht] at hv'
  obtain⟨cs,h1,h2,_⟩:=hv'
  exact⟨cs,h1,h2⟩
 obtain⟨l⟩:=cs
 obtain⟨fuel,hf⟩:=h
 obtain⟨ys,m,_,hx,hlen,hyl,hg⟩:=DataW.trod_array ht hf
 have hl:l.length=n:=by simpa [hC] using hsz
 have each:∀i,i < n→∃x:Int,l[i]?=some (.int k0 x)∧ys[i]?=some (.lit (.int k0 x),[])∧(Lit.int k0 x).wf=true:=by
  intro i hi
  have hyi:ys[i]?=some (ys[i]'(by omega)):=List.getElem?_eq_getElem (by omega)
  have hli:l[i]?=some (l[i]'(by omega)):=List.getElem?_eq_getElem (by omega)
  have h1:=hg i hi
  rw [hE,hyi] at h1
  have hone:((l.drop (i*1)).take 1)=[l[i]'(by omega)]:=by
   rw [Nat.mul_one,List.drop_eq_getElem_cons (by omega)]
   rfl
  have h2:DataW.trod enc P w base spare held m e ((l.drop (i*1)).take 1)=some (ys[i]'(by omega)):=h1
  rw [hone] at h2
  obtain⟨x,hx1,hx2,hx3⟩:=DataW.trod_int he h2
  simp only [List.cons.injEq,and_true] at hx1
  exact⟨x,by rw [hli,hx1],by rw [hyi,hx2],hx3⟩
 have whole:∀(k:Nat) (l':List Value) (ys':List (DataW H×List MemPlace)),l'.length=k→ys'.length=k→(∀i,i < k→∃x:Int,l'[i]?=some (.int k0 x)∧ys'[i]?=some (.lit (.int k0 x),[])∧(Lit.int k0 x).wf=true)→
   ∃xs:List Int,xs.length=k∧l'=xs.map (Value.int k0)∧ys'=xs.map (fun x=>(DataW.lit (.int k0 x),[]))∧∀x ∈ xs,(Lit.int k0 x).wf=true:=by
  intro k
  induction k with
  |zero=>
   intro l' ys' a b _
   exact⟨[],rfl,List.length_eq_zero_iff.1 a,List.length_eq_zero_iff.1 b,fun x hx=>by cases hx⟩
  |succ k ih=>
   intro l' ys' a b c
   match l',ys',a,b with
   |v0::l1,y0::ys1,a,b=>
    obtain⟨x,c1,c2,c3⟩:=c 0 (by omega)
    simp only [List.getElem?_cons_zero,Option.some.injEq] at c1 c2
    obtain⟨xs,d1,d2,d3,d4⟩:=ih l1 ys1 (by simpa using a) (by simpa using b) (fun i hi=>by simpa using c (i+1) (by omega))
    refine⟨x::xs,by simp [d1],by simp [c1,d2],by simp [c2,d3],?_⟩
    intro z hz
    rcases List.mem_cons.1 hz with e|e
    ·rw [e];exact c3
    ·exact d4 z e
 obtain⟨xs,e1,e2,e3,e4⟩:=whole n l ys hl hyl each
 simp only [Prod.mk.injEq] at hx
 refine⟨xs,e1,by rw [e2],?_,?_,e4⟩
 ·rw [hx.1,e3,List.map_map]
  rfl
 ·rw [hx.2,e3]
  clear hx e1 e2 e3 e4
  induction xs with
  |nil=>rfl
  |cons z zs ih=>simp
end
end Go.Proofs.Ytbfifglcnhfccaa
namespace Go.Proofs.Ytbfifglcnhfccaa
open Go.RowKit
structure PlyQ (S:RqSaid) (w W:World) (b:Nat) (X:List Nat) (q:Rq) (k:Nat) (ws:Nat→Int) (B c:Int):Prop where
 at_:S.At W b X q
 ok:QOk q c
 lag:Lag q B
 row:Row q k ws
 t:Turned [] w W
 lx:∀j ∈ X,w.heap.size≤j
section
variable {S:RqSaid} {w W W':World} {b:Nat} {X X':List Nat} {q:Rq} {k:Nat} {ws:Nat→Int} {B c:Int}
theorem PlyQ.later (h:PlyQ S w W b X q k ws B c) (t:Turned [] W W'):PlyQ S w W' b X q k ws B c:=
 ⟨S.keep0 h.at_ t,h.ok,h.lag,h.row,h.t.trans t (Newer.refl _ _),h.lx⟩
theorem PlyQ.low (h:PlyQ S w W b X q k ws B c) (n:Newer X W.heap.size X'):∀j ∈ X',w.heap.size≤j:=fun j hj=>by
 rcases n j hj with h1|h1
 ·exact h.lx j h1
 ·have:=h.t.size;omega
theorem PlyQ.add (h:PlyQ S w W b X q k ws B c) (hB:B≤9223372036854775808) (hk:k < 16) {v:Int} (hv:Word v) (a:S.At W' b X' (q.add k v (ws k))) (t:Turned X W W') (n:Newer X W.heap.size X'):PlyQ S w W' b X' (q.add k v (ws k)) (k+1) ws B c:=
 ⟨a,h.ok.add k hv (ws k),h.lag.add hB k v (ws k),h.row.add hk v,h.t.trans t (fun j hj=> .inr (h.lx j hj)),h.low n⟩
theorem PlyQ.go (h:PlyQ S w W b X q k ws B c) (hB:B≤9223372036854775808) (a:S.At W' b X' q.go) (t:Turned X W W') (n:Newer X W.heap.size X'):PlyQ S w W' b X' q.go k ws (B+17592186044416) (c+1):=
 ⟨a,h.ok.go,(h.lag.go h.ok.ran.1 hB).1,h.row.go h.lag h.ok.ran.1 hB,h.t.trans t (fun j hj=> .inr (h.lx j hj)),h.low n⟩
theorem PlyQ.addE (h:PlyQ S w W b X q k ws B c) (hk:k < 16):addE q k=0:=by
 unfold Go.Proofs.Ytbfifglcnhfccaa.addE
 rw [h.row.fresh,if_neg (by omega),if_neg (by simp),if_neg (by have:=h.row.len;omega)]
def vAt (q:Rq) (i:Nat):Int:=((q.l[i]?).map (fun x=>x.2.1)).getD 0
theorem PlyQ.vv (h:PlyQ S w W b X q k ws B c) {i:Nat} (hi:i < k):remV q i=vAt q i∧(findQ q.l i).isSome=true:=by
 have hl:i < q.l.length:=by have:=h.row.len;omega
 have e:=find_at h.ok.uniq hl (h.row.at_ i hl).1
 unfold remV vAt
 rw [e,List.getElem?_eq_getElem hl]
 exact⟨rfl,rfl⟩
theorem PlyQ.word (h:PlyQ S w W b X q k ws B c) {i:Nat} (hi:i < k):Word (vAt q i):=by
 have hl:i < q.l.length:=by have:=h.row.len;omega
 unfold vAt
 rw [List.getElem?_eq_getElem hl]
 exact h.ok.v _ (List.getElem_mem hl)
theorem PlyQ.pays (h:PlyQ S w W b X q k ws B c) (hB:B≤9223372036854775808) {i:Nat} (hi:i < k):vAt q.go i=vAt q i+(if q.who=i then coreR (ws i) else 0):=by
 have hl:i < q.l.length:=by have:=h.row.len;omega
 have hg:i < q.go.l.length:=by have:=(h.row.go h.lag h.ok.ran.1 hB).len;omega
 unfold vAt
 rw [List.getElem?_eq_getElem hl,List.getElem?_eq_getElem hg]
 exact h.row.pays h.lag h.ok.ran.1 hB hl hg
theorem PlyQ.who (h:PlyQ S w W b X q k ws B c) (hk:0 < k):0≤q.who∧q.who < k:=h.row.who h.lag h.ok.ran.1 hk
theorem PlyQ.nobody (h:PlyQ S w W b X q 0 ws B c):q.who= -1:=by
 have hn:=who_none h.lag (List.eq_nil_of_length_eq_zero h.row.len)
 exact (h.ok.go1.idle hn).1
end
theorem PlyQ.grow {S:RqSaid} {w V V1 V2:World} {b:Nat} {X:List Nat} {q:Rq} {k:Nat} {ws:Nat→Int} {B c:Int} (h:PlyQ S w V b X q k ws B c) {N n:Nat} {e:TypeId} {v:Value} {xs:List Value} (he:S.tn e=false) (hr:V.ownsRow N e 1 v n xs) (hX:∀j ∈ X,j < N) (hw:w.heap.size≤N) (tV:Turned [] V V1) (hg:V1.grownBy V2 v.ownBlock):PlyQ S w V2 b X q k ws B c:=by
 have hT:Turned v.ownBlock.toList V V2:=Turned.grown (tV.mono (fun k hk=>by simp at hk)) hg (fun k hk=> .inl (by simp [hk]))
 refine⟨S.keep h.at_ hT (fun j hj hk=>?_) (fun j hj cs t fz ho=>?_),h.ok,h.lag,h.row,h.t.trans hT (fun j hj=> .inr ?_),h.lx⟩
 ·have:=(hr.lt j (by simpa using hk)).1
  have:=hX j hj
  omega
 ·obtain⟨cur,hc⟩:=ownsRow_type hr j hj
  rw [hc] at ho
  simp only [Option.some.injEq,Obj.cells.injEq] at ho
  rw [←ho.2.1]
  exact he
 ·have:=(hr.lt j (by simpa using hj)).1
  omega
theorem ply_new (S:RqSaid) {w W W':World} {b:Nat} {X:List Nat} {g:Int} (ws:Nat→Int) (a:S.At W' b X (Rq.new g)) (hT:Turned [] w W) (t:Turned [] W W') (n:∀k ∈ X,W.heap.size≤k):PlyQ S w W' b X (Rq.new g) 0 ws 0 8:=
 ⟨a,QOk.new g,Lag.start g,Row.new g ws,hT.trans t (Newer.refl _ _),fun j hj=>Nat.le_trans hT.size (n j hj)⟩
end Go.Proofs.Ytbfifglcnhfccaa
