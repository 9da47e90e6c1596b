/-
  The document's Parse, of any words at any place.
  Rows of ints and of programs; what the document's Parse of setups holds in memory while it goes.
  The program reads several groups, several locks. (Made by gen_spsev.py.)
-/
import Derived.Test.YtbnhnnccioljhaaGreatDoorZBC
import Derived.Test.YtbnhnnccioljhaaGreatDoorZBD
import Derived.Test.YtbnhnnccioljhaaGreatDoorZAX
import Derived.Test.YtbnhnnccioljhaaGreatDoorZAH
import Derived.Test.YtbnhnnccioljhaaGreatDoorZAl
set_option maxRecDepth 100000
set_option maxHeartbeats 25600000
namespace Go.Proofs.YtbnhnnccioljhaaGreatDoor
open Go.RowKit
theorem rparse_out (ao:Option Addr) (cap:Nat) (L:List Wd) (at_:Int) (w:World) (h:at_ < 0∨(L.length:Int) < at_):
  Calls Tryz.prog 80 #[.slice ao L.length cap, .int .i64 at_] w (ParseP (parseR L at_) w):=by
 rw [parse_out h]
 obtain⟨n,hn⟩:∃n,L.length=n:=⟨_,rfl⟩
 rw [hn] at h ⊢
 have HST:=xhd (start_facts w false)
 obtain⟨R,hR⟩:∃R:Prg×Int×Int,((false,[]),0,5)=R:=⟨_,rfl⟩
 rw [hR]
 have HE:=xhd hR.symm
 clear hR hn
 rcases h with h|h
 ·go_enter Tryz.func80,Tryz.ntmps80
  go_wp2
  refine bodyPost_ret (prg_result2 rfl rfl rfl rfl HST.out.1) rfl ?_
  exact parse_bad HE.out HST.out.2.2.1
 ·have h2:¬at_ < 0:=by omega
  go_enter Tryz.func80,Tryz.ntmps80
  go_wp2
  refine bodyPost_ret (prg_result2 rfl rfl rfl rfl HST.out.1) rfl ?_
  exact parse_bad HE.out HST.out.2.2.1
theorem rparse_no (ao:Option Addr) (b off cap:Nat) (L:List Wd) (a:Nat) (w:World) (h:WArg w ao b off L) (hm:L.length≤100000) (ha:a≤L.length) (h1:isR L a 1 progB=false):
  Calls Tryz.prog 80 #[.slice ao L.length cap, .int .i64 a] w (ParseP (parseR L a) w):=by
 rw [parse_prog ha h1]
 have HA:=xhd h
 have his1:=fun W (hW:WArg W ao b off L)=>is_any ao b off cap L a 1 ⟨#[112,114,111,103]⟩ W hW hm
 obtain⟨n,hn⟩:∃n,L.length=n:=⟨_,rfl⟩
 simp only [h1,hn] at his1
 have HI1:=xhd his1
 rw [hn] at ha hm ⊢
 have HST:=xhd (start_facts w false)
 obtain⟨R,hR⟩:∃R:Prg×Int×Int,((false,[]),(a:Int),5)=R:=⟨_,rfl⟩
 rw [hR]
 have HE:=xhd hR.symm
 have hg1:¬(a:Int) < 0:=by omega
 have hg2:¬(n:Int) < a:=by omega
 clear hR hn his1 h h1
 go_enter Tryz.func80,Tryz.ntmps80
 go_wp2_with fail
 with_reducible refine (HI1.out _ (HA.out.below HST.out.2.2.1)).mono ?_
 rintro e w1 ⟨rfl,rfl⟩
 go_wp2
 refine bodyPost_ret (prg_result2 rfl rfl rfl rfl HST.out.1) rfl ?_
 exact parse_bad HE.out HST.out.2.2.1
theorem rparse_any (ao:Option Addr) (b off cap:Nat) (L:List Wd) (at_:Int) (w:World) (h:WArg w ao b off L) (hm:L.length≤100000):
  Calls Tryz.prog 80 #[.slice ao L.length cap, .int .i64 at_] w (ParseP (parseR L at_) w):=by
 by_cases hout:at_ < 0∨(L.length:Int) < at_
 ·exact rparse_out ao cap L at_ w hout
 ·obtain⟨a,rfl⟩:∃a:Nat,at_=a:=⟨at_.toNat,by omega⟩
  have ha:a≤L.length:=by omega
  cases h1:isR L a 1 progB with
  |false=>exact rparse_no ao b off cap L a w h hm ha h1
  |true=>
   cases h2:isR L (a+1) 1 foreverB with
   |true=>exact rparse_t ao b off cap L a w h hm ha h1 h2
   |false=>exact rparse_f ao b off cap L a w h hm ha h1 h2
end Go.Proofs.YtbnhnnccioljhaaGreatDoor
namespace Go.Proofs.YtbnhnnccioljhaaGreatDoor
open Go.RowKit
def gC (x:Int):List Value:=[.int .i64 x]
theorem gC_len (x:Int):(gC x).length=1:=rfl
theorem gC_one (x:Int):∀u ∈ gC x,u.oneCell'=true:=by
 intro u hu
 simp only [gC,List.mem_cons,List.not_mem_nil,or_false] at hu
 subst hu
 rfl
def pgC (x:Prg×Value):List Value:=[.bool x.1.1,x.2]
theorem pgC_len (x:Prg×Value):(pgC x).length=2:=rfl
theorem int_info:(Tryz.prog.info? 3).map (fun i=>(i.zero,i.size,i.bytes))=some (some (.int .i64 0),1,8):=by kernel_rfl
theorem prog_info:(Tryz.prog.info? 49).map (fun i=>(i.zero,i.size,i.bytes))=some (some (.agg #[.bool false, .slice none 0 0]),2,32):=by kernel_rfl
abbrev GRow (base:Nat) (w:World) (v:Value) (L:List Int):Prop:=w.ownsRow base 3 1 v L.length (cellsOf gC L)
abbrev PRow (base:Nat) (w:World) (v:Value) (L:List (Prg×Value)):Prop:=w.ownsRow base 49 2 v L.length (cellsOf pgC L)
theorem IArg.of_row {base:Nat} {w:World} {v:Value} {L:List Int} (h:GRow base w v L):∃ao b cap,v= .slice ao L.length cap∧IArg w ao b 0 L:=by
 by_cases h0:0 < L.length
 ·obtain⟨g,cap,rfl,_,_⟩:=ownsRow_pos h h0
  refine⟨_,g,cap,rfl,fun _=>⟨rfl,(h.lt g (by simp [Value.ownBlock])).2⟩,fun i hi=>?_⟩
  have e:=cellsOf_get gC_len L i 0 hi (by decide)
  rw [Nat.zero_add]
  have:=h.cellAt i (by simpa using hi)
  rw [this]
  simpa [gC] using e
 ·obtain⟨ao,cap,rfl,_⟩:=ownsRow_shape h
  exact⟨ao,0,cap,rfl,fun h=>absurd h h0,fun i hi=>absurd (Nat.lt_of_le_of_lt (Nat.zero_le _) hi) h0⟩
theorem GArg.of_row {base base2:Nat} {w:World} {v:Value} {L:List (Prg×Value)} (h:PRow base w v L) (ho:∀x ∈ L,ORow base2 w x.2 x.1.2):∃ao b cap,v= .slice ao L.length cap∧GArg w ao b 0 (L.map (·.1)):=by
 by_cases h0:0 < L.length
 ·obtain⟨g,cap,rfl,_,_⟩:=ownsRow_pos h h0
  refine⟨_,g,cap,rfl,fun _=>⟨rfl,(h.lt g (by simp [Value.ownBlock])).2⟩,fun i hi=>?_⟩
  have hiL:i < L.length:=by simpa using hi
  have hk:∀q,q < 2→w.cell? ⟨g,0+i*2+q,none⟩=(pgC L[i])[q]?:=fun q hq=>by
   rw [Nat.zero_add,h.cellAt _ (by omega)]
   exact cellsOf_get pgC_len L i q hiL hq
  obtain⟨ai,bi,ci,hv,hoa⟩:=OArg.of_row (ho L[i] (List.getElem_mem hiL))
  refine⟨ai,bi,0,ci,?_,?_,?_⟩
  ·simpa [pgC] using hk 0 (by omega)
  ·have e:=hk 1 (by omega)
   simp only [List.getElem_map]
   rw [e, ←hv]
   rfl
  ·simpa using hoa
 ·obtain⟨ao,cap,rfl,_⟩:=ownsRow_shape h
  exact⟨ao,0,cap,rfl,fun h=>absurd (by simpa using h) h0,fun i hi=>absurd (Nat.lt_of_le_of_lt (Nat.zero_le _) (by simpa using hi)) h0⟩
abbrev zeroSt:Array Value:= #[.int .i64 0, .int .i64 0, .slice none 0 0, .slice none 0 0, .slice none 0 0]
structure PsI (w wr:World) (ao:Option Addr) (bw off cap:Nat) (L:List Wd) (s:Rd) (c g:Int) (vg vl vp vq:Value) (gs:List Int) (ls:List Lk) (xs:List (Prg×Value)) (qs:List Int):Prop where
 rd:RsI wr (w.heap.size+1) ao bw off cap L s
 st:wr.heap[w.heap.size+2]?=some (.cells #[.int .i64 c, .int .i64 g,vg,vl,vp] 26 (0,0))
 rs:wr.heap[w.heap.size]?=some (.cells zeroSt 26 (0,0))
 gr:GRow (w.heap.size+3) wr vg gs
 lr:LkRow (w.heap.size+3) wr vl ls
 pr:PRow (w.heap.size+3) wr vp xs
 po:∀x ∈ xs,ORow (w.heap.size+3) wr x.2 x.1.2
 qr:GRow (w.heap.size+3) wr vq qs
 dq:∀k,vg.ownBlock=some k→vq.ownBlock≠some k
 bel:Below w.heap.size w wr
 bwl:0 < L.length→bw < w.heap.size
section
variable {w wr wr':World} {ao:Option Addr} {bw off cap:Nat} {L:List Wd} {s s':Rd} {c g:Int} {vg vl vp vq:Value} {gs:List Int} {ls:List Lk} {xs:List (Prg×Value)} {qs:List Int}
theorem PsI.siz (h:PsI w wr ao bw off cap L s c g vg vl vp vq gs ls xs qs):w.heap.size+3≤wr.heap.size:=lt_of_block h.st
theorem PsI.below (h:PsI w wr ao bw off cap L s c g vg vl vp vq gs ls xs qs) (hb:Below wr.heap.size wr wr'):PsI w wr' ao bw off cap L s c g vg vl vp vq gs ls xs qs:=
 ⟨h.rd.below hb,(hb.block _ (lt_of_block h.st)).trans h.st,(hb.block _ (lt_of_block h.rs)).trans h.rs,row_below h.gr hb,row_below h.lr hb,row_below h.pr hb,fun x hx=>row_below (h.po x hx) hb,row_below h.qr hb,h.dq,h.bel.trans (hb.mono h.bel.size),h.bwl⟩
theorem row_read {base R:Nat} {e:TypeId} {size n:Nat} {v:Value} {ys:List Value} (h:wr.ownsRow base e size v n ys) (t:Turned [R] wr wr') (hR:R < base):wr'.ownsRow base e size v n ys:=
 ownsRow_same h fun k hk hl=>t.block k hl (by
  have:=(h.lt k (by simpa using hk)).1
  simp
  omega)
theorem PsI.read (h:PsI w wr ao bw off cap L s c g vg vl vp vq gs ls xs qs) (t:RsP (w.heap.size+1) ao bw off cap L s' wr wr'):PsI w wr' ao bw off cap L s' c g vg vl vp vq gs ls xs qs:=by
 obtain⟨t1,t2⟩:=t
 exact⟨t1,t2.same h.st (by simp),t2.same h.rs (by simp),row_read h.gr t2 (by omega),row_read h.lr t2 (by omega),row_read h.pr t2 (by omega),fun x hx=>row_read (h.po x hx) t2 (by omega),row_read h.qr t2 (by omega),h.dq,h.bel.trans (t2.below (by simp) h.bel.size),h.bwl⟩
theorem PsI.drawn (h:PsI w wr ao bw off cap L s c g vg vl vp vq gs ls xs qs) (n:Nat):PsI w (wr.drewN n) ao bw off cap L s c g vg vl vp vq gs ls xs qs:=h.below (below_drewN (Below.refl _ wr) n)
theorem PsI.stored (h:PsI w wr ao bw off cap L s c g vg vl vp vq gs ls xs qs) {k:Nat} {v:Value} {c' g':Int} (he:(#[.int .i64 c, .int .i64 g,vg,vl,vp]:Array Value).setIfInBounds k v= #[.int .i64 c', .int .i64 g',vg,vl,vp]):
  PsI w (wr.setCell ⟨w.heap.size+2,k,none⟩ v) ao bw off cap L s c' g' vg vl vp vq gs ls xs qs:=by
 have hr:∀ {e:TypeId} {size n:Nat} {u:Value} {ys:List Value},wr.ownsRow (w.heap.size+3) e size u n ys→(wr.setCell ⟨w.heap.size+2,k,none⟩ v).ownsRow (w.heap.size+3) e size u n ys:=fun h=>ownsRow_same h fun j hj _=>Below.heap_setCell _ _ _ _ (by
  have:=(h.lt j (by simpa using hj)).1
  show j≠w.heap.size+2
  omega)
 refine⟨h.rd.store k v (by omega) (fun h0=>by have:=h.bwl h0;omega),?_,(Below.heap_setCell _ _ _ _ (by show w.heap.size≠w.heap.size+2;omega)).trans h.rs,hr h.gr,hr h.lr,hr h.pr,fun x hx=>hr (h.po x hx),hr h.qr,h.dq,h.bel.setCell (by show w.heap.size≤w.heap.size+2;omega) _,h.bwl⟩
 rw [heap_setCell_same _ _ _ _ _ _ h.st]
 simp only [he]
theorem PsI.out (h:PsI w wr ao bw off cap L s c g vg vl vp vq gs ls xs qs) {row:Option Nat} (hg:wr.grownBy wr' row) (hrow:∀k,row=some k→w.heap.size+3≤k):
  RsI wr' (w.heap.size+1) ao bw off cap L s∧wr'.heap[w.heap.size+2]?=some (.cells #[.int .i64 c, .int .i64 g,vg,vl,vp] 26 (0,0))∧wr'.heap[w.heap.size]?=some (.cells zeroSt 26 (0,0))∧Below w.heap.size w wr':=by
 have hz:=h.siz
 have hb:∀k,k < w.heap.size+3→wr'.heap[k]?=wr.heap[k]?:=fun k hk=>hg.block k (by omega) (fun e=>by have:=hrow k e.symm;omega)
 refine⟨⟨(hb _ (by omega)).trans h.rd.rd,h.rd.ws.kept (fun h0=>hb _ (by have:=h.bwl h0;omega)),h.rd.ne,h.rd.le,h.rd.len⟩,(hb _ (by omega)).trans h.st,(hb _ (by omega)).trans h.rs,?_⟩
 exact h.bel.grown hg h.bel.size (fun k hk=>by have:=hrow k hk;omega)
theorem row_own {base:Nat} {e:TypeId} {size n:Nat} {v:Value} {ys:List Value} (h:wr.ownsRow base e size v n ys):∀k,v.ownBlock=some k→base≤k:=fun k hk=>(h.lt k (by simp [hk])).1
theorem row_kept {base base':Nat} {e e':TypeId} {size n size' n':Nat} {v v':Value} {ys ys':List Value} (h:wr.ownsRow base e size v n ys) (hr:wr.ownsRow base' e' size' v' n' ys') (hg:wr.grownBy wr' v'.ownBlock) (hne:e≠e'):wr'.ownsRow base e size v n ys:=
 h.kept hg (rows_off h hr hne)
theorem row_rise {base:Nat} {e:TypeId} {size n:Nat} {v:Value} {ys:List Value} (h:wr'.ownsRow 0 e size v n ys) (hb:∀k ∈ v.ownBlock.toList,base≤k):wr'.ownsRow base e size v n ys:=by
 refine⟨h.1,?_⟩
 rcases h.2 with h2|⟨q,cap,cur,rfl,_,hg,rest⟩
 ·exact .inl h2
 ·exact .inr ⟨q,cap,cur,rfl,hb q (by simp [Value.ownBlock]),hg,rest⟩
theorem new_rise {base:Nat} {e:TypeId} {size n m:Nat} {v v':Value} {ys zs:List Value} (h:wr.ownsRow base e size v n ys) (hz:base≤wr.heap.size) (h':wr'.ownsRow 0 e size v' m zs) (hnew:∀q ∈ v'.ownBlock.toList,q ∈ v.ownBlock.toList∨wr.heap.size≤q):wr'.ownsRow base e size v' m zs:=
 row_rise h' fun k hk=>by
  rcases hnew k hk with h1|h1
  ·exact row_own h k (by simpa using h1)
  ·omega
theorem row_set {B k:Nat} {u:Value} {base:Nat} {e:TypeId} {size n:Nat} {v:Value} {ys:List Value} (h:wr.ownsRow base e size v n ys) (hB:B < base):(wr.setCell ⟨B,k,none⟩ u).ownsRow base e size v n ys:=
 ownsRow_same h fun j hj _=>Below.heap_setCell _ _ _ _ (by
  have:=(h.lt j (by simpa using hj)).1
  show j≠B
  omega)
theorem PsI.group (h:PsI w wr ao bw off cap L s c g vg vl vp vq gs ls xs qs) {v':Value} {x:Int} (hown:wr'.ownsRow 0 3 1 v' (gs.length+1) (cellsOf gC gs++gC x)) (hg:wr.grownBy wr' vg.ownBlock) (hnew:∀q ∈ v'.ownBlock.toList,q ∈ vg.ownBlock.toList∨wr.heap.size≤q) (hq:vq= .slice none 0 0):
  PsI w (wr'.setCell ⟨w.heap.size+2,2,none⟩ v') ao bw off cap L s c g v' vl vp vq (gs++[x]) ls xs qs:=by
 have hz:=h.siz
 obtain⟨o1,o2,o3,o4⟩:=h.out hg (row_own h.gr)
 have hown':wr'.ownsRow (w.heap.size+3) 3 1 v' (gs++[x]).length (cellsOf gC (gs++[x])):=by
  rw [cellsOf_snoc,List.length_append,List.length_singleton]
  exact new_rise h.gr hz hown hnew
 subst hq
 refine⟨o1.store 2 v' (by omega) (fun h0=>by have:=h.bwl h0;omega),?_,(Below.heap_setCell _ _ _ _ (by show w.heap.size≠w.heap.size+2;omega)).trans o3,row_set hown' (by omega),row_set (row_kept h.lr h.gr hg (by decide)) (by omega),row_set (row_kept h.pr h.gr hg (by decide)) (by omega),fun y hy=>row_set (row_kept (h.po y hy) h.gr hg (by decide)) (by omega),row_set (h.qr.kept hg (.inl rfl)) (by omega),fun k _=>by simp [Value.ownBlock],o4.setCell (by show w.heap.size≤w.heap.size+2;omega) _,h.bwl⟩
 rw [heap_setCell_same _ _ _ _ _ _ o2]
 rfl
theorem PsI.lock (h:PsI w wr ao bw off cap L s c g vg vl vp vq gs ls xs qs) {v':Value} {x:Lk} (hown:wr'.ownsRow 0 100 5 v' (ls.length+1) (cellsOf lkC ls++lkC x)) (hg:wr.grownBy wr' vl.ownBlock) (hnew:∀q ∈ v'.ownBlock.toList,q ∈ vl.ownBlock.toList∨wr.heap.size≤q):
  PsI w (wr'.setCell ⟨w.heap.size+2,3,none⟩ v') ao bw off cap L s c g vg v' vp vq gs (ls++[x]) xs qs:=by
 have hz:=h.siz
 obtain⟨o1,o2,o3,o4⟩:=h.out hg (row_own h.lr)
 have hown':wr'.ownsRow (w.heap.size+3) 100 5 v' (ls++[x]).length (cellsOf lkC (ls++[x])):=by
  rw [cellsOf_snoc,List.length_append,List.length_singleton]
  exact new_rise h.lr hz hown hnew
 refine⟨o1.store 3 v' (by omega) (fun h0=>by have:=h.bwl h0;omega),?_,(Below.heap_setCell _ _ _ _ (by show w.heap.size≠w.heap.size+2;omega)).trans o3,row_set (row_kept h.gr h.lr hg (by decide)) (by omega),row_set hown' (by omega),row_set (row_kept h.pr h.lr hg (by decide)) (by omega),fun y hy=>row_set (row_kept (h.po y hy) h.lr hg (by decide)) (by omega),row_set (row_kept h.qr h.lr hg (by decide)) (by omega),h.dq,o4.setCell (by show w.heap.size≤w.heap.size+2;omega) _,h.bwl⟩
 rw [heap_setCell_same _ _ _ _ _ _ o2]
 rfl
theorem PsI.prog (h:PsI w wr ao bw off cap L s c g vg vl vp vq gs ls xs qs) {v':Value} {x:Prg×Value} (hx:ORow (w.heap.size+3) wr x.2 x.1.2) (hown:wr'.ownsRow 0 49 2 v' (xs.length+1) (cellsOf pgC xs++pgC x)) (hg:wr.grownBy wr' vp.ownBlock) (hnew:∀q ∈ v'.ownBlock.toList,q ∈ vp.ownBlock.toList∨wr.heap.size≤q):
  PsI w (wr'.setCell ⟨w.heap.size+2,4,none⟩ v') ao bw off cap L s c g vg vl v' vq gs ls (xs++[x]) qs:=by
 have hz:=h.siz
 obtain⟨o1,o2,o3,o4⟩:=h.out hg (row_own h.pr)
 have hown':wr'.ownsRow (w.heap.size+3) 49 2 v' (xs++[x]).length (cellsOf pgC (xs++[x])):=by
  rw [cellsOf_snoc,List.length_append,List.length_singleton]
  exact new_rise h.pr hz hown hnew
 refine⟨o1.store 4 v' (by omega) (fun h0=>by have:=h.bwl h0;omega),?_,(Below.heap_setCell _ _ _ _ (by show w.heap.size≠w.heap.size+2;omega)).trans o3,row_set (row_kept h.gr h.pr hg (by decide)) (by omega),row_set (row_kept h.lr h.pr hg (by decide)) (by omega),row_set hown' (by omega),fun y hy=>?_,row_set (row_kept h.qr h.pr hg (by decide)) (by omega),h.dq,o4.setCell (by show w.heap.size≤w.heap.size+2;omega) _,h.bwl⟩
 ·rw [heap_setCell_same _ _ _ _ _ _ o2]
  rfl
 ·rcases List.mem_append.1 hy with hy|hy
  ·exact row_set (row_kept (h.po y hy) h.pr hg (by decide)) (by omega)
  ·simp only [List.mem_singleton] at hy
   subst hy
   exact row_set (row_kept hx h.pr hg (by decide)) (by omega)
theorem PsI.place (h:PsI w wr ao bw off cap L s c g vg vl vp vq gs ls xs qs) {v':Value} {x:Int} (hown:wr'.ownsRow 0 3 1 v' (qs.length+1) (cellsOf gC qs++gC x)) (hg:wr.grownBy wr' vq.ownBlock) (hnew:∀q ∈ v'.ownBlock.toList,q ∈ vq.ownBlock.toList∨wr.heap.size≤q):
  PsI w wr' ao bw off cap L s c g vg vl vp v' gs ls xs (qs++[x]):=by
 have hz:=h.siz
 obtain⟨o1,o2,o3,o4⟩:=h.out hg (row_own h.qr)
 have hown':wr'.ownsRow (w.heap.size+3) 3 1 v' (qs++[x]).length (cellsOf gC (qs++[x])):=by
  rw [cellsOf_snoc,List.length_append,List.length_singleton]
  exact new_rise h.qr hz hown hnew
 have hgq:vg.ownBlock=none∨vg.ownBlock≠vq.ownBlock:=by
  cases hv:vg.ownBlock with
  |none=>exact .inl rfl
  |some k=>exact .inr (fun e=>h.dq k hv e.symm)
 refine⟨o1,o2,o3,h.gr.kept hg hgq,row_kept h.lr h.qr hg (by decide),row_kept h.pr h.qr hg (by decide),fun y hy=>row_kept (h.po y hy) h.qr hg (by decide),hown',fun k hk e=>?_,o4,h.bwl⟩
 rcases hnew k (by simp [e]) with h1|h1
 ·exact h.dq k hk (by simpa using h1)
 ·have:=ownsRow_lt h.gr k (by simp [hk])
  omega
end
end Go.Proofs.YtbnhnnccioljhaaGreatDoor
namespace Go.Proofs.YtbnhnnccioljhaaGreatDoor
open Go.RowKit
theorem TArg.same {w w':World} {pb off:Nat} {F:List ByteArray} (h:TArg w pb off F) (e:w'.heap[pb]?=w.heap[pb]?):TArg w' pb off F:=by
 have ec:∀o,w'.cell? ⟨pb,o,none⟩=w.cell? ⟨pb,o,none⟩:=fun o=>by simp only [World.cell?,e]
 refine⟨?_,fun i hi=>(ec _).trans (h.cells i hi)⟩
 have h1:=h.lt
 rw [Array.getElem?_eq_getElem h1] at e
 exact lt_of_block e
structure SvI (w wr:World) (b:Nat) (ao:Option Addr) (bw off cap:Nat) (L:List Wd) (s:Rd) (lo hi:Int) (pb fn pc:Nat) (F:List ByteArray) (e:TypeId) (size:Nat) (v:Value) (n:Nat) (xs:List Value):Prop where
 rd:RwI wr b ao bw off cap L s
 box:wr.heap[w.heap.size]?=some (.cells #[.int .i64 lo, .int .i64 hi, .slice (some ⟨pb,0,none⟩) fn pc] 172 (0,0))
 ta:TArg wr pb 0 F
 row:wr.ownsRow w.heap.size e size v n xs
 t:Turned [b] w wr
 l1:b < w.heap.size
 l2:pb < w.heap.size
 n1:pb≠b
 ne:e≠172
 bwl:0 < L.length→bw < w.heap.size
section
variable {w wr wr':World} {b:Nat} {ao:Option Addr} {bw off cap:Nat} {L:List Wd} {s s':Rd} {lo hi:Int} {pb fn pc:Nat} {F:List ByteArray} {e:TypeId} {size:Nat} {v:Value} {n:Nat} {xs:List Value}
theorem SvI.moved (h:SvI w wr b ao bw off cap L s lo hi pb fn pc F e size v n xs) (m:RwP b ao bw off cap L s' wr wr'):SvI w wr' b ao bw off cap L s' lo hi pb fn pc F e size v n xs:=by
 obtain⟨m1,m2⟩:=m
 have:=h.l1
 have:=h.l2
 have hz:=h.t.size
 exact⟨m1,m2.same h.box (by simp;omega),h.ta.same (m2.block _ (by omega) (by simpa using h.n1)),row_turned h.row m2 h.l1,h.t.trans m2 (Newer.refl _ _),h.l1,h.l2,h.n1,h.ne,h.bwl⟩
theorem SvI.below (h:SvI w wr b ao bw off cap L s lo hi pb fn pc F e size v n xs) (hb:Below wr.heap.size wr wr'):SvI w wr' b ao bw off cap L s lo hi pb fn pc F e size v n xs:=
 h.moved ⟨RdI.below h.rd hb,turned_below hb [b]⟩
theorem SvI.push (h:SvI w wr b ao bw off cap L s lo hi pb fn pc F e size v n xs) {w4:World} {v':Value} {m:Nat} {ys:List Value} (hown:w4.ownsRow w.heap.size e size v' (n+m) (xs++ys)) (hg:wr.grownBy w4 v.ownBlock):SvI w w4 b ao bw off cap L s lo hi pb fn pc F e size v' (n+m) (xs++ys):=by
 have hb:Below w.heap.size wr w4:=app_below (Below.refl _ _) h.t.size (Nat.le_refl _) h.row hg
 have h1:=h.l1
 have h2:=h.l2
 refine⟨⟨(hb.block _ h1).trans h.rd.rd,h.rd.ws.same (fun h0=>?_),h.rd.ne,h.rd.le,h.rd.len⟩,?_,h.ta.same (hb.block _ h2),hown,⟨hb.os.trans h.t.os,hb.tape.trans h.t.tape,hb.output.trans h.t.output,Nat.le_trans h.t.size hb.size,fun k hk hx=>(hb.block k hk).trans (h.t.block k hk hx)⟩,h1,h2,h.n1,h.ne,h.bwl⟩
 ·exact hb.block _ (h.bwl h0)
 ·refine (hg.block _ (lt_of_block h.box) (block_off h.box h.row h.ne.symm)).trans h.box
end
def GI (L:List Wd) (G:List Int×Rd) (s:Rd) (gs:List Int):Prop:=(s.2=0∧gs.length≤4∧∃n,6=n+gs.length∧groupsS L n s gs=G)∨(s.2≠0∧gs.length≤5∧s=G.2)
theorem isS_dead {L:List Wd} {s:Rd} (h:s.2≠0) (k:Int) (t:List By):isS L s k t=false:=by
 unfold isS
 rw [decide_eq_false h,Bool.false_and]
theorem groupsS_dead {L:List Wd} {n:Nat} {s:Rd} {gs:List Int} (h:s.2≠0):groupsS L n s gs=(gs,s):=by
 cases n with
 |zero=>rfl
 |succ n=>
  unfold groupsS
  rw [if_neg]
  rintro (h1|h1)
  ·rw [isS_dead h] at h1
   cases h1
  ·exact h h1.2
theorem locksS_dead {L:List Wd} {n:Nat} {s:Rd} {ls:List Lk} (h:s.2≠0):locksS L n s ls=(ls,s):=by
 cases n with
 |zero=>rfl
 |succ n=>
  unfold locksS
  rw [if_neg]
  rintro (h1|h1)<;>
  ·rw [isS_dead h] at h1
   cases h1
theorem GI.step {L:List Wd} {G:List Int×Rd} {s:Rd} {gs:List Int} (h:GI L G s gs) (h0:s.2=0) (hc:isS L s 1 groupB=true∨gs.length=0) (h4:gs.length≠4):GI L G (needS L (fieldS L s groupB 16).2 3 [59]) (gs++[(fieldS L s groupB 16).1]):=by
 rcases h with⟨_,hl,n,hn,hG⟩ |⟨h1,_⟩
 ·obtain⟨m,rfl⟩:∃m,n=m+1:=⟨n - 1,by omega⟩
  unfold groupsS at hG
  rw [if_pos (by rcases hc with h|h;exact .inl h;exact .inr ⟨h,h0⟩),if_neg (by rintro ⟨_,h⟩;omega)] at hG
  by_cases hd:(needS L (fieldS L s groupB 16).2 3 [59]).2=0
  ·exact .inl ⟨hd,by simp;omega,m,by simp;omega,hG⟩
  ·rw [groupsS_dead hd] at hG
   exact .inr ⟨hd,by simp;omega,by rw [←hG]⟩
 ·exact absurd h0 h1
theorem GI.full {L:List Wd} {G:List Int×Rd} {s:Rd} {gs:List Int} (h:GI L G s gs) (h0:s.2=0) (hc:isS L s 1 groupB=true) (h4:gs.length=4) (x:Int):GI L G (s.1,6) (gs++[x]):=by
 rcases h with⟨_,hl,n,hn,hG⟩ |⟨h1,_⟩
 ·obtain⟨m,rfl⟩:∃m,n=m+1:=⟨n - 1,by omega⟩
  unfold groupsS at hG
  rw [if_pos (.inl hc),if_pos ⟨hc,by omega⟩] at hG
  exact .inr ⟨by show (6:Int)≠0;decide,by simp;omega,by rw [←hG]⟩
 ·exact absurd h0 h1
theorem GI.stop {L:List Wd} {G:List Int×Rd} {s:Rd} {gs:List Int} (h:GI L G s gs) (h0:s.2=0) (hc:¬isS L s 1 groupB=true) (h4:gs.length≠0):G=(gs,s):=by
 rcases h with⟨_,hl,n,hn,hG⟩ |⟨h1,_⟩
 ·obtain⟨m,rfl⟩:∃m,n=m+1:=⟨n - 1,by omega⟩
  unfold groupsS at hG
  rw [if_neg (by rintro (h|h);exact hc h;exact h4 h.1)] at hG
  exact hG.symm
 ·exact absurd h0 h1
theorem GI.len {L:List Wd} {G:List Int×Rd} {s:Rd} {gs:List Int} (h:GI L G s gs):gs.length≤5∧(s.2=0→gs.length≤4):=by
 rcases h with⟨_,h,_⟩ |⟨h0,h,_⟩
 ·exact⟨by omega,fun _=>h⟩
 ·exact⟨h,fun e=>absurd e h0⟩
theorem GI.dead {L:List Wd} {G:List Int×Rd} {s:Rd} {gs:List Int} (h:GI L G s gs) (h0:s.2≠0):s=G.2:=by
 rcases h with⟨h1,_⟩ |⟨_,_,h⟩
 ·exact absurd h1 h0
 ·exact h
def LI (L:List Wd) (G:List Lk×Rd) (s:Rd) (gs:List Lk):Prop:=(s.2=0∧gs.length≤8∧∃n,10=n+gs.length∧locksS L n s gs=G)∨(s.2≠0∧gs.length≤9∧s=G.2)
theorem LI.step {L:List Wd} {G:List Lk×Rd} {s:Rd} {gs:List Lk} (h:LI L G s gs) (h0:s.2=0) (hc:isS L s 1 lockB=true∨isS L s 1 sharedB=true) (h4:gs.length≠8):LI L G (lockQ L s).2 (gs++[(lockQ L s).1]):=by
 rcases h with⟨_,hl,n,hn,hG⟩ |⟨h1,_⟩
 ·obtain⟨m,rfl⟩:∃m,n=m+1:=⟨n - 1,by omega⟩
  unfold locksS at hG
  rw [if_pos hc,if_neg (by omega), ←lockQ_live hc] at hG
  by_cases hd:(lockQ L s).2.2=0
  ·exact .inl ⟨hd,by simp;omega,m,by simp;omega,hG⟩
  ·rw [locksS_dead hd] at hG
   exact .inr ⟨hd,by simp;omega,by rw [←hG]⟩
 ·exact absurd h0 h1
theorem LI.full {L:List Wd} {G:List Lk×Rd} {s:Rd} {gs:List Lk} (h:LI L G s gs) (h0:s.2=0) (hc:isS L s 1 lockB=true∨isS L s 1 sharedB=true) (h4:gs.length=8) (x:Lk):LI L G (s.1,6) (gs++[x]):=by
 rcases h with⟨_,hl,n,hn,hG⟩ |⟨h1,_⟩
 ·obtain⟨m,rfl⟩:∃m,n=m+1:=⟨n - 1,by omega⟩
  unfold locksS at hG
  rw [if_pos hc,if_pos (by omega)] at hG
  exact .inr ⟨by show (6:Int)≠0;decide,by simp;omega,by rw [←hG]⟩
 ·exact absurd h0 h1
theorem LI.stop {L:List Wd} {G:List Lk×Rd} {s:Rd} {gs:List Lk} (h:LI L G s gs) (h0:s.2=0) (hc:¬(isS L s 1 lockB=true∨isS L s 1 sharedB=true)):G=(gs,s):=by
 rcases h with⟨_,hl,n,hn,hG⟩ |⟨h1,_⟩
 ·obtain⟨m,rfl⟩:∃m,n=m+1:=⟨n - 1,by omega⟩
  unfold locksS at hG
  rw [if_neg hc] at hG
  exact hG.symm
 ·exact absurd h0 h1
theorem LI.len {L:List Wd} {G:List Lk×Rd} {s:Rd} {gs:List Lk} (h:LI L G s gs):gs.length≤9∧(s.2=0→gs.length≤8):=by
 rcases h with⟨_,h,_⟩ |⟨h0,h,_⟩
 ·exact⟨by omega,fun _=>h⟩
 ·exact⟨h,fun e=>absurd e h0⟩
theorem LI.dead {L:List Wd} {G:List Lk×Rd} {s:Rd} {gs:List Lk} (h:LI L G s gs) (h0:s.2≠0):s=G.2:=by
 rcases h with⟨h1,_⟩ |⟨_,_,h⟩
 ·exact absurd h1 h0
 ·exact h
theorem first_is {L:List Wd} (hL:Clean L) {s:Rd} (h:s.2=0) (f:ByteArray):firstOf (nextR L s.1) f=isS L s 1 f.data.toList:=by
 unfold firstOf isS
 rw [is_next hL (.inl rfl),decide_eq_true h,Bool.true_and]
theorem group_first {L:List Wd} (hL:Clean L) {s:Rd} (h:s.2=0) {q:Bool} (hq:([⟨#[103,114,111,117,112]⟩]:List ByteArray).any (firstOf (nextR L s.1))=q):(isS L s 1 groupB=true↔q=true):=by
 simp only [List.any_cons,List.any_nil,Bool.or_false,first_is hL h] at hq
 rw [←hq]
theorem lock_first {L:List Wd} (hL:Clean L) {s:Rd} (h:s.2=0) {q:Bool} (hq:([⟨#[108,111,99,107]⟩,⟨#[115,104,97,114,101,100]⟩]:List ByteArray).any (firstOf (nextR L s.1))=q):((isS L s 1 lockB=true∨isS L s 1 sharedB=true)↔q=true):=by
 simp only [List.any_cons,List.any_nil,Bool.or_false,first_is hL h] at hq
 rw [←hq,Bool.or_eq_true]
theorem gC_one' (x:Int):∀u ∈ gC x,u.oneCell'=true:=gC_one x
theorem lkC_one' (x:Lk):∀u ∈ lkC x,u.oneCell'=true:=by
 intro u hu
 simp only [lkC,List.mem_cons,List.not_mem_nil,or_false] at hu
 rcases hu with rfl|rfl|rfl|rfl|rfl<;>rfl
theorem sevint_new (W:World) (x:Int):∀(j:Nat) (u:Value),(gC x)[j]?=some u→(W.alloc (.cells #[.int .i64 x] 3)).cell? ((⟨W.heap.size,0,none⟩:Addr).add j)=some u:=by
 intro j u hu
 have h:=heap_alloc_new W (.cells #[.int .i64 x] 3)
 have e:((⟨W.heap.size,0,none⟩:Addr).add j)=⟨W.heap.size,j,none⟩:=by
  cases j<;>simp [Addr.add]
 rw [e]
 have hj:j < 1:=by
  obtain⟨hj, -⟩:=List.getElem?_eq_some_iff.1 hu
  simpa [gC] using hj
 rw [cell_at h (by simpa using hj)]
 have:=(List.getElem?_eq_some_iff.1 hu).2
 simpa [gC] using this
theorem sevlock_new (W:World) (x:Lk):∀(j:Nat) (u:Value),(lkC x)[j]?=some u→(W.alloc (.cells #[.bool x.1, .int .i64 x.2.1, .int .i64 x.2.2.1, .int .i64 x.2.2.2.1, .int .i64 x.2.2.2.2] 100)).cell? ((⟨W.heap.size,0,none⟩:Addr).add j)=some u:=by
 intro j u hu
 have h:=heap_alloc_new W (.cells #[.bool x.1, .int .i64 x.2.1, .int .i64 x.2.2.1, .int .i64 x.2.2.2.1, .int .i64 x.2.2.2.2] 100)
 have e:((⟨W.heap.size,0,none⟩:Addr).add j)=⟨W.heap.size,j,none⟩:=by
  cases j<;>simp [Addr.add]
 rw [e]
 have hj:j < 5:=by
  obtain⟨hj, -⟩:=List.getElem?_eq_some_iff.1 hu
  simpa [lkC] using hj
 rw [cell_at h (by simpa using hj)]
 have:=(List.getElem?_eq_some_iff.1 hu).2
 simpa [lkC] using this
def Sevint (L:List Wd) (G:List Int×Rd) (w:World) (b:Nat) (ao:Option Addr) (bw off cap:Nat) (r:Ending) (w':World):Prop:=
 ∃v gs s,r= .returned v∧w'.ownsRow w.heap.size 3 1 v gs.length (cellsOf gC gs)∧RwP b ao bw off cap L s w w'∧s=G.2∧(s.2=0→gs=G.1)∧gs.length≤5
theorem sevint_any {w:World} {b:Nat} {ao:Option Addr} {bw off cap:Nat} {L:List Wd} {s0:Rd} (pb pc:Nat) (h:RwI w b ao bw off cap L s0) (hL:Clean L) (hp:TArg w pb 0 [⟨#[103,114,111,117,112]⟩]) (hpb:pb≠b):
  Calls Tryz.prog 127 #[.pointer (some ⟨b,0,none⟩), .agg #[.int .i64 1, .int .i64 4, .slice (some ⟨pb,0,none⟩) 1 pc], .func (.func 128) #[] #[]] w (Sevint L (groupsS L 6 s0 []) w b ao bw off cap):=by
 obtain⟨i0,hi0,hz0,hz1,hz2⟩:=info_parts int_info
 have HST:Hid (SvI w (w.alloc (.cells #[.int .i64 1, .int .i64 4, .slice (some ⟨pb,0,none⟩) 1 pc] 172)) b ao bw off cap L s0 1 4 pb 1 pc [⟨#[103,114,111,117,112]⟩] 3 1 (.slice none 0 0) ([]:List Int).length (cellsOf gC [])):=xhd (by
  have hb:Below w.heap.size w (w.alloc (.cells #[.int .i64 1, .int .i64 4, .slice (some ⟨pb,0,none⟩) 1 pc] 172)):=(Below.refl _ w).alloc (Nat.le_refl _) _
  exact⟨RdI.below h hb,heap_alloc_new _ _,hp.below hb,World.ownsRow_nil _ _ _ _,turned_below hb _,lt_of_block h.rd,hp.lt,hpb,by decide,fun h0=>(h.ws.at_ h0).2⟩)
 have HNX:=xhd (fun V (s:Rd) (hV:RwI V b ao bw off cap L s)=>next_any hV)
 have HBG:=xhd (fun V (x:Wd) (hV:TArg V pb 0 [⟨#[103,114,111,117,112]⟩])=>(show Calls Tryz.prog 162 #[.agg #[.int .i64 1, .int .i64 4, .slice (some ⟨pb,0,none⟩) 1 pc],wdV x] V fun e w'=>e= .returned (.bool (([⟨#[103,114,111,117,112]⟩]:List ByteArray).any (firstOf x)))∧Below V.heap.size V w' from begins_any 1 4 pb 0 pc x [⟨#[103,114,111,117,112]⟩] V hV (by simp)))
 have HRD:=xhd (fun V (s:Rd) (hV:RwI V b ao bw off cap L s)=>readgroup_any hV hL)
 have HCL:=xhd hL
 obtain⟨G,hG⟩:∃G,groupsS L 6 s0 []=G:=⟨_,rfl⟩
 have HR0:Hid (GI L G s0 []):=xhd (by
  by_cases h0:s0.2=0
  ·exact .inl ⟨h0,by simp,6,by simp,hG⟩
  ·rw [groupsS_dead h0] at hG
   exact .inr ⟨h0,by simp,by rw [←hG]⟩)
 rw [hG]
 clear h hL hp hpb hG
 go_enter Tryz.func127,Tryz.ntmps127
 go_wp2_with fail
 go_loopw [7] (fun l' wr=>∃(s:Rd) (gs:List Int),Hid (SvI w wr b ao bw off cap L s 1 4 pb 1 pc [⟨#[103,114,111,117,112]⟩] 3 1 l' gs.length (cellsOf gC gs))∧Hid (GI L G s gs)) (fun l' _=>6 - lenOf l')
 case atStart=>exact⟨s0,[],HST,HR0⟩
 case round=>
  obtain⟨s,gs,HI,HR⟩:=hrel
  obtain⟨aov,capv,hv,_⟩:=ownsRow_shape HI.out.row
  subst hv
  obtain⟨hlm,hl4⟩:=HR.out.len
  obtain⟨m,hm⟩:∃m,gs.length=m:=⟨_,rfl⟩
  have HM:=xhd hm
  rw [hm] at HI hlm hl4 ⊢
  obtain⟨p0,p1,p2⟩:=three_cells HI.out.box
  clear hm
  by_cases h0:s.2=0
  ·have HGL:=xhd (fun V (hV:Below wr.heap.size wr V)=>(by
     have k:=(HI.out.below hV).rd.rd
     rw [h0] at k
     exact goes_live k:Calls Tryz.prog 66 #[.pointer (some ⟨b,0,none⟩)] V _))
   have hl4:=hl4 h0
   by_cases hm0:m=0
   ·have hg1:(m:Int) < 1:=by omega
    have hg2:decide ((m:Int) < 1)=true:=by simp;omega
    have hmb:((m:Int) == 4)=false:=by simp;omega
    have HM0:=xhd hm0
    clear hm0
    go_wp2_with fail
    go_quiet ((go_at_call 66;exact Calls.quiet_of_same (HGL.out _ (below_drewN (Below.refl _ _) _))))
    have HI7:=xhd (HI.out.below (below_drewN (Below.refl _ _) nq))
    obtain⟨x,s1,hx⟩:∃x s1,(fieldS L s groupB 16).1=x∧needS L (fieldS L s groupB 16).2 3 [59]=s1:=⟨_,_,rfl,rfl⟩
    have hst:=HR.out.step h0 (.inr (by rw [HM.out];exact HM0.out)) (by rw [HM.out];omega)
    rw [hx.1,hx.2] at hst
    have HRN:=xhd hst
    have hrd:=HRD.out _ s HI7.out.rd
    rw [hx.1,hx.2] at hrd
    have HRX:=xhd hrd
    clear hst hrd hx p0 p1 p2
    obtain⟨p0,p1,p2⟩:=three_cells HI7.out.box
    go_wp2_with fail
    refine HRX.out.mono ?_
    rintro r w8 ⟨rfl,hm8⟩
    clear p0 p1 p2
    have HI8:=xhd (HI7.out.moved hm8)
    clear hm8
    go_wp2_with (at_builtin;refine wpList_append_own _ rfl _ _ 22 rfl w.heap.size 3 i0 (.int .i64 0) 1 8 Tryz.underlying22 hi0 hz0 hz1 hz2 rfl (by decide) _ _ _ rfl (HI8.out.below ((Below.refl _ _).alloc (Nat.le_refl _) _)).row ⟨_,0,none⟩ 1 1 (gC x) rfl rfl ?c1 ?c2 ?c3 ?c4 ?c5 ?_)
    case c1=>exact sevint_new _ _
    case c2=>exact gC_one' x
    case c3=>(have:=HM.out;unfold maxLen;omega)
    case c4=>(have:=HM.out;omega)
    case c5=>exact Nat.le_trans HI8.out.t.size (by simp)
    intro v' w6 hown hgrow _
    have hin:=(HI8.out.below ((Below.refl _ _).alloc (Nat.le_refl _) _)).push hown hgrow
    rw [←cellsOf_snoc,show m+1=(gs++[x]).length by simp [HM.out]] at hin
    have HIN:=xhd hin
    obtain⟨ao4,cap4,hv4,_⟩:=ownsRow_shape hown
    subst hv4
    clear hown hgrow hin
    go_wp2
    go_roundw
    case rel=>exact⟨_,_,HIN,HRN⟩
    case measure=>(have:=HM.out;simp [lenOf];omega)
   ·have hg1:¬(m:Int) < 1:=by omega
    have hg2:decide ((m:Int) < 1)=false:=by simp;omega
    have hnx:=HNX.out
    obtain⟨y,hy⟩:∃y,nextR L s.1=y:=⟨_,rfl⟩
    obtain⟨q,hq⟩:∃q,([⟨#[103,114,111,117,112]⟩]:List ByteArray).any (firstOf y)=q:=⟨_,rfl⟩
    have HQI:=xhd (group_first HCL.out h0 (q:=q) (by rw [hy];exact hq))
    have hnx:=fun V hV=>HNX.out V s hV
    have hbg:=fun V hV=>HBG.out V y hV
    simp only [hy] at hnx
    simp only [hq] at hbg
    unfold wdV at hnx hbg
    obtain⟨ty,hty⟩:∃t:ByteArray,⟨y.2.1.toArray⟩=t:=⟨_,rfl⟩
    simp only [hty] at hnx hbg
    obtain⟨y0,_,y2,y3⟩:=y
    simp only at hnx hbg
    have HNXX:=xhd hnx
    have HBGG:=xhd hbg
    have HID:=xhd (HI.out.below (Below.refl _ _).drew)
    have s0:=three_cells HID.out.box
    clear hnx hbg hy hq hty
    go_wp2_with fail
    go_region_held3 (fun V=>V.cell? ⟨w.heap.size,0,none⟩=some (.int .i64 1)∧V.cell? ⟨w.heap.size,1,none⟩=some (.int .i64 4)∧V.cell? ⟨w.heap.size,2,none⟩=some (.slice (some ⟨pb,0,none⟩) 1 pc))
     (first|exact s0|exact s1|exact s2)
     (first
       |(go_at_call 66
         with_reducible refine (HGL.out _ (Below.refl _ _).drew).mono ?_
         rintro r V1 ⟨rfl,rfl⟩)
       |(go_at_call 137
         with_reducible refine (HNXX.out _ HID.out.rd).mono ?_
         rintro r V1 ⟨rfl,hb⟩
         have HI5:=xhd (HID.out.below hb)
         have s1:=three_cells HI5.out.box
         clear hb)
       |(go_at_call 162
         with_reducible refine (HBGG.out _ HI5.out.ta).mono ?_
         rintro r V2 ⟨rfl,hb⟩
         have HI7:=xhd (HI5.out.below hb)
         have s2:=three_cells HI7.out.box
         clear hb))
    clear s0 s1 p0 p1 p2
    obtain⟨p0,p1,p2⟩:=s2
    cases q with
    |false=>
     have HE:=xhd (HR.out.stop h0 (fun hh=>by have:=(HQI.out).1 hh;cases this) (by rw [HM.out];exact hm0))
     clear p0 p1 p2
     go_wp2
     go_ret
     exact⟨_,gs,s,rfl,by rw [HM.out];exact HI7.out.row,⟨HI7.out.rd,HI7.out.t⟩,by rw [HE.out],fun _=>by rw [HE.out],by rw [HM.out];omega⟩
    |true=>
     by_cases hmx:m=4
     ·have hmb:((m:Int) == 4)=true:=by simp;omega
      have HMX:=xhd hmx
      clear hmx
      have hrr:=HI7.out.rd.rd
      rw [h0] at hrr
      have HFX:=xhd (fail_live hrr 6)
      have hle:=HI7.out.rd.le
      clear hrr
      go_wp2_with fail
      with_reducible refine HFX.out.mono ?_
      rintro r w7 ⟨rfl,hr7,ht7⟩
      clear p0 p1 p2
      have HI7b:=xhd (HI7.out.moved (s':=(s.1,6)) ⟨HI7.out.rd.turned ht7 hr7 hle,ht7⟩)
      clear hr7 ht7 hle
      obtain⟨x,hx⟩:∃x,(fieldS L (s.1,6) groupB 16).1=x:=⟨_,rfl⟩
      have HRN:=xhd (HR.out.full h0 (by first|exact (HQI.out).2 rfl|exact (HQI.out).2 trivial) (HM.out.trans HMX.out) x)
      have hrd:=HRD.out _ (s.1,6) HI7b.out.rd
      rw [hx,fieldS_dead (by show (6:Int)≠0;decide),needS_dead (by show (6:Int)≠0;decide)] at hrd
      have HRX:=xhd hrd
      clear hrd hx
      go_wp2_with fail
      refine HRX.out.mono ?_
      rintro r w8 ⟨rfl,hm8⟩
      have HI8:=xhd (HI7b.out.moved hm8)
      clear hm8
      go_wp2_with (at_builtin;refine wpList_append_own _ rfl _ _ 22 rfl w.heap.size 3 i0 (.int .i64 0) 1 8 Tryz.underlying22 hi0 hz0 hz1 hz2 rfl (by decide) _ _ _ rfl (HI8.out.below ((Below.refl _ _).alloc (Nat.le_refl _) _)).row ⟨_,0,none⟩ 1 1 (gC x) rfl rfl ?c1 ?c2 ?c3 ?c4 ?c5 ?_)
      case c1=>exact sevint_new _ _
      case c2=>exact gC_one' x
      case c3=>(have:=HM.out;unfold maxLen;omega)
      case c4=>(have:=HM.out;omega)
      case c5=>exact Nat.le_trans HI8.out.t.size (by simp)
      intro v' w6 hown hgrow _
      have hin:=(HI8.out.below ((Below.refl _ _).alloc (Nat.le_refl _) _)).push hown hgrow
      rw [←cellsOf_snoc,show m+1=(gs++[x]).length by simp [HM.out]] at hin
      have HIN:=xhd hin
      obtain⟨ao4,cap4,hv4,_⟩:=ownsRow_shape hown
      subst hv4
      clear hown hgrow hin
      go_wp2
      go_roundw
      case rel=>exact⟨_,_,HIN,HRN⟩
      case measure=>(have:=HM.out;simp [lenOf];omega)
     ·have hmb:((m:Int) == 4)=false:=by simp;omega
      obtain⟨x,s1,hx⟩:∃x s1,(fieldS L s groupB 16).1=x∧needS L (fieldS L s groupB 16).2 3 [59]=s1:=⟨_,_,rfl,rfl⟩
      have hst:=HR.out.step h0 (.inl (by first|exact (HQI.out).2 rfl|exact (HQI.out).2 trivial)) (by rw [HM.out];omega)
      rw [hx.1,hx.2] at hst
      have HRN:=xhd hst
      have hrd:=HRD.out _ s HI7.out.rd
      rw [hx.1,hx.2] at hrd
      have HRX:=xhd hrd
      clear hst hrd hx p0 p1 p2
      obtain⟨p0,p1,p2⟩:=three_cells HI7.out.box
      go_wp2_with fail
      refine HRX.out.mono ?_
      rintro r w8 ⟨rfl,hm8⟩
      clear p0 p1 p2
      have HI8:=xhd (HI7.out.moved hm8)
      clear hm8
      go_wp2_with (at_builtin;refine wpList_append_own _ rfl _ _ 22 rfl w.heap.size 3 i0 (.int .i64 0) 1 8 Tryz.underlying22 hi0 hz0 hz1 hz2 rfl (by decide) _ _ _ rfl (HI8.out.below ((Below.refl _ _).alloc (Nat.le_refl _) _)).row ⟨_,0,none⟩ 1 1 (gC x) rfl rfl ?c1 ?c2 ?c3 ?c4 ?c5 ?_)
      case c1=>exact sevint_new _ _
      case c2=>exact gC_one' x
      case c3=>(have:=HM.out;unfold maxLen;omega)
      case c4=>(have:=HM.out;omega)
      case c5=>exact Nat.le_trans HI8.out.t.size (by simp)
      intro v' w6 hown hgrow _
      have hin:=(HI8.out.below ((Below.refl _ _).alloc (Nat.le_refl _) _)).push hown hgrow
      rw [←cellsOf_snoc,show m+1=(gs++[x]).length by simp [HM.out]] at hin
      have HIN:=xhd hin
      obtain⟨ao4,cap4,hv4,_⟩:=ownsRow_shape hown
      subst hv4
      clear hown hgrow hin
      go_wp2
      go_roundw
      case rel=>exact⟨_,_,HIN,HRN⟩
      case measure=>(have:=HM.out;simp [lenOf];omega)
  ·have hd:=HR.out.dead h0
   have HGD:=xhd (fun V (hV:Below wr.heap.size wr V)=>goes_dead h0 (HI.out.below hV).rd.rd)
   have HD:=xhd hd
   have H0:=xhd h0
   clear hd p0 p1 p2 h0
   go_wp2_with fail
   go_quiet ((go_at_call 66;exact Calls.quiet_of_same (HGD.out _ (below_drewN (Below.refl _ _) _))))
   have HI7:=xhd (HI.out.below (below_drewN (Below.refl _ _) nq))
   go_wp2
   go_ret
   exact⟨_,gs,s,rfl,by rw [HM.out];exact HI7.out.row,⟨HI7.out.rd,HI7.out.t⟩,HD.out,fun e=>absurd e H0.out,by rw [HM.out];omega⟩
def Sevlock (L:List Wd) (G:List Lk×Rd) (w:World) (b:Nat) (ao:Option Addr) (bw off cap:Nat) (r:Ending) (w':World):Prop:=
 ∃v gs s,r= .returned v∧w'.ownsRow w.heap.size 100 5 v gs.length (cellsOf lkC gs)∧RwP b ao bw off cap L s w w'∧s=G.2∧(s.2=0→gs=G.1)∧gs.length≤9
theorem sevlock_any {w:World} {b:Nat} {ao:Option Addr} {bw off cap:Nat} {L:List Wd} {s0:Rd} (pb pc:Nat) (h:RwI w b ao bw off cap L s0) (hL:Clean L) (hp:TArg w pb 0 [⟨#[108,111,99,107]⟩,⟨#[115,104,97,114,101,100]⟩]) (hpb:pb≠b):
  Calls Tryz.prog 129 #[.pointer (some ⟨b,0,none⟩), .agg #[.int .i64 0, .int .i64 8, .slice (some ⟨pb,0,none⟩) 2 pc], .func (.func 130) #[] #[]] w (Sevlock L (locksS L 10 s0 []) w b ao bw off cap):=by
 obtain⟨i0,hi0,hz0,hz1,hz2⟩:=info_parts lock_info
 have HST:Hid (SvI w (w.alloc (.cells #[.int .i64 0, .int .i64 8, .slice (some ⟨pb,0,none⟩) 2 pc] 172)) b ao bw off cap L s0 0 8 pb 2 pc [⟨#[108,111,99,107]⟩,⟨#[115,104,97,114,101,100]⟩] 100 5 (.slice none 0 0) ([]:List Lk).length (cellsOf lkC [])):=xhd (by
  have hb:Below w.heap.size w (w.alloc (.cells #[.int .i64 0, .int .i64 8, .slice (some ⟨pb,0,none⟩) 2 pc] 172)):=(Below.refl _ w).alloc (Nat.le_refl _) _
  exact⟨RdI.below h hb,heap_alloc_new _ _,hp.below hb,World.ownsRow_nil _ _ _ _,turned_below hb _,lt_of_block h.rd,hp.lt,hpb,by decide,fun h0=>(h.ws.at_ h0).2⟩)
 have HNX:=xhd (fun V (s:Rd) (hV:RwI V b ao bw off cap L s)=>next_any hV)
 have HBG:=xhd (fun V (x:Wd) (hV:TArg V pb 0 [⟨#[108,111,99,107]⟩,⟨#[115,104,97,114,101,100]⟩])=>(show Calls Tryz.prog 162 #[.agg #[.int .i64 0, .int .i64 8, .slice (some ⟨pb,0,none⟩) 2 pc],wdV x] V fun e w'=>e= .returned (.bool (([⟨#[108,111,99,107]⟩,⟨#[115,104,97,114,101,100]⟩]:List ByteArray).any (firstOf x)))∧Below V.heap.size V w' from begins_any 0 8 pb 0 pc x [⟨#[108,111,99,107]⟩,⟨#[115,104,97,114,101,100]⟩] V hV (by simp)))
 have HRD:=xhd (fun V (s:Rd) (hV:RwI V b ao bw off cap L s)=>readlock_any hV hL)
 have HCL:=xhd hL
 obtain⟨G,hG⟩:∃G,locksS L 10 s0 []=G:=⟨_,rfl⟩
 have HR0:Hid (LI L G s0 []):=xhd (by
  by_cases h0:s0.2=0
  ·exact .inl ⟨h0,by simp,10,by simp,hG⟩
  ·rw [locksS_dead h0] at hG
   exact .inr ⟨h0,by simp,by rw [←hG]⟩)
 rw [hG]
 clear h hL hp hpb hG
 go_enter Tryz.func129,Tryz.ntmps129
 go_wp2_with fail
 go_loopw [7] (fun l' wr=>∃(s:Rd) (gs:List Lk),Hid (SvI w wr b ao bw off cap L s 0 8 pb 2 pc [⟨#[108,111,99,107]⟩,⟨#[115,104,97,114,101,100]⟩] 100 5 l' gs.length (cellsOf lkC gs))∧Hid (LI L G s gs)) (fun l' _=>10 - lenOf l')
 case atStart=>exact⟨s0,[],HST,HR0⟩
 case round=>
  obtain⟨s,gs,HI,HR⟩:=hrel
  obtain⟨aov,capv,hv,_⟩:=ownsRow_shape HI.out.row
  subst hv
  obtain⟨hlm,hl4⟩:=HR.out.len
  obtain⟨m,hm⟩:∃m,gs.length=m:=⟨_,rfl⟩
  have HM:=xhd hm
  rw [hm] at HI hlm hl4 ⊢
  obtain⟨p0,p1,p2⟩:=three_cells HI.out.box
  clear hm
  by_cases h0:s.2=0
  ·have HGL:=xhd (fun V (hV:Below wr.heap.size wr V)=>(by
     have k:=(HI.out.below hV).rd.rd
     rw [h0] at k
     exact goes_live k:Calls Tryz.prog 66 #[.pointer (some ⟨b,0,none⟩)] V _))
   have hl4:=hl4 h0
   have hg1:¬(m:Int) < 0:=by omega
   have hg2:decide ((m:Int) < 0)=false:=by simp
   have hnx:=HNX.out
   obtain⟨y,hy⟩:∃y,nextR L s.1=y:=⟨_,rfl⟩
   obtain⟨q,hq⟩:∃q,([⟨#[108,111,99,107]⟩,⟨#[115,104,97,114,101,100]⟩]:List ByteArray).any (firstOf y)=q:=⟨_,rfl⟩
   have HQI:=xhd (lock_first HCL.out h0 (q:=q) (by rw [hy];exact hq))
   have hnx:=fun V hV=>HNX.out V s hV
   have hbg:=fun V hV=>HBG.out V y hV
   simp only [hy] at hnx
   simp only [hq] at hbg
   unfold wdV at hnx hbg
   obtain⟨ty,hty⟩:∃t:ByteArray,⟨y.2.1.toArray⟩=t:=⟨_,rfl⟩
   simp only [hty] at hnx hbg
   obtain⟨y0,_,y2,y3⟩:=y
   simp only at hnx hbg
   have HNXX:=xhd hnx
   have HBGG:=xhd hbg
   have HID:=xhd (HI.out.below (Below.refl _ _).drew)
   have s0:=three_cells HID.out.box
   clear hnx hbg hy hq hty
   go_wp2_with fail
   go_region_held3 (fun V=>V.cell? ⟨w.heap.size,0,none⟩=some (.int .i64 0)∧V.cell? ⟨w.heap.size,1,none⟩=some (.int .i64 8)∧V.cell? ⟨w.heap.size,2,none⟩=some (.slice (some ⟨pb,0,none⟩) 2 pc))
    (first|exact s0|exact s1|exact s2)
    (first
      |(go_at_call 66
        with_reducible refine (HGL.out _ (Below.refl _ _).drew).mono ?_
        rintro r V1 ⟨rfl,rfl⟩)
      |(go_at_call 137
        with_reducible refine (HNXX.out _ HID.out.rd).mono ?_
        rintro r V1 ⟨rfl,hb⟩
        have HI5:=xhd (HID.out.below hb)
        have s1:=three_cells HI5.out.box
        clear hb)
      |(go_at_call 162
        with_reducible refine (HBGG.out _ HI5.out.ta).mono ?_
        rintro r V2 ⟨rfl,hb⟩
        have HI7:=xhd (HI5.out.below hb)
        have s2:=three_cells HI7.out.box
        clear hb))
   clear s0 s1 p0 p1 p2
   obtain⟨p0,p1,p2⟩:=s2
   cases q with
   |false=>
    have HE:=xhd (HR.out.stop h0 (fun hh=>by have:=(HQI.out).1 hh;cases this))
    clear p0 p1 p2
    go_wp2
    go_ret
    exact⟨_,gs,s,rfl,by rw [HM.out];exact HI7.out.row,⟨HI7.out.rd,HI7.out.t⟩,by rw [HE.out],fun _=>by rw [HE.out],by rw [HM.out];omega⟩
   |true=>
    by_cases hmx:m=8
    ·have hmb:((m:Int) == 8)=true:=by simp;omega
     have HMX:=xhd hmx
     clear hmx
     have hrr:=HI7.out.rd.rd
     rw [h0] at hrr
     have HFX:=xhd (fail_live hrr 6)
     have hle:=HI7.out.rd.le
     clear hrr
     go_wp2_with fail
     with_reducible refine HFX.out.mono ?_
     rintro r w7 ⟨rfl,hr7,ht7⟩
     clear p0 p1 p2
     have HI7b:=xhd (HI7.out.moved (s':=(s.1,6)) ⟨HI7.out.rd.turned ht7 hr7 hle,ht7⟩)
     clear hr7 ht7 hle
     obtain⟨x,hx⟩:∃x,(lockQ L (s.1,6)).1=x:=⟨_,rfl⟩
     have HRN:=xhd (HR.out.full h0 (by first|exact (HQI.out).2 rfl|exact (HQI.out).2 trivial) (HM.out.trans HMX.out) x)
     have hrd:=HRD.out _ (s.1,6) HI7b.out.rd
     rw [hx,lockQ_dead (by show (6:Int)≠0;decide)] at hrd
     have HRX:=xhd hrd
     clear hrd hx
     go_wp2_with fail
     refine HRX.out.mono ?_
     rintro r w8 ⟨rfl,hm8⟩
     have HI8:=xhd (HI7b.out.moved hm8)
     clear hm8
     go_wp2_with (at_builtin;refine wpList_append_own _ rfl _ _ 23 rfl w.heap.size 100 i0 (.agg #[.bool false, .int .i64 0, .int .i64 0, .int .i64 0, .int .i64 0]) 5 40 Tryz.underlying23 hi0 hz0 hz1 hz2 rfl (by decide) _ _ _ rfl (HI8.out.below ((Below.refl _ _).alloc (Nat.le_refl _) _)).row ⟨_,0,none⟩ 1 1 (lkC x) rfl rfl ?c1 ?c2 ?c3 ?c4 ?c5 ?_)
     case c1=>exact sevlock_new _ _
     case c2=>exact lkC_one' x
     case c3=>(have:=HM.out;unfold maxLen;omega)
     case c4=>(have:=HM.out;omega)
     case c5=>exact Nat.le_trans HI8.out.t.size (by simp)
     intro v' w6 hown hgrow _
     have hin:=(HI8.out.below ((Below.refl _ _).alloc (Nat.le_refl _) _)).push hown hgrow
     rw [←cellsOf_snoc,show m+1=(gs++[x]).length by simp [HM.out]] at hin
     have HIN:=xhd hin
     obtain⟨ao4,cap4,hv4,_⟩:=ownsRow_shape hown
     subst hv4
     clear hown hgrow hin
     go_wp2
     go_roundw
     case rel=>exact⟨_,_,HIN,HRN⟩
     case measure=>(have:=HM.out;simp [lenOf];omega)
    ·have hmb:((m:Int) == 8)=false:=by simp;omega
     obtain⟨x,s1,hx⟩:∃x s1,(lockQ L s).1=x∧(lockQ L s).2=s1:=⟨_,_,rfl,rfl⟩
     have hst:=HR.out.step h0 (by first|exact (HQI.out).2 rfl|exact (HQI.out).2 trivial) (by rw [HM.out];omega)
     rw [hx.1,hx.2] at hst
     have HRN:=xhd hst
     have hrd:=HRD.out _ s HI7.out.rd
     rw [hx.1,hx.2] at hrd
     have HRX:=xhd hrd
     clear hst hrd hx p0 p1 p2
     obtain⟨p0,p1,p2⟩:=three_cells HI7.out.box
     go_wp2_with fail
     refine HRX.out.mono ?_
     rintro r w8 ⟨rfl,hm8⟩
     clear p0 p1 p2
     have HI8:=xhd (HI7.out.moved hm8)
     clear hm8
     go_wp2_with (at_builtin;refine wpList_append_own _ rfl _ _ 23 rfl w.heap.size 100 i0 (.agg #[.bool false, .int .i64 0, .int .i64 0, .int .i64 0, .int .i64 0]) 5 40 Tryz.underlying23 hi0 hz0 hz1 hz2 rfl (by decide) _ _ _ rfl (HI8.out.below ((Below.refl _ _).alloc (Nat.le_refl _) _)).row ⟨_,0,none⟩ 1 1 (lkC x) rfl rfl ?c1 ?c2 ?c3 ?c4 ?c5 ?_)
     case c1=>exact sevlock_new _ _
     case c2=>exact lkC_one' x
     case c3=>(have:=HM.out;unfold maxLen;omega)
     case c4=>(have:=HM.out;omega)
     case c5=>exact Nat.le_trans HI8.out.t.size (by simp)
     intro v' w6 hown hgrow _
     have hin:=(HI8.out.below ((Below.refl _ _).alloc (Nat.le_refl _) _)).push hown hgrow
     rw [←cellsOf_snoc,show m+1=(gs++[x]).length by simp [HM.out]] at hin
     have HIN:=xhd hin
     obtain⟨ao4,cap4,hv4,_⟩:=ownsRow_shape hown
     subst hv4
     clear hown hgrow hin
     go_wp2
     go_roundw
     case rel=>exact⟨_,_,HIN,HRN⟩
     case measure=>(have:=HM.out;simp [lenOf];omega)
  ·have hd:=HR.out.dead h0
   have HGD:=xhd (fun V (hV:Below wr.heap.size wr V)=>goes_dead h0 (HI.out.below hV).rd.rd)
   have HD:=xhd hd
   have H0:=xhd h0
   clear hd p0 p1 p2 h0
   go_wp2_with fail
   go_quiet ((go_at_call 66;exact Calls.quiet_of_same (HGD.out _ (below_drewN (Below.refl _ _) _))))
   have HI7:=xhd (HI.out.below (below_drewN (Below.refl _ _) nq))
   go_wp2
   go_ret
   exact⟨_,gs,s,rfl,by rw [HM.out];exact HI7.out.row,⟨HI7.out.rd,HI7.out.t⟩,HD.out,fun e=>absurd e H0.out,by rw [HM.out];omega⟩
end Go.Proofs.YtbnhnnccioljhaaGreatDoor
