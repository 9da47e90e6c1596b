/-
  The program's queue: Ready: the loop over a tree, handed on.
  The program's queue: Load.
  All that is to be said of the program's queues, for the laws of stage 16.
-/
import Derived.Test.YtbfifglcnhfccaaZAK
import Derived.Test.YtbfifglcnhfccaaZAM
import Derived.Test.YtbfifglcnhfccaaZAG
import Derived.Test.YtbfifglcnhfccaaZAl
set_option maxRecDepth 100000
set_option maxHeartbeats 25600000
namespace Go.Proofs.Ytbfifglcnhfccaa
open Go.RowKit
attribute [local go_sem] Oper.semAt_some
abbrev tSqK:TypeId:=101
abbrev tYd:TypeId:=60
def idV (x:Itm Nat):Int×Int:=(x.2.1,x.1)
theorem TurnSeqY.later {α:Type} {F:Fence} {n:Nat} {P:Program} {g:Nat} {lb:Array Value} {encs:α→Array Value} {Y X:List Nat} {Sp:List α→Prop} {S Sx:List α→List Nat→World→Prop} {w w1:World} (h:TurnSeqY F n P g lb encs Y X Sp S Sx w) (t:Turned [] w w1):
 TurnSeqY F n P g lb encs Y X Sp S Sx w1:=fun l J Jx W hW=>h l J Jx W (t.join hW)
theorem ready_seq {w:World} {Bx Bk Bf:Nat} {t:Tr Nat} (hb:w.heap[Bx]?=some (.cells #[allV Bk Bf] tSqK (0,0))) (hk:KeptT w Bk Bf t) (hL:∀x ∈ t.list,KeyOk x):
  ∃Y:List Nat,(∀k ∈ Y,k < w.heap.size∧∃cs,w.heap[k]?=some (.cells cs tNd (0,0)))∧∀n,TurnSeqY Fence.wide n Try.prog 63 #[.pointer (some ⟨Bx,0,none⟩)] encR Y [] (fun xs=>xs <+:t.list.map idV) (fun xs _ _=>xs=t.list.map idV) (fun xs _ _=>xs <+:t.list.map idV) w:=by
 obtain⟨Y,hY,hseq⟩:=tall_seq hk hL
 refine⟨Y,hY,fun n=>?_⟩
 intro l J Jx W hW hJY hJxY hJ hJx hYi hj0
 have b0:=cell1 (hW.same hb (by simp))
 have hYl:∀k ∈ Y,k < W.heap.size:=fun k hk=>Nat.lt_of_lt_of_le (hY k hk).1 hW.size
 obtain⟨W1,hW1⟩:∃W1,W.alloc (.cells #[.func (.yield l) #[] #[]] tYd)=W1:=⟨_,rfl⟩
 have t1:Turned [] W W1:=hW1 ▸ (Turned.refl [] W).alloc _
 have y1:W1.heap[W.heap.size]?=some (.cells #[.func (.yield l) #[] #[]] tYd (0,0)):=hW1 ▸ heap_alloc_new W _
 have hlt:=lt_of_block y1
 have b1:=cell1 y1
 have hbl:Bx < W.heap.size:=Nat.lt_of_lt_of_le (lt_of_block hb) hW.size
 have HJ:=xhd hJ
 have HJX:=xhd hJx
 have HJY:=xhd hJY
 have HJXY:=xhd hJxY
 have HYI:=xhd hYi
 have HSQ:=xhd (fun n=>(hseq n).later (hW.join t1))
 have HJ0:=xhd hj0
 have HY1:=xhd y1
 have HT1:=xhd t1
 have HYL:=xhd hYl
 have HYL1:Hid (∀k ∈ Y,k < W1.heap.size):=xhd fun k hk=>Nat.lt_of_lt_of_le (hYl k hk) t1.size
 have HLT:=xhd hlt
 have HW1:=xhd hW1
 clear hJ hJx hJY hJxY hYi hseq hY hb hk hj0 hW t1 y1 hYl hL hW1
 refine callsIn_of_wp_marks Try.func63 rfl trivial ?_ rfl
 simp only [Try.ntmps63,List.size_toArray,List.length_cons,List.length_nil,Nat.reduceAdd,Nat.reduceSub,Array.replicate_succ,Array.replicate_zero,List.push_toArray,List.append_toArray,List.nil_append,List.cons_append]
 refine wpIn_wide.2 ?_
 go_wp2_with fail
 (try rw [HW1.out])
 refine (wpIn_wide (n:=20)).1 ?_
 refine range_turnsV rfl (by omega) rfl trivial (fun _ _=>rfl) (Y:=Y) (X:=[]) (by simp) HYL1.out (HSQ.out 19) (fun _=>rfl) (fun _ _ _ _ h _=>h) (fun _ _ _ _ h _=>h)
  (fun xs Z V=>∃Zo,J (xs.map idV) Zo V∧(∀k ∈ Z,k ∈ Zo)∧W.heap.size ∈ Zo∧W1.heap.size ∈ Zo∧W1.heap.size+1 ∈ Zo∧(∀k ∈ Zo,k < V.heap.size)∧V.heap[W.heap.size]?=some (.cells #[.func (.yield l) #[] #[]] tYd (0,0))∧∀k ∈ Z,W1.heap.size≤k)
  (fun cc xs Z V=>cc= .ret∧∃Zo,Jx (xs.map idV) Zo V∧(∀k ∈ Z,k ∈ Zo)∧W1.heap.size ∈ Zo∧W1.heap.size+1 ∈ Zo∧(∀k ∈ Zo,k < V.heap.size))
  ?hI ?hIx ?h0 ?hIY ?hIxY ?hsz tKy (fun x=> #[.int .u64 x.1, .int .i64 x.2.1]) ?a1 ?assign ?body ?done ?stop
 case assign=>
  intro l' x Bb V K hBk hK
  gi_wp2
  exact hK
 case hI=>
  rintro xs Z Z' A V ⟨Zo,h1,h2,h3,h4,h5,h6,h7,h8⟩ hz ht hn hb'
  have hsV:=ht.size
  have hZo:∀k ∈ Zo++Z',k < V.heap.size:=fun k hk=>by
   rcases List.mem_append.1 hk with hk|hk
   ·have:=h6 k hk;omega
   ·exact hb' k hk
  refine⟨Zo++Z',HJ.out _ _ _ _ _ h1 (ht.mono (fun k hk=> .inl (by simp at hk;rcases hk with rfl|rfl|hk;exact h4;exact h5;exact h2 k hk))) (fun k hk=>?_) hZo,fun k hk=>List.mem_append_right _ hk,List.mem_append_left _ h3,List.mem_append_left _ h4,List.mem_append_left _ h5,hZo,ht.same h7 (fun hx=>?_),fun k hk=>?_⟩
  ·rcases List.mem_append.1 hk with hk|hk
   ·exact .inl hk
   ·rcases hn k hk with h|h
    ·exact .inl (h2 k h)
    ·exact .inr h
  ·have:=HLT.out
   simp at hx
   rcases hx with hx|hx|hx
   ·omega
   ·omega
   ·have:=h8 _ hx;omega
  ·rcases hn k hk with h|h
   ·exact h8 k h
   ·have:=h6 _ h4;omega
 case hIx=>
  rintro cc xs Z Z' A V ⟨rfl,Zo,h1,h2,h4,h5,h6⟩ hz ht hn hb'
  have hsV:=ht.size
  have hZo:∀k ∈ Zo++Z',k < V.heap.size:=fun k hk=>by
   rcases List.mem_append.1 hk with hk|hk
   ·have:=h6 k hk;omega
   ·exact hb' k hk
  refine⟨rfl,Zo++Z',HJX.out _ _ _ _ _ h1 (ht.mono (fun k hk=> .inl (by simp at hk;rcases hk with rfl|rfl|hk;exact h4;exact h5;exact h2 k hk))) (fun k hk=>?_) hZo,fun k hk=>List.mem_append_right _ hk,List.mem_append_left _ h4,List.mem_append_left _ h5,hZo⟩
  rcases List.mem_append.1 hk with hk|hk
  ·exact .inl hk
  ·rcases hn k hk with h|h
   ·exact .inl (h2 k h)
   ·exact .inr h
 case h0=>
  intro V tV hV
  have tWV:Turned [] W V:=HT1.out.join tV
  have hs1:=HT1.out.size
  have hb':∀k ∈ [W.heap.size,W1.heap.size,W1.heap.size+1],k < V.heap.size:=fun k hk=>by
   have:=HLT.out
   simp at hk
   omega
  refine⟨[W.heap.size,W1.heap.size,W1.heap.size+1],HJ.out _ _ _ _ _ HJ0.out tWV (fun k hk=> .inr (by simp at hk;omega)) hb',by simp,by simp,by simp,by simp,hb',tV.same HY1.out (by simp),by simp⟩
 case hIY=>
  rintro xs Z V ⟨Zo,h1,_⟩ k hk
  exact (HJY.out _ _ _ h1 k hk).trans (HT1.out.block k (HYL.out k hk) (by simp)).symm
 case hIxY=>
  rintro cc xs Z V ⟨_,Zo,h1,_⟩ k hk
  exact (HJXY.out _ _ _ h1 k hk).trans (HT1.out.block k (HYL.out k hk) (by simp)).symm
 case hsz=>
  rintro xs Z V ⟨Zo,_,_,_,_,h5,h6,_⟩
  exact h6 _ h5
 case body=>
  rintro l' pre ⟨x1,x2,x3⟩ Z Bb V hbk hBk hzl ⟨Zo,h1,h2,h3,h4,h5,h6,h7,h8⟩ hsp
  simp only at hbk
  have k0:V.cell? ⟨Bb,0,none⟩=some (.int .u64 x1):=by simp [World.cell?,hbk]
  have k1:V.cell? ⟨Bb,1,none⟩=some (.int .i64 x2):=by simp [World.cell?,hbk]
  have c7:=cell1 h7
  have hpre:(pre.map idV++[(x2,x1)]) <+:t.list.map idV:=by
   obtain⟨r,hr⟩:=hsp
   exact⟨r.map idV,by rw [←hr];simp [idV]⟩
  obtain⟨fn,tmps,assign,bodyc,hy,hR⟩:=HYI.out (pre.map idV) (x2,x1) Zo V h1 hpre
  have HRR:=xhd hR
  have HZZ:=xhd (And.intro h2 (And.intro h3 (And.intro h4 (And.intro h5 (And.intro h6 (And.intro h7 h8))))))
  clear hR h1 h2 h3 h4 h5 h6 h7 h8 hbk hpre hsp hzl
  (try dsimp only at hy)
  gi_wp2
  refine (RoundIn.any HRR.out).mono ?_
  rintro e V3 ⟨hs,hz,⟨rfl,hj3⟩ |⟨rfl,hx3⟩⟩
  ·have FIN:Hid (SameAt [W1.heap.size,W1.heap.size+1] V V3∧V.heap.size≤V3.heap.size∧SameAt Z V V3∧∃Zo,J ((pre++[(x1,x2,x3)]).map idV) Zo V3∧(∀k ∈ Z,k ∈ Zo)∧W.heap.size ∈ Zo∧W1.heap.size ∈ Zo∧W1.heap.size+1 ∈ Zo∧(∀k ∈ Zo,k < V3.heap.size)∧V3.heap[W.heap.size]?=some (.cells #[.func (.yield l) #[] #[]] tYd (0,0))∧∀k ∈ Z,W1.heap.size≤k):=xhd (by
     obtain⟨h2,h3,h4,h5,h6,h7,h8⟩:=HZZ.out
     refine⟨fun k hk=>hs k (by simp at hk;rcases hk with rfl|rfl;exact h4;exact h5),hz,fun k hk=>hs k (h2 k hk),Zo,?_,h2,h3,h4,h5,fun k hk=>Nat.lt_of_lt_of_le (h6 k hk) hz,(hs _ h3).trans h7,h8⟩
     rw [show (pre++[(x1,x2,x3)]).map idV=pre.map idV++[(x2,x1)] by simp [idV]]
     exact hj3)
   clear hs hz hj3
   gi_wp2
   exact FIN.out
  ·have FIN:Hid (SameAt [W1.heap.size,W1.heap.size+1] V V3∧V.heap.size≤V3.heap.size∧SameAt Z V V3∧(Code.ret=Code.ret∧∃Zo,Jx ((pre++[(x1,x2,x3)]).map idV) Zo V3∧(∀k ∈ Z,k ∈ Zo)∧W1.heap.size ∈ Zo∧W1.heap.size+1 ∈ Zo∧(∀k ∈ Zo,k < V3.heap.size))):=xhd (by
     obtain⟨h2,h3,h4,h5,h6,h7,h8⟩:=HZZ.out
     refine⟨fun k hk=>hs k (by simp at hk;rcases hk with rfl|rfl;exact h4;exact h5),hz,fun k hk=>hs k (h2 k hk),rfl,Zo,?_,h2,h4,h5,fun k hk=>Nat.lt_of_lt_of_le (h6 k hk) hz⟩
     rw [show (pre++[(x1,x2,x3)]).map idV=pre.map idV++[(x2,x1)] by simp [idV]]
     exact hx3)
   clear hs hz hx3
   gi_wp2
   obtain⟨f1,f2,f3,_,f4⟩:=FIN.out
   exact⟨f1,f2,f3,rfl,f4⟩
 case done=>
  rintro xs Z V rfl ⟨Zo,h1,h2,h3,h4,h5,h6,h7,h8⟩ hK
  have HF:=xhd (show ∃Z,J (t.list.map idV) Z (V.putObj W1.heap.size (.deferred none)) from⟨Zo,HJ.out _ _ _ _ _ h1 ((Turned.refl Zo V).grown (grownBy_putObj' V _ _) (fun k e=> .inl (by cases e;exact h4))) (Newer.refl _ _) (fun k hk=>by have:=h6 k hk;simp;omega)⟩)
  have HKK:=xhd hK
  clear h1 h2 h3 h4 h5 h6 h7 h8 hK
  go_wp2
  refine⟨by simp, .inl ⟨_,_,rfl,run_takeDeferred HKK.out,?_⟩⟩
  obtain⟨Z2,h1⟩:=HF.out
  exact⟨_,results_none rfl _ _ _,⟨_,rfl⟩, .inl ⟨_,Z2,rfl,h1⟩⟩
 case stop=>
  rintro cc xs Z V hsx ⟨rfl,Zo,h1,h2,h4,h5,h6⟩ hK
  have HF:=xhd (show ∃Z,Jx (xs.map idV) Z (V.putObj W1.heap.size (.deferred none)) from⟨Zo,HJX.out _ _ _ _ _ h1 ((Turned.refl Zo V).grown (grownBy_putObj' V _ _) (fun k e=> .inl (by cases e;exact h4))) (Newer.refl _ _) (fun k hk=>by have:=h6 k hk;simp;omega)⟩)
  have HKK:=xhd hK
  clear h1 h2 h4 h5 h6 hK
  have hpre:xs.map idV <+:t.list.map idV:=by
   obtain⟨r,hr⟩:=hsx
   exact⟨r.map idV,by rw [←hr];simp⟩
  refine wpIn_ret ?_
  simp only [Exit.inBlock]
  refine⟨by simp, .inl ⟨_,_,rfl,run_takeDeferred HKK.out,?_⟩⟩
  obtain⟨Z2,h1⟩:=HF.out
  exact⟨_,results_none rfl _ _ _,⟨_,rfl⟩, .inr ⟨_,Z2,hpre,h1⟩⟩
theorem box_funcR {P:Program} (w:World) (f:Fn) (vs lb:Array Value) (x:Value) (t:TypeId):
  (store ⟨w.heap.size,0,none⟩ (.func f vs lb)).run P (w.alloc (.cells #[x] t))= .ok () (w.alloc (.cells #[.func f vs lb] t)):=by
 rw [run_store _ _ _ _ _ rfl,World.cell?_alloc_at _ _ _ _ rfl,World.frozen?_alloc_at _ _ _ _ rfl,World.setCell_alloc_at _ _ _ _ _ rfl]
 rfl
section
variable {w w':World} {b bt br:Nat} {q q':Rq} {T T' R R':Tr Nat} {B:Int→Nat} {r r' c:Int} {X Y:List Nat}
theorem rpReady (h:RpI w b q bt br T R B r) (hq:QOk q c):Calls Try.prog 34 #[.pointer (some ⟨b,0,none⟩)] w fun e w'=>∃Bx,e= .returned (.func (.func 63) #[] #[.pointer (some ⟨Bx,0,none⟩)])∧Turned [] w w'∧
  ∃Y:List Nat,(∀k ∈ Y,k < w'.heap.size∧∃cs,w'.heap[k]?=some (.cells cs tNd (0,0)))∧∀n,TurnSeqY Fence.wide n Try.prog 63 #[.pointer (some ⟨Bx,0,none⟩)] encR Y [] (fun xs=>xs <+:rdyL q) (fun xs _ _=>xs=rdyL q) (fun xs _ _=>xs <+:rdyL q) w':=by
 obtain⟨⟨c0,c1,c2,c3,c4,c5⟩,_⟩:=cells6 h.h0
 have HA:=xhd (tall_any h.h2)
 have hkey:=h.hr.key (fun x hx=>hq.ids x (ready_sub hx).1) (fun x hx=>hq.v x (ready_sub hx).1)
 have hlist:R.list.map idV=rdyL q:=by
  rw [h.hr.sorted (ready_nodup hq.uniq),rdyL,List.map_map]
  rfl
 have HR:Hid (∀V Bx Bk Bf,V.heap[Bx]?=some (.cells #[allV Bk Bf] tSqK (0,0))→KeptT V Bk Bf R→∃Y:List Nat,(∀k ∈ Y,k < V.heap.size∧∃cs,V.heap[k]?=some (.cells cs tNd (0,0)))∧∀n,TurnSeqY Fence.wide n Try.prog 63 #[.pointer (some ⟨Bx,0,none⟩)] encR Y [] (fun xs=>xs <+:rdyL q) (fun xs _ _=>xs=rdyL q) (fun xs _ _=>xs <+:rdyL q) V):=xhd fun V Bx Bk Bf h1 h2=>by
  rw [←hlist]
  exact ready_seq h1 h2 hkey
 clear h hq c0 c1 c2 c4 c5 hkey hlist
 go_enter Try.func34,Try.ntmps34
 go_wp2_with fail
 with_reducible refine HA.out.mono ?_
 rintro e w2 ⟨Bk,Bf,rfl,h1,h2,h3,t2⟩
 have ta:=(Turned.refl [] w2).alloc (.cells #[allV Bk Bf] tSqK)
 have HF:=xhd (And.intro (t2.join ta) (HR.out (w2.alloc (.cells #[allV Bk Bf] tSqK)) w2.heap.size Bk Bf (heap_alloc_new w2 _) (h3.later ta)))
 have hst:=box_funcR (P:=Try.prog) w2 (.func 90) #[] #[.pointer (some ⟨Bk,0,none⟩), .pointer (some ⟨Bf,0,none⟩)] .nilFunc tSqK
 clear h1 h2 h3 t2 ta
 go_wp2
 go_ret
 exact⟨_,rfl,HF.out.1,HF.out.2⟩
end
end Go.Proofs.Ytbfifglcnhfccaa
namespace Go.Proofs.Ytbfifglcnhfccaa
open Go.RowKit
attribute [local go_sem] Oper.semAt_some
theorem sumR_perm {l m:List Int} (h:l.Perm m):sumR l=sumR m:=by
 unfold sumR
 induction h with
 |nil=>rfl
 |cons x _ ih=>simp [ih]
 |swap x y l=>simp only [List.foldr_cons];omega
 |trans _ _ h1 h2=>rw [h1,h2]
theorem sumR_snoc (l:List Int) (x:Int):sumR (l++[x])=sumR l+x:=by
 unfold sumR
 induction l with
 |nil=>simp
 |cons y l ih=>simp only [List.cons_append,List.foldr_cons,ih];omega
theorem sumR_le:∀(l:List Int) {m:Int},0≤m→(∀x ∈ l,0≤x∧x≤m)→0≤sumR l∧sumR l≤l.length*m
 |[],m,hm,_=>by simp [sumR]
 |x::l,m,hm,h=>by
  obtain⟨a,b⟩:=sumR_le l hm (fun y hy=>h y (List.mem_cons_of_mem _ hy))
  obtain⟨c,d⟩:=h x (by simp)
  have e:sumR (x::l)=x+sumR l:=rfl
  rw [e]
  refine⟨by omega,?_⟩
  have e2:(((x::l).length:Nat):Int)*m=l.length*m+m:=by
   simp only [List.length_cons]
   rw [show (((l.length+1:Nat)):Int)=l.length+1 by omega,Int.add_mul]
   omega
  omega
def wtI (q:Rq) (y:Itm Nat):Int:=((findQ q.l y.2.1).map (·.2)).getD 0
theorem find_mem {l:List Tk} (hu:(l.map (·.1)).Nodup) {x:Tk} (hx:x ∈ l):findQ l x.1=some x.2:=by
 cases h:findQ l x.1 with
 |none=>exact absurd rfl (findQ_none h x hx)
 |some z=>
  have:=findQ_one hu (findQ_mem h) hx rfl
  rw [←this]
structure LdB (w w2 V:World) (s:Int) (Y Z:List Nat):Prop where
 t:Turned [] w V
 r0:V.heap[w.heap.size]?=some (.cells #[.int .i64 s] 3 (0,0))
 ym:SameAt Y w2 V
 zm:∀k ∈ Z,w2.heap.size≤k∧k < V.heap.size
 sz:w2.heap.size≤V.heap.size
section
variable {w w2 A B:World} {s:Int} {Y Z Z':List Nat}
theorem LdB.mild (h:LdB w w2 A s Y Z) (m:Mild Z w2.heap.size A B) (hN:w.heap.size+1≤w2.heap.size) (hY:∀k ∈ Y,k < w2.heap.size) (hn:Newer Z A.heap.size Z') (hb:∀k ∈ Z',k < B.heap.size):LdB w w2 B s Y Z':=by
 have off:∀k,k < w2.heap.size→k ∉ Z:=fun k hk hz=>by have:=(h.zm k hz).1;omega
 refine⟨h.t.mild m (by omega) (fun k hk=>by have:=(h.zm k hk).1;omega),m.cells h.r0 (off _ (by omega)),fun k hk=>?_,fun k hk=>⟨?_,hb k hk⟩,Nat.le_trans h.sz m.size⟩
 ·have h1:=hY k hk
  have h2:A.heap[k]?=some (A.heap[k]'(by have:=h.sz;omega)):=Array.getElem?_eq_getElem _
  rw [m.same k _ h2 (off k h1) (.inl h1), ←h2]
  exact h.ym k hk
 ·rcases hn k hk with h1|h1
  ·exact (h.zm k h1).1
  ·have:=h.sz;omega
theorem LdB.set (h:LdB w w2 A s Y Z) (hY:∀k ∈ Y,k≠w.heap.size) (s':Int):LdB w w2 (A.setCell ⟨w.heap.size,0,none⟩ (.int .i64 s')) s' Y Z:=by
 have T:=(Turned.refl [w.heap.size] A).setCell (p:=⟨w.heap.size,0,none⟩) (.inl (by simp)) (.int .i64 s')
 refine⟨h.t.trans' T (fun k hk=>by simp at hk;omega),?_,fun k hk=>(Below.heap_setCell _ _ _ k (hY k hk)).trans (h.ym k hk),fun k hk=>?_,Nat.le_trans h.sz T.size⟩
 ·rw [heap_setCell_same _ _ _ _ _ _ h.r0]
  rfl
 ·have:=h.zm k hk
  exact⟨this.1,Nat.lt_of_lt_of_le this.2 T.size⟩
end
section
variable {w w':World} {b bt br:Nat} {q q':Rq} {T T' R R':Tr Nat} {B:Int→Nat} {r r' c:Int} {X Y:List Nat}
theorem rpLoad (h:RpI w b q bt br T R B r) (hq:QOk q c):Calls Try.prog 37 #[.pointer (some ⟨b,0,none⟩)] w fun e w'=>e= .returned (.int .i64 (sumR (q.l.map (·.2.2))))∧Turned [] w w':=by
 have hitem:∀y ∈ T.list,∃z ∈ q.l,y=itT B z∧wtI q y=z.2.2:=fun y hy=>by
  obtain⟨z,hz,rfl⟩:=List.mem_map.1 (h.ht.2.mem_iff.1 hy)
  exact⟨z,hz,rfl,by rw [wtI,show (itT B z).2.1=z.1 from rfl,find_mem hq.uniq hz];rfl⟩
 have hsum:sumR (T.list.map (wtI q))=sumR (q.l.map (·.2.2)):=by
  rw [sumR_perm (h.ht.2.map (wtI q)),List.map_map]
  congr 1
  refine List.map_congr_left fun z hz=>?_
  show wtI q (itT B z)=z.2.2
  rw [wtI,show (itT B z).2.1=z.1 from rfl,find_mem hq.uniq hz]
  rfl
 have hpre:∀pre,pre <+:T.list→0≤sumR (pre.map (wtI q))∧sumR (pre.map (wtI q))≤65536:=fun pre hp=>by
  have h1:=sumR_le (pre.map (wtI q)) (m:=4096) (by decide) (fun v hv=>by
   obtain⟨y,hy,rfl⟩:=List.mem_map.1 hv
   obtain⟨z,hz,_,e⟩:=hitem y (hp.subset hy)
   have:=hq.wt z hz
   omega)
  have h2:=hp.length_le
  have h3:=h.ht.len
  have h4:=hq.len
  rw [List.length_map] at h1
  have h5:(pre.length:Int)≤16:=by omega
  have h6:=Int.mul_le_mul_of_nonneg_right h5 (show (0:Int)≤4096 by decide)
  omega
 have hcell:∀y ∈ T.list,∀V,Turned [] w V→V.cell? ⟨y.2.2,2,none⟩=some (.int .i64 (wtI q y)):=fun y hy V tV=>by
  obtain⟨z,hz,e1,e2⟩:=hitem y hy
  rw [e2,e1]
  exact (cells3k (tV.same (h.k z hz) (by simp))).1.2.2
 obtain⟨W,hW⟩:∃W,w.alloc (.cells #[.int .i64 0] 3)=W:=⟨_,rfl⟩
 have TW:Turned [] w W:=hW ▸ (Turned.refl [] w).alloc _
 have e0:W.heap[w.heap.size]?=some (.cells #[.int .i64 0] 3 (0,0)):=hW ▸ heap_alloc_new w _
 have hkey:=h.ht.key (fun x hx=>hq.ids x hx)
 have HA:=xhd (tall_any (h.h1.later TW))
 obtain⟨⟨c0,c1,c2,c3,c4,c5⟩,_⟩:=cells6 h.h0
 have hbl:b < w.heap.size:=lt_of_block h.h0
 have HE:=xhd e0
 have HT:=xhd TW
 have HKEY:=xhd hkey
 have HPRE:=xhd hpre
 have HCELL:=xhd hcell
 have HSUM:=xhd hsum
 have HW:=xhd hW
 rw [←HSUM.out]
 clear h hq hW TW e0 hkey hitem hsum hpre hcell c0 c1 c3 c4 c5
 refine callsIn_wide.1 (?_:CallsIn Fence.wide 20 _ _ _ _ _)
 refine callsIn_of_wp_marks Try.func37 rfl trivial ?_ rfl
 simp only [Try.ntmps37,List.size_toArray,List.length_cons,List.length_nil,Nat.reduceAdd,Nat.reduceSub,Array.replicate_succ,Array.replicate_zero,List.push_toArray,List.append_toArray,List.nil_append,List.cons_append]
 refine wpIn_wide.2 ?_
 go_wp2_with fail
 (try rw [HW.out])
 with_reducible refine HA.out.mono ?_
 rintro e w2 ⟨Bk,Bf,rfl,hk1,hk2,hK,t2⟩
 obtain⟨Y,hY,hseq⟩:=tall_seq hK HKEY.out
 have hN1:w.heap.size+1≤w2.heap.size:=by have:=lt_of_block HE.out;have:=t2.size;omega
 have F0:LdB w w2 w2 0 Y []:=⟨HT.out.join t2,t2.same HE.out (by simp),SameAt.refl _ _,fun k hk=>by simp at hk,Nat.le_refl _⟩
 have hYo:∀k ∈ Y,k≠w.heap.size:=fun k hk e=>by
  obtain⟨_,cs,hc⟩:=hY k hk
  rw [e,F0.r0] at hc
  injection hc with hc
  injection hc with _ hc
  exact absurd hc (by decide)
 have hYl:∀k ∈ Y,k < w2.heap.size:=fun k hk=>(hY k hk).1
 have HF0:=xhd F0
 have HYO:=xhd hYo
 have HYL:=xhd hYl
 have HSQ:=xhd hseq
 have HN1:=xhd hN1
 clear hk1 hk2 hK t2 hY hseq F0 hYo hYl hN1 HA HE HT HW hbl c2
 go_wp2_with fail
 refine (wpIn_wide (n:=20)).1 ?_
 refine range_turnsY_plain rfl (by omega) rfl trivial (fun _ _=>rfl) (Y:=Y) (X:=[]) (by simp) HYL.out (HSQ.out 19) (fun _=>rfl) (fun _ _ _ _ h _=>h) (fun _ _ _ _ h _=>h)
  (fun xs Z V=>LdB w w2 V (sumR (xs.map (wtI q))) Y Z) (fun _ _ _ _=>False)
  (fun xs Z Z' A B h m hn hb=>h.mild m HN1.out HYL.out hn hb) (fun _ _ _ _ _ _ h _ _ _=>h.elim) HF0.out (fun _ _ _ h=>h.ym) (fun _ _ _ _ h=>h.elim) ?a1 ?assign ?body ?done ?stop
 case stop=>
  rintro D c xs Z V _ _ _ h _
  exact h.elim
 case assign=>
  intro l' x V K hK
  gi_wp2
  exact hK
 case body=>
  rintro l' pre x Z V hI hsp
  have hp1:=HPRE.out pre ((List.prefix_append _ _).trans hsp)
  have hp2:=HPRE.out _ hsp
  have hx:x ∈ T.list:=hsp.subset (by simp)
  have k2:=HCELL.out x hx V.drew hI.t.drew
  have s0:V.drew.cell? ⟨w.heap.size,0,none⟩=some (.int .i64 (sumR (pre.map (wtI q)))):=by
   have:=hI.t.drew
   exact cell1 (show V.drew.heap[w.heap.size]?=_ from hI.r0)
  have sf:V.drew.frozen? ⟨w.heap.size,0,none⟩=false:=frozen_of_row V.drew _ 0 _ _ hI.r0
  have hsn:sumR ((pre++[x]).map (wtI q))=sumR (pre.map (wtI q))+wtI q x:=by rw [List.map_append,List.map_cons,List.map_nil,sumR_snoc]
  rw [hsn] at hp2
  have hwr:IntKind.i64.wrap (sumR (pre.map (wtI q))+wtI q x)=sumR (pre.map (wtI q))+wtI q x:=by
   rw [IntKind.wrap_i64];omega
  have HFIN:Hid (KeepsFrom w2.heap.size V (V.drew.setCell ⟨w.heap.size,0,none⟩ (.int .i64 (sumR (pre.map (wtI q))+wtI q x)))∧SameAt Z V (V.drew.setCell ⟨w.heap.size,0,none⟩ (.int .i64 (sumR (pre.map (wtI q))+wtI q x)))∧LdB w w2 (V.drew.setCell ⟨w.heap.size,0,none⟩ (.int .i64 (sumR (pre.map (wtI q))+wtI q x))) (sumR ((pre++[x]).map (wtI q))) Y Z):=xhd (by
   have hD:LdB w w2 V.drew (sumR (pre.map (wtI q))) Y Z:=⟨hI.t.drew,hI.r0,hI.ym,hI.zm,hI.sz⟩
   have k2:KeepsFrom w2.heap.size V.drew (V.drew.setCell ⟨w.heap.size,0,none⟩ (.int .i64 (sumR (pre.map (wtI q))+wtI q x))):=(KeepsOthers.setCell _ _ _).from _
   refine⟨⟨k2.size,k2.same⟩,fun k hk=>?_,by rw [hsn];exact hD.set HYO.out _⟩
   have h1:=(hI.zm k hk).1
   have h2:=HN1.out
   exact Below.heap_setCell V.drew ⟨w.heap.size,0,none⟩ _ k (by simp;omega))
  obtain⟨x1,x2,x3⟩:=x
  simp only at k2
  obtain⟨N,hN⟩:∃N,w.heap.size=N:=⟨_,rfl⟩
  rw [hN] at s0 sf HFIN
  obtain⟨sp,hsp2⟩:∃sp,sumR (pre.map (wtI q))=sp:=⟨_,rfl⟩
  rw [hsp2] at s0 hwr HFIN
  obtain⟨wx,hwx⟩:∃wx,wtI q (x1,x2,x3)=wx:=⟨_,rfl⟩
  rw [hwx] at k2 hwr HFIN
  clear hI hsp hp1 hp2 hx hsn hsp2 hwx
  rw [hN]
  gi_wp2
  refine wpRound_tail 6 (by kernel_rfl) ?_ (by kernel_rfl) (by kernel_rfl) ?_
  ·rintro ⟨_,_,h⟩;exact h
  simp only [List.take_succ_cons,List.take_zero,List.drop_succ_cons,List.drop_zero]
  repeat (go_big_quiet_step (fail))
  refine wpQuiet_nil ?_
  go_wp2
  gi_wp2
  exact HFIN.out
 case done=>
  rintro D xs Z V hD hz rfl hI hK
  have b0:=cell1 hI.r0
  have HFIN:Hid (Turned [] w (V.putObj D (.deferred none))):=xhd (hI.t.put (by have:=HN1.out;omega) _)
  have HKD:=xhd hK
  obtain⟨s,hs⟩:∃s,sumR (T.list.map (wtI q))=s:=⟨_,rfl⟩
  rw [hs] at b0
  have HS:=xhd hs
  clear hI hK hs hz hD
  go_wp2
  refine⟨by simp, .inl ⟨_,_,rfl,run_takeDeferred (show V.heap[D]?=_ from HKD.out),?_⟩⟩
  exact⟨_,results_tmp rfl _ _ _,by rw [HS.out];rfl,HFIN.out⟩
end
end Go.Proofs.Ytbfifglcnhfccaa
namespace Go.Proofs.Ytbfifglcnhfccaa
open Go.RowKit
theorem newer_ids {b bt br:Nat} {B:Int→Nat} {l l':List Tk} (h:∀x ∈ l',∃y ∈ l,y.1=x.1) (n:Nat):Newer (blocksQ b bt br B l) n (blocksQ b bt br B l'):=fun k hk=>by
 rcases mem_blocksQ.1 hk with rfl|rfl|rfl|⟨x,hx,rfl⟩
 ·exact .inl (mem_blocksQ.2 (.inl rfl))
 ·exact .inl (mem_blocksQ.2 (.inr (.inl rfl)))
 ·exact .inl (mem_blocksQ.2 (.inr (.inr (.inl rfl))))
 ·obtain⟨y,hy,e⟩:=h x hx
  exact .inl (mem_blocksQ.2 (.inr (.inr (.inr ⟨y,hy,by rw [e]⟩))))
theorem pick_ls (q:Rq):q.pick.l=q.l:=by
 unfold Rq.pick
 split
 ·rfl
 ·split<;>rfl
theorem settle_ls (q:Rq):q.settle.l=q.l:=(settle_ge q).2.2.1
theorem tick_ids (q:Rq):∀x ∈ q.tick.l,∃y ∈ q.l,y.1=x.1:=fun x hx=>by
 unfold Rq.tick at hx
 split at hx
 ·obtain⟨y,hy,rfl⟩:=List.mem_map.1 hx
  refine⟨y,hy,?_⟩
  unfold tickT
  split<;>rfl
 ·exact⟨x,hx,rfl⟩
theorem weigh_ids (q:Rq) (id n:Int):∀x ∈ (q.weigh id n).l,∃y ∈ q.l,y.1=x.1:=fun x hx=>by
 unfold Rq.weigh at hx
 split at hx
 ·exact⟨x,hx,rfl⟩
 ·obtain⟨y,hy,rfl⟩:=List.mem_map.1 hx
  refine⟨y,hy,?_⟩
  split<;>rfl
theorem remove_ids (q:Rq) (id:Int):∀x ∈ (q.remove id).l,∃y ∈ q.l,y.1=x.1:=fun x hx=>by
 unfold Rq.remove at hx
 split at hx
 ·exact⟨x,(List.mem_filter.1 hx).1,rfl⟩
 ·exact⟨x,hx,rfl⟩
section
variable {w w':World} {b bt br:Nat} {q q':Rq} {T R:Tr Nat} {B:Int→Nat} {r:Int} {Y:List Nat}
theorem up_blocks (ht:Turned Y w w') (hy:∀k ∈ Y,k ∈ blocksQ b bt br B q.l):Turned (blocksQ b bt br B q.l) w w':=ht.mono (fun k hk=> .inl (hy k hk))
end
theorem nd_off {t:TypeId} (h:t≠tNd):(t == tNd)=false:=by simpa using h
def rpSaid:RqSaid where
 At:=RpAt
 tn:=fun t=>t == tNd
 offQ:=nd_off (by decide)
 offT:=nd_off (by decide)
 offI:=nd_off (by decide)
 offB:=nd_off (by decide)
 offU:=nd_off (by decide)
 keep:=by
  rintro w w' b X Y q ⟨bt,br,T,R,B,r,rfl,h⟩ ht hd ho
  exact⟨bt,br,T,R,B,r,rfl,h.keep ht hd (KeepsN.of_turned ht fun k hk cs e=>by
   have:=ho k hk cs _ _ e
   simp at this)⟩
 lt:=by
  rintro w b X q ⟨bt,br,T,R,B,r,rfl,h⟩
  exact h.lt
 own:=by
  rintro w b X q ⟨bt,br,T,R,B,r,rfl,h⟩ k hk cs t fz e
  obtain⟨ds,u,e2,hu⟩:=h.kinds k hk
  rw [e2] at e
  injection e with e
  injection e with _ e
  subst e
  exact nd_off hu
 new:=fun g w _=>rpNew g w
 add:=by
  rintro w b X q c id v wt ⟨bt,br,T,R,B,r,rfl,h⟩ hq _ _ _ hv
  exact (rpAdd h hq id v wt hv).mono fun e w' ⟨e1,X',h1,h2,h3⟩=>⟨e1,X',h1,up_blocks h2 (fun k hk=>by
   simp at hk
   rcases hk with rfl|rfl
   ·exact mem_blocksQ.2 (.inr (.inl rfl))
   ·exact mem_blocksQ.2 (.inr (.inr (.inl rfl)))),h3⟩
 remove:=by
  rintro w b X q c id ⟨bt,br,T,R,B,r,rfl,h⟩ hq _ _
  exact (rpRemove h hq id).mono fun e w' ⟨e1,⟨T',R',h1⟩,h2⟩=>⟨e1,_,⟨bt,br,T',R',B,r,rfl,h1⟩,up_blocks h2 (mem_bb h),newer_ids (remove_ids q id) _⟩
 pick:=by
  rintro w b X q c ⟨bt,br,T,R,B,r,rfl,h⟩ hq _
  exact (rpPick h hq).mono fun e w' ⟨e1,⟨R',r',h1⟩,h2⟩=>⟨e1,_,⟨bt,br,T,R',B,r',rfl,h1⟩,up_blocks h2 h.mem,newer_ids (fun x hx=>⟨x,by rw [←pick_ls q];exact hx,rfl⟩) _⟩
 back:=by
  rintro w b X q c ⟨bt,br,T,R,B,r,rfl,h⟩ hq _
  exact (rpBack h hq).mono fun e w' ⟨e1,⟨R',h1⟩,h2⟩=>⟨e1,_,⟨bt,br,T,R',B,r,rfl,h1⟩,up_blocks h2 h.mem,newer_ids (fun x hx=>⟨x,hx,rfl⟩) _⟩
 tick:=by
  rintro w b X q c ⟨bt,br,T,R,B,r,rfl,h⟩ hq hc
  exact (rpTick h hq hc).mono fun e w' ⟨e1,⟨r',h1⟩,Y,hy,h2⟩=>⟨e1,_,⟨bt,br,T,R,B,r',rfl,h1⟩,up_blocks h2 hy,newer_ids (tick_ids q) _⟩
 weigh:=by
  rintro w b X q c id wt ⟨bt,br,T,R,B,r,rfl,h⟩ hq _ _ _
  exact (rpWeigh h hq id wt).mono fun e w' ⟨e1,⟨R',r',h1⟩,Y,hy,h2⟩=>⟨e1,_,⟨bt,br,T,R',B,r',rfl,h1⟩,up_blocks h2 hy,newer_ids (weigh_ids q id wt) _⟩
 settle:=by
  rintro w b X q c ⟨bt,br,T,R,B,r,rfl,h⟩ hq _
  exact (rpSettle h hq).mono fun e w' ⟨e1,⟨R',h1⟩,h2⟩=>⟨e1,_,⟨bt,br,T,R',B,r,rfl,h1⟩,up_blocks h2 h.mem,newer_ids (fun x hx=>⟨x,by rw [←settle_ls q];exact hx,rfl⟩) _⟩
 due:=by
  rintro w b X q c ⟨bt,br,T,R,B,r,rfl,h⟩ hq _
  exact rpDue h hq
 vv:=by
  rintro w b X q c id ⟨bt,br,T,R,B,r,rfl,h⟩ _ _ _
  exact rpV h id
 current:=by
  rintro w b X q c ⟨bt,br,T,R,B,r,rfl,h⟩ hq _
  exact rpCurrent h hq
 floor:=by
  rintro w b X q c ⟨bt,br,T,R,B,r,rfl,h⟩ _ _
  exact rpFloor h
 len:=by
  rintro w b X q c ⟨bt,br,T,R,B,r,rfl,h⟩ _ _
  exact rpLen h
 load:=by
  rintro w b X q c ⟨bt,br,T,R,B,r,rfl,h⟩ hq _
  exact rpLoad h hq
 ready:=by
  rintro w b X q c ⟨bt,br,T,R,B,r,rfl,h⟩ hq _
  exact (rpReady h hq).mono fun e w' ⟨Bx,e1,t,Y,hY,hs⟩=>⟨_,_,e1,t,fun args W=>rfl,Y,[],fun k hk=>⟨(hY k hk).1, .inr (.inr (by
   obtain⟨_,cs,e⟩:=hY k hk
   exact⟨cs,_,_,e,by simp⟩))⟩,fun k hk=>by simp at hk,fun n _=>hs n⟩
end Go.Proofs.Ytbfifglcnhfccaa
