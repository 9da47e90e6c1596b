/-
  The program's queue: Ready: the loop over a tree, handed on.
  The program's queue: Load.
  All that is to be said of the program's queues, for the laws of stage 16.
  The program's cores in memory: a list of pointers to queues of its own, apart.
  The program's cores: Len, Queue, Of, home, tasks, isCurrent; a queue's Weight.
  The program's New of cores. (Made by gen_cpnew.py.)
  The program's cores: carry.
  What nobody's queue of the program answers.
  The program's cores: Remove, Weigh, Settle, Add.
-/
import Derived.Test.YtfmciiffcmfagaaZAP
import Derived.Test.YtfmciiffcmfagaaZAD
import Derived.Test.YtfmciiffcmfagaaZAC
import Derived.Test.YtfmciiffcmfagaaZAQ
import Derived.Test.YtfmciiffcmfagaaZAB
import Derived.OwnWalk
import Derived.Maps.AppendAt
import Derived.Test.YtfmciiffcmfagaaZAE
import Derived.Test.YtfmciiffcmfagaaZAl
set_option maxRecDepth 100000
set_option maxHeartbeats 25600000
namespace Go.Proofs.Ytfmciiffcmfagaa
open Go.RowKit
attribute [local go_sem] Oper.semAt_some
abbrev tSqK:TypeId:=66
abbrev tYd:TypeId:=91
def idV (x:Itm Nat):Int×Int:=(x.2.1,x.1)
theorem TurnSeqY.later {α:Type} {F:Fence} {n:Nat} {P:Program} {g:Nat} {lb:Array Value} {encs:α→Array Value} {Y X:List Nat} {Sp:List α→Prop} {S Sx:List α→List Nat→World→Prop} {w w1:World} (h:TurnSeqY F n P g lb encs Y X Sp S Sx w) (t:Turned [] w w1):
 TurnSeqY F n P g lb encs Y X Sp S Sx w1:=fun l J Jx W hW=>h l J Jx W (t.join hW)
theorem ready_seq {w:World} {Bx Bk Bf:Nat} {t:Tr Nat} (hb:w.heap[Bx]?=some (.cells #[allV Bk Bf] tSqK (0,0))) (hk:KeptT w Bk Bf t) (hL:∀x ∈ t.list,KeyOk x):
  ∃Y:List Nat,(∀k ∈ Y,k < w.heap.size∧∃cs,w.heap[k]?=some (.cells cs tNd (0,0)))∧∀n,TurnSeqY Fence.wide n Try.prog 55 #[.pointer (some ⟨Bx,0,none⟩)] encR Y [] (fun xs=>xs <+:t.list.map idV) (fun xs _ _=>xs=t.list.map idV) (fun xs _ _=>xs <+:t.list.map idV) w:=by
 obtain⟨Y,hY,hseq⟩:=tall_seq hk hL
 refine⟨Y,hY,fun n=>?_⟩
 intro l J Jx W hW hJY hJxY hJ hJx hYi hj0
 have b0:=cell1 (hW.same hb (by simp))
 have hYl:∀k ∈ Y,k < W.heap.size:=fun k hk=>Nat.lt_of_lt_of_le (hY k hk).1 hW.size
 obtain⟨W1,hW1⟩:∃W1,W.alloc (.cells #[.func (.yield l) #[] #[]] tYd)=W1:=⟨_,rfl⟩
 have t1:Turned [] W W1:=hW1 ▸ (Turned.refl [] W).alloc _
 have y1:W1.heap[W.heap.size]?=some (.cells #[.func (.yield l) #[] #[]] tYd (0,0)):=hW1 ▸ heap_alloc_new W _
 have hlt:=lt_of_block y1
 have b1:=cell1 y1
 have hbl:Bx < W.heap.size:=Nat.lt_of_lt_of_le (lt_of_block hb) hW.size
 have HJ:=xhd hJ
 have HJX:=xhd hJx
 have HJY:=xhd hJY
 have HJXY:=xhd hJxY
 have HYI:=xhd hYi
 have HSQ:=xhd (fun n=>(hseq n).later (hW.join t1))
 have HJ0:=xhd hj0
 have HY1:=xhd y1
 have HT1:=xhd t1
 have HYL:=xhd hYl
 have HYL1:Hid (∀k ∈ Y,k < W1.heap.size):=xhd fun k hk=>Nat.lt_of_lt_of_le (hYl k hk) t1.size
 have HLT:=xhd hlt
 have HW1:=xhd hW1
 clear hJ hJx hJY hJxY hYi hseq hY hb hk hj0 hW t1 y1 hYl hL hW1
 refine callsIn_of_wp_marks Try.func55 rfl trivial ?_ rfl
 simp only [Try.ntmps55,List.size_toArray,List.length_cons,List.length_nil,Nat.reduceAdd,Nat.reduceSub,Array.replicate_succ,Array.replicate_zero,List.push_toArray,List.append_toArray,List.nil_append,List.cons_append]
 refine wpIn_wide.2 ?_
 go_wp2_with fail
 (try rw [HW1.out])
 refine (wpIn_wide (n:=20)).1 ?_
 refine range_turnsV rfl (by omega) rfl trivial (fun _ _=>rfl) (Y:=Y) (X:=[]) (by simp) HYL1.out (HSQ.out 19) (fun _=>rfl) (fun _ _ _ _ h _=>h) (fun _ _ _ _ h _=>h)
  (fun xs Z V=>∃Zo,J (xs.map idV) Zo V∧(∀k ∈ Z,k ∈ Zo)∧W.heap.size ∈ Zo∧W1.heap.size ∈ Zo∧W1.heap.size+1 ∈ Zo∧(∀k ∈ Zo,k < V.heap.size)∧V.heap[W.heap.size]?=some (.cells #[.func (.yield l) #[] #[]] tYd (0,0))∧∀k ∈ Z,W1.heap.size≤k)
  (fun cc xs Z V=>cc= .ret∧∃Zo,Jx (xs.map idV) Zo V∧(∀k ∈ Z,k ∈ Zo)∧W1.heap.size ∈ Zo∧W1.heap.size+1 ∈ Zo∧(∀k ∈ Zo,k < V.heap.size))
  ?hI ?hIx ?h0 ?hIY ?hIxY ?hsz tKy (fun x=> #[.int .u64 x.1, .int .i64 x.2.1]) ?a1 ?assign ?body ?done ?stop
 case assign=>
  intro l' x Bb V K hBk hK
  gi_wp2
  exact hK
 case hI=>
  rintro xs Z Z' A V ⟨Zo,h1,h2,h3,h4,h5,h6,h7,h8⟩ hz ht hn hb'
  have hsV:=ht.size
  have hZo:∀k ∈ Zo++Z',k < V.heap.size:=fun k hk=>by
   rcases List.mem_append.1 hk with hk|hk
   ·have:=h6 k hk;omega
   ·exact hb' k hk
  refine⟨Zo++Z',HJ.out _ _ _ _ _ h1 (ht.mono (fun k hk=> .inl (by simp at hk;rcases hk with rfl|rfl|hk;exact h4;exact h5;exact h2 k hk))) (fun k hk=>?_) hZo,fun k hk=>List.mem_append_right _ hk,List.mem_append_left _ h3,List.mem_append_left _ h4,List.mem_append_left _ h5,hZo,ht.same h7 (fun hx=>?_),fun k hk=>?_⟩
  ·rcases List.mem_append.1 hk with hk|hk
   ·exact .inl hk
   ·rcases hn k hk with h|h
    ·exact .inl (h2 k h)
    ·exact .inr h
  ·have:=HLT.out
   simp at hx
   rcases hx with hx|hx|hx
   ·omega
   ·omega
   ·have:=h8 _ hx;omega
  ·rcases hn k hk with h|h
   ·exact h8 k h
   ·have:=h6 _ h4;omega
 case hIx=>
  rintro cc xs Z Z' A V ⟨rfl,Zo,h1,h2,h4,h5,h6⟩ hz ht hn hb'
  have hsV:=ht.size
  have hZo:∀k ∈ Zo++Z',k < V.heap.size:=fun k hk=>by
   rcases List.mem_append.1 hk with hk|hk
   ·have:=h6 k hk;omega
   ·exact hb' k hk
  refine⟨rfl,Zo++Z',HJX.out _ _ _ _ _ h1 (ht.mono (fun k hk=> .inl (by simp at hk;rcases hk with rfl|rfl|hk;exact h4;exact h5;exact h2 k hk))) (fun k hk=>?_) hZo,fun k hk=>List.mem_append_right _ hk,List.mem_append_left _ h4,List.mem_append_left _ h5,hZo⟩
  rcases List.mem_append.1 hk with hk|hk
  ·exact .inl hk
  ·rcases hn k hk with h|h
   ·exact .inl (h2 k h)
   ·exact .inr h
 case h0=>
  intro V tV hV
  have tWV:Turned [] W V:=HT1.out.join tV
  have hs1:=HT1.out.size
  have hb':∀k ∈ [W.heap.size,W1.heap.size,W1.heap.size+1],k < V.heap.size:=fun k hk=>by
   have:=HLT.out
   simp at hk
   omega
  refine⟨[W.heap.size,W1.heap.size,W1.heap.size+1],HJ.out _ _ _ _ _ HJ0.out tWV (fun k hk=> .inr (by simp at hk;omega)) hb',by simp,by simp,by simp,by simp,hb',tV.same HY1.out (by simp),by simp⟩
 case hIY=>
  rintro xs Z V ⟨Zo,h1,_⟩ k hk
  exact (HJY.out _ _ _ h1 k hk).trans (HT1.out.block k (HYL.out k hk) (by simp)).symm
 case hIxY=>
  rintro cc xs Z V ⟨_,Zo,h1,_⟩ k hk
  exact (HJXY.out _ _ _ h1 k hk).trans (HT1.out.block k (HYL.out k hk) (by simp)).symm
 case hsz=>
  rintro xs Z V ⟨Zo,_,_,_,_,h5,h6,_⟩
  exact h6 _ h5
 case body=>
  rintro l' pre ⟨x1,x2,x3⟩ Z Bb V hbk hBk hzl ⟨Zo,h1,h2,h3,h4,h5,h6,h7,h8⟩ hsp
  simp only at hbk
  have k0:V.cell? ⟨Bb,0,none⟩=some (.int .u64 x1):=by simp [World.cell?,hbk]
  have k1:V.cell? ⟨Bb,1,none⟩=some (.int .i64 x2):=by simp [World.cell?,hbk]
  have c7:=cell1 h7
  have hpre:(pre.map idV++[(x2,x1)]) <+:t.list.map idV:=by
   obtain⟨r,hr⟩:=hsp
   exact⟨r.map idV,by rw [←hr];simp [idV]⟩
  obtain⟨fn,tmps,assign,bodyc,hy,hR⟩:=HYI.out (pre.map idV) (x2,x1) Zo V h1 hpre
  have HRR:=xhd hR
  have HZZ:=xhd (And.intro h2 (And.intro h3 (And.intro h4 (And.intro h5 (And.intro h6 (And.intro h7 h8))))))
  clear hR h1 h2 h3 h4 h5 h6 h7 h8 hbk hpre hsp hzl
  (try dsimp only at hy)
  gi_wp2
  refine (RoundIn.any HRR.out).mono ?_
  rintro e V3 ⟨hs,hz,⟨rfl,hj3⟩ |⟨rfl,hx3⟩⟩
  ·have FIN:Hid (SameAt [W1.heap.size,W1.heap.size+1] V V3∧V.heap.size≤V3.heap.size∧SameAt Z V V3∧∃Zo,J ((pre++[(x1,x2,x3)]).map idV) Zo V3∧(∀k ∈ Z,k ∈ Zo)∧W.heap.size ∈ Zo∧W1.heap.size ∈ Zo∧W1.heap.size+1 ∈ Zo∧(∀k ∈ Zo,k < V3.heap.size)∧V3.heap[W.heap.size]?=some (.cells #[.func (.yield l) #[] #[]] tYd (0,0))∧∀k ∈ Z,W1.heap.size≤k):=xhd (by
     obtain⟨h2,h3,h4,h5,h6,h7,h8⟩:=HZZ.out
     refine⟨fun k hk=>hs k (by simp at hk;rcases hk with rfl|rfl;exact h4;exact h5),hz,fun k hk=>hs k (h2 k hk),Zo,?_,h2,h3,h4,h5,fun k hk=>Nat.lt_of_lt_of_le (h6 k hk) hz,(hs _ h3).trans h7,h8⟩
     rw [show (pre++[(x1,x2,x3)]).map idV=pre.map idV++[(x2,x1)] by simp [idV]]
     exact hj3)
   clear hs hz hj3
   gi_wp2
   exact FIN.out
  ·have FIN:Hid (SameAt [W1.heap.size,W1.heap.size+1] V V3∧V.heap.size≤V3.heap.size∧SameAt Z V V3∧(Code.ret=Code.ret∧∃Zo,Jx ((pre++[(x1,x2,x3)]).map idV) Zo V3∧(∀k ∈ Z,k ∈ Zo)∧W1.heap.size ∈ Zo∧W1.heap.size+1 ∈ Zo∧(∀k ∈ Zo,k < V3.heap.size))):=xhd (by
     obtain⟨h2,h3,h4,h5,h6,h7,h8⟩:=HZZ.out
     refine⟨fun k hk=>hs k (by simp at hk;rcases hk with rfl|rfl;exact h4;exact h5),hz,fun k hk=>hs k (h2 k hk),rfl,Zo,?_,h2,h4,h5,fun k hk=>Nat.lt_of_lt_of_le (h6 k hk) hz⟩
     rw [show (pre++[(x1,x2,x3)]).map idV=pre.map idV++[(x2,x1)] by simp [idV]]
     exact hx3)
   clear hs hz hx3
   gi_wp2
   obtain⟨f1,f2,f3,_,f4⟩:=FIN.out
   exact⟨f1,f2,f3,rfl,f4⟩
 case done=>
  rintro xs Z V rfl ⟨Zo,h1,h2,h3,h4,h5,h6,h7,h8⟩ hK
  have HF:=xhd (show ∃Z,J (t.list.map idV) Z (V.putObj W1.heap.size (.deferred none)) from⟨Zo,HJ.out _ _ _ _ _ h1 ((Turned.refl Zo V).grown (grownBy_putObj' V _ _) (fun k e=> .inl (by cases e;exact h4))) (Newer.refl _ _) (fun k hk=>by have:=h6 k hk;simp;omega)⟩)
  have HKK:=xhd hK
  clear h1 h2 h3 h4 h5 h6 h7 h8 hK
  go_wp2
  refine⟨by simp, .inl ⟨_,_,rfl,run_takeDeferred HKK.out,?_⟩⟩
  obtain⟨Z2,h1⟩:=HF.out
  exact⟨_,results_none rfl _ _ _,⟨_,rfl⟩, .inl ⟨_,Z2,rfl,h1⟩⟩
 case stop=>
  rintro cc xs Z V hsx ⟨rfl,Zo,h1,h2,h4,h5,h6⟩ hK
  have HF:=xhd (show ∃Z,Jx (xs.map idV) Z (V.putObj W1.heap.size (.deferred none)) from⟨Zo,HJX.out _ _ _ _ _ h1 ((Turned.refl Zo V).grown (grownBy_putObj' V _ _) (fun k e=> .inl (by cases e;exact h4))) (Newer.refl _ _) (fun k hk=>by have:=h6 k hk;simp;omega)⟩)
  have HKK:=xhd hK
  clear h1 h2 h4 h5 h6 hK
  have hpre:xs.map idV <+:t.list.map idV:=by
   obtain⟨r,hr⟩:=hsx
   exact⟨r.map idV,by rw [←hr];simp⟩
  refine wpIn_ret ?_
  simp only [Exit.inBlock]
  refine⟨by simp, .inl ⟨_,_,rfl,run_takeDeferred HKK.out,?_⟩⟩
  obtain⟨Z2,h1⟩:=HF.out
  exact⟨_,results_none rfl _ _ _,⟨_,rfl⟩, .inr ⟨_,Z2,hpre,h1⟩⟩
theorem box_funcR {P:Program} (w:World) (f:Fn) (vs lb:Array Value) (x:Value) (t:TypeId):
  (store ⟨w.heap.size,0,none⟩ (.func f vs lb)).run P (w.alloc (.cells #[x] t))= .ok () (w.alloc (.cells #[.func f vs lb] t)):=by
 rw [run_store _ _ _ _ _ rfl,World.cell?_alloc_at _ _ _ _ rfl,World.frozen?_alloc_at _ _ _ _ rfl,World.setCell_alloc_at _ _ _ _ _ rfl]
 rfl
section
variable {w w':World} {b bt br:Nat} {q q':Rq} {T T' R R':Tr Nat} {B:Int→Nat} {r r' c:Int} {X Y:List Nat}
theorem rpReady (h:RpI w b q bt br T R B r) (hq:QOk q c):Calls Try.prog 38 #[.pointer (some ⟨b,0,none⟩)] w fun e w'=>∃Bx,e= .returned (.func (.func 55) #[] #[.pointer (some ⟨Bx,0,none⟩)])∧Turned [] w w'∧
  ∃Y:List Nat,(∀k ∈ Y,k < w'.heap.size∧∃cs,w'.heap[k]?=some (.cells cs tNd (0,0)))∧∀n,TurnSeqY Fence.wide n Try.prog 55 #[.pointer (some ⟨Bx,0,none⟩)] encR Y [] (fun xs=>xs <+:rdyL q) (fun xs _ _=>xs=rdyL q) (fun xs _ _=>xs <+:rdyL q) w':=by
 obtain⟨⟨c0,c1,c2,c3,c4,c5⟩,_⟩:=cells6 h.h0
 have HA:=xhd (tall_any h.h2)
 have hkey:=h.hr.key (fun x hx=>hq.ids x (ready_sub hx).1) (fun x hx=>hq.v x (ready_sub hx).1)
 have hlist:R.list.map idV=rdyL q:=by
  rw [h.hr.sorted (ready_nodup hq.uniq),rdyL,List.map_map]
  rfl
 have HR:Hid (∀V Bx Bk Bf,V.heap[Bx]?=some (.cells #[allV Bk Bf] tSqK (0,0))→KeptT V Bk Bf R→∃Y:List Nat,(∀k ∈ Y,k < V.heap.size∧∃cs,V.heap[k]?=some (.cells cs tNd (0,0)))∧∀n,TurnSeqY Fence.wide n Try.prog 55 #[.pointer (some ⟨Bx,0,none⟩)] encR Y [] (fun xs=>xs <+:rdyL q) (fun xs _ _=>xs=rdyL q) (fun xs _ _=>xs <+:rdyL q) V):=xhd fun V Bx Bk Bf h1 h2=>by
  rw [←hlist]
  exact ready_seq h1 h2 hkey
 clear h hq c0 c1 c2 c4 c5 hkey hlist
 go_enter Try.func38,Try.ntmps38
 go_wp2_with fail
 with_reducible refine HA.out.mono ?_
 rintro e w2 ⟨Bk,Bf,rfl,h1,h2,h3,t2⟩
 have ta:=(Turned.refl [] w2).alloc (.cells #[allV Bk Bf] tSqK)
 have HF:=xhd (And.intro (t2.join ta) (HR.out (w2.alloc (.cells #[allV Bk Bf] tSqK)) w2.heap.size Bk Bf (heap_alloc_new w2 _) (h3.later ta)))
 have hst:=box_funcR (P:=Try.prog) w2 (.func 67) #[] #[.pointer (some ⟨Bk,0,none⟩), .pointer (some ⟨Bf,0,none⟩)] .nilFunc tSqK
 clear h1 h2 h3 t2 ta
 go_wp2
 go_ret
 exact⟨_,rfl,HF.out.1,HF.out.2⟩
end
end Go.Proofs.Ytfmciiffcmfagaa
namespace Go.Proofs.Ytfmciiffcmfagaa
open Go.RowKit
attribute [local go_sem] Oper.semAt_some
theorem sumR_perm {l m:List Int} (h:l.Perm m):sumR l=sumR m:=by
 unfold sumR
 induction h with
 |nil=>rfl
 |cons x _ ih=>simp [ih]
 |swap x y l=>simp only [List.foldr_cons];omega
 |trans _ _ h1 h2=>rw [h1,h2]
theorem sumR_snoc (l:List Int) (x:Int):sumR (l++[x])=sumR l+x:=by
 unfold sumR
 induction l with
 |nil=>simp
 |cons y l ih=>simp only [List.cons_append,List.foldr_cons,ih];omega
theorem sumR_le:∀(l:List Int) {m:Int},0≤m→(∀x ∈ l,0≤x∧x≤m)→0≤sumR l∧sumR l≤l.length*m
 |[],m,hm,_=>by simp [sumR]
 |x::l,m,hm,h=>by
  obtain⟨a,b⟩:=sumR_le l hm (fun y hy=>h y (List.mem_cons_of_mem _ hy))
  obtain⟨c,d⟩:=h x (by simp)
  have e:sumR (x::l)=x+sumR l:=rfl
  rw [e]
  refine⟨by omega,?_⟩
  have e2:(((x::l).length:Nat):Int)*m=l.length*m+m:=by
   simp only [List.length_cons]
   rw [show (((l.length+1:Nat)):Int)=l.length+1 by omega,Int.add_mul]
   omega
  omega
def wtI (q:Rq) (y:Itm Nat):Int:=((findQ q.l y.2.1).map (·.2)).getD 0
theorem find_mem {l:List Tk} (hu:(l.map (·.1)).Nodup) {x:Tk} (hx:x ∈ l):findQ l x.1=some x.2:=by
 cases h:findQ l x.1 with
 |none=>exact absurd rfl (findQ_none h x hx)
 |some z=>
  have:=findQ_one hu (findQ_mem h) hx rfl
  rw [←this]
structure LdB (w w2 V:World) (s:Int) (Y Z:List Nat):Prop where
 t:Turned [] w V
 r0:V.heap[w.heap.size]?=some (.cells #[.int .i64 s] 3 (0,0))
 ym:SameAt Y w2 V
 zm:∀k ∈ Z,w2.heap.size≤k∧k < V.heap.size
 sz:w2.heap.size≤V.heap.size
section
variable {w w2 A B:World} {s:Int} {Y Z Z':List Nat}
theorem LdB.mild (h:LdB w w2 A s Y Z) (m:Mild Z w2.heap.size A B) (hN:w.heap.size+1≤w2.heap.size) (hY:∀k ∈ Y,k < w2.heap.size) (hn:Newer Z A.heap.size Z') (hb:∀k ∈ Z',k < B.heap.size):LdB w w2 B s Y Z':=by
 have off:∀k,k < w2.heap.size→k ∉ Z:=fun k hk hz=>by have:=(h.zm k hz).1;omega
 refine⟨h.t.mild m (by omega) (fun k hk=>by have:=(h.zm k hk).1;omega),m.cells h.r0 (off _ (by omega)),fun k hk=>?_,fun k hk=>⟨?_,hb k hk⟩,Nat.le_trans h.sz m.size⟩
 ·have h1:=hY k hk
  have h2:A.heap[k]?=some (A.heap[k]'(by have:=h.sz;omega)):=Array.getElem?_eq_getElem _
  rw [m.same k _ h2 (off k h1) (.inl h1), ←h2]
  exact h.ym k hk
 ·rcases hn k hk with h1|h1
  ·exact (h.zm k h1).1
  ·have:=h.sz;omega
theorem LdB.set (h:LdB w w2 A s Y Z) (hY:∀k ∈ Y,k≠w.heap.size) (s':Int):LdB w w2 (A.setCell ⟨w.heap.size,0,none⟩ (.int .i64 s')) s' Y Z:=by
 have T:=(Turned.refl [w.heap.size] A).setCell (p:=⟨w.heap.size,0,none⟩) (.inl (by simp)) (.int .i64 s')
 refine⟨h.t.trans' T (fun k hk=>by simp at hk;omega),?_,fun k hk=>(Below.heap_setCell _ _ _ k (hY k hk)).trans (h.ym k hk),fun k hk=>?_,Nat.le_trans h.sz T.size⟩
 ·rw [heap_setCell_same _ _ _ _ _ _ h.r0]
  rfl
 ·have:=h.zm k hk
  exact⟨this.1,Nat.lt_of_lt_of_le this.2 T.size⟩
end
section
variable {w w':World} {b bt br:Nat} {q q':Rq} {T T' R R':Tr Nat} {B:Int→Nat} {r r' c:Int} {X Y:List Nat}
theorem rpLoad (h:RpI w b q bt br T R B r) (hq:QOk q c):Calls Try.prog 21 #[.pointer (some ⟨b,0,none⟩)] w fun e w'=>e= .returned (.int .i64 (sumR (q.l.map (·.2.2))))∧Turned [] w w':=by
 have hitem:∀y ∈ T.list,∃z ∈ q.l,y=itT B z∧wtI q y=z.2.2:=fun y hy=>by
  obtain⟨z,hz,rfl⟩:=List.mem_map.1 (h.ht.2.mem_iff.1 hy)
  exact⟨z,hz,rfl,by rw [wtI,show (itT B z).2.1=z.1 from rfl,find_mem hq.uniq hz];rfl⟩
 have hsum:sumR (T.list.map (wtI q))=sumR (q.l.map (·.2.2)):=by
  rw [sumR_perm (h.ht.2.map (wtI q)),List.map_map]
  congr 1
  refine List.map_congr_left fun z hz=>?_
  show wtI q (itT B z)=z.2.2
  rw [wtI,show (itT B z).2.1=z.1 from rfl,find_mem hq.uniq hz]
  rfl
 have hpre:∀pre,pre <+:T.list→0≤sumR (pre.map (wtI q))∧sumR (pre.map (wtI q))≤65536:=fun pre hp=>by
  have h1:=sumR_le (pre.map (wtI q)) (m:=4096) (by decide) (fun v hv=>by
   obtain⟨y,hy,rfl⟩:=List.mem_map.1 hv
   obtain⟨z,hz,_,e⟩:=hitem y (hp.subset hy)
   have:=hq.wt z hz
   omega)
  have h2:=hp.length_le
  have h3:=h.ht.len
  have h4:=hq.len
  rw [List.length_map] at h1
  have h5:(pre.length:Int)≤16:=by omega
  have h6:=Int.mul_le_mul_of_nonneg_right h5 (show (0:Int)≤4096 by decide)
  omega
 have hcell:∀y ∈ T.list,∀V,Turned [] w V→V.cell? ⟨y.2.2,2,none⟩=some (.int .i64 (wtI q y)):=fun y hy V tV=>by
  obtain⟨z,hz,e1,e2⟩:=hitem y hy
  rw [e2,e1]
  exact (cells3k (tV.same (h.k z hz) (by simp))).1.2.2
 obtain⟨W,hW⟩:∃W,w.alloc (.cells #[.int .i64 0] 3)=W:=⟨_,rfl⟩
 have TW:Turned [] w W:=hW ▸ (Turned.refl [] w).alloc _
 have e0:W.heap[w.heap.size]?=some (.cells #[.int .i64 0] 3 (0,0)):=hW ▸ heap_alloc_new w _
 have hkey:=h.ht.key (fun x hx=>hq.ids x hx)
 have HA:=xhd (tall_any (h.h1.later TW))
 obtain⟨⟨c0,c1,c2,c3,c4,c5⟩,_⟩:=cells6 h.h0
 have hbl:b < w.heap.size:=lt_of_block h.h0
 have HE:=xhd e0
 have HT:=xhd TW
 have HKEY:=xhd hkey
 have HPRE:=xhd hpre
 have HCELL:=xhd hcell
 have HSUM:=xhd hsum
 have HW:=xhd hW
 rw [←HSUM.out]
 clear h hq hW TW e0 hkey hitem hsum hpre hcell c0 c1 c3 c4 c5
 refine callsIn_wide.1 (?_:CallsIn Fence.wide 20 _ _ _ _ _)
 refine callsIn_of_wp_marks Try.func21 rfl trivial ?_ rfl
 simp only [Try.ntmps21,List.size_toArray,List.length_cons,List.length_nil,Nat.reduceAdd,Nat.reduceSub,Array.replicate_succ,Array.replicate_zero,List.push_toArray,List.append_toArray,List.nil_append,List.cons_append]
 refine wpIn_wide.2 ?_
 go_wp2_with fail
 (try rw [HW.out])
 with_reducible refine HA.out.mono ?_
 rintro e w2 ⟨Bk,Bf,rfl,hk1,hk2,hK,t2⟩
 obtain⟨Y,hY,hseq⟩:=tall_seq hK HKEY.out
 have hN1:w.heap.size+1≤w2.heap.size:=by have:=lt_of_block HE.out;have:=t2.size;omega
 have F0:LdB w w2 w2 0 Y []:=⟨HT.out.join t2,t2.same HE.out (by simp),SameAt.refl _ _,fun k hk=>by simp at hk,Nat.le_refl _⟩
 have hYo:∀k ∈ Y,k≠w.heap.size:=fun k hk e=>by
  obtain⟨_,cs,hc⟩:=hY k hk
  rw [e,F0.r0] at hc
  injection hc with hc
  injection hc with _ hc
  exact absurd hc (by decide)
 have hYl:∀k ∈ Y,k < w2.heap.size:=fun k hk=>(hY k hk).1
 have HF0:=xhd F0
 have HYO:=xhd hYo
 have HYL:=xhd hYl
 have HSQ:=xhd hseq
 have HN1:=xhd hN1
 clear hk1 hk2 hK t2 hY hseq F0 hYo hYl hN1 HA HE HT HW hbl c2
 go_wp2_with fail
 refine (wpIn_wide (n:=20)).1 ?_
 refine range_turnsY_plain rfl (by omega) rfl trivial (fun _ _=>rfl) (Y:=Y) (X:=[]) (by simp) HYL.out (HSQ.out 19) (fun _=>rfl) (fun _ _ _ _ h _=>h) (fun _ _ _ _ h _=>h)
  (fun xs Z V=>LdB w w2 V (sumR (xs.map (wtI q))) Y Z) (fun _ _ _ _=>False)
  (fun xs Z Z' A B h m hn hb=>h.mild m HN1.out HYL.out hn hb) (fun _ _ _ _ _ _ h _ _ _=>h.elim) HF0.out (fun _ _ _ h=>h.ym) (fun _ _ _ _ h=>h.elim) ?a1 ?assign ?body ?done ?stop
 case stop=>
  rintro D c xs Z V _ _ _ h _
  exact h.elim
 case assign=>
  intro l' x V K hK
  gi_wp2
  exact hK
 case body=>
  rintro l' pre x Z V hI hsp
  have hp1:=HPRE.out pre ((List.prefix_append _ _).trans hsp)
  have hp2:=HPRE.out _ hsp
  have hx:x ∈ T.list:=hsp.subset (by simp)
  have k2:=HCELL.out x hx V.drew hI.t.drew
  have s0:V.drew.cell? ⟨w.heap.size,0,none⟩=some (.int .i64 (sumR (pre.map (wtI q)))):=by
   have:=hI.t.drew
   exact cell1 (show V.drew.heap[w.heap.size]?=_ from hI.r0)
  have sf:V.drew.frozen? ⟨w.heap.size,0,none⟩=false:=frozen_of_row V.drew _ 0 _ _ hI.r0
  have hsn:sumR ((pre++[x]).map (wtI q))=sumR (pre.map (wtI q))+wtI q x:=by rw [List.map_append,List.map_cons,List.map_nil,sumR_snoc]
  rw [hsn] at hp2
  have hwr:IntKind.i64.wrap (sumR (pre.map (wtI q))+wtI q x)=sumR (pre.map (wtI q))+wtI q x:=by
   rw [IntKind.wrap_i64];omega
  have HFIN:Hid (KeepsFrom w2.heap.size V (V.drew.setCell ⟨w.heap.size,0,none⟩ (.int .i64 (sumR (pre.map (wtI q))+wtI q x)))∧SameAt Z V (V.drew.setCell ⟨w.heap.size,0,none⟩ (.int .i64 (sumR (pre.map (wtI q))+wtI q x)))∧LdB w w2 (V.drew.setCell ⟨w.heap.size,0,none⟩ (.int .i64 (sumR (pre.map (wtI q))+wtI q x))) (sumR ((pre++[x]).map (wtI q))) Y Z):=xhd (by
   have hD:LdB w w2 V.drew (sumR (pre.map (wtI q))) Y Z:=⟨hI.t.drew,hI.r0,hI.ym,hI.zm,hI.sz⟩
   have k2:KeepsFrom w2.heap.size V.drew (V.drew.setCell ⟨w.heap.size,0,none⟩ (.int .i64 (sumR (pre.map (wtI q))+wtI q x))):=(KeepsOthers.setCell _ _ _).from _
   refine⟨⟨k2.size,k2.same⟩,fun k hk=>?_,by rw [hsn];exact hD.set HYO.out _⟩
   have h1:=(hI.zm k hk).1
   have h2:=HN1.out
   exact Below.heap_setCell V.drew ⟨w.heap.size,0,none⟩ _ k (by simp;omega))
  obtain⟨x1,x2,x3⟩:=x
  simp only at k2
  obtain⟨N,hN⟩:∃N,w.heap.size=N:=⟨_,rfl⟩
  rw [hN] at s0 sf HFIN
  obtain⟨sp,hsp2⟩:∃sp,sumR (pre.map (wtI q))=sp:=⟨_,rfl⟩
  rw [hsp2] at s0 hwr HFIN
  obtain⟨wx,hwx⟩:∃wx,wtI q (x1,x2,x3)=wx:=⟨_,rfl⟩
  rw [hwx] at k2 hwr HFIN
  clear hI hsp hp1 hp2 hx hsn hsp2 hwx
  rw [hN]
  gi_wp2
  refine wpRound_tail 6 (by kernel_rfl) ?_ (by kernel_rfl) (by kernel_rfl) ?_
  ·rintro ⟨_,_,h⟩;exact h
  simp only [List.take_succ_cons,List.take_zero,List.drop_succ_cons,List.drop_zero]
  repeat (go_big_quiet_step (fail))
  refine wpQuiet_nil ?_
  go_wp2
  gi_wp2
  exact HFIN.out
 case done=>
  rintro D xs Z V hD hz rfl hI hK
  have b0:=cell1 hI.r0
  have HFIN:Hid (Turned [] w (V.putObj D (.deferred none))):=xhd (hI.t.put (by have:=HN1.out;omega) _)
  have HKD:=xhd hK
  obtain⟨s,hs⟩:∃s,sumR (T.list.map (wtI q))=s:=⟨_,rfl⟩
  rw [hs] at b0
  have HS:=xhd hs
  clear hI hK hs hz hD
  go_wp2
  refine⟨by simp, .inl ⟨_,_,rfl,run_takeDeferred (show V.heap[D]?=_ from HKD.out),?_⟩⟩
  exact⟨_,results_tmp rfl _ _ _,by rw [HS.out];rfl,HFIN.out⟩
end
end Go.Proofs.Ytfmciiffcmfagaa
namespace Go.Proofs.Ytfmciiffcmfagaa
open Go.RowKit
theorem newer_ids {b bt br:Nat} {B:Int→Nat} {l l':List Tk} (h:∀x ∈ l',∃y ∈ l,y.1=x.1) (n:Nat):Newer (blocksQ b bt br B l) n (blocksQ b bt br B l'):=fun k hk=>by
 rcases mem_blocksQ.1 hk with rfl|rfl|rfl|⟨x,hx,rfl⟩
 ·exact .inl (mem_blocksQ.2 (.inl rfl))
 ·exact .inl (mem_blocksQ.2 (.inr (.inl rfl)))
 ·exact .inl (mem_blocksQ.2 (.inr (.inr (.inl rfl))))
 ·obtain⟨y,hy,e⟩:=h x hx
  exact .inl (mem_blocksQ.2 (.inr (.inr (.inr ⟨y,hy,by rw [e]⟩))))
theorem settle_ls (q:Rq):q.settle.l=q.l:=(settle_ge q).2.2.1
theorem rpweigh_ids (q:Rq) (id n:Int):∀x ∈ (q.weigh id n).l,∃y ∈ q.l,y.1=x.1:=fun x hx=>by
 unfold Rq.weigh at hx
 split at hx
 ·exact⟨x,hx,rfl⟩
 ·obtain⟨y,hy,rfl⟩:=List.mem_map.1 hx
  refine⟨y,hy,?_⟩
  split<;>rfl
theorem remove_ids (q:Rq) (id:Int):∀x ∈ (q.remove id).l,∃y ∈ q.l,y.1=x.1:=fun x hx=>by
 unfold Rq.remove at hx
 split at hx
 ·exact⟨x,(List.mem_filter.1 hx).1,rfl⟩
 ·exact⟨x,hx,rfl⟩
section
variable {w w':World} {b bt br:Nat} {q q':Rq} {T R:Tr Nat} {B:Int→Nat} {r:Int} {Y:List Nat}
theorem up_blocks (ht:Turned Y w w') (hy:∀k ∈ Y,k ∈ blocksQ b bt br B q.l):Turned (blocksQ b bt br B q.l) w w':=ht.mono (fun k hk=> .inl (hy k hk))
end
theorem nd_off {t:TypeId} (h:t≠tNd):(t == tNd)=false:=by simpa using h
def rpSaid:RqSaid where
 At:=RpAt
 tn:=fun t=>t == tNd
 offI:=nd_off (by decide)
 offB:=nd_off (by decide)
 offU:=nd_off (by decide)
 keep:=by
  rintro w w' b X Y q ⟨bt,br,T,R,B,r,rfl,h⟩ ht hd ho
  exact⟨bt,br,T,R,B,r,rfl,h.keep ht hd (KeepsN.of_turned ht fun k hk cs e=>by
   have:=ho k hk cs _ _ e
   simp at this)⟩
 lt:=by
  rintro w b X q ⟨bt,br,T,R,B,r,rfl,h⟩
  exact h.lt
 own:=by
  rintro w b X q ⟨bt,br,T,R,B,r,rfl,h⟩ k hk cs t fz e
  obtain⟨ds,u,e2,hu⟩:=h.kinds k hk
  rw [e2] at e
  injection e with e
  injection e with _ e
  subst e
  exact nd_off hu
 new:=fun g w _=>rpNew g w
 add:=by
  rintro w b X q c id v wt ⟨bt,br,T,R,B,r,rfl,h⟩ hq _ _ _ hv
  exact (rpAdd h hq id v wt hv).mono fun e w' ⟨e1,X',h1,h2,h3⟩=>⟨e1,X',h1,up_blocks h2 (fun k hk=>by
   simp at hk
   rcases hk with rfl|rfl
   ·exact mem_blocksQ.2 (.inr (.inl rfl))
   ·exact mem_blocksQ.2 (.inr (.inr (.inl rfl)))),h3⟩
 remove:=by
  rintro w b X q c id ⟨bt,br,T,R,B,r,rfl,h⟩ hq _ _
  exact (rpRemove h hq id).mono fun e w' ⟨e1,⟨T',R',h1⟩,h2⟩=>⟨e1,_,⟨bt,br,T',R',B,r,rfl,h1⟩,up_blocks h2 (mem_bb h),newer_ids (remove_ids q id) _⟩
 weigh:=by
  rintro w b X q c id wt ⟨bt,br,T,R,B,r,rfl,h⟩ hq _ _ _
  exact (rpWeigh h hq id wt).mono fun e w' ⟨e1,⟨R',r',h1⟩,Y,hy,h2⟩=>⟨e1,_,⟨bt,br,T,R',B,r',rfl,h1⟩,up_blocks h2 hy,newer_ids (rpweigh_ids q id wt) _⟩
 settle:=by
  rintro w b X q c ⟨bt,br,T,R,B,r,rfl,h⟩ hq _
  exact (rpSettle h hq).mono fun e w' ⟨e1,⟨R',h1⟩,h2⟩=>⟨e1,_,⟨bt,br,T,R',B,r,rfl,h1⟩,up_blocks h2 h.mem,newer_ids (fun x hx=>⟨x,by rw [←settle_ls q];exact hx,rfl⟩) _⟩
 vv:=by
  rintro w b X q c id ⟨bt,br,T,R,B,r,rfl,h⟩ _ _ _
  exact rpV h id
 current:=by
  rintro w b X q c ⟨bt,br,T,R,B,r,rfl,h⟩ hq _
  exact rpCurrent h hq
 floor:=by
  rintro w b X q c ⟨bt,br,T,R,B,r,rfl,h⟩ _ _
  exact rpFloor h
 len:=by
  rintro w b X q c ⟨bt,br,T,R,B,r,rfl,h⟩ _ _
  exact rpLen h
 load:=by
  rintro w b X q c ⟨bt,br,T,R,B,r,rfl,h⟩ hq _
  exact rpLoad h hq
 ready:=by
  rintro w b X q c ⟨bt,br,T,R,B,r,rfl,h⟩ hq _
  exact (rpReady h hq).mono fun e w' ⟨Bx,e1,t,Y,hY,hs⟩=>⟨_,_,e1,t,fun args W=>rfl,Y,[],fun k hk=>⟨(hY k hk).1, .inr (.inr (by
   obtain⟨_,cs,e⟩:=hY k hk
   exact⟨cs,_,_,e,by simp⟩))⟩,fun k hk=>by simp at hk,fun n _=>hs n⟩
end Go.Proofs.Ytfmciiffcmfagaa
namespace Go.Proofs.Ytfmciiffcmfagaa
open Go.RowKit
abbrev tCp:TypeId:=46
abbrev tPp:TypeId:=42
def CpOwn (w:World) (b:Nat) (X0:List Nat) (T:List Tq) (_l:List Rq):Prop:=LAt tCp tPp 1 encP (fun v=> #[v]) w b X0 (T.map (·.1))
abbrev CpI:=CAt CpOwn RpAt
section
variable {w w':World} {b d:Nat} {X0 X0' Y Y':List Nat} {T T':List Tq} {l l':List Rq} {q q':Rq} {c:Int}
theorem cpown_types (h:CpOwn w b X0 T l):∀k ∈ X0,∀cs t fz,w.heap[k]?=some (.cells cs t fz)→(t == tNd)=false:=by
 obtain⟨v,h1,h2,rfl⟩:=h
 intro k hk cs t fz e
 rcases List.mem_cons.1 hk with rfl|hk
 ·rw [h1] at e
  injection e with e
  injection e with _ e
  subst e
  exact nd_off (by decide)
 ·obtain⟨cur,hc⟩:=ownsRow_type h2 k hk
  rw [hc] at e
  injection e with e
  injection e with _ e
  subst e
  exact nd_off (by decide)
theorem CpI.keep (h:CpI w b X0 T l) (t:Turned Y w w') (hd:∀k ∈ blk X0 T,k ∉ Y) (ho:∀k ∈ Y,∀cs t fz,w.heap[k]?=some (.cells cs t fz)→rpSaid.tn t=false):CpI w' b X0 T l:=
 ⟨LAt.keep h.own t fun k hk=>hd k (blk_mem.2 (.inl hk)),h.qs.keep (cs_keep rpSaid t ho) t (fun x hx k hk=>hd k (blk_mem.2 (.inr ⟨x,hx,hk⟩))),h.off,fun k hk=>Nat.lt_of_lt_of_le (h.lt k hk) t.size⟩
theorem CpI.keep0 (h:CpI w b X0 T l) (t:Turned [] w w'):CpI w' b X0 T l:=h.keep t (by simp) (fun k hk=>by simp at hk)
theorem CpI.view (h:CpI w b X0 T l):∃a cap,w.cell? ⟨b,0,none⟩=some (.slice a l.length cap)∧l.length≤maxLen∧∀(i:Nat) (q:Rq),l[i]?=some q→∃g d Y,a=some ⟨g,0,none⟩∧T[i]?=some (d,Y)∧w.cell? ⟨g,i,none⟩=some (.pointer (some ⟨d,0,none⟩))∧RpAt w d Y q:=by
 obtain⟨a,cap,h1,h2,h3,hc,hm,hg⟩:=LAt.view h.own
 have hl:=h.qs.len
 rw [List.length_map,hl] at h1 hc
 rw [List.length_map] at hg
 refine⟨a,cap,by simp [World.cell?,h1],by omega,fun i q hq=>?_⟩
 have hi:i < l.length:=(List.getElem?_eq_some_iff.1 hq).1
 have hT:T[i]?=some (T[i]'(by omega)):=List.getElem?_eq_getElem (by omega)
 obtain⟨g,hg|hg⟩:=hg i (by omega)
 ·obtain⟨rfl,hbg⟩:=hg
  have r:=(row_cells encP_len h2 (j:=i) (by simp;omega) 0 (by omega)).1
  refine⟨g,_,_,rfl,hT,?_,h.qs.at_ i _ q hT hq⟩
  simpa using r
 ·exact absurd hg (by decide)
theorem CpI.set (h:CpI w b X0 T l) {i:Nat} (hi:T[i]?=some (d,Y)) (hq:l[i]?=some q) (a:RpAt w' d Y' q') (t:Turned Y w w') (n:Newer Y w.heap.size Y'):
  CpI w' b X0 (T.set i (d,Y')) (l.set i q')∧Turned (blk X0 T) w w'∧Newer (blk X0 T) w.heap.size (blk X0 (T.set i (d,Y'))):=by
 have hY:=h.off _ (mem_of_at hi)
 have hty:=rpSaid.own (h.qs.at_ i _ q hi hq)
 have hm:(T.set i (d,Y')).map (·.1)=T.map (·.1):=by
  apply List.ext_getElem?
  intro j
  rw [List.getElem?_map,List.getElem?_map,List.getElem?_set]
  by_cases e:i=j
  ·subst e
   have hi':i < T.length:=(List.getElem?_eq_some_iff.1 hi).1
   rw [if_pos rfl,if_pos hi',hi]
   rfl
  ·rw [if_neg e]
 have ht:Turned (blk X0 T) w w':=t.mono fun k hk=> .inl (blk_mem.2 (.inr ⟨_,mem_of_at hi,hk⟩))
 refine⟨⟨?_,h.qs.set (cs_keep rpSaid t hty) hi a t n (rpSaid.lt a),fun x hx k hk=>?_,fun k hk=>Nat.lt_of_lt_of_le (h.lt k hk) t.size⟩,ht,fun k hk=>?_⟩
 ·have h0:LAt tCp tPp 1 encP (fun v=> #[v]) w b X0 (T.map (·.1)):=h.own
  show LAt tCp tPp 1 encP (fun v=> #[v]) w' b X0 _
  rw [hm]
  exact h0.keep t fun k hk hk'=>hY k hk' hk
 ·obtain⟨j,hj⟩:=List.mem_iff_getElem?.1 hx
  rcases set_at hj with⟨rfl,rfl⟩ |⟨_,e⟩
  ·rcases n k hk with e|e
   ·exact hY k e
   ·intro hk0
    have:=h.lt k hk0
    omega
  ·exact h.off x (mem_of_at e) k hk
 ·rcases blk_mem.1 hk with e|⟨x,hx,e⟩
  ·exact .inl (blk_mem.2 (.inl e))
  ·obtain⟨j,hj⟩:=List.mem_iff_getElem?.1 hx
   rcases set_at hj with⟨rfl,rfl⟩ |⟨_,e'⟩
   ·rcases n k e with e2|e2
    ·exact .inl (blk_mem.2 (.inr ⟨_,mem_of_at hi,e2⟩))
    ·exact .inr e2
   ·exact .inl (blk_mem.2 (.inr ⟨x,mem_of_at e',e⟩))
theorem CpI.same0 (h:CpI w b X0 T l) {i:Nat} (hi:T[i]?=some (d,Y)) (t:Turned Y w w'):SameAt X0 w w':=
 fun k hk=>t.block k (h.lt k hk) (fun hy=>h.off _ (mem_of_at hi) k hy hk)
theorem CpI.own_at (h:CpI w b X0 T l) {g n cap:Nat} (c0:w.cell? ⟨b,0,none⟩=some (.slice (some ⟨g,0,none⟩) n cap)):b ∈ X0∧g ∈ X0:=by
 obtain⟨v,h1,_,rfl⟩:=h.own
 have e:w.cell? ⟨b,0,none⟩=some v:=by simp [World.cell?,h1]
 rw [c0] at e
 cases e
 exact⟨by simp,by simp [Value.ownBlock]⟩
theorem cell_same {X:List Nat} {A B:World} {p:Addr} {v:Value} (s:SameAt X A B) (hp:p.block ∈ X) (h:A.cell? p=some v):B.cell? p=some v:=by
 unfold World.cell? at h ⊢
 rw [s _ hp]
 exact h
end
end Go.Proofs.Ytfmciiffcmfagaa
namespace Go.Proofs.Ytfmciiffcmfagaa
open Go.RowKit
def wtV (q:Rq) (id:Int):Int:=((findQ q.l id).map (·.2)).getD 0
section
variable {w w':World} {b bt br:Nat} {q:Rq} {T R:Tr Nat} {B:Int→Nat} {r:Int}
theorem wtV_some {id:Int} {x:Int×Int} (h:findQ q.l id=some x):wtV q id=x.2:=by simp [wtV,h]
theorem wtV_none {id:Int} (h:findQ q.l id=none):wtV q id=0:=by simp [wtV,h]
theorem rpWeight (h:RpI w b q bt br T R B r) (id:Int):
  Calls Try.prog 39 #[.pointer (some ⟨b,0,none⟩), .int .i64 id] w fun e w'=>e= .returned (.tuple #[.int .i64 (wtV q id), .bool (findQ q.l id).isSome])∧Turned [] w w':=by
 have HF:=xhd (rpFind h id)
 rw [findP] at HF
 have HK:=xhd h.k
 clear h
 cases hq:findQ q.l id with
 |none=>
  rw [wtV_none hq]
  rw [hq,Option.isSome_none,if_neg (by simp)] at HF
  clear hq HK
  go_enter Try.func39,Try.ntmps39
  go_wp2_with fail
  with_reducible refine HF.out.mono ?_
  rintro e V ⟨rfl,t⟩
  have HT:=xhd t
  clear t
  go_wp2
  go_ret2
  exact⟨rfl,HT.out⟩
 |some x=>
  rw [wtV_some hq]
  rw [hq,Option.isSome_some,if_pos rfl] at HF
  have hm:=HK.out _ (findQ_mem hq)
  obtain⟨x1,x2⟩:=x
  have HM:=xhd hm
  clear hm hq HK
  dsimp only
  go_enter Try.func39,Try.ntmps39
  go_wp2_with fail
  with_reducible refine HF.out.mono ?_
  rintro e V ⟨rfl,t⟩
  obtain⟨⟨k0,k1,k2⟩,_⟩:=cells3k (t.same HM.out (by simp))
  have HT:=xhd t
  clear t
  dsimp only at k0
  go_wp2
  go_ret2
  exact⟨rfl,HT.out⟩
end
section
variable {w w':World} {b d:Nat} {X X0 Y:List Nat} {T:List Tq} {l:List Rq} {q:Rq} {c:Int}
theorem rp_weight (h:RpAt w b X q) (id:Int):Calls Try.prog 39 #[.pointer (some ⟨b,0,none⟩), .int .i64 id] w fun e w'=>e= .returned (.tuple #[.int .i64 (wtV q id), .bool (findQ q.l id).isSome])∧Turned [] w w':=by
 obtain⟨bt,br,T,R,B,r,rfl,h⟩:=h
 exact rpWeight h id
theorem rp_vv (h:RpAt w b X q) (id:Int):Calls Try.prog 25 #[.pointer (some ⟨b,0,none⟩), .int .i64 id] w fun e w'=>e= .returned (.tuple #[.int .u64 (remV q id), .bool (findQ q.l id).isSome])∧Turned [] w w':=by
 obtain⟨bt,br,T,R,B,r,rfl,h⟩:=h
 exact rpV h id
theorem rp_len (h:RpAt w b X q):Calls Try.prog 32 #[.pointer (some ⟨b,0,none⟩)] w fun e w'=>e= .returned (.int .i64 (q.l.length:Nat))∧Turned [] w w':=by
 obtain⟨bt,br,T,R,B,r,rfl,h⟩:=h
 exact rpLen h
theorem rp_floor (h:RpAt w b X q):Calls Try.prog 41 #[.pointer (some ⟨b,0,none⟩)] w fun e w'=>e= .returned (.int .u64 q.f)∧Turned [] w w':=by
 obtain⟨bt,br,T,R,B,r,rfl,h⟩:=h
 exact rpFloor h
theorem rp_current (h:RpAt w b X q) (hq:QOk q c):Calls Try.prog 46 #[.pointer (some ⟨b,0,none⟩)] w fun e w'=>e= .returned (.tuple #[.int .i64 q.cur, .int .i64 q.ran, .bool (decide (0≤q.cur))])∧Turned [] w w':=by
 obtain⟨bt,br,T,R,B,r,rfl,h⟩:=h
 exact rpCurrent h hq
theorem rp_keep0 (h:RpAt w b X q) (t:Turned [] w w'):RpAt w' b X q:=rpSaid.keep0 h t
theorem cplen (h:CpI w b X0 T l):Calls Try.prog 7 #[.pointer (some ⟨b,0,none⟩)] w fun e w'=>e= .returned (.int .i64 (l.length:Nat))∧w=w':=by
 obtain⟨a,cap,c0,_,_⟩:=h.view
 obtain⟨n,hn⟩:∃n,l.length=n:=⟨_,rfl⟩
 rw [hn] at c0 ⊢
 clear h hn
 go_enter Try.func7,Try.ntmps7
 go_wp2
 go_ret
 exact⟨rfl,rfl⟩
theorem cpqueue_no (h:CpI w b X0 T l) {core:Int} (hn:core < 0∨(l.length:Int)≤core):Calls Try.prog 17 #[.pointer (some ⟨b,0,none⟩), .int .i64 core] w fun e w'=>e= .returned (.pointer none)∧w=w':=by
 have HL:=xhd (cplen h)
 obtain⟨n,hl⟩:∃n,l.length=n:=⟨_,rfl⟩
 rw [hl] at HL hn
 clear h hl
 by_cases h1:core < 0
 ·have b1:decide (core < 0)=true:=by simpa using h1
  clear hn
  go_enter Try.func17,Try.ntmps17
  go_wp2
  go_ret
  exact⟨rfl,rfl⟩
 ·have b1:decide (core < 0)=false:=by simpa using h1
  have h2:(n:Int)≤core:=hn.resolve_left h1
  have b2:decide ((n:Int)≤core)=true:=by simpa using h2
  clear hn
  go_enter Try.func17,Try.ntmps17
  go_wp2_with fail
  with_reducible refine HL.out.mono ?_
  rintro e w1 ⟨rfl,rfl⟩
  go_wp2
  go_ret
  exact⟨rfl,rfl⟩
theorem cpqueue_at (h:CpI w b X0 T l) {k:Nat} (hq:l[k]?=some q) (hT:T[k]?=some (d,Y)):Calls Try.prog 17 #[.pointer (some ⟨b,0,none⟩), .int .i64 k] w fun e w'=>e= .returned (.pointer (some ⟨d,0,none⟩))∧w=w':=by
 have HL:=xhd (cplen h)
 obtain⟨a,cap,c0,hlen,hr⟩:=h.view
 obtain⟨g,d',Y',rfl,hT',cp,_⟩:=hr k q hq
 rw [hT] at hT'
 injection hT' with hT'
 injection hT' with e1 e2
 subst e1
 have hk:k < l.length:=(List.getElem?_eq_some_iff.1 hq).1
 unfold maxLen at hlen
 obtain⟨n,hl⟩:∃n,l.length=n:=⟨_,rfl⟩
 rw [hl] at HL hk hlen c0
 have i0:(0:Int)≤k:=by omega
 have i1:(k:Int) < n:=by omega
 have b1:decide ((k:Int) < 0)=false:=by simp
 have b2:decide ((n:Int)≤k)=false:=by simp;omega
 clear h hl hr hq hT e2
 go_enter Try.func17,Try.ntmps17
 go_wp2_with fail
 with_reducible refine HL.out.mono ?_
 rintro e w1 ⟨rfl,rfl⟩
 go_wp2
 go_ret
 exact⟨rfl,rfl⟩
theorem cpof (h:CpI w b X0 T l) (id:Int):Calls Try.prog 12 #[.pointer (some ⟨b,0,none⟩), .int .i64 id] w fun e w'=>e= .returned (.int .i64 (ofC l id))∧Turned [] w w':=by
 have HL:=xhd (cplen h)
 have HV:=xhd (fun V (t:Turned [] w V)=>(h.keep0 t).view)
 have hlen:l.length≤maxLen:=by obtain⟨_,_,_,hm,_⟩:=h.view;exact hm
 unfold maxLen at hlen
 obtain⟨n,hn⟩:∃n,l.length=n:=⟨_,rfl⟩
 have HN:=xhd hn
 rw [hn] at HL hlen HV
 clear h hn
 go_enter Try.func12,Try.ntmps12
 go_wp2_with fail
 with_reducible refine HL.out.mono ?_
 rintro e w1 ⟨rfl,rfl⟩
 clear HL
 go_wp2
 go_loopw [10] (fun iv V=>∃k:Nat,iv= .int .i64 k∧k≤n∧Hid (∀(j:Nat) (r:Rq),j < k→l[j]?=some r→(findQ r.l id).isSome=false)∧Hid (Turned [] w V)) (fun iv _=>n - (intOf iv).toNat)
 case atStart=>exact⟨0,rfl,by omega,xhd fun j r hj=>absurd hj (Nat.not_lt_zero j),xhd (Turned.refl _ _)⟩
 case round=>
  obtain⟨k,rfl,hk,HP,HT⟩:=hrel
  by_cases hlt:k < n
  ·have hq:l[k]?=some (l[k]'(by have:=HN.out;omega)):=List.getElem?_eq_getElem _
   obtain⟨q,hqq⟩:∃q,l[k]'(by have:=HN.out;omega)=q:=⟨_,rfl⟩
   rw [hqq] at hq
   have HQ:=xhd hq
   obtain⟨a,cap,c0,_,hr⟩:=HV.out _ HT.out
   obtain⟨g,d,Y,rfl,_,cp,hat⟩:=hr k q hq
   have HAT:=xhd (rp_vv hat id)
   have HLT:=xhd hlt
   have i0:(0:Int)≤k:=by omega
   have i1:(k:Int) < n:=by omega
   obtain⟨z,hz⟩:∃z,(findQ q.l id).isSome=z:=⟨_,rfl⟩
   rw [hz] at HAT
   have HZ:=xhd hz
   clear hq hqq hat hz hr hlt
   go_wp2_with fail
   with_reducible refine HAT.out.mono ?_
   rintro e w2 ⟨rfl,t2⟩
   have T2:=xhd (HT.out.join t2)
   clear t2 c0 cp
   cases z with
   |true=>
    go_wp2
    go_ret
    have:ofC l id=k:=by
     unfold ofC
     rw [ofN_at HQ.out HZ.out HP.out]
    rw [this]
    exact⟨rfl,T2.out⟩
   |false=>
    go_wp2
    go_roundw
    case rel=>
     refine⟨k+1,by go_num,by have:=HLT.out;omega,xhd fun j r hj hr=>?_,T2⟩
     by_cases e:j=k
     ·subst e
      rw [HQ.out] at hr
      cases hr
      exact HZ.out
     ·exact HP.out j r (by omega) hr
    case measure=>have:=HLT.out;simp [intOf];omega
  ·have hk':k=n:=by omega
   subst hk'
   go_wp2
   go_ret
   have:ofC l id= -1:=by
    unfold ofC
    rw [ofN_no fun q hq=>by
     obtain⟨j,hj⟩:=List.mem_iff_getElem?.1 hq
     have hl:j < l.length:=(List.getElem?_eq_some_iff.1 hj).1
     exact HP.out j q (by have:=HN.out;omega) hj]
   rw [this]
   exact⟨rfl,HT.out⟩
theorem cptasks (h:CpI w b X0 T l) (ha:allC l≤16):Calls Try.prog 19 #[.pointer (some ⟨b,0,none⟩)] w fun e w'=>e= .returned (.int .i64 (allC l:Nat))∧Turned [] w w':=by
 have HL:=xhd (cplen h)
 have HV:=xhd (fun V (t:Turned [] w V)=>(h.keep0 t).view)
 have hlen:l.length≤maxLen:=by obtain⟨_,_,_,hm,_⟩:=h.view;exact hm
 unfold maxLen at hlen
 obtain⟨n,hn⟩:∃n,l.length=n:=⟨_,rfl⟩
 have HN:=xhd hn
 rw [hn] at HL hlen HV
 have HEND:Hid (allC (l.take n)=allC l):=xhd (by rw [←hn,List.take_length])
 have HLE:=xhd (fun k=>Nat.le_trans (allC_take_le l k) ha)
 clear h hn ha
 go_enter Try.func19,Try.ntmps19
 go_wp2_with fail
 with_reducible refine HL.out.mono ?_
 rintro e w1 ⟨rfl,rfl⟩
 clear HL
 go_wp2
 go_loopw [3,7] (fun s iv V=>∃k:Nat,iv= .int .i64 k∧k≤n∧s= .int .i64 (allC (l.take k):Nat)∧Hid (Turned [] w V)) (fun _ iv _=>n - (intOf iv).toNat)
 case atStart=>exact⟨0,rfl,by omega,rfl,xhd (Turned.refl _ _)⟩
 case round=>
  obtain⟨k,rfl,hk,rfl,HT⟩:=hrel
  by_cases hlt:k < n
  ·have hq:l[k]?=some (l[k]'(by have:=HN.out;omega)):=List.getElem?_eq_getElem _
   obtain⟨q,hqq⟩:∃q,l[k]'(by have:=HN.out;omega)=q:=⟨_,rfl⟩
   rw [hqq] at hq
   obtain⟨a,cap,c0,_,hr⟩:=HV.out _ HT.out
   obtain⟨g,d,Y,rfl,_,cp,hat⟩:=hr k q hq
   have HAT:=xhd (rp_len hat)
   have HLT:=xhd hlt
   have hs:=allC_take hq
   have hs1:=HLE.out (k+1)
   have i0:(0:Int)≤k:=by omega
   have i1:(k:Int) < n:=by omega
   obtain⟨m,hm⟩:∃m,q.l.length=m:=⟨_,rfl⟩
   rw [hm] at HAT hs
   obtain⟨s,hsd⟩:∃s,allC (l.take k)=s:=⟨_,rfl⟩
   rw [hsd] at hs ⊢
   have hw:IntKind.i64.wrap ((s:Int)+m)=s+m:=by rw [IntKind.wrap_i64];omega
   have HS:=xhd hs
   clear hq hqq hat hm hr hs hs1 hsd hlt
   go_wp2_with fail
   with_reducible refine HAT.out.mono ?_
   rintro e w2 ⟨rfl,t2⟩
   have T2:=xhd (HT.out.join t2)
   clear t2 c0 cp
   go_wp2
   go_roundw
   case rel=>exact⟨k+1,by go_num,by have:=HLT.out;omega,by rw [HS.out];go_num,T2⟩
   case measure=>have:=HLT.out;simp [intOf];omega
  ·have hk':k=n:=by omega
   subst hk'
   go_wp2
   go_ret
   rw [HEND.out]
   exact⟨rfl,HT.out⟩
theorem cphome_no (h:CpI w b X0 T l) {id:Int} (ho:ofN l id=none):Calls Try.prog 26 #[.pointer (some ⟨b,0,none⟩), .int .i64 id] w fun e w'=>e= .returned (.pointer none)∧Turned [] w w':=by
 have HO:=xhd (cpof h id)
 have e:ofC l id= -1:=by unfold ofC;rw [ho]
 rw [e] at HO
 have HQ:=xhd (fun V (t:Turned [] w V)=>cpqueue_no (h.keep0 t) (core:= -1) (.inl (by decide)))
 clear h ho e
 go_enter Try.func26,Try.ntmps26
 go_wp2_with fail
 with_reducible refine HO.out.mono ?_
 rintro e w1 ⟨rfl,t1⟩
 have T1:=xhd t1
 clear t1
 go_wp2_with fail
 with_reducible refine (HQ.out _ T1.out).mono ?_
 rintro e w2 ⟨rfl,rfl⟩
 go_wp2
 go_ret
 exact⟨rfl,T1.out⟩
theorem cphome_at (h:CpI w b X0 T l) {id:Int} {k:Nat} (ho:ofN l id=some k) (hT:T[k]?=some (d,Y)):Calls Try.prog 26 #[.pointer (some ⟨b,0,none⟩), .int .i64 id] w fun e w'=>e= .returned (.pointer (some ⟨d,0,none⟩))∧Turned [] w w':=by
 have HO:=xhd (cpof h id)
 have e:ofC l id=k:=by unfold ofC;rw [ho]
 rw [e] at HO
 obtain⟨q,hq,_,_⟩:=ofN_some ho
 have HQ:=xhd (fun V (t:Turned [] w V)=>cpqueue_at (h.keep0 t) hq hT)
 clear h ho e hq hT
 go_enter Try.func26,Try.ntmps26
 go_wp2_with fail
 with_reducible refine HO.out.mono ?_
 rintro e w1 ⟨rfl,t1⟩
 have T1:=xhd t1
 clear t1
 go_wp2_with fail
 with_reducible refine (HQ.out _ T1.out).mono ?_
 rintro e w2 ⟨rfl,rfl⟩
 go_wp2
 go_ret
 exact⟨rfl,T1.out⟩
theorem cpcurrent (h:RpAt w d Y q) (hq:QOk q c) (id:Int):Calls Try.prog 29 #[.int .i64 id, .pointer (some ⟨d,0,none⟩)] w fun e w'=>e= .returned (.bool (decide (0≤q.cur)&&decide (q.cur=id)))∧Turned [] w w':=by
 have HC:=xhd (rp_current h hq)
 clear h hq
 obtain⟨z,hz⟩:∃z,q.cur=z:=⟨_,rfl⟩
 obtain⟨y,hy⟩:∃y,q.ran=y:=⟨_,rfl⟩
 rw [hz,hy] at HC
 rw [hz]
 clear hz hy
 by_cases h0:0≤z
 ·have b0:decide (0≤z)=true:=by simpa using h0
  rw [b0] at HC ⊢
  rw [Bool.true_and]
  clear h0 b0
  go_enter Try.func29,Try.ntmps29
  go_wp2_with fail
  with_reducible refine HC.out.mono ?_
  rintro e w1 ⟨rfl,t1⟩
  have T1:=xhd t1
  clear t1
  go_wp2
  go_ret
  exact⟨by simp;rw [Bool.eq_iff_iff];simp,T1.out⟩
 ·have b0:decide (0≤z)=false:=by simpa using h0
  rw [b0] at HC ⊢
  rw [Bool.false_and]
  clear h0 b0
  go_enter Try.func29,Try.ntmps29
  go_wp2_with fail
  with_reducible refine HC.out.mono ?_
  rintro e w1 ⟨rfl,t1⟩
  have T1:=xhd t1
  clear t1
  go_wp2
  go_ret
  exact⟨rfl,T1.out⟩
theorem cp_row (h:CpI w b X0 T l) {k:Nat} (hq:l[k]?=some q):∃d Y,T[k]?=some (d,Y):=by
 obtain⟨a,cap,_,_,hr⟩:=h.view
 obtain⟨g,d,Y,_,hT,_,_⟩:=hr k q hq
 exact⟨d,Y,hT⟩
end
end Go.Proofs.Ytfmciiffcmfagaa
namespace Go.Proofs.Ytfmciiffcmfagaa
open Go.RowKit
theorem run_max_cp {P:Program} {w:World} (ts:Array TypeId) (t:TypeId) (x y:Int):(Builtin.max_ ts t #[.int .i64 x, .int .i64 y]).run P w= .ok (.int .i64 (max x y)) w:=by
 rw [run_max_int2]
 congr 2
 split<;>omega
theorem run_min_cp {P:Program} {w:World} (ts:Array TypeId) (t:TypeId) (x y:Int):(Builtin.min_ ts t #[.int .i64 x, .int .i64 y]).run P w= .ok (.int .i64 (min x y)) w:=by
 rw [run_min_int2]
 congr 2
 split<;>omega
attribute [local go_sem ↓] run_min_cp run_max_cp
theorem cpInfoP:(Try.prog.info? tPp).map (fun i=>(i.zero,i.size,i.bytes))=some (some (.pointer none),1,8):=by kernel_rfl
theorem CpI.more {w w4 W5:World} {b d i cap cap5:Nat} {a a5:Option Addr} {X0 Y:List Nat} {T:List Tq} {l:List Rq} {q:Rq} (h:CpI w b X0 T l) (hi:l.length=i) (hc:w.cell? ⟨b,0,none⟩=some (.slice a i cap))
  (t4:Turned [] w w4) (r4:RpAt w4 d Y q) (hY:∀k ∈ Y,w.heap.size≤k)
  (own5:W5.ownsRow 0 tPp 1 (.slice a5 (i+1) cap5) (i+1) (cellsOf encP (T.map (·.1))++[.pointer (some ⟨d,0,none⟩)]))
  (grow5:(w4.alloc (.cells #[.pointer (some ⟨d,0,none⟩)] tPp)).grownBy W5 (Value.slice a i cap).ownBlock)
  (new5:∀g ∈ (Value.slice a5 (i+1) cap5).ownBlock.toList,g ∈ (Value.slice a i cap).ownBlock.toList∨(w4.alloc (.cells #[.pointer (some ⟨d,0,none⟩)] tPp)).heap.size≤g):
  W5.cell? ⟨b,0,none⟩=some (.slice a i cap)∧W5.frozen? ⟨b,0,none⟩=false∧∃X1,CpI (W5.setCell ⟨b,0,none⟩ (.slice a5 (i+1) cap5)) b X1 (T++[(d,Y)]) (l++[q])∧
   Turned X0 w (W5.setCell ⟨b,0,none⟩ (.slice a5 (i+1) cap5))∧Newer X0 w.heap.size X1:=by
 have hX:=h.lt
 have hty:=cpown_types h.own
 obtain⟨v,h1,h2,h3⟩:=h.own
 have hv:v= .slice a i cap:=by
  have:w.cell? ⟨b,0,none⟩=some v:=by simp [World.cell?,h1]
  rw [hc] at this
  exact (Option.some.inj this).symm
 subst hv
 have hT:T.length=i:=h.qs.len.trans hi
 have tw:Turned [] w (w4.alloc (.cells #[.pointer (some ⟨d,0,none⟩)] tPp)):=t4.alloc _
 have e1:cellsOf encP (T.map (·.1))++[.pointer (some ⟨d,0,none⟩)]=cellsOf encP ((T++[(d,Y)]).map (·.1)):=by rw [List.map_append,List.map_cons,List.map_nil,cellsOf_snoc]
 have e2:i+1=((T++[(d,Y)]).map (·.1)).length:=by simp [hT]
 have R:=LAt.appended (W:=w) (W2:=w4.alloc (.cells #[.pointer (some ⟨d,0,none⟩)] tPp)) (W1:=W5) (tS:=tCp) (tE:=tPp) (k:=1) (enc:=encP) (cs:=fun v=> #[v]) (v:= .slice a i cap) (i:=0) (v':= .slice a5 (i+1) cap5) (M:=(T++[(d,Y)]).map (·.1)) (by decide) rfl h1 h2 tw grow5 (by rw [←e1, ←e2];exact own5) new5
 obtain⟨r1,r2,r3,r4'⟩:=R
 rw [←h3] at r3 r4'
 refine⟨by simp [World.cell?,r1],frozen_of_row W5 b 0 _ _ r1,_,⟨r2,?_,fun x hx k hk hk'=>?_,LAt.lt r2⟩,r3,r4'⟩
 ·have ht4:Turned (b::(Value.slice a i cap).ownBlock.toList) w4 (W5.setCell ⟨b,0,none⟩ (.slice a5 (i+1) cap5)):=by
    refine Turned.setCell (Turned.grown (((Turned.refl _ w4).alloc _)) grow5 fun k hk=> .inl (List.mem_cons_of_mem _ (by simp [hk]))) (.inl (by simp)) _
  rw [←h3] at ht4
  have hq:=h.qs.keep (cs_keep rpSaid r3 hty) r3 h.off
  refine hq.push ?_ (fun k hk=>?_) fun x hx k hk hk'=>?_
  ·exact rpSaid.keep r4 ht4 (fun k hk hk'=>by
    have:=hX k hk'
    have:=hY k hk
    omega) (fun k hk cs t fz e=>hty k hk cs t fz (by rw [←t4.block k (hX k hk) (by simp)];exact e))
  ·have:=rpSaid.lt r4 k hk
   exact Nat.lt_of_lt_of_le this ht4.size
  ·have:=h.qs.lt x hx k hk
   have:=hY k hk'
   omega
 ·rcases List.mem_append.1 hx with e|e
  ·rcases r4' k hk' with e'|e'
   ·exact h.off x e k hk e'
   ·have:=h.qs.lt x e k hk
    omega
  ·rw [List.mem_singleton] at e
   subst e
   have hk4:=rpSaid.lt r4 k hk
   have hkw:=hY k hk
   rcases List.mem_cons.1 hk' with e'|e'
   ·have:=hX b (by rw [h3];simp)
    omega
   ·rcases new5 _ e' with e2'|e2'
    ·have:=hX k (by rw [h3];exact List.mem_cons_of_mem _ e2')
     omega
    ·rw [World.size_alloc] at e2'
     omega
theorem cpnew (n grain:Int) (w:World):
  Calls Try.prog 6 #[.int .i64 n, .int .i64 grain] w fun e w'=>∃b X0 T,e= .returned (.pointer (some ⟨b,0,none⟩))∧CpI w' b X0 T (newC n grain)∧Turned [] w w'∧∀k ∈ blk X0 T,w.heap.size≤k:=by
 have HNW:=xhd (fun V=>rpNew grain V)
 have hbr:=bring_range (n:=n) (lo:=1) (hi:=4) (by decide)
 have hmm:=bring_minmax (n:=n) (show (1:Int)≤4 by decide)
 unfold newC
 obtain⟨m,hm⟩:∃m:Nat,bringR n 1 4=m:=⟨(bringR n 1 4).toNat,by omega⟩
 rw [hm] at hmm hbr ⊢
 rw [Int.toNat_natCast]
 obtain⟨ii,hi,hz0,hz1,hz2⟩:=info_parts cpInfoP
 have hm4:m≤4:=by omega
 have h0:CpI (w.alloc (.cells #[.slice none 0 0] tCp)) w.heap.size [w.heap.size] [] (List.replicate 0 (Rq.new grain)):=
  ⟨⟨.slice none 0 0,heap_alloc_new w _,World.ownsRow_nil _ _ _ _,rfl⟩,Cs.nil _ _,(fun x hx=>by cases hx),(fun k hk=>by rw [List.mem_singleton] at hk;subst hk;exact lt_of_block (heap_alloc_new w _))⟩
 have H0:=xhd h0
 have HT0:=xhd ((Turned.refl [] w).alloc (.cells #[.slice none 0 0] tCp))
 clear h0 hm hbr
 go_enter Try.func6,Try.ntmps6
 go_wp2
 (try rw [hmm])
 have HWS:=xhd (Nat.le_refl w.heap.size)
 obtain⟨b,hb⟩:∃b,w.heap.size=b:=⟨_,rfl⟩
 rw [hb] at H0 HWS ⊢
 have HB0:=xhd hb
 clear hb hmm
 go_loopw [11] (fun iv V=>∃(i:Nat) (X0:List Nat) (T:List Tq),i≤m∧iv= .int .i64 i∧Hid (CpI V b X0 T (List.replicate i (Rq.new grain)))∧Hid (Turned [] w V)∧Hid (∀k ∈ blk X0 T,b≤k)) (fun iv _=>m - (intOf iv).toNat)
 case atStart=>exact⟨0,_,_,Nat.zero_le _,rfl,H0,HT0,xhd (fun k hk=>by simp [blk] at hk;omega)⟩
 case round=>
  clear H0 HT0
  obtain⟨i,X0,T,him,rfl,HR,HT,HK⟩:=hrel
  by_cases hlt:i < m
  ·have i1:(i:Int) < m:=by omega
   obtain⟨v,h1,h2,h3⟩:=HR.out.own
   have hTl:T.length=i:=by have:=HR.out.qs.len;simpa using this
   rw [List.length_map,hTl] at h2
   obtain⟨a,cap,rfl,_,_⟩:=ownsRow_shape h2
   have c0:wr.cell? ⟨b,0,none⟩=some (.slice a i cap):=by simp [World.cell?,h1]
   have HO4:=xhd (fun w4 (d:Nat) (t4:Turned [] wr w4)=>And.intro ((ownsRow_same h2 fun g _ hl=>t4.block g hl (by simp)).alloc (.cells #[.pointer (some ⟨d,0,none⟩)] tPp)) trivial)
   have HAP:=xhd (fun w4 d Y (t4:Turned [] wr w4) (r4:RpAt w4 d Y (Rq.new grain)) (y4:∀k ∈ Y,wr.heap.size≤k) a5 cap5 W5 own5 grow5 new5=>CpI.more HR.out (l:=List.replicate i (Rq.new grain)) (i:=i) (cap:=cap) (a:=a) (by simp) c0 t4 r4 y4 (a5:=a5) (cap5:=cap5) (W5:=W5) own5 grow5 new5)
   have HLT:=xhd hlt
   clear h1 h2 h3 hlt hTl
   go_wp2_with fail
   have hmix:Try.prog.follows .mixedOrders=true:=by kernel_rfl
   refine wp_region_noPanic ?_
   refine wp_region_lastF (fun V=>V.cell? ⟨b,0,none⟩=some (.slice a i cap)) 11 hmix c0 (fun hS0=>?_)
   refine wpAnyF_free (i:=0) (v:=?_) rfl (by kernel_rfl) (by decide) (fun _ _ _ h=>h) (by kernel_rfl) (by kernel_rfl) (Or.inl ⟨by rfl,?hy⟩) (by assumption) ?_
   case hy=>
    intro w _
    go_simp
    try with_reducible rfl
   try simp only [xga];try simp only [xgs];try simp only [xgz];try simp only [Act.put];try simp only [xsa];try simp only [xss];try simp only [xsz]
   refine wpAnyF_free (i:=1) (v:=?_) rfl (by kernel_rfl) (by decide) (fun _ _ _ h=>h) (by kernel_rfl) (by kernel_rfl) (Or.inl ⟨by rfl,?hy⟩) (by assumption) ?_
   case hy=>
    intro w _
    go_simp
    try with_reducible rfl
   try simp only [xga];try simp only [xgs];try simp only [xgz];try simp only [Act.put];try simp only [xsa];try simp only [xss];try simp only [xsz]
   refine wpAnyF_free (i:=2) (v:=?_) rfl (by kernel_rfl) (by decide) (fun _ _ _ h=>h) (by kernel_rfl) (by kernel_rfl) (Or.inl ⟨by rfl,?hy⟩) (by assumption) ?_
   case hy=>
    intro w _
    go_simp
    try with_reducible rfl
   try simp only [xga];try simp only [xgs];try simp only [xgz];try simp only [Act.put];try simp only [xsa];try simp only [xss];try simp only [xsz]
   refine wpAnyF_free (i:=3) (v:=?_) rfl (by kernel_rfl) (by decide) (fun _ _ _ h=>h) (by kernel_rfl) (by kernel_rfl) (Or.inl ⟨by rfl,?hy⟩) (by assumption) ?_
   case hy=>
    intro w _
    go_simp
    try with_reducible rfl
   try simp only [xga];try simp only [xgs];try simp only [xgz];try simp only [Act.put];try simp only [xsa];try simp only [xss];try simp only [xsz]
   refine wpAnyF_take (i:=4) (v:=?_) rfl (by kernel_rfl) (by kernel_rfl) (fun _ _ _ h=>h) (by kernel_rfl) (by kernel_rfl) (by kernel_rfl) (Or.inl ⟨by rfl,?hy⟩) (by assumption) ?_
   case hy=>
    intro w hSw
    (try dsimp only at hSw)
    have s0:=hSw
    go_simp
    try with_reducible rfl
   try simp only [xga];try simp only [xgs];try simp only [xgz];try simp only [Act.put];try simp only [xsa];try simp only [xss];try simp only [xsz]
   refine wpAnyF_free (i:=5) (v:=?_) rfl (by kernel_rfl) (by decide) (fun _ _ _ h=>h) (by kernel_rfl) (by kernel_rfl) (Or.inl ⟨by rfl,?hy⟩) (by assumption) ?_
   case hy=>
    intro w _
    go_simp
    try with_reducible rfl
   try simp only [xga];try simp only [xgs];try simp only [xgz];try simp only [Act.put];try simp only [xsa];try simp only [xss];try simp only [xsz]
   refine wpAnyF_ready (rs:=[6]) (by kernel_rfl) (by simp) ?_
   refine ReadyF.cons rfl (fun K' hK=>?_) ReadyF.nil
   go_simp
   with_reducible refine (HNW.out _).mono ?_
   rintro e w4 ⟨d,Y,rfl,r4,t4,y4⟩
   have B4:=xhd ((Turned.refl [] wr).drew.join t4)
   have R4:=xhd r4
   have Y4:Hid (∀k ∈ Y,wr.heap.size≤k):=xhd y4
   clear r4 t4 y4
   have c4:w4.cell? ⟨b,0,none⟩=some (.slice a i cap):=B4.out.cell0 c0
   clear c0
   go_wp2_with fail
   refine hK.out _ _ (.inr ?_) ?_
   ·exact c4
   clear hK K'
   try simp only [xga];try simp only [xgs];try simp only [xgz];try simp only [Act.put];try simp only [xsa];try simp only [xss];try simp only [xsz]
   refine wpAnyF_ready (rs:=[7]) (by kernel_rfl) (by simp) ?_
   refine ReadyF.cons rfl (fun K' hK=>?_) ReadyF.nil
   go_simp
   refine hK.out _ _ (.inr ?_) ?_
   ·exact (World.cell?_alloc_old _ _ _ (Nat.ne_of_lt (World.block_lt_of_cell? _ _ c4))).trans c4
   clear hK K'
   try simp only [xga];try simp only [xgs];try simp only [xgz];try simp only [Act.put];try simp only [xsa];try simp only [xss];try simp only [xsz]
   refine wpAnyF_ready (rs:=[8]) (by kernel_rfl) (by simp) ?_
   refine ReadyF.cons rfl (fun K' hK=>?_) ReadyF.nil
   refine wp_append_any _ _ _ 44 rfl tPp ii (.pointer none) 1 8 Try.underlying44 hi hz0 hz1 hz2 rfl (by decide) (.slice a i cap) i _ rfl (HO4.out w4 d B4.out).1 (some ⟨w4.heap.size,0,none⟩) 1 1 [.pointer (some ⟨d,0,none⟩)] rfl rfl (by intro h;cases h) (by intro ad had;cases had;exact cell_one_new _ _ _) (by intro y hy;simp at hy;subst hy;rfl) (by unfold maxLen;omega) (by omega) ?_
   intro a5 cap5 W5 own5 grow5 new5
   have HE5:=xhd (HAP.out w4 d Y B4.out R4.out Y4.out a5 cap5 W5 own5 grow5 new5)
   clear own5 grow5 new5
   refine hK.out _ _ (.inr ?_) ?_
   ·exact HE5.out.1
   clear hK K'
   have c5:=HE5.out.1
   have f5:=HE5.out.2.1
   try simp only [xga];try simp only [xgs];try simp only [xgz];try simp only [Act.put];try simp only [xsa];try simp only [xss];try simp only [xsz]
   refine wpAnyF_free (i:=9) (v:=?_) rfl (by kernel_rfl) (by decide) (fun _ _ _ h=>h) (by kernel_rfl) (by kernel_rfl) (Or.inl ⟨by rfl,?hy⟩) (by assumption) ?_
   case hy=>
    intro w _
    go_simp
    try with_reducible rfl
   try simp only [xga];try simp only [xgs];try simp only [xgz];try simp only [Act.put];try simp only [xsa];try simp only [xss];try simp only [xsz]
   refine wpAnyF_free (i:=10) (v:=?_) rfl (by kernel_rfl) (by decide) (fun _ _ _ h=>h) (by kernel_rfl) (by kernel_rfl) (Or.inl ⟨by rfl,?hy⟩) (by assumption) ?_
   case hy=>
    intro w _
    go_simp
    try with_reducible rfl
   try simp only [xga];try simp only [xgs];try simp only [xgz];try simp only [Act.put];try simp only [xsa];try simp only [xss];try simp only [xsz]
   refine wpAnyF_ready (rs:=[11]) (by kernel_rfl) (by simp) ?_
   refine ReadyF.cons rfl (fun K' hK=>?_) ReadyF.nil
   go_simp
   refine hK.out _ _ (.inl (by kernel_rfl)) ?_
   clear hK K'
   try simp only [xga];try simp only [xgs];try simp only [xgz];try simp only [Act.put];try simp only [xsa];try simp only [xss];try simp only [xsz]
   refine wpAnyF_done (by kernel_rfl) ?_ _
   refine NoPanic.normal ?_
   try simp only [xga];try simp only [xgs];try simp only [xgz];try simp only [Act.put];try simp only [xsa];try simp only [xss];try simp only [xsz]
   obtain⟨_,_,X1,r17,t17,n17⟩:=HE5.out
   have hw1:=HT.out.size
   have hwb:=HB0.out
   have hy4:=Y4.out
   have R6:Hid (CpI (W5.setCell ⟨b,0,none⟩ (.slice a5 (i+1) cap5)) b X1 (T++[(d,Y)]) (List.replicate (i+1) (Rq.new grain))):=xhd (by rw [List.replicate_succ'];exact r17)
   have T6:=xhd (HT.out.trans t17 fun k hk=> .inr (by have:=HK.out k (blk_mem.2 (.inl hk));omega))
   have K6:Hid (∀k ∈ blk X1 (T++[(d,Y)]),b≤k):=xhd fun k hk=>by
    rcases blk_mem.1 hk with e|⟨x,hx,e⟩
    ·rcases n17 k e with e'|e'
     ·exact HK.out k (blk_mem.2 (.inl e'))
     ·omega
    ·rcases List.mem_append.1 hx with e'|e'
     ·exact HK.out k (blk_mem.2 (.inr ⟨x,e',e⟩))
     ·rw [List.mem_singleton] at e'
      subst e'
      have:=hy4 k e
      omega
   clear r17 t17 n17 hw1 hwb hy4 HE5 HAP HO4 B4 R4 Y4
   go_wp2
   go_roundw
   case rel=>exact⟨i+1,_,_,by have:=HLT.out;omega,by go_num,R6,T6,K6⟩
   case measure=>have:=HLT.out;simp [intOf];omega
  ·have hik:i=m:=by omega
   subst hik
   have i2:¬(i:Int) < i:=by omega
   go_wp2
   go_ret
   rw [HB0.out]
   exact⟨b,rfl,X0,T,HR.out,HT.out,HK.out⟩
end Go.Proofs.Ytfmciiffcmfagaa
namespace Go.Proofs.Ytfmciiffcmfagaa
open Go.RowKit
section
variable {w w':World} {b d d':Nat} {X X0 Y Y':List Nat} {T:List Tq} {l:List Rq} {q r:Rq} {c:Int}
theorem rp_add (h:RpAt w b X q) (hq:QOk q c) (id v wt:Int) (hv:Word v):Calls Try.prog 20 #[.pointer (some ⟨b,0,none⟩), .int .i64 id, .int .u64 v, .int .i64 wt] w fun e w'=>e= .returned (.tuple #[.int .u64 (addV q id v wt), .int .i64 (addE q id)])∧∃X',RpAt w' b X' (q.add id v wt)∧Turned X w w'∧Newer X w.heap.size X':=by
 obtain⟨bt,br,T,R,B,r,rfl,h⟩:=h
 exact (rpAdd h hq id v wt hv).mono fun e w' ⟨e1,X',h1,h2,h3⟩=>⟨e1,X',h1,up_blocks h2 (fun k hk=>by
  simp at hk
  rcases hk with rfl|rfl
  ·exact mem_blocksQ.2 (.inr (.inl rfl))
  ·exact mem_blocksQ.2 (.inr (.inr (.inl rfl)))),h3⟩
theorem rp_remove (h:RpAt w b X q) (hq:QOk q c) (id:Int):Calls Try.prog 27 #[.pointer (some ⟨b,0,none⟩), .int .i64 id] w fun e w'=>e= .returned (.tuple #[.int .u64 (remV q id), .bool (findQ q.l id).isSome])∧∃X',RpAt w' b X' (q.remove id)∧Turned X w w'∧Newer X w.heap.size X':=by
 obtain⟨bt,br,T,R,B,r,rfl,h⟩:=h
 exact (rpRemove h hq id).mono fun e w' ⟨e1,⟨T',R',h1⟩,h2⟩=>⟨e1,_,⟨bt,br,T',R',B,r,rfl,h1⟩,up_blocks h2 (mem_bb h),newer_ids (remove_ids q id) _⟩
theorem cpcarry (h:CpI w b X0 T l) (hc:COk l c) {id:Int} {k t:Nat} (hk:l[k]?=some q) (hf:(findQ q.l id).isSome=true) (ht:t < l.length) (hkt:k≠t) (hTk:T[k]?=some (d,Y)) (hTt:T[t]?=some (d',Y')):
  Calls Try.prog 24 #[.int .i64 id, .pointer (some ⟨d,0,none⟩), .pointer (some ⟨d',0,none⟩)] w fun e w'=>e= .returned (.int .i64 0)∧SameAt X0 w w'∧∃T',CpI w' b X0 T' (goC l id k t)∧Turned (blk X0 T) w w'∧Newer (blk X0 T) w.heap.size (blk X0 T'):=by
 obtain⟨⟨x1,x2⟩,hx⟩:=Option.isSome_iff_exists.1 hf
 have hqk:=hc.ok q (mem_at hk)
 have hxm:=findQ_mem hx
 have hw1:Word x1:=hqk.v _ hxm
 have hr:l[t]?=some l[t]:=List.getElem?_eq_getElem ht
 obtain⟨r,hrr⟩:∃r,l[t]=r:=⟨_,rfl⟩
 rw [hrr] at hr
 have hrk:=hc.ok r (mem_at hr)
 have hid:0≤id:=hqk.ids _ hxm
 have hno:(findQ r.l id).isSome=false:=by
  cases he:(findQ r.l id).isSome with
  |false=>rfl
  |true=>exact absurd (hc.one _ _ _ _ id hk hr hf he) hkt
 have hlen:r.l.length < 16:=by have:=allC_two hkt hk hr;have:=hc.all;have:=find_pos hf;omega
 have ee:addE r id=0:=by
  unfold addE
  rw [if_neg (by omega),if_neg (by rw [hno];exact Bool.false_ne_true),if_neg (by omega)]
 have ew:wtV q id=x2:=wtV_some hx
 have ev:remV q id=x1:=remV_some hx
 have hsw:=sub_word hw1 hqk.f
 rw [goC_sets hk hx hr hkt,Int.add_comm r.f,List.set_comm _ _ hkt]
 dsimp only
 obtain⟨v,hv⟩:∃v,satV (subV x1 q.f+r.f)=v:=⟨_,rfl⟩
 have hvw:Word v:=by
  rw [←hv]
  exact sat_word (by have:=hsw.1;have:=hrk.f.1;omega)
 rw [hv]
 have HWT:=xhd (fun V (t':Turned [] w V)=>rp_weight ((h.keep0 t').qs.at_ k _ q hTk hk) id)
 have HVV:=xhd (fun V (t':Turned [] w V)=>rp_vv ((h.keep0 t').qs.at_ k _ q hTk hk) id)
 have HFK:=xhd (fun V (t':Turned [] w V)=>rp_floor ((h.keep0 t').qs.at_ k _ q hTk hk))
 have HFT:=xhd (fun V (t':Turned [] w V)=>rp_floor ((h.keep0 t').qs.at_ t _ r hTt hr))
 have HSUB:=xhd (fun V=>sub_any x1 q.f hw1 hqk.f V)
 have HSUM:=xhd (fun V=>add_any (subV x1 q.f) r.f hsw hrk.f V)
 have HADD:=xhd (fun V (t':Turned [] w V)=>rp_add ((h.keep0 t').qs.at_ t _ r hTt hr) hrk id v x2 hvw)
 have HS1:=xhd (fun V (t':Turned [] w V) V' Y2 (a:RpAt V' d' Y2 (r.add id v x2)) t2 n2=>CpI.set (h.keep0 t') hTt hr a t2 n2)
 have hl1:(l.set t (r.add id v x2))[k]?=some q:=by rw [List.getElem?_set_ne (fun e=>hkt e.symm)];exact hk
 have HREM:=xhd (fun V T1 (h1:CpI V b X0 T1 (l.set t (r.add id v x2))) (hT1:T1[k]?=some (d,Y))=>rp_remove (h1.qs.at_ k _ q hT1 hl1) hqk id)
 have HS2:=xhd (fun V T1 (h1:CpI V b X0 T1 (l.set t (r.add id v x2))) (hT1:T1[k]?=some (d,Y)) V' Y2 (a:RpAt V' d Y2 (q.remove id)) t2 n2=>CpI.set h1 hT1 hl1 a t2 n2)
 have HY1:=xhd (fun V (t':Turned [] w V) V' (t2:Turned Y' V V')=>SameAt.trans (fun j hj=>t'.block j (h.lt j hj) (by simp)) (CpI.same0 (h.keep0 t') hTt t2))
 have HY2:=xhd (fun V T1 (h1:CpI V b X0 T1 (l.set t (r.add id v x2))) (hT1:T1[k]?=some (d,Y)) V' (t2:Turned Y V V')=>CpI.same0 h1 hT1 t2)
 have HT1:Hid (∀Y2,(T.set t (d',Y2))[k]?=some (d,Y)):=xhd fun Y2=>by rw [List.getElem?_set_ne (fun e=>hkt e.symm)];exact hTk
 rw [ew,hf] at HWT
 rw [ev,hf] at HVV
 rw [ee] at HADD
 rw [hv] at HSUM
 obtain⟨s,hs⟩:∃s,subV x1 q.f=s:=⟨_,rfl⟩
 rw [hs] at HSUB HSUM
 obtain⟨f,hf1⟩:∃f,q.f=f:=⟨_,rfl⟩
 obtain⟨f2,hf2⟩:∃f,r.f=f:=⟨_,rfl⟩
 rw [hf1] at HSUB HFK
 rw [hf2] at HSUM HFT
 clear h hc hk hf ht hkt hTk hTt hx hqk hxm hw1 hr hrr hrk hid hno hlen ee ew ev hsw hv hvw hl1 hs hf1 hf2
 go_enter Try.func24,Try.ntmps24
 go_wp2_with fail
 with_reducible refine (HWT.out _ (Turned.refl _ _)).mono ?_
 rintro e w1 ⟨rfl,t1⟩
 have T1:=xhd t1
 clear t1
 go_wp2_with fail
 with_reducible refine (HVV.out _ T1.out).mono ?_
 rintro e w2 ⟨rfl,t2⟩
 have T2:=xhd (T1.out.join t2)
 clear t2
 go_wp2_with fail
 with_reducible refine (HFK.out _ T2.out).mono ?_
 rintro e w3 ⟨rfl,t3⟩
 have T3:=xhd (T2.out.join t3)
 clear t3
 go_wp2_with fail
 with_reducible refine (HSUB.out _).mono ?_
 rintro e w4 ⟨rfl,rfl⟩
 go_wp2_with fail
 with_reducible refine (HFT.out _ T3.out).mono ?_
 rintro e w5 ⟨rfl,t5⟩
 have T5:=xhd (T3.out.join t5)
 clear t5
 go_wp2_with fail
 with_reducible refine (HSUM.out _).mono ?_
 rintro e w6 ⟨rfl,rfl⟩
 go_wp2_with fail
 with_reducible refine (HADD.out _ T5.out).mono ?_
 rintro e w7 ⟨rfl,Y2,a7,t7,n7⟩
 have HS:=xhd (HS1.out _ T5.out w7 Y2 a7 t7 n7)
 have HM:=xhd (HY1.out _ T5.out w7 t7)
 clear a7 t7 n7
 go_wp2_with fail
 with_reducible refine (HREM.out _ _ HS.out.1 (HT1.out _)).mono ?_
 rintro e w8 ⟨rfl,Y3,a8,t8,n8⟩
 have HE:=xhd (HS2.out _ _ HS.out.1 (HT1.out _) w8 Y3 a8 t8 n8)
 have HN:=xhd (HM.out.trans (HY2.out _ _ HS.out.1 (HT1.out _) w8 t8))
 clear a8 t8 n8
 go_wp2
 go_ret
 have t57:=(T5.out.mono (fun k hk=>by simp at hk)).trans HS.out.2.1 (Newer.refl (blk X0 T) _)
 have n57:Newer (blk X0 T) w.heap.size (blk X0 (T.set t (d',Y2))):=HS.out.2.2.low T5.out.size
 exact⟨rfl,HN.out,_,HE.out.1,t57.trans HE.out.2.1 n57,n57.trans HE.out.2.2 t57.size⟩
end
end Go.Proofs.Ytfmciiffcmfagaa
namespace Go.Proofs.Ytfmciiffcmfagaa
open Go.RowKit
attribute [local go_sem] Oper.semAt_some
theorem rpNil_find (id:Int) (w:World):Calls Try.prog 43 #[.pointer none, .int .i64 id] w fun r w'=>r= .returned (.pointer none)∧w'=w:=by
 go_enter Try.func43,Try.ntmps43
 go_wp2
 go_ret
 exact⟨rfl,rfl⟩
theorem rpNil_remove (id:Int) (w:World):Calls Try.prog 27 #[.pointer none, .int .i64 id] w fun r w'=>r= .returned (.tuple #[.int .u64 0, .bool false])∧Turned [] w w':=by
 have H:=xhd (rpNil_find id w)
 go_enter Try.func27,Try.ntmps27
 go_wp2_with fail
 with_reducible refine H.out.mono ?_
 rintro e V ⟨rfl,rfl⟩
 go_wp2
 go_ret2
 exact⟨rfl,Turned.refl _ _⟩
theorem rpNil_weigh (id wt:Int) (w:World):Calls Try.prog 30 #[.pointer none, .int .i64 id, .int .i64 wt] w fun r w'=>r= .returned (.bool false)∧Turned [] w w':=by
 have H:=xhd (rpNil_find id w)
 go_enter Try.func30,Try.ntmps30
 go_wp2_with fail
 with_reducible refine H.out.mono ?_
 rintro e V ⟨rfl,rfl⟩
 go_wp2
 go_ret
 exact⟨rfl,Turned.refl _ _⟩
end Go.Proofs.Ytfmciiffcmfagaa
namespace Go.Proofs.Ytfmciiffcmfagaa
open Go.RowKit
def settleTo (l:List Rq) (k:Nat):List Rq:=(l.take k).map Rq.settle++l.drop k
theorem settleTo_zero (l:List Rq):settleTo l 0=l:=by simp [settleTo]
theorem settleTo_all (l:List Rq):settleTo l l.length=l.map Rq.settle:=by simp [settleTo]
theorem settleTo_at {l:List Rq} {k:Nat} {q:Rq} (h:l[k]?=some q):(settleTo l k)[k]?=some q:=by
 have hk:k < l.length:=(List.getElem?_eq_some_iff.1 h).1
 have hl:((l.take k).map Rq.settle).length=k:=by rw [List.length_map,List.length_take];omega
 unfold settleTo
 rw [List.getElem?_append_right (by omega),hl,Nat.sub_self,List.getElem?_drop,Nat.add_zero,h]
theorem settleTo_succ {l:List Rq} {k:Nat} {q:Rq} (h:l[k]?=some q):settleTo l (k+1)=(settleTo l k).set k q.settle:=by
 have hk:k < l.length:=(List.getElem?_eq_some_iff.1 h).1
 have hl:((l.take k).map Rq.settle).length=k:=by rw [List.length_map,List.length_take];omega
 have hq:l[k]=q:=(List.getElem?_eq_some_iff.1 h).2
 unfold settleTo
 rw [List.take_succ_eq_append_getElem hk,hq,List.map_append,List.drop_eq_getElem_cons hk,hq,List.set_append_right _ _ (by omega),hl,Nat.sub_self]
 simp
section
variable {w w':World} {b d d':Nat} {X X0 Y Y':List Nat} {T:List Tq} {l:List Rq} {q r:Rq} {c:Int}
theorem rp_weigh (h:RpAt w b X q) (hq:QOk q c) (id wt:Int):Calls Try.prog 30 #[.pointer (some ⟨b,0,none⟩), .int .i64 id, .int .i64 wt] w fun e w'=>e= .returned (.bool (findQ q.l id).isSome)∧∃X',RpAt w' b X' (q.weigh id wt)∧Turned X w w'∧Newer X w.heap.size X':=by
 obtain⟨bt,br,T,R,B,r,rfl,h⟩:=h
 exact (rpWeigh h hq id wt).mono fun e w' ⟨e1,⟨R',r',h1⟩,Y,hy,h2⟩=>⟨e1,_,⟨bt,br,T,R',B,r',rfl,h1⟩,up_blocks h2 hy,newer_ids (rpweigh_ids q id wt) _⟩
theorem rp_settle (h:RpAt w b X q) (hq:QOk q c):Calls Try.prog 28 #[.pointer (some ⟨b,0,none⟩)] w fun e w'=>e= .returned (.tuple #[])∧∃X',RpAt w' b X' q.settle∧Turned X w w'∧Newer X w.heap.size X':=by
 obtain⟨bt,br,T,R,B,r,rfl,h⟩:=h
 exact (rpSettle h hq).mono fun e w' ⟨e1,⟨R',h1⟩,h2⟩=>⟨e1,_,⟨bt,br,T,R',B,r,rfl,h1⟩,up_blocks h2 h.mem,newer_ids (fun x hx=>⟨x,by rw [←settle_ls q];exact hx,rfl⟩) _⟩
theorem cpremove (h:CpI w b X0 T l) (hc:COk l c) (id:Int):
  Calls Try.prog 13 #[.pointer (some ⟨b,0,none⟩), .int .i64 id] w fun e w'=>e= .returned (.tuple #[.int .u64 (remCV l id), .bool (ofN l id).isSome])∧∃T',CpI w' b X0 T' (remC l id)∧Turned (blk X0 T) w w'∧Newer (blk X0 T) w.heap.size (blk X0 T'):=by
 cases ho:ofN l id with
 |none=>
  have e1:remCV l id=0:=by unfold remCV;rw [ho]
  have e2:remC l id=l:=by unfold remC;rw [ho]
  rw [e1,e2]
  have HH:=xhd (cphome_no h ho)
  have HR:=xhd (fun V=>rpNil_remove id V)
  have HK:=xhd (fun V (t:Turned [] w V)=>h.keep0 t)
  clear h hc ho e1 e2
  go_enter Try.func13,Try.ntmps13
  go_wp2_with fail
  with_reducible refine HH.out.mono ?_
  rintro e w1 ⟨rfl,t1⟩
  have T1:=xhd t1
  clear t1
  go_wp2_with fail
  with_reducible refine (HR.out _).mono ?_
  rintro e w2 ⟨rfl,t2⟩
  have T2:=xhd (T1.out.join t2)
  clear t2
  go_wp2
  go_ret2
  exact⟨rfl,T,HK.out _ T2.out,T2.out.mono (fun k hk=>by simp at hk),Newer.refl _ _⟩
 |some k=>
  obtain⟨q,hq,hf,_⟩:=ofN_some ho
  obtain⟨d,Y,hT⟩:=cp_row h hq
  have e1:remCV l id=remV q id:=by unfold remCV;rw [ho];simp only [hq];rfl
  have e2:remC l id=l.set k (q.remove id):=by unfold remC;rw [ho];exact modify_set hq _
  have HH:=xhd (cphome_at h ho hT)
  have HR:=xhd (fun V (t:Turned [] w V)=>rp_remove ((h.keep0 t).qs.at_ k _ q hT hq) (hc.ok q (mem_at hq)) id)
  have HS:=xhd (fun V (t:Turned [] w V) V' Y2 (a:RpAt V' d Y2 (q.remove id)) t2 n2=>CpI.set (h.keep0 t) hT hq a t2 n2)
  rw [hf] at HR
  rw [e1,e2]
  clear h hc ho e1 e2 hq hf hT
  go_enter Try.func13,Try.ntmps13
  go_wp2_with fail
  with_reducible refine HH.out.mono ?_
  rintro e w1 ⟨rfl,t1⟩
  have T1:=xhd t1
  clear t1
  go_wp2_with fail
  with_reducible refine (HR.out _ T1.out).mono ?_
  rintro e w2 ⟨rfl,Y2,a2,t2,n2⟩
  have HE:=xhd (HS.out _ T1.out _ _ a2 t2 n2)
  clear a2 t2 n2
  go_wp2
  go_ret2
  exact⟨rfl,_,HE.out.1,(T1.out.mono (fun k hk=>by simp at hk)).trans HE.out.2.1 (Newer.refl _ _),HE.out.2.2.low T1.out.size⟩
theorem cpweigh (h:CpI w b X0 T l) (hc:COk l c) (id wt:Int):
  Calls Try.prog 16 #[.pointer (some ⟨b,0,none⟩), .int .i64 id, .int .i64 wt] w fun e w'=>e= .returned (.bool (ofN l id).isSome)∧∃T',CpI w' b X0 T' (weighC l id wt)∧Turned (blk X0 T) w w'∧Newer (blk X0 T) w.heap.size (blk X0 T'):=by
 cases ho:ofN l id with
 |none=>
  have e2:weighC l id wt=l:=by unfold weighC;rw [ho]
  rw [e2]
  have HH:=xhd (cphome_no h ho)
  have HR:=xhd (fun V=>rpNil_weigh id wt V)
  have HK:=xhd (fun V (t:Turned [] w V)=>h.keep0 t)
  clear h hc ho e2
  go_enter Try.func16,Try.ntmps16
  go_wp2_with fail
  with_reducible refine HH.out.mono ?_
  rintro e w1 ⟨rfl,t1⟩
  have T1:=xhd t1
  clear t1
  go_wp2_with fail
  with_reducible refine (HR.out _).mono ?_
  rintro e w2 ⟨rfl,t2⟩
  have T2:=xhd (T1.out.join t2)
  clear t2
  go_wp2
  go_ret
  exact⟨rfl,T,HK.out _ T2.out,T2.out.mono (fun k hk=>by simp at hk),Newer.refl _ _⟩
 |some k=>
  obtain⟨q,hq,hf,_⟩:=ofN_some ho
  obtain⟨d,Y,hT⟩:=cp_row h hq
  have e2:weighC l id wt=l.set k (q.weigh id wt):=by unfold weighC;rw [ho];exact modify_set hq _
  have HH:=xhd (cphome_at h ho hT)
  have HR:=xhd (fun V (t:Turned [] w V)=>rp_weigh ((h.keep0 t).qs.at_ k _ q hT hq) (hc.ok q (mem_at hq)) id wt)
  have HS:=xhd (fun V (t:Turned [] w V) V' Y2 (a:RpAt V' d Y2 (q.weigh id wt)) t2 n2=>CpI.set (h.keep0 t) hT hq a t2 n2)
  rw [hf] at HR
  rw [e2]
  clear h hc ho e2 hq hf hT
  go_enter Try.func16,Try.ntmps16
  go_wp2_with fail
  with_reducible refine HH.out.mono ?_
  rintro e w1 ⟨rfl,t1⟩
  have T1:=xhd t1
  clear t1
  go_wp2_with fail
  with_reducible refine (HR.out _ T1.out).mono ?_
  rintro e w2 ⟨rfl,Y2,a2,t2,n2⟩
  have HE:=xhd (HS.out _ T1.out _ _ a2 t2 n2)
  clear a2 t2 n2
  go_wp2
  go_ret
  exact⟨rfl,_,HE.out.1,(T1.out.mono (fun k hk=>by simp at hk)).trans HE.out.2.1 (Newer.refl _ _),HE.out.2.2.low T1.out.size⟩
theorem cpsettle (h:CpI w b X0 T l) (hc:COk l c):
  Calls Try.prog 14 #[.pointer (some ⟨b,0,none⟩)] w fun e w'=>e= .returned (.tuple #[])∧∃T',CpI w' b X0 T' (l.map Rq.settle)∧Turned (blk X0 T) w w'∧Newer (blk X0 T) w.heap.size (blk X0 T'):=by
 have HL:=xhd (cplen h)
 have HOK:=xhd hc.ok
 have H0:=xhd h
 have hlen:l.length≤4:=hc.len.2
 have HALL:=xhd (settleTo_all l)
 obtain⟨n,hn⟩:∃n,l.length=n:=⟨_,rfl⟩
 have HN:=xhd hn
 rw [hn] at HL hlen HALL
 clear h hn hc
 go_enter Try.func14,Try.ntmps14
 go_wp2_with fail
 with_reducible refine HL.out.mono ?_
 rintro e w1 ⟨rfl,rfl⟩
 clear HL
 go_wp2
 go_loopw [5] (fun iv V=>∃(k:Nat) (T':List Tq),k≤n∧iv= .int .i64 k∧Hid (CpI V b X0 T' (settleTo l k))∧Hid (Turned (blk X0 T) w V)∧Hid (Newer (blk X0 T) w.heap.size (blk X0 T'))) (fun iv _=>n - (intOf iv).toNat)
 case atStart=>exact⟨0,T,Nat.zero_le _,rfl,by rw [settleTo_zero];exact H0,xhd (Turned.refl _ _),xhd (Newer.refl _ _)⟩
 case round=>
  clear H0
  obtain⟨k,T',hk,rfl,HI,HT,HW⟩:=hrel
  by_cases hlt:k < n
  ·have hq:l[k]?=some (l[k]'(by have:=HN.out;omega)):=List.getElem?_eq_getElem _
   obtain⟨q,hqq⟩:∃q,l[k]'(by have:=HN.out;omega)=q:=⟨_,rfl⟩
   rw [hqq] at hq
   obtain⟨a,cap,c0,_,hr⟩:=HI.out.view
   have hsl:(settleTo l k).length=n:=by
    unfold settleTo
    rw [List.length_append,List.length_map,List.length_take,List.length_drop]
    have:=HN.out
    omega
   obtain⟨g,d,Y,rfl,hT,cp,hat⟩:=hr k q (settleTo_at hq)
   rw [hsl] at c0
   have HAT:=xhd (rp_settle hat (HOK.out q (mem_at hq)))
   have HLT:=xhd hlt
   have HS:=xhd (fun V' Y2 (a:RpAt V' d Y2 q.settle) t2 n2=>CpI.set HI.out hT (settleTo_at hq) a t2 n2)
   have HSS:=xhd (settleTo_succ hq)
   have i1:(0:Int)≤k:=by omega
   have i2:(k:Int) < n:=by omega
   clear hq hqq hat hr hlt hT hsl
   go_wp2_with fail
   with_reducible refine HAT.out.mono ?_
   rintro e w2 ⟨rfl,Y2,a2,t2,n2⟩
   have HE:=xhd (HS.out _ _ a2 t2 n2)
   clear a2 t2 n2 c0 cp
   go_wp2
   go_roundw
   case rel=>exact⟨k+1,_,by have:=HLT.out;omega,by go_num,by rw [HSS.out];exact xhd HE.out.1,xhd (HT.out.trans HE.out.2.1 HW.out),xhd (HW.out.trans HE.out.2.2 HT.out.size)⟩
   case measure=>have:=HLT.out;simp [intOf];omega
  ·have hk':k=n:=by omega
   subst hk'
   have HI2:=xhd (HALL.out ▸ HI.out)
   go_wp2
   refine bodyPost_end (results_none rfl _ _ _) rfl ?_
   exact⟨rfl,T',HI2.out,HT.out,HW.out⟩
theorem cpqueue (h:CpI w b X0 T l) (core:Int):Calls Try.prog 17 #[.pointer (some ⟨b,0,none⟩), .int .i64 core] w fun e w'=>e= .returned (.pointer (if core < 0 then none else (T[core.toNat]?).map fun x=>⟨x.1,0,none⟩))∧w=w':=by
 have hl:=h.qs.len
 by_cases h1:core < 0
 ·rw [if_pos h1]
  exact cpqueue_no h (.inl h1)
 ·rw [if_neg h1]
  by_cases h2:(l.length:Int)≤core
  ·rw [List.getElem?_eq_none (by omega),Option.map_none]
   exact cpqueue_no h (.inr h2)
  ·obtain⟨k,rfl⟩:∃k:Nat,core=k:=⟨core.toNat,by omega⟩
   have hq:l[k]?=some (l[k]'(by omega)):=List.getElem?_eq_getElem _
   obtain⟨d,Y,hT⟩:=cp_row h hq
   rw [Int.toNat_natCast,hT,Option.map_some]
   exact cpqueue_at h hq hT
theorem cpadd (h:CpI w b X0 T l) (hc:COk l c) (core id v wt:Int) (hv:Word v):
  Calls Try.prog 8 #[.pointer (some ⟨b,0,none⟩), .int .i64 core, .int .i64 id, .int .u64 v, .int .i64 wt] w fun e w'=>e= .returned (.tuple #[.int .u64 (addCV l core id v wt), .int .i64 (addCE l core id)])∧∃T',CpI w' b X0 T' (addC l core id v wt)∧Turned (blk X0 T) w w'∧Newer (blk X0 T) w.heap.size (blk X0 T'):=by
 have HK:=xhd (fun V (t:Turned [] w V)=>h.keep0 t)
 by_cases h1:core < 0∨(l.length:Int)≤core
 ·have e:addCE l core id=1:=if_pos (by omega)
  obtain⟨e1,e2⟩:=addC_no (l:=l) (core:=core) (id:=id) (v:=v) (w:=wt) (by omega)
  rw [e,e1,e2]
  have HQ:=xhd (cpqueue_no h h1)
  clear h hc e e1 e2 h1
  go_enter Try.func8,Try.ntmps8
  go_wp2_with fail
  with_reducible refine HQ.out.mono ?_
  rintro e w1 ⟨rfl,rfl⟩
  go_wp2
  go_ret2
  exact⟨rfl,T,HK.out _ (Turned.refl _ _),Turned.refl _ _,Newer.refl _ _⟩
 ·obtain⟨k,rfl⟩:∃k:Nat,core=k:=⟨core.toNat,by omega⟩
  have hk:k < l.length:=by omega
  have hq:l[k]?=some l[k]:=List.getElem?_eq_getElem hk
  obtain⟨q,hqq⟩:∃q,l[k]=q:=⟨_,rfl⟩
  rw [hqq] at hq
  obtain⟨d,Y,hT⟩:=cp_row h hq
  have HQ:=xhd (cpqueue_at h hq hT)
  by_cases h2:id < 0
  ·have b2:decide (id < 0)=true:=by simpa using h2
   have e:addCE l k id=1:=if_pos (by omega)
   obtain⟨e1,e2⟩:=addC_no (l:=l) (core:=k) (id:=id) (v:=v) (w:=wt) (by omega)
   rw [e,e1,e2]
   clear h hc e e1 e2 h1 h2 hq hqq hT hk
   go_enter Try.func8,Try.ntmps8
   go_wp2_with fail
   with_reducible refine HQ.out.mono ?_
   rintro e w1 ⟨rfl,rfl⟩
   go_wp2
   go_ret2
   exact⟨rfl,T,HK.out _ (Turned.refl _ _),Turned.refl _ _,Newer.refl _ _⟩
  ·have b2:decide (id < 0)=false:=by simpa using h2
   have HO:=xhd (cpof h id)
   have h12:¬((k:Int) < 0∨(l.length:Int)≤k∨id < 0):=by omega
   cases ho:ofN l id with
   |some j=>
    rw [ofC_some ho] at HO
    have e:addCE l k id=12:=by unfold addCE;rw [if_neg h12,if_pos (by rw [ofC_some ho];omega)]
    obtain⟨e1,e2⟩:=addC_no (l:=l) (core:=k) (id:=id) (v:=v) (w:=wt) (by omega)
    rw [e,e1,e2]
    have b3:((j:Int) != -1)=true:=by simp
    clear h hc e e1 e2 h1 h2 h12 hq hqq hT hk ho
    go_enter Try.func8,Try.ntmps8
    go_wp2_with fail
    with_reducible refine HQ.out.mono ?_
    rintro e w1 ⟨rfl,rfl⟩
    go_wp2_with fail
    with_reducible refine HO.out.mono ?_
    rintro e w2 ⟨rfl,t2⟩
    have T2:=xhd t2
    clear t2
    go_wp2
    go_ret2
    exact⟨rfl,T,HK.out _ T2.out,T2.out.mono (fun k hk=>by simp at hk),Newer.refl _ _⟩
   |none=>
    rw [ofC_none ho] at HO
    have hno:¬0≤ofC l id:=by rw [ofC_none ho];decide
    have HALL:=xhd (fun V (t:Turned [] w V)=>cptasks (h.keep0 t) hc.all)
    by_cases h3:16≤allC l
    ·have e:addCE l k id=3:=by unfold addCE;rw [if_neg h12,if_neg hno,if_pos h3]
     obtain⟨e1,e2⟩:=addC_no (l:=l) (core:=k) (id:=id) (v:=v) (w:=wt) (by omega)
     rw [e,e1,e2]
     have h3z:decide ((16:Int)≤(allC l:Int))=true:=by simp;omega
     obtain⟨y,hy⟩:∃y,allC l=y:=⟨_,rfl⟩
     rw [hy] at HALL h3z
     clear h hc e e1 e2 h1 h2 h12 hq hqq hT hk ho hno h3 hy
     go_enter Try.func8,Try.ntmps8
     go_wp2_with fail
     with_reducible refine HQ.out.mono ?_
     rintro e w1 ⟨rfl,rfl⟩
     go_wp2_with fail
     with_reducible refine HO.out.mono ?_
     rintro e w2 ⟨rfl,t2⟩
     have T2:=xhd t2
     clear t2
     go_wp2_with fail
     with_reducible refine (HALL.out _ T2.out).mono ?_
     rintro e w3 ⟨rfl,t3⟩
     have T3:=xhd (T2.out.join t3)
     clear t3
     go_wp2
     go_ret2
     exact⟨rfl,T,HK.out _ T3.out,T3.out.mono (fun k hk=>by simp at hk),Newer.refl _ _⟩
    ·have e:addCE l k id=0:=by unfold addCE;rw [if_neg h12,if_neg hno,if_neg h3]
     have hnf:(findQ q.l id).isSome=false:=ofN_none ho q (mem_at hq)
     have hqk:=hc.ok q (mem_at hq)
     have hql:=allC_ge hq
     have ee:addE q id=0:=by
      unfold addE
      rw [if_neg (by omega),if_neg (by rw [hnf];exact Bool.false_ne_true),if_neg (by omega)]
     have e1:addCV l k id v wt=addV q id v wt:=by
      unfold addCV
      rw [if_pos e,Int.toNat_natCast,hq]
      rfl
     have e2:addC l k id v wt=l.set k (q.add id v wt):=by
      unfold addC
      rw [if_pos e,Int.toNat_natCast]
      exact modify_set hq _
     have HR:=xhd (fun V (t:Turned [] w V)=>rp_add ((h.keep0 t).qs.at_ k _ q hT hq) hqk id v wt hv)
     have HS:=xhd (fun V (t:Turned [] w V) V' Y2 (a:RpAt V' d Y2 (q.add id v wt)) t2 n2=>CpI.set (h.keep0 t) hT hq a t2 n2)
     rw [ee] at HR
     rw [e,e1,e2]
     have h3z:decide ((16:Int)≤(allC l:Int))=false:=by simp;omega
     obtain⟨y,hy⟩:∃y,allC l=y:=⟨_,rfl⟩
     rw [hy] at HALL h3z
     clear h hc e e1 e2 h1 h2 h12 hq hqq hT hk ho hno h3 hy hnf hqk hql ee
     go_enter Try.func8,Try.ntmps8
     go_wp2_with fail
     with_reducible refine HQ.out.mono ?_
     rintro e w1 ⟨rfl,rfl⟩
     go_wp2_with fail
     with_reducible refine HO.out.mono ?_
     rintro e w2 ⟨rfl,t2⟩
     have T2:=xhd t2
     clear t2
     go_wp2_with fail
     with_reducible refine (HALL.out _ T2.out).mono ?_
     rintro e w3 ⟨rfl,t3⟩
     have T3:=xhd (T2.out.join t3)
     clear t3
     go_wp2_with fail
     with_reducible refine (HR.out _ T3.out).mono ?_
     rintro e w4 ⟨rfl,Y2,a4,t4,n4⟩
     have HE:=xhd (HS.out _ T3.out _ _ a4 t4 n4)
     clear a4 t4 n4
     go_wp2
     go_ret2
     exact⟨rfl,_,HE.out.1,(T3.out.mono (fun k hk=>by simp at hk)).trans HE.out.2.1 (Newer.refl _ _),HE.out.2.2.low T3.out.size⟩
end
end Go.Proofs.Ytfmciiffcmfagaa
