/-
  The program's Scan.
  Scanned words have no field that a word of their kind has not. No program.
  Lines of the program's, by what their numbers are: may.
  The program's mayAct.
  The program's mayEach and May of acts.
  The program's opWords. (Made by gen_opw.py.)
  What Print answers; how long words are.
  What the program's Words leans on: the list in its box, and how it grows.
-/
import Derived.Test.YtbnhnnccioljhaaGreatDoorZAI
import Derived.Test.YtbnhnnccioljhaaGreatDoorZAJ
import Derived.Test.YtbnhnnccioljhaaGreatDoorZAD
import Derived.Test.YtbnhnnccioljhaaGreatDoorZAE
import Derived.Test.YtbnhnnccioljhaaGreatDoorZAH
import Derived.IntWalk
import Derived.Test.YtbnhnnccioljhaaGreatDoorZAC
import Derived.Test.YtbnhnnccioljhaaGreatDoorZAl
set_option maxRecDepth 100000
set_option maxHeartbeats 25600000
namespace Go.Proofs.YtbnhnnccioljhaaGreatDoor
open Go.RowKit
theorem scan_long (s:ByteArray) (w:World) (h:8000 < s.size):Calls Tryz.prog 26 #[.string s] w (ScanPost s.data.toList w):=by
 have e:scanA s.data.toList=([],8000,6):=by unfold scanA;rw [if_pos (by rw [←Lib.size_eq];exact h)]
 unfold ScanPost
 rw [e]
 go_enter Tryz.func26,Tryz.ntmps26
 go_wp2
 go_ret3
 exact⟨_,rfl,World.ownsRow_nil _ _ _ _,Below.refl _ _⟩
theorem scan_short (s:ByteArray) (w:World) (hs:s.size≤8000):Calls Tryz.prog 26 #[.string s] w (ScanPost s.data.toList w):=by
 have hA:(∀ws,scanR s.data.toList 0 false= .ok ws→scanA s.data.toList=(ws,0,0))∧∀p:Nat,scanR s.data.toList 0 false= .error p→scanA s.data.toList=([],(p:Int),5):=by
  have h:¬8000 < s.data.toList.length:=by rw [←Lib.size_eq];omega
  constructor<;>(intro x hx;unfold scanA;rw [if_neg h,hx])
 have HA:=xhd hA
 clear hA
 obtain⟨i0,hi0,hz0,hz1,hz2⟩:=info_parts word_info
 have HSZ:=xhd (Lib.size_eq s)
 have HK:=xhd (fun p W hp=>skip_any s p W hp (by unfold maxLen;omega))
 have H0:=xhd (ScanSt.start s.data.toList)
 have hk0:=H0.out.le
 rw [←HSZ.out] at hk0
 obtain⟨k0,hk⟩:∃k0,0+skipN (s.data.toList.drop 0)=k0:=⟨_,rfl⟩
 have HK0:=xhd (hk ▸ HK.out 0 w (by omega))
 rw [hk] at H0 hk0
 rw [show ((0:Nat):Int)=0 from rfl] at HK0
 have d0:decide ((8000:Int) < (s.size:Int))=false:=by simp;omega
 clear hk
 go_enter Tryz.func26,Tryz.ntmps26
 go_wp2_with fail
 with_reducible refine HK0.out.mono ?_
 rintro e w1 ⟨rfl,rfl⟩
 go_wp2_with fail
 go_loopw [5,6,7] (fun l q' k' wr=>∃(k q:Nat) (ws:List Wd),q'= .int .i64 q∧k'= .int .i64 k∧k≤s.size∧Hid (ScanSt s.data.toList k q ws)∧Hid (WRow w1.heap.size wr l ws)∧Hid (Below w1.heap.size w1 wr)) (fun _ _ k' _=>s.size - (intOf k').toNat)
 case atStart=>exact⟨k0,0,[],rfl,rfl,hk0,H0,World.ownsRow_nil _ _ _ _,Below.refl _ _⟩
 case round=>
  obtain⟨k,q,ws,rfl,rfl,hk,HST,HO,HB⟩:=hrel
  have hqk:=HST.out.qk
  by_cases hlt:k < s.size
  ·have hz:=size_from s k
   have HBL:=xhd (bl_from s k)
   obtain⟨s1,hs1⟩:∃s1,s.extract k s.size=s1:=⟨_,rfl⟩
   rw [hs1] at hz HBL
   have HC:=xhd (fun W=>HBL.out ▸ cut_any atoi_said s1 W (by omega) (by unfold maxLen;omega))
   have hklt:k < s.data.toList.length:=by rw [←HSZ.out];exact hlt
   have hbad:=HST.out.bad hklt
   have hclash:=HST.out.clash hklt
   have hnext:=HST.out.next hklt
   obtain⟨⟨⟨a,b,c,d⟩,n⟩,hx⟩:∃x,cutP (s.data.toList.drop k)=x:=⟨_,rfl⟩
   rw [hx] at HC hbad hclash hnext
   simp only [wdV] at HC hbad hclash hnext
   obtain⟨tx,htx⟩:∃tx:ByteArray,⟨b.toArray⟩=tx:=⟨_,rfl⟩
   rw [htx] at HC
   have HTX:=xhd htx
   have HBAD:=xhd hbad
   have HCL:=xhd hclash
   have HNX:=xhd hnext
   clear hx hz htx hbad hclash hnext
   go_wp2_with fail
   with_reducible refine (HC.out _).mono ?_
   rintro e w2 ⟨rfl,hb2⟩
   have HB2:=xhd hb2
   have hsz2:=hb2.size
   clear hb2
   by_cases hn:n=0
   ·have d1:((n:Int) == 0)=true:=by simp [hn]
    have HN:=xhd hn
    clear hn
    go_wp2
    go_ret3
    have hw:=HB.out.size
    exact post_err (HA.out.2 k (HBAD.out HN.out)) ((HB.out.trans (HB2.out.mono hw)).alloc (by omega) _)
   ·have d1:((n:Int) == 0)=false:=by simp;omega
    have HN:=xhd hn
    clear hn
    by_cases hkq:k=q
    ·have d2:((k:Int) == (q:Int))=true:=by simp [hkq]
     have HKQ:=xhd hkq
     clear hkq
     have hwl:=HST.out.len
     have HQ:=xhd (fun (W:World) (v:Value) (h:WRow w1.heap.size W v ws)=>clash_any h (by omega) a c d tx)
     obtain⟨t,ht⟩:∃t,(lastB ws&&!decide (a=3))=t:=⟨_,rfl⟩
     rw [ht] at HQ
     have HT:=xhd ht
     clear ht
     go_wp2_with fail
     with_reducible refine (HQ.out _ _ (row_below HO.out (HB2.out.alloc (by omega) _))).mono ?_
     rintro e w3 ⟨rfl,hb3⟩
     obtain⟨hc,hf⟩:=bcell hb3
     have HB3:=xhd hb3
     have hsz3:=hb3.size
     clear hb3
     cases t with
     |true=>
      go_wp2
      go_ret3
      have hw:=HB.out.size
      exact post_err (HA.out.2 k (HCL.out HKQ.out HT.out HN.out)) ((HB.out.trans ((HB2.out.alloc (by omega) _).mono hw)).trans (HB3.out.mono (by simp;omega)))
     |false=>
      go_wp2_with (at_builtin;refine wpList_append_own _ rfl _ _ 50 rfl w1.heap.size 95 i0 (.agg #[.int .i64 0, .string ⟨#[]⟩, .int .i64 0, .int .i64 0]) 4 40 Tryz.underlying50 hi0 hz0 hz1 hz2 rfl (by decide) _ _ _ rfl (row_below HO.out ((((HB2.out.alloc (by omega) _).trans (HB3.out.mono (by simp;omega))).setCell (p:=⟨w2.heap.size,3,none⟩) (by simp;omega) _).alloc (by have:=HB3.out.size;simp at this ⊢;omega) _)) ⟨_,0,none⟩ 1 1 [.int .i64 a, .string tx, .int .i64 c, .int .i64 (k:Int)] rfl rfl ?f1 ?f2 ?f3 ?f4 ?f5 ?_)
      case f1=>
       intro j u hj
       have h:=word_new (w3.setCell ⟨w2.heap.size,3,none⟩ (.int .i64 k)) _ _ _ _ 95 j u hj
       rw [show (w3.setCell ⟨w2.heap.size,3,none⟩ (.int .i64 k)).heap.size=w3.heap.size by simp] at h
       exact h
      case f2=>
       intro u hu
       simp at hu
       rcases hu with rfl|rfl|rfl|rfl<;>rfl
      case f3=>unfold maxLen;omega
      case f4=>omega
      case f5=>have:=HB.out.size;have:=HB3.out.size;simp at this;simp;omega
      intro v' w4 hown2 hgrow _
      obtain⟨hle,hst⟩:=HNX.out HN.out (by rw [HT.out,Bool.and_false])
      have hle2:k+n≤s.size:=by rw [HSZ.out];exact hle
      have HST2:=xhd hst
      have HO2:Hid (WRow w1.heap.size w4 v' (ws++[placed (a,b,c,d) k])):=by
       unfold Hid WRow
       rw [wdsC_snoc,List.length_append,List.length_singleton]
       have e:wdC (placed (a,b,c,d) k)=[.int .i64 a, .string tx, .int .i64 c, .int .i64 (k:Int)]:=by rw [←HTX.out];rfl
       rw [e]
       exact hown2
      have HB4:=xhd (app_below (HB.out.trans (((((HB2.out.alloc (by omega) _).trans (HB3.out.mono (by simp;omega))).setCell (p:=⟨w2.heap.size,3,none⟩) (by simp;omega) _).alloc (by have:=HB3.out.size;simp at this ⊢;omega) _).mono HB.out.size)) (Nat.le_refl _) (Nat.le_refl _) HO.out hgrow)
      clear hst hown2 hgrow hle
      have hk':=HST2.out.le
      rw [←HSZ.out] at hk'
      have HK2:=HK.out (k+n) w4 hle2
      rw [Int.natCast_add k n] at HK2
      obtain⟨k',hkk⟩:∃k',k+n+skipN (s.data.toList.drop (k+n))=k':=⟨_,rfl⟩
      rw [hkk] at HK2 HST2 hk'
      have HK3:=xhd HK2
      have hkn:=HST2.out.qk
      clear hkk HK2
      go_wp2_with fail
      with_reducible refine HK3.out.mono ?_
      rintro e w5 ⟨rfl,rfl⟩
      go_wp2
      go_roundw
      case rel=>exact⟨k',k+n,_,by go_num,rfl,hk',HST2,HO2,HB4⟩
      case measure=>
       have:=HN.out
       simp [intOf]
       omega
    ·have d2:((k:Int) == (q:Int))=false:=by simp;omega
     have HKQ:=xhd hkq
     clear hkq
     have hwl:=HST.out.len
     go_wp2_with (at_builtin;refine wpList_append_own _ rfl _ _ 50 rfl w1.heap.size 95 i0 (.agg #[.int .i64 0, .string ⟨#[]⟩, .int .i64 0, .int .i64 0]) 4 40 Tryz.underlying50 hi0 hz0 hz1 hz2 rfl (by decide) _ _ _ rfl (row_below HO.out ((HB2.out.alloc (by omega) _).alloc (by simp;omega) _)) ⟨_,0,none⟩ 1 1 [.int .i64 a, .string tx, .int .i64 c, .int .i64 (k:Int)] rfl rfl ?c1 ?c2 ?c3 ?c4 ?c5 ?_)
     case c1=>
      intro j u hj
      rw [Addr.add_lit]
      match j,hj with
      |0,hj=>simp at hj;subst hj;simp
      |1,hj=>simp at hj;subst hj;simp
      |2,hj=>simp at hj;subst hj;simp
      |3,hj=>simp at hj;subst hj;simp
     case c2=>
      intro u hu
      simp at hu
      rcases hu with rfl|rfl|rfl|rfl<;>rfl
     case c3=>unfold maxLen;omega
     case c4=>omega
     case c5=>have:=HB.out.size;simp;omega
     intro v' w4 hown2 hgrow _
     obtain⟨hle,hst⟩:=HNX.out HN.out (by rw [decide_eq_false HKQ.out,Bool.false_and])
     have hle2:k+n≤s.size:=by rw [HSZ.out];exact hle
     have HST2:=xhd hst
     have HO2:Hid (WRow w1.heap.size w4 v' (ws++[placed (a,b,c,d) k])):=by
      unfold Hid WRow
      rw [wdsC_snoc,List.length_append,List.length_singleton]
      have e:wdC (placed (a,b,c,d) k)=[.int .i64 a, .string tx, .int .i64 c, .int .i64 (k:Int)]:=by rw [←HTX.out];rfl
      rw [e]
      exact hown2
     have HB4:=xhd (app_below (HB.out.trans (((HB2.out.alloc (by omega) _).alloc (by simp;omega) _).mono HB.out.size)) (Nat.le_refl _) (Nat.le_refl _) HO.out hgrow)
     clear hst hown2 hgrow hle
     have hk':=HST2.out.le
     rw [←HSZ.out] at hk'
     have HK2:=HK.out (k+n) w4 hle2
     rw [Int.natCast_add k n] at HK2
     obtain⟨k',hkk⟩:∃k',k+n+skipN (s.data.toList.drop (k+n))=k':=⟨_,rfl⟩
     rw [hkk] at HK2 HST2 hk'
     have HK3:=xhd HK2
     have hkn:=HST2.out.qk
     clear hkk HK2
     go_wp2_with fail
     with_reducible refine HK3.out.mono ?_
     rintro e w5 ⟨rfl,rfl⟩
     go_wp2
     go_roundw
     case rel=>exact⟨k',k+n,_,by go_num,rfl,hk',HST2,HO2,HB4⟩
     case measure=>
      have:=HN.out
      simp [intOf]
      omega
  ·have HLT:=xhd hlt
   go_wp2
   go_ret3
   exact post_ok (HA.out.1 _ (HST.out.done (by rw [←HSZ.out];exact HLT.out))) HO.out HB.out
theorem scan_any (s:ByteArray) (w:World):Calls Tryz.prog 26 #[.string s] w (ScanPost s.data.toList w):=by
 by_cases h:8000 < s.size
 ·exact scan_long s w h
 ·exact scan_short s w (by omega)
theorem one_clean (c:By) (t:List By) (p:Nat):((oneR c t p).1.1≠2→(oneR c t p).1.2.2.1=0)∧((oneR c t p).1.1=2→(oneR c t p).1.2.1=[]):=by
 unfold oneR
 split
 ·exact⟨fun _=>rfl,fun h=>by simp at h⟩
 ·split
  ·exact⟨fun h=>absurd rfl h,fun _=>rfl⟩
  ·exact⟨fun _=>rfl,fun h=>by simp at h⟩
theorem scan_clean:∀(n:Nat) (l:List By) (p:Nat) (adj:Bool) (ws:List Wd),l.length≤n→scanR l p adj= .ok ws→Clean ws
 |_,[],p,adj,ws,_,h=>by
  rw [scan_nil] at h
  cases h
  intro x hx
  cases hx
 |0,_::_,_,_,_,hl,_=>by simp at hl
 |n+1,c::t,p,adj,ws,hl,h=>by
  simp only [List.length_cons] at hl
  cases h0:isBl c with
  |true=>
   rw [scan_blank h0] at h
   exact scan_clean n t _ _ ws (by omega) h
  |false=>
   by_cases h1:c.toNat=35
   ·rw [scan_remark h0 h1] at h
    refine scan_clean n _ _ _ ws ?_ h
    have:=(List.dropWhile_sublist not10 (l:=t)).length_le
    omega
   ·cases hb:(!(oneR c t p).2.2||(adj&&!decide ((oneR c t p).1.1=3))) with
    |true=>
     rw [scan_bad h0 h1 t p adj hb] at h
     cases h
    |false=>
     rw [scan_word h0 h1 t p adj hb] at h
     cases hr:scanR (t.drop (oneR c t p).2.1) (p+1+(oneR c t p).2.1) (!decide ((oneR c t p).1.1=3)) with
     |error q=>
      rw [hr] at h
      cases h
     |ok l2=>
      rw [hr] at h
      simp only [prepR,Except.ok.injEq] at h
      subst h
      intro x hx
      rcases List.mem_append.1 hx with hx|hx
      ·simp at hx
       subst hx
       exact one_clean c t p
      ·exact scan_clean n _ _ _ l2 (by rw [List.length_drop];omega) hr x hx
theorem scana_clean (l:List By):Clean (scanA l).1:=by
 unfold scanA
 split
 ·intro x hx
  cases hx
 cases h:scanR l 0 false with
 |ok ws=>exact scan_clean l.length l 0 false ws (Nat.le_refl _) h
 |error p=>
  intro x hx
  cases hx
abbrev Vn:=ByteArray×Int×Int
structure QArg (w:World) (nb off:Nat) (M:List Vn):Prop where
 blk:∃X f,w.heap[nb]?=some (.cells X 151 f)
 cells:∀i (hi:i < M.length),∃p:Addr,w.cell? ⟨nb,off+i*4,none⟩=some (.string M[i].1)∧w.cell? ⟨nb,off+i*4+1,none⟩=some (.int .i64 1)∧w.cell? ⟨nb,off+i*4+2,none⟩=some (.int .i64 M[i].2.1)∧w.cell? ⟨nb,off+i*4+3,none⟩=some (.pointer (some ⟨p.block,p.off,none⟩))∧
  w.cell? ⟨p.block,p.off,none⟩=some (.int .i64 M[i].2.2)∧∃X t f,w.heap[p.block]?=some (.cells X t f)∧t≠86
theorem QArg.same {w w':World} {nb off:Nat} {M:List Vn} (h:QArg w nb off M) (hs:∀(k:Nat) (X:Array Value) (t:TypeId) (f:Nat×Nat),w.heap[k]?=some (.cells X t f)→t≠86→w'.heap[k]?=w.heap[k]?):QArg w' nb off M:=by
 obtain⟨X,f,hb⟩:=h.blk
 have e:=hs nb X _ f hb (by decide)
 have ec:∀o,w'.cell? ⟨nb,o,none⟩=w.cell? ⟨nb,o,none⟩:=fun o=>by simp only [World.cell?,e]
 refine⟨⟨X,f,e.trans hb⟩,fun i hi=>?_⟩
 obtain⟨p,h0,h1,h2,h3,h4,Y,t,g,h5,h6⟩:=h.cells i hi
 have e2:=hs p.block Y t g h5 h6
 have ec2:∀o,w'.cell? ⟨p.block,o,none⟩=w.cell? ⟨p.block,o,none⟩:=fun o=>by simp only [World.cell?,e2]
 exact⟨p,(ec _).trans h0,(ec _).trans h1,(ec _).trans h2,(ec _).trans h3,(ec2 _).trans h4,Y,t,g,e2.trans h5,h6⟩
theorem QArg.below {w w':World} {nb off:Nat} {M:List Vn} (h:QArg w nb off M) (hb:Below w.heap.size w w'):QArg w' nb off M:=
 h.same fun _ _ _ _ hk _=>hb.block _ (lt_of_block hk)
theorem QArg.lt {w:World} {nb off:Nat} {M:List Vn} (h:QArg w nb off M):nb < w.heap.size:=by
 obtain⟨X,f,h⟩:=h.blk
 exact lt_of_block h
def valAt (X:Array Value) (o:Nat):Int:=match X[o]? with|some (.int _ v)=>v|_=>0
theorem QArg.of {w:World} {nb off T:Nat} {N:List Nm} (h:NArg w nb off T N) {X:Array Value} {t:TypeId} (hT:w.heap[T]?=some (.cells X t (0,0))) (ht:t≠86) (hX:∀x ∈ N,X[x.2.2]?=some (.int .i64 (valAt X x.2.2))):QArg w nb off (N.map fun x=>(x.1,x.2.1,valAt X x.2.2)):=by
 refine⟨h.blk,fun i hi=>?_⟩
 have hi2:i < N.length:=by simpa using hi
 obtain⟨h0,h1,h2,h3⟩:=h.cells i hi2
 simp only [List.getElem_map]
 refine⟨⟨T,N[i].2.2,none⟩,h0,h1,h2,h3,?_,X,t,(0,0),hT,ht⟩
 have:=hX _ (List.getElem_mem hi2)
 simp only [World.cell?,hT]
 exact this
def offM (x:Vn):Bool:=!inS x.2.2 x.2.1
theorem off_any (nm:ByteArray) (most v:Int) (p:Addr) (w:World) (hp:w.cell? ⟨p.block,p.off,none⟩=some (.int .i64 v)) (hl:p.block < w.heap.size):
  Calls Tryz.prog 153 #[.agg #[.string nm, .int .i64 1, .int .i64 most, .pointer (some ⟨p.block,p.off,none⟩)]] w fun e w'=>e= .returned (.bool (offM (nm,most,v)))∧Below w.heap.size w w':=by
 have hb:Below w.heap.size w (w.alloc (.cells #[.string nm, .int .i64 1, .int .i64 most, .pointer (some ⟨p.block,p.off,none⟩)] 151)):=(Below.refl _ w).alloc (Nat.le_refl _) _
 have h0:=heap_alloc_new w (.cells #[.string nm, .int .i64 1, .int .i64 most, .pointer (some ⟨p.block,p.off,none⟩)] 151)
 have HK:=xhd (fun V (hV:Below (w.alloc (.cells #[.string nm, .int .i64 1, .int .i64 most, .pointer (some ⟨p.block,p.off,none⟩)] 151)).heap.size (w.alloc (.cells #[.string nm, .int .i64 1, .int .i64 most, .pointer (some ⟨p.block,p.off,none⟩)] 151)) V)=>(by
  obtain⟨y0,y1,y2,y3⟩:=word_cells ((hV.block _ (lt_of_block h0)).trans h0)
  have hb2:Below w.heap.size w V:=hb.trans (hV.mono hb.size)
  exact⟨y1,y2,y3,(hb2.cell (p:=⟨p.block,p.off,none⟩) hl).trans hp⟩:V.cell? ⟨w.heap.size,1,none⟩=some (.int .i64 1)∧V.cell? ⟨w.heap.size,2,none⟩=some (.int .i64 most)∧V.cell? ⟨w.heap.size,3,none⟩=some (.pointer (some ⟨p.block,p.off,none⟩))∧V.cell? ⟨p.block,p.off,none⟩=some (.int .i64 v)))
 have HH:=xhd (fun W=>has_any 1 most v W)
 have HB0:=xhd ((Below.refl (w.alloc (.cells #[.string nm, .int .i64 1, .int .i64 most, .pointer (some ⟨p.block,p.off,none⟩)] 151)).heap.size (w.alloc (.cells #[.string nm, .int .i64 1, .int .i64 most, .pointer (some ⟨p.block,p.off,none⟩)] 151))).drew)
 have HB:=xhd hb
 obtain⟨q,hq⟩:∃q,inS v most=q:=⟨_,rfl⟩
 have hq2:(decide (1≤v)&&decide (v≤most))=q:=hq
 have ho:offM (nm,most,v)=!q:=by unfold offM;rw [hq]
 rw [ho]
 simp only [hq2] at HH
 have s0:=HK.out _ HB0.out
 clear hb h0 hp hq hq2 ho
 go_enter Tryz.func153,Tryz.ntmps153
 go_wp2_with fail
 go_region_held3 (fun V=>V.cell? ⟨w.heap.size,1,none⟩=some (.int .i64 1)∧V.cell? ⟨w.heap.size,2,none⟩=some (.int .i64 most)∧V.cell? ⟨w.heap.size,3,none⟩=some (.pointer (some ⟨p.block,p.off,none⟩))∧V.cell? ⟨p.block,p.off,none⟩=some (.int .i64 v))
  (first|exact s0|exact s1)
  (first
    |(go_at_call 112
      with_reducible refine (HH.out _).mono ?_
      rintro r V1 ⟨rfl,hb⟩
      have HV1:=xhd (HB0.out.trans (hb.mono HB0.out.size))
      have s1:=HK.out _ HV1.out
      clear hb))
 clear s0 s1
 go_wp2
 go_ret
 exact⟨rfl,HB.out.trans (HV1.out.mono HB.out.size)⟩
abbrev offV:Value:= .func (.func 153) #[] #[]
theorem indexoff_any (nb off nc:Nat) (M:List Vn) (w:World) (h:QArg w nb off M) (hm:M.length≤100):
  Calls Tryz.prog 167 #[.slice (some ⟨nb,off,none⟩) M.length nc,offV] w fun e w'=>(∃r:Int,e= .returned (.int .i64 r)∧decide (0≤r)=M.any offM)∧Below w.heap.size w w':=by
 have HA:=xhd h
 obtain⟨n,hn⟩:∃n,M.length=n:=⟨_,rfl⟩
 have HN:=xhd hn
 rw [hn] at hm ⊢
 clear h hn
 go_enter Tryz.func167,Tryz.ntmps167
 go_wp2
 go_loopw [8] (fun s wr=>∃i:Nat,s= .int .i64 (i:Nat)∧i≤n∧Hid (Below w.heap.size w wr)∧Hid (∀j (hj:j < M.length),j < i→offM M[j]=false)) (fun s _=>n - (intOf s).toNat)
 case atStart=>exact⟨0,rfl,Nat.zero_le _,Below.refl _ w,fun j _ hj=>absurd hj (Nat.not_lt_zero _)⟩
 case round=>
  obtain⟨i,rfl,hi,HB,HO⟩:=hrel
  by_cases hlt:i < n
  ·have hiL:i < M.length:=by rw [HN.out];exact hlt
   have hA:=HA.out.below HB.out
   have hbl:=hA.lt
   have hcells:=hA.cells i hiL
   obtain⟨⟨nm,most,v⟩,hx⟩:∃x,M[i]=x:=⟨_,rfl⟩
   rw [hx] at hcells
   obtain⟨p,x0,x1,x2,x3,x4,Y,t,g,x5,_⟩:=hcells
   simp only at x0 x1 x2 x3 x4
   have HX:=xhd hx
   have i0:(0:Int)≤i:=by omega
   have i1:(i:Int) < n:=by omega
   have i2:IntKind.i64.wrap ((i:Int)+1)=(i:Int)+1:=by rw [IntKind.wrap_i64];omega
   have HRK:=xhd (off_any nm most v p wr x4 (lt_of_block x5))
   obtain⟨q,hq⟩:∃q,offM (nm,most,v)=q:=⟨_,rfl⟩
   have HQ:=xhd hq
   rw [hq] at HRK
   clear hx hq hA x4 x5
   cases q with
   |true=>
    have HE:Hid (M.any offM=true):=xhd (by
     rw [List.any_eq_true]
     exact⟨_,List.getElem_mem hiL,by rw [HX.out];exact HQ.out⟩)
    go_wp2_with fail
    with_reducible refine HRK.out.mono ?_
    rintro e w1 ⟨rfl,hb⟩
    have HB1:=xhd (HB.out.trans (hb.mono HB.out.size))
    clear hb
    go_wp2
    go_ret
    exact⟨⟨_,rfl,by rw [HE.out];exact decide_eq_true i0⟩,HB1.out⟩
   |false=>
    have HO2:Hid (∀j (hj:j < M.length),j < i+1→offM M[j]=false):=xhd (fun j hj hji=>by
     rcases Nat.lt_or_ge j i with h|h
     ·exact HO.out j hj h
     ·obtain rfl:j=i:=by omega
      rw [HX.out]
      exact HQ.out)
    go_wp2_with fail
    with_reducible refine HRK.out.mono ?_
    rintro e w1 ⟨rfl,hb⟩
    have HB1:=xhd (HB.out.trans (hb.mono HB.out.size))
    clear hb
    go_wp2
    go_roundw
    case rel=>exact⟨i+1,by go_num,by omega,HB1,HO2⟩
    case measure=>simp [intOf];omega
  ·have HE:Hid (M.any offM=false):=xhd (by
     rw [List.any_eq_false]
     intro o ho
     obtain⟨j,hj,rfl⟩:=List.getElem_of_mem ho
     rw [HO.out j hj (by have:=HN.out;omega)]
     decide)
   go_wp2
   go_ret
   exact⟨⟨_,rfl,by rw [HE.out];rfl⟩,HB.out⟩
theorem containsoff_any (nb off nc:Nat) (M:List Vn) (w:World) (h:QArg w nb off M) (hm:M.length≤100):
  Calls Tryz.prog 152 #[.slice (some ⟨nb,off,none⟩) M.length nc,offV] w fun e w'=>e= .returned (.bool (M.any offM))∧Below w.heap.size w w':=by
 have HI:=xhd (indexoff_any nb off nc M w h hm)
 obtain⟨n,hn⟩:∃n,M.length=n:=⟨_,rfl⟩
 obtain⟨q,hq⟩:∃q,M.any offM=q:=⟨_,rfl⟩
 rw [hn,hq] at HI
 rw [hn,hq]
 clear h hn hq hm
 go_enter Tryz.func152,Tryz.ntmps152
 go_wp2_with fail
 with_reducible refine HI.out.mono ?_
 rintro e w1 ⟨⟨r,rfl,hr⟩,hb⟩
 have HR:=xhd hr
 have HB:=xhd hb
 clear hr hb
 go_wp2
 go_ret
 exact⟨by rw [←HR.out];rfl,HB.out⟩
theorem linemay_any (first:ByteArray) (nb nc:Nat) (M:List Vn) (w:World) (h:QArg w nb 0 M) (hm:M.length≤100):
  Calls Tryz.prog 115 #[.agg #[.string first, .slice (some ⟨nb,0,none⟩) M.length nc]] w fun e w'=>e= .returned (.bool (M.all fun x=>inS x.2.2 x.2.1))∧Below w.heap.size w w':=by
 have hb:Below w.heap.size w (w.alloc (.cells #[.string first, .slice (some ⟨nb,0,none⟩) M.length nc] 86)):=(Below.refl _ w).alloc (Nat.le_refl _) _
 have HC:=xhd (containsoff_any nb 0 nc M _ (h.below hb) hm)
 have HB:=xhd hb
 have e:(M.all fun x=>inS x.2.2 x.2.1)=!(M.any offM):=by
  clear HC HB hb hm h
  induction M with
  |nil=>rfl
  |cons x M ih=>rw [List.all_cons,List.any_cons,ih];unfold offM;cases inS x.2.2 x.2.1<;>simp
 obtain⟨q,hq⟩:∃q,M.any offM=q:=⟨_,rfl⟩
 rw [e,hq]
 rw [hq] at HC
 obtain⟨n,hn⟩:∃n,M.length=n:=⟨_,rfl⟩
 rw [hn] at HC HB ⊢
 clear h hm hb e hq hn
 go_enter Tryz.func115,Tryz.ntmps115
 go_wp2_with fail
 with_reducible refine HC.out.mono ?_
 rintro r w1 ⟨rfl,hb⟩
 have HB1:=xhd (HB.out.trans (hb.mono HB.out.size))
 clear hb
 go_wp2
 go_ret
 exact⟨rfl,HB1.out⟩
def xN (x0 x1 x2 x3:Int):Nat→Int
 |0=>x0
 |1=>x1
 |2=>x2
 |_=>x3
def okA (m x:Int) (j:Nat):Bool:=decide (0≤x)&&decide (x≤mostA m (j:Int))
theorem acmay_ok (k x0 x1 x2 x3:Int):acMay (k,x0,x1,x2,x3)=(okA (acMany k:Nat) x0 0&&(okA (acMany k:Nat) x1 1&&(okA (acMany k:Nat) x2 2&&(okA (acMany k:Nat) x3 3&&!decide (acName k=[]))))):=by
 have hm:acMany k=0∨acMany k=1∨acMany k=2∨acMany k=4:=by
  unfold acMany
  split
  ·exact .inr (.inl rfl)
  ·split
   ·exact .inr (.inr (.inr rfl))
   ·split
    ·exact .inr (.inr (.inl rfl))
    ·exact .inl rfl
 unfold acMay acNums
 rw [Bool.eq_iff_iff]
 by_cases hn:acName k=[]
 ·simp [hn]
 ·rcases hm with h|h|h|h<;>rw [h]<;>simp [hn,okA,in9,mostA]<;>omega
theorem acmay_yes {k x0 x1 x2 x3:Int} (h:∀j:Nat,j < 4→okA (acMany k:Nat) (xN x0 x1 x2 x3 j) j=true):acMay (k,x0,x1,x2,x3)=!decide (acName k=[]):=by
 have h0:=h 0 (by omega)
 have h1:=h 1 (by omega)
 have h2:=h 2 (by omega)
 have h3:=h 3 (by omega)
 simp only [xN] at h0 h1 h2 h3
 rw [acmay_ok,h0,h1,h2,h3]
 rfl
theorem acmay_no {k x0 x1 x2 x3:Int} {j:Nat} (hj:j < 4) (h:okA (acMany k:Nat) (xN x0 x1 x2 x3 j) j=false):acMay (k,x0,x1,x2,x3)=false:=by
 rw [acmay_ok]
 have:j=0∨j=1∨j=2∨j=3:=by omega
 rcases this with rfl|rfl|rfl|rfl<;>simp only [xN] at h<;>rw [h]<;>simp
theorem xn_cases {x0 x1 x2 x3:Int} {j:Nat} (hj:j < 4):(j=0∧xN x0 x1 x2 x3 j=x0)∨(j=1∧xN x0 x1 x2 x3 j=x1)∨(j=2∧xN x0 x1 x2 x3 j=x2)∨(j=3∧xN x0 x1 x2 x3 j=x3):=by
 have:j=0∨j=1∨j=2∨j=3:=by omega
 rcases this with rfl|rfl|rfl|rfl<;>simp [xN]
structure MaI (w V:World) (S:Nat) (a sh:Array Value):Prop where
 bel:Below w.heap.size w V
 act:V.heap[w.heap.size]?=some (.cells a 73 (0,0))
 shp:V.heap[S]?=some (.cells sh 160 (0,0))
theorem MaI.below {w V V':World} {S:Nat} {a sh:Array Value} (h:MaI w V S a sh) (hb:Below V.heap.size V V'):MaI w V' S a sh:=
 ⟨h.bel.trans (hb.mono h.bel.size),(hb.block _ (lt_of_block h.act)).trans h.act,(hb.block _ (lt_of_block h.shp)).trans h.shp⟩
theorem MaI.start {w w1:World} {a sh:Array Value} (hb:Below (w.alloc (.cells a 73)).heap.size (w.alloc (.cells a 73)) w1):MaI w (w1.alloc (.cells sh 160)) w1.heap.size a sh:=by
 obtain⟨h1,h2⟩:=box_kept hb
 exact⟨h2.alloc h2.size _,(Below.heap_alloc _ _ _ (lt_of_block h1)).trans h1,heap_alloc_new _ _⟩
theorem mayact_any (k x0 x1 x2 x3:Int) (w:World):Calls Tryz.prog 96 #[.agg #[.int .i64 k, .int .i64 x0, .int .i64 x1, .int .i64 x2, .int .i64 x3]] w fun e w'=>e= .returned (.bool (acMay (k,x0,x1,x2,x3)))∧Below w.heap.size w w':=by
 have HYES:=xhd (fun h=>acmay_yes (k:=k) (x0:=x0) (x1:=x1) (x2:=x2) (x3:=x3) h)
 have HNO:=xhd (fun j (hj:j < 4) h=>acmay_no (k:=k) (x0:=x0) (x1:=x1) (x2:=x2) (x3:=x3) (j:=j) hj h)
 obtain⟨A,hA⟩:∃A,acMay (k,x0,x1,x2,x3)=A:=⟨_,rfl⟩
 rw [hA] at HYES HNO ⊢
 have h:=fun W=>ashape_any k W
 obtain⟨s,m,e,hs,hm⟩:=ashape_let k
 rw [←hm] at HYES HNO
 rw [←hs] at HYES
 rw [←Lib.toList_data] at HYES
 simp only [e] at h
 have H:=xhd h
 have HNO':=xhd (fun W=>numbersof_any k x0 x1 x2 x3 W)
 have HMY:=xhd (fun (p:Int) W=>amay_any s m p W)
 have HHA:=xhd (fun (hi n:Int) W=>has_any 0 hi n W)
 clear h e hs hm hA
 have ix0:∀W,(Instr.index 162 (.agg #[.int .i64 x0, .int .i64 x1, .int .i64 x2, .int .i64 x3]) (.int .i64 0)).run Tryz.prog W= .ok (.int .i64 x0) W:=fun _=>by kernel_rfl
 have ix1:∀W,(Instr.index 162 (.agg #[.int .i64 x0, .int .i64 x1, .int .i64 x2, .int .i64 x3]) (.int .i64 1)).run Tryz.prog W= .ok (.int .i64 x1) W:=fun _=>by kernel_rfl
 have ix2:∀W,(Instr.index 162 (.agg #[.int .i64 x0, .int .i64 x1, .int .i64 x2, .int .i64 x3]) (.int .i64 2)).run Tryz.prog W= .ok (.int .i64 x2) W:=fun _=>by kernel_rfl
 have ix3:∀W,(Instr.index 162 (.agg #[.int .i64 x0, .int .i64 x1, .int .i64 x2, .int .i64 x3]) (.int .i64 3)).run Tryz.prog W= .ok (.int .i64 x3) W:=fun _=>by kernel_rfl
 go_enter Tryz.func96,Tryz.ntmps96
 go_wp2_with fail
 with_reducible refine (H.out _).mono ?_
 rintro e w1 ⟨rfl,hb⟩
 have HI1:=xhd (MaI.start (sh:= #[.string s, .int .i64 m]) hb)
 have HW:Hid (∃W,w1.alloc (.cells #[.string s, .int .i64 m] 160)=W):=⟨_,rfl⟩
 obtain⟨c0,c1,c2,c3,c4⟩:=act_cells (box_kept hb).1
 have hl1:=lt_of_block (box_kept hb).1
 clear hb
 have HS:Hid (∃S,w1.heap.size=S):=⟨_,rfl⟩
 go_wp2_with fail
 obtain⟨S,hS⟩:=HS.out
 rw [hS] at HI1 ⊢
 obtain⟨W,hW⟩:=HW.out
 rw [hW] at HI1 ⊢
 clear hW HW hS HS c0 c1 c2 c3 c4 hl1
 with_reducible refine (HNO'.out _).mono ?_
 rintro e w2 ⟨rfl,hb⟩
 have HI2:=xhd (HI1.out.below hb)
 clear hb
 go_wp2_with fail
 go_loopw [11] (fun i' wr=>∃i:Nat,i'= .int .i64 i∧i≤4∧Hid (MaI w wr S #[.int .i64 k, .int .i64 x0, .int .i64 x1, .int .i64 x2, .int .i64 x3] #[.string s, .int .i64 m])∧Hid (∀j:Nat,j < i→okA m (xN x0 x1 x2 x3 j) j=true)) (fun i' _=>4 - (intOf i').toNat)
 case atStart=>exact⟨0,rfl,by omega,HI2,fun j h=>by omega⟩
 case round=>
  obtain⟨i,rfl,hi,HI,HO⟩:=hrel
  by_cases hlt:i < 4
  ·have hstep:∀q,okA m (xN x0 x1 x2 x3 i) i=q→q=true→∀j:Nat,j < i+1→okA m (xN x0 x1 x2 x3 j) j=true:=fun q hq1 hq2 j hj=>by
     rcases Nat.lt_or_ge j i with h|h
     ·exact HO.out j h
     ·obtain rfl:j=i:=by omega
      rw [hq1,hq2]
   obtain⟨q,hq⟩:∃q,okA m (xN x0 x1 x2 x3 i) i=q:=⟨_,rfl⟩
   have HST:=xhd (hstep q hq)
   have HQ:=xhd hq
   have HQN:Hid (q=false→A=false):=xhd (fun h=>HNO.out i hlt (hq.trans h))
   clear hstep
   obtain⟨d0,d1⟩:=two_cells HI.out.shp
   have hha:∀W,Calls Tryz.prog 112 #[.agg #[.int .i64 0, .int .i64 (mostA m (i:Int))], .int .i64 (xN x0 x1 x2 x3 i)] W fun e w'=>e= .returned (.bool q)∧Below W.heap.size W w':=fun W=>by
    have h:=HHA.out (mostA m (i:Int)) (xN x0 x1 x2 x3 i) W
    rw [show (decide (0≤xN x0 x1 x2 x3 i)&&decide (xN x0 x1 x2 x3 i≤mostA m (i:Int)))=q from hq] at h
    exact h
   have hmy:=fun W=>HMY.out (i:Int) W
   have hcast:((0:Nat):Int)=0∧((1:Nat):Int)=1∧((2:Nat):Int)=2∧((3:Nat):Int)=3:=⟨rfl,rfl,rfl,rfl⟩
   clear hq
   rcases xn_cases (x0:=x0) (x1:=x1) (x2:=x2) (x3:=x3) hlt with⟨rfl,hx⟩ |⟨rfl,hx⟩ |⟨rfl,hx⟩ |⟨rfl,hx⟩
   all_goals
    rw [hx] at hha
    simp only [hcast] at hha hmy ⊢
    clear hcast
    have HHI:=xhd hha
    have HMI:=xhd hmy
    clear hha hmy hx
    go_wp2_with fail
    with_reducible refine (HMI.out _).mono ?_
    rintro e w3 ⟨rfl,hb⟩
    have HI3:=xhd (HI.out.below hb)
    clear hb d0 d1
    go_wp2_with fail
    with_reducible refine (HHI.out _).mono ?_
    rintro e w4 ⟨rfl,hb⟩
    have HI4:=xhd (HI3.out.below hb)
    clear hb
    cases q with
    |true=>
     go_wp2
     go_roundw
     case rel=>exact⟨_,by go_num,by omega,HI4,HST.out (by trivial)⟩
     case measure=>simp [intOf]
    |false=>
     go_wp2
     go_ret
     exact⟨congrArg (fun x=>Ending.returned (.bool x)) (HQN.out (by trivial)).symm,HI4.out.bel⟩
  ·obtain rfl:i=4:=by omega
   have ha:=HYES.out (fun j hj=>HO.out j hj)
   obtain⟨d0,d1⟩:=two_cells HI.out.shp
   by_cases he:s.toList=[]
   ·have q0:(s.toList == [])=true:=by rw [he];rfl
    rw [decide_eq_true he] at ha
    have HA:=xhd ha
    clear ha
    go_wp2
    go_ret
    exact⟨by rw [HA.out];rfl,HI.out.bel⟩
   ·have q0:(s.toList == [])=false:=by simpa using he
    have q1:s.toList.isEmpty=false:=by simpa using he
    rw [decide_eq_false he] at ha
    have HA:=xhd ha
    clear ha
    go_wp2
    go_ret
    exact⟨by rw [HA.out];rfl,HI.out.bel⟩
end Go.Proofs.YtbnhnnccioljhaaGreatDoor
namespace Go.Proofs.YtbnhnnccioljhaaGreatDoor
open Go.RowKit Go.Maps Go.Shelf
attribute [local go_sem] Oper.semAt_some
theorem akeeps_below {n:Nat} {A B:World} (h:Below A.heap.size A B):KeepsFrom n A B:=
 ⟨h.size,fun _ _ _ hk _=>(h.block _ (lt_of_block hk)).trans hk⟩
structure AMayB (w W:World) (N:Nat):Prop where
 res:W.heap[w.heap.size]?=some (.cells #[.bool false] 4 (0,0))
 t:Turned [] w W
 z:N≤W.heap.size
theorem AMayB.mild {w W W':World} {N N':Nat} (h:AMayB w W N) (m:Mild [] N' W W') (hN:w.heap.size≤N'):AMayB w W' N:=
 ⟨m.cells h.res (by simp),h.t.mild m hN (by simp),Nat.le_trans h.z m.size⟩
theorem AMayB.below {w W W':World} {N:Nat} (h:AMayB w W N) (hb:Below W.heap.size W W'):AMayB w W' N:=
 ⟨(hb.block _ (lt_of_block h.res)).trans h.res,h.t.trans (turned_below0 hb) (Newer.refl _ _),Nat.le_trans h.z hb.size⟩
theorem azip_may {L:List Ac} {pre:List (Ac×Nat)} (h:pre <+:L.zipIdx):∀x ∈ pre,x.1 ∈ L:=by
 intro x hx
 have h2:=h.subset hx
 exact (List.mem_zipIdx' h2).2 ▸ List.getElem_mem _
theorem azip_mem {L:List Ac} {x:Ac} (h:x ∈ L):∃j,(x,j) ∈ L.zipIdx:=by
 obtain⟨i,hi,rfl⟩:=List.getElem_of_mem h
 refine⟨i,?_⟩
 have h2:L.zipIdx[i]'(by rw [List.length_zipIdx];exact hi)=(L[i],i):=by
  rw [List.getElem_zipIdx]
  simp
 rw [←h2]
 exact List.getElem_mem _
theorem AMayB.fin {w W:World} {N D:Nat} (h:AMayB w W N) (hN:w.heap.size+1≤D) (hK:W.heap[D]?=some (.deferred (some []))) (q:Bool):
  (W.setCell ⟨w.heap.size,0,none⟩ (.bool q)).heap[D]?=some (.deferred (some []))∧
  (∀o,((W.setCell ⟨w.heap.size,0,none⟩ (.bool q)).putObj D o).heap[w.heap.size]?=some (.cells #[.bool q] 4 (0,0))∧
  Below w.heap.size w ((W.setCell ⟨w.heap.size,0,none⟩ (.bool q)).putObj D o)):=by
 have hne:D≠w.heap.size:=by omega
 refine⟨(Below.heap_setCell _ _ _ _ hne).trans hK,fun o=>⟨?_,?_⟩⟩
 ·rw [World.putObj_heap_other (Ne.symm hne),heap_setCell_same _ _ _ _ _ _ h.res]
  rfl
 ·exact ((h.t.setCell (.inr (by show w.heap.size≤w.heap.size;omega)) _).put (by omega) o).below (by simp) (Nat.le_refl _)
theorem AMayB.set {w W:World} {N:Nat} (h:AMayB w W N):AMayB w (W.setCell ⟨w.heap.size,0,none⟩ (.bool false)) N:=by
 refine⟨?_,h.t.setCell (.inr (by show w.heap.size≤w.heap.size;omega)) _,by simpa [World.setCell] using h.z⟩
 rw [heap_setCell_same _ _ _ _ _ _ h.res]
 rfl
theorem mayeach_any (ao:Option Addr) (b off cap:Nat) (L:List Ac) (w:World) (h:AArg w ao b off L) (hm:L.length≤100000):
  Calls Tryz.prog 46 #[.slice ao L.length cap] w fun e w'=>e= .returned (.bool (acsMay L))∧Below w.heap.size w w':=by
 unfold acsMay
 refine callsIn_wide.1 (?_:CallsIn Fence.wide 20 _ _ _ _ _)
 refine callsIn_of_wp_marks Tryz.func46 rfl trivial ?_ rfl
 simp only [Tryz.ntmps46,List.size_toArray,List.length_cons,List.length_nil,Nat.reduceAdd,Nat.reduceSub,Array.replicate_succ,Array.replicate_zero,List.push_toArray,List.append_toArray,List.nil_append,List.cons_append]
 refine wpIn_wide.2 ?_
 obtain⟨W0,hW0⟩:∃W0,w.alloc (.cells #[.bool false] 4)=W0:=⟨_,rfl⟩
 have hb0:Below w.heap.size w W0:=by
  rw [←hW0]
  exact (Below.refl _ w).alloc (Nat.le_refl _) _
 have hB0:AMayB w W0 0:=by
  have hz:=heap_alloc_new w (.cells #[.bool false] 4)
  rw [hW0] at hz
  exact⟨hz,turned_below0 hb0,Nat.zero_le _⟩
 have HB0:=xhd hB0
 have HE:=xhd (aeach_any ao b off cap L W0 (h.below hb0) hm)
 have HM:=xhd (fun k a c d e W=>mayact_any k a c d e W)
 obtain⟨n,hn⟩:∃n,L.length=n:=⟨_,rfl⟩
 have HN:=xhd hn
 rw [hn] at HE hm ⊢
 clear h hB0 hb0 hn
 have HW0:=xhd hW0
 clear hW0
 go_wp2_with fail
 rw [HW0.out]
 refine HE.out.mono ?_
 rintro e W1 ⟨B,rfl,hK,hb⟩
 obtain⟨Yb,hY,hseq⟩:=aeach1_seq (n:=19) (by omega) hK (by have:=HN.out;omega)
 have HB1:Hid (AMayB w W1 W1.heap.size):=xhd (by
  have h:=HB0.out.below hb
  exact⟨h.res,h.t,Nat.le_refl _⟩)
 have HY:=xhd hY
 have HSEQ:=xhd hseq
 have hw1:w.heap.size+1≤W1.heap.size:=lt_of_block HB1.out.res
 have hw0:w.heap.size+1≤W0.heap.size:=lt_of_block HB0.out.res
 clear hK hb hY hseq HB0 HE
 go_wp2_with fail
 refine (wpIn_wide (n:=20)).1 ?_
 refine range_turns_boxed rfl (by omega) (gf:=98) (lb:= #[.pointer (some ⟨B,0,none⟩)]) rfl trivial (enters_of Tryz.func98 (by kernel_rfl) rfl)
  (X:=[]) (Y:=Yb) (by simp) (fun k hk=>(HY.out k hk).2) HSEQ.out (fun _=>rfl) (fun _ _ _ h _=>h) (fun _ _ _ h _=>h)
  (fun pre W=>AMayB w W W1.heap.size∧∀x ∈ pre,acMay x.1=true)
  (fun c pre W=>c= .ret∧AMayB w W W1.heap.size∧∃x ∈ pre,acMay x.1=false)
  (fun xs A B h mm=>⟨h.1.mild mm (by omega),h.2⟩) (fun c xs A B h mm=>⟨h.1,h.2.1.mild mm (by omega),h.2.2⟩) ⟨HB1.out,by simp⟩ (fun xs W h=>h.1.z)
  73 (fun x=> #[.int .i64 x.1.1, .int .i64 x.1.2.1, .int .i64 x.1.2.2.1, .int .i64 x.1.2.2.2.1, .int .i64 x.1.2.2.2.2]) ?a1 ?assign ?body ?done ?stop
 case assign=>
  intro l x Bk W K hBk hK
  gi_wp2
  exact hK
 case body=>
  rintro l pre ⟨⟨x1,x2,x3,x4,x5⟩,j⟩ Bk W hk hbk ⟨hI,hall⟩ hsp
  simp only at hk
  obtain⟨k0,k1,k2,k3,k4⟩:=act_cells hk
  have HI:=xhd hI
  have HALL:=xhd hall
  have HCM:=xhd (HM.out x1 x2 x3 x4 x5 W)
  obtain⟨q,hq⟩:∃q,acMay (x1,x2,x3,x4,x5)=q:=⟨_,rfl⟩
  have HQ:=xhd hq
  rw [hq] at HCM
  clear hI hall hq hsp hk
  cases q with
  |true=>
   gi_wp2_with fail
   refine⟨trivial,?_⟩
   refine (CallsIn.inRound l (callsIn_wide.2 HCM.out)).mono ?_
   rintro e' V ⟨rfl,hb⟩
   have HB:=xhd hb
   clear hb
   gi_wp2
   refine⟨akeeps_below HB.out,fun j hj=>HB.out.block _ ?_,HI.out.below HB.out,?_⟩
   ·have:=(HY.out j hj).2
    have:=HI.out.z
    omega
   ·intro y hy
    rcases List.mem_append.1 hy with h|h
    ·exact HALL.out y h
    ·simp at h
     subst h
     exact HQ.out
  |false=>
   gi_wp2_with fail
   refine⟨trivial,?_⟩
   refine (CallsIn.inRound l (callsIn_wide.2 HCM.out)).mono ?_
   rintro e' V ⟨rfl,hb⟩
   have HB:=xhd hb
   have hV:=HI.out.below hb
   have r0:=cell1 hV.res
   have f0:=not_frozen hV.res 0
   have HV:=xhd hV
   clear hb hV
   gi_wp2
   refine⟨(akeeps_below HB.out).trans ((KeepsOthers.setCell _ _ _).from _),fun j hj=>?_,rfl,HV.out.set,((x1,x2,x3,x4,x5),j),List.mem_append_right _ (by simp),HQ.out⟩
   have h1:=HY.out j hj
   have h2:=HI.out.z
   exact (Below.heap_setCell _ _ _ _ (by show j≠w.heap.size;omega)).trans (HB.out.block _ (by omega))
 case done=>
  rintro D xs W hD rfl ⟨hI,hall⟩ hK
  have HI:=xhd hI
  have HKD:=xhd hK
  have r0:=cell1 hI.res
  have f0:=not_frozen hI.res 0
  have hA:L.all acMay=true:=by
   rw [List.all_eq_true]
   intro x hx
   obtain⟨j,hj⟩:=azip_mem hx
   exact hall _ hj
  have HA:=xhd hA
  clear hI hK hA
  go_wp2
  have hf:=HI.out.fin (D:=D) (by omega) HKD.out true
  refine⟨by simp, .inl ⟨_,_,rfl,run_takeDeferred hf.1,?_⟩⟩
  exact⟨_,bool_result rfl rfl (hf.2 _).1,by rw [HA.out],(hf.2 _).2⟩
 case stop=>
  rintro D c xs W hD hsx ⟨rfl,hI,hx⟩ hK
  have HI:=xhd hI
  have HKD:=xhd hK
  clear hI hK
  refine wpIn_ret ?_
  simp only [Exit.inBlock]
  have hA:L.all acMay=false:=by
   obtain⟨x,hx1,hx2⟩:=hx
   rw [List.all_eq_false]
   exact⟨x.1,azip_may hsx x hx1,by simp [hx2]⟩
  have hne:D≠w.heap.size:=by omega
  have hres:∀o,(W.putObj D o).heap[w.heap.size]?=some (.cells #[.bool false] 4 (0,0)):=fun o=>(World.putObj_heap_other (Ne.symm hne)).trans HI.out.res
  refine⟨by simp, .inl ⟨_,_,rfl,run_takeDeferred HKD.out,?_⟩⟩
  exact⟨_,bool_result rfl rfl (hres _),by rw [hA],(HI.out.t.put (by omega) _).below (by simp) (Nat.le_refl _)⟩
def actsMay (L:List Ac):Bool:=decide (L.length≤4000)&&acsMay L
theorem amay_all (ao:Option Addr) (b off cap:Nat) (L:List Ac) (w:World) (h:AArg w ao b off L) (hm:L.length≤100000):
  Calls Tryz.prog 25 #[.slice ao L.length cap] w fun e w'=>e= .returned (.bool (actsMay L))∧Below w.heap.size w w':=by
 have HE:=xhd (mayeach_any ao b off cap L w h hm)
 unfold actsMay
 obtain⟨q,hq⟩:∃q,acsMay L=q:=⟨_,rfl⟩
 obtain⟨n,hn⟩:∃n,L.length=n:=⟨_,rfl⟩
 rw [hn,hq] at HE
 rw [hn,hq]
 clear h hm hn hq
 by_cases h4:n≤4000
 ·have g1:(n:Int)≤4000:=by omega
  have g2:decide ((n:Int)≤4000)=true:=by simp;omega
  rw [decide_eq_true h4,Bool.true_and]
  go_enter Tryz.func25,Tryz.ntmps25
  go_wp2_with fail
  with_reducible refine HE.out.mono ?_
  rintro e w1 ⟨rfl,hb⟩
  have HB:=xhd hb
  clear hb
  go_wp2
  go_ret
  exact⟨rfl,HB.out⟩
 ·have g1:¬(n:Int)≤4000:=by omega
  have g2:decide ((n:Int)≤4000)=false:=by simp;omega
  rw [decide_eq_false h4,Bool.false_and]
  go_enter Tryz.func25,Tryz.ntmps25
  go_wp2
  go_ret
  exact⟨rfl,Below.refl _ _⟩
end Go.Proofs.YtbnhnnccioljhaaGreatDoor
namespace Go.Proofs.YtbnhnnccioljhaaGreatDoor
open Go.RowKit
structure OWI (w wr:World) (S:Nat) (sh:Array Value) (k a b:Int) (v:Value) (ws:List Wd):Prop where
 row:WRow w.heap.size wr v ws
 bel:Below w.heap.size w wr
 opb:wr.heap[w.heap.size]?=some (.cells #[.int .i64 k, .int .i64 a, .int .i64 b] 142 (0,0))
 shp:wr.heap[S]?=some (.cells sh 201 (0,0))
theorem OWI.more {w wr wr':World} {S:Nat} {sh:Array Value} {k a b:Int} {v:Value} {ws:List Wd} (h:OWI w wr S sh k a b v ws) (hb:Below wr.heap.size wr wr'):OWI w wr' S sh k a b v ws:=
 ⟨row_below h.row hb,h.bel.trans (hb.mono h.bel.size),(hb.block _ (lt_of_block h.opb)).trans h.opb,(hb.block _ (lt_of_block h.shp)).trans h.shp⟩
theorem OWI.push {w wx w4:World} {S:Nat} {sh:Array Value} {k a b:Int} {v v':Value} {ws:List Wd} {x:Wd} (h:OWI w wx S sh k a b v ws)
  (hown:w4.ownsRow w.heap.size 95 4 v' (ws.length+1) (wdsC ws++wdC x)) (hg:wx.grownBy w4 v.ownBlock):OWI w w4 S sh k a b v' (ws++[x]):=by
 have hb:Below w.heap.size wx w4:=app_below (Below.refl _ _) h.bel.size (Nat.le_refl _) h.row hg
 refine⟨?_,h.bel.trans hb,(hg.block _ (lt_of_block h.opb) (block_off h.opb h.row (by decide))).trans h.opb,(hg.block _ (lt_of_block h.shp) (block_off h.shp h.row (by decide))).trans h.shp⟩
 unfold WRow
 rw [wdsC_snoc,List.length_append,List.length_singleton]
 exact hown
theorem OWI.start {w w2 w3:World} {S:Nat} {sh:Array Value} {k a b:Int} (hb:Below w.heap.size w w2) (ho:w2.heap[w.heap.size]?=some (.cells #[.int .i64 k, .int .i64 a, .int .i64 b] 142 (0,0))) (hs:w2.heap[S]?=some (.cells sh 201 (0,0)))
  (h3:Below w2.heap.size w2 w3) {p q r t:Value} {x:Wd} (hx:wdC x=[p,q,r,t]):
  OWI w (w3.alloc (.cells #[p,q,r,t] 95)) S sh k a b (.slice (some ⟨w3.heap.size,0,none⟩) 1 1) [x]:=by
 have h4:Below w2.heap.size w2 (w3.alloc (.cells #[p,q,r,t] 95)):=h3.alloc h3.size _
 refine⟨first_row w3 _ (Nat.le_trans hb.size h3.size) _ _ _ _ _ hx,hb.trans (h4.mono hb.size),(h4.block _ (lt_of_block ho)).trans ho,(h4.block _ (lt_of_block hs)).trans hs⟩
theorem shN_is3 (k:Int):shN k=0∨shN k=1∨shN k=2:=by
 unfold shN
 split
 ·split
  ·exact .inr (.inr rfl)
  ·exact .inr (.inl rfl)
 ·exact .inl rfl
theorem opw_shape (k a b:Int):opW (k,a,b)=(1,nameR k,0,0)::((if 1≤shN k then [(2,[],a,0)] else [])++((if 2≤shN k then [(2,[],b,0)] else [])++[(3,[59],0,0)])):=by
 unfold opW
 simp only
 by_cases hl:0≤(limR k).1
 ·have q1:1≤shN k:=by
    unfold shN
    rw [if_pos hl]
    split<;>decide
  rw [if_pos hl,if_pos q1]
  by_cases h5:k=5
  ·have q2:2≤shN k:=by
     unfold shN
     rw [if_pos hl,if_pos h5]
     decide
   rw [if_pos h5,if_pos q2]
  ·have q2:¬2≤shN k:=by
     unfold shN
     rw [if_pos hl,if_neg h5]
     decide
   rw [if_neg h5,if_neg q2]
 ·have q1:shN k=0:=by
    unfold shN
    rw [if_neg hl]
  have h5:¬k=5:=by
   rintro rfl
   exact hl (by decide)
  rw [if_neg hl,if_neg h5,q1]
  rfl
theorem opw_n0 (k a b:Int) (hn:shN k=0) (w:World):
  Calls Tryz.prog 95 #[.agg #[.int .i64 k, .int .i64 a, .int .i64 b]] w (WordsP (opW (k,a,b)) w):=by
 obtain⟨i0,hi0,hz0,hz1,hz2⟩:=info_parts word_info
 have hw:opW (k,a,b)=[(1,nameR k,0,0)]++[(3,[59],0,0)]:=by
  rw [opw_shape,hn]
  rfl
 rw [hw]
 have hsh:=fun W=>shape_any k W
 obtain⟨s,n,lo,hi,lo2,hi2,es,hs,hsn, -⟩:=shape_let k
 rw [hn] at hsn
 subst hsn
 simp only [es] at hsh
 have HSH:=xhd hsh
 have HNM:=xhd (fun W=>pname_any s W)
 have HMK:=xhd (fun W=>pmark_any ⟨#[59]⟩ W)
 have HPN:=xhd (fun n W=>pnum_any n W)
 have hx:wdC (1,nameR k,0,0)=[.int .i64 1, .string s, .int .i64 0, .int .i64 0]:=by
  unfold wdC
  rw [←hs,Lib.mk_data]
 have HX:=xhd hx
 obtain⟨x,hxx⟩:∃x:Wd,(1,nameR k,0,0)=x:=⟨_,rfl⟩
 rw [hxx] at HX ⊢
 clear hsh es hs hn hx hxx hw
 go_enter Tryz.func95,Tryz.ntmps95
 go_wp2_with fail
 with_reducible refine (HSH.out _).mono ?_
 rintro r w1 ⟨rfl,hb1⟩
 obtain⟨ho0,hb1w⟩:=box_kept hb1
 obtain⟨c0,c1,c2⟩:=op_cells ho0
 have hlt:=lt_of_block ho0
 have HB2:=xhd (hb1w.alloc hb1w.size (.cells #[.string s, .int .i64 0, .int .i64 lo, .int .i64 hi, .int .i64 lo2, .int .i64 hi2] 201))
 have HO2:=xhd ((Below.heap_alloc w1 (.cells #[.string s, .int .i64 0, .int .i64 lo, .int .i64 hi, .int .i64 lo2, .int .i64 hi2] 201) _ hlt).trans ho0)
 have HS2:=xhd (heap_alloc_new w1 (.cells #[.string s, .int .i64 0, .int .i64 lo, .int .i64 hi, .int .i64 lo2, .int .i64 hi2] 201))
 clear hb1 hb1w ho0
 go_wp2_with fail
 with_reducible refine (HNM.out _).mono ?_
 rintro r w3 ⟨rfl,hb3⟩
 have HW0:=xhd (OWI.start HB2.out HO2.out HS2.out hb3 HX.out)
 have hs3:=(hb3.block _ (lt_of_block HS2.out)).trans HS2.out
 have ho3:=(hb3.block _ (lt_of_block HO2.out)).trans HO2.out
 clear c0 c1 c2
 obtain⟨c0,c1,c2⟩:=op_cells ho3
 obtain⟨d0,d1,d2,d3,d4,d5⟩:=six_cells hs3
 have hl3:=lt_of_block hs3
 have hlo3:=lt_of_block ho3
 clear hb3 hs3 ho3
 go_wp2_with fail
 with_reducible refine (HMK.out _).mono ?_
 rintro r w8 ⟨rfl,hb8⟩
 have HW8:=xhd (HW0.out.more hb8)
 clear hb8 c0 c1 c2 d0 d1 d2 d3 d4 d5
 go_wp2_with (at_builtin;refine wpList_append_own _ rfl _ _ 50 rfl w.heap.size 95 i0 (.agg #[.int .i64 0, .string ⟨#[]⟩, .int .i64 0, .int .i64 0]) 4 40 Tryz.underlying50 hi0 hz0 hz1 hz2 rfl (by decide) _ _ _ rfl (row_below HW8.out.row ((Below.refl _ _).alloc (Nat.le_refl _) _)) ⟨_,0,none⟩ 1 1 [.int .i64 3, .string ⟨#[59]⟩, .int .i64 0, .int .i64 0] rfl rfl ?c1 ?c2 ?c3 ?c4 ?c5 ?_)
 case c1=>first|exact word_new _ _ _ _ _ _|exact word_at (by simp) _ _ _ _ _
 case c2=>exact word_ones _ _ _ _
 case c3=>((try simp only [List.length_append]);(try simp only [List.length_cons]);(try simp only [List.length_nil]);unfold maxLen;omega)
 case c4=>((try simp only [List.length_append]);(try simp only [List.length_cons]);(try simp only [List.length_nil]);omega)
 case c5=>exact Nat.le_trans HW8.out.bel.size (by simp)
 intro v9 w9 hown hgrow _
 have HW9:=xhd ((HW8.out.more ((Below.refl _ _).alloc (Nat.le_refl _) _)).push (x:=(3,[59],0,0)) hown hgrow)
 clear hown hgrow
 go_wp2
 go_ret
 exact⟨_,rfl,HW9.out.row,HW9.out.bel⟩
theorem opw_n1 (k a b:Int) (hn:shN k=1) (w:World):
  Calls Tryz.prog 95 #[.agg #[.int .i64 k, .int .i64 a, .int .i64 b]] w (WordsP (opW (k,a,b)) w):=by
 obtain⟨i0,hi0,hz0,hz1,hz2⟩:=info_parts word_info
 have hw:opW (k,a,b)=[(1,nameR k,0,0)]++[(2,[],a,0)]++[(3,[59],0,0)]:=by
  rw [opw_shape,hn]
  rfl
 rw [hw]
 have hsh:=fun W=>shape_any k W
 obtain⟨s,n,lo,hi,lo2,hi2,es,hs,hsn, -⟩:=shape_let k
 rw [hn] at hsn
 subst hsn
 simp only [es] at hsh
 have HSH:=xhd hsh
 have HNM:=xhd (fun W=>pname_any s W)
 have HMK:=xhd (fun W=>pmark_any ⟨#[59]⟩ W)
 have HPN:=xhd (fun n W=>pnum_any n W)
 have hx:wdC (1,nameR k,0,0)=[.int .i64 1, .string s, .int .i64 0, .int .i64 0]:=by
  unfold wdC
  rw [←hs,Lib.mk_data]
 have HX:=xhd hx
 obtain⟨x,hxx⟩:∃x:Wd,(1,nameR k,0,0)=x:=⟨_,rfl⟩
 rw [hxx] at HX ⊢
 clear hsh es hs hn hx hxx hw
 go_enter Tryz.func95,Tryz.ntmps95
 go_wp2_with fail
 with_reducible refine (HSH.out _).mono ?_
 rintro r w1 ⟨rfl,hb1⟩
 obtain⟨ho0,hb1w⟩:=box_kept hb1
 obtain⟨c0,c1,c2⟩:=op_cells ho0
 have hlt:=lt_of_block ho0
 have HB2:=xhd (hb1w.alloc hb1w.size (.cells #[.string s, .int .i64 1, .int .i64 lo, .int .i64 hi, .int .i64 lo2, .int .i64 hi2] 201))
 have HO2:=xhd ((Below.heap_alloc w1 (.cells #[.string s, .int .i64 1, .int .i64 lo, .int .i64 hi, .int .i64 lo2, .int .i64 hi2] 201) _ hlt).trans ho0)
 have HS2:=xhd (heap_alloc_new w1 (.cells #[.string s, .int .i64 1, .int .i64 lo, .int .i64 hi, .int .i64 lo2, .int .i64 hi2] 201))
 clear hb1 hb1w ho0
 go_wp2_with fail
 with_reducible refine (HNM.out _).mono ?_
 rintro r w3 ⟨rfl,hb3⟩
 have HW0:=xhd (OWI.start HB2.out HO2.out HS2.out hb3 HX.out)
 have hs3:=(hb3.block _ (lt_of_block HS2.out)).trans HS2.out
 have ho3:=(hb3.block _ (lt_of_block HO2.out)).trans HO2.out
 clear c0 c1 c2
 obtain⟨c0,c1,c2⟩:=op_cells ho3
 obtain⟨d0,d1,d2,d3,d4,d5⟩:=six_cells hs3
 have hl3:=lt_of_block hs3
 have hlo3:=lt_of_block ho3
 clear hb3 hs3 ho3
 go_wp2_with fail
 with_reducible refine (HPN.out _ _).mono ?_
 rintro r w4a ⟨rfl,hb⟩
 have HW4a:=xhd (HW0.out.more hb)
 clear hb c0 c1 c2 d0 d1 d2 d3 d4 d5
 go_wp2_with (at_builtin;refine wpList_append_own _ rfl _ _ 50 rfl w.heap.size 95 i0 (.agg #[.int .i64 0, .string ⟨#[]⟩, .int .i64 0, .int .i64 0]) 4 40 Tryz.underlying50 hi0 hz0 hz1 hz2 rfl (by decide) _ _ _ rfl (row_below HW4a.out.row ((Below.refl _ _).alloc (Nat.le_refl _) _)) ⟨_,0,none⟩ 1 1 [.int .i64 2, .string ⟨#[]⟩, .int .i64 a, .int .i64 0] rfl rfl ?c1 ?c2 ?c3 ?c4 ?c5 ?_)
 case c1=>first|exact word_new _ _ _ _ _ _|exact word_at (by simp) _ _ _ _ _
 case c2=>exact word_ones _ _ _ _
 case c3=>((try simp only [List.length_append]);(try simp only [List.length_cons]);(try simp only [List.length_nil]);unfold maxLen;omega)
 case c4=>((try simp only [List.length_append]);(try simp only [List.length_cons]);(try simp only [List.length_nil]);omega)
 case c5=>exact Nat.le_trans HW4a.out.bel.size (by simp)
 intro v4 w4 hown hgrow _
 have HW4:=xhd ((HW4a.out.more ((Below.refl _ _).alloc (Nat.le_refl _) _)).push (x:=(2,[],a,0)) hown hgrow)
 obtain⟨ao4,cap4,hv4,_⟩:=ownsRow_shape HW4.out.row
 subst hv4
 clear hown hgrow
 obtain⟨c0,c1,c2⟩:=op_cells HW4.out.opb
 obtain⟨d0,d1,d2,d3,d4,d5⟩:=six_cells HW4.out.shp
 go_wp2_with fail
 with_reducible refine (HMK.out _).mono ?_
 rintro r w8 ⟨rfl,hb8⟩
 have HW8:=xhd (HW4.out.more hb8)
 clear hb8 c0 c1 c2 d0 d1 d2 d3 d4 d5
 go_wp2_with (at_builtin;refine wpList_append_own _ rfl _ _ 50 rfl w.heap.size 95 i0 (.agg #[.int .i64 0, .string ⟨#[]⟩, .int .i64 0, .int .i64 0]) 4 40 Tryz.underlying50 hi0 hz0 hz1 hz2 rfl (by decide) _ _ _ rfl (row_below HW8.out.row ((Below.refl _ _).alloc (Nat.le_refl _) _)) ⟨_,0,none⟩ 1 1 [.int .i64 3, .string ⟨#[59]⟩, .int .i64 0, .int .i64 0] rfl rfl ?c1 ?c2 ?c3 ?c4 ?c5 ?_)
 case c1=>first|exact word_new _ _ _ _ _ _|exact word_at (by simp) _ _ _ _ _
 case c2=>exact word_ones _ _ _ _
 case c3=>((try simp only [List.length_append]);(try simp only [List.length_cons]);(try simp only [List.length_nil]);unfold maxLen;omega)
 case c4=>((try simp only [List.length_append]);(try simp only [List.length_cons]);(try simp only [List.length_nil]);omega)
 case c5=>exact Nat.le_trans HW8.out.bel.size (by simp)
 intro v9 w9 hown hgrow _
 have HW9:=xhd ((HW8.out.more ((Below.refl _ _).alloc (Nat.le_refl _) _)).push (x:=(3,[59],0,0)) hown hgrow)
 clear hown hgrow
 go_wp2
 go_ret
 exact⟨_,rfl,HW9.out.row,HW9.out.bel⟩
theorem opw_n2 (k a b:Int) (hn:shN k=2) (w:World):
  Calls Tryz.prog 95 #[.agg #[.int .i64 k, .int .i64 a, .int .i64 b]] w (WordsP (opW (k,a,b)) w):=by
 obtain⟨i0,hi0,hz0,hz1,hz2⟩:=info_parts word_info
 have hw:opW (k,a,b)=[(1,nameR k,0,0)]++[(2,[],a,0)]++[(2,[],b,0)]++[(3,[59],0,0)]:=by
  rw [opw_shape,hn]
  rfl
 rw [hw]
 have hsh:=fun W=>shape_any k W
 obtain⟨s,n,lo,hi,lo2,hi2,es,hs,hsn, -⟩:=shape_let k
 rw [hn] at hsn
 subst hsn
 simp only [es] at hsh
 have HSH:=xhd hsh
 have HNM:=xhd (fun W=>pname_any s W)
 have HMK:=xhd (fun W=>pmark_any ⟨#[59]⟩ W)
 have HPN:=xhd (fun n W=>pnum_any n W)
 have hx:wdC (1,nameR k,0,0)=[.int .i64 1, .string s, .int .i64 0, .int .i64 0]:=by
  unfold wdC
  rw [←hs,Lib.mk_data]
 have HX:=xhd hx
 obtain⟨x,hxx⟩:∃x:Wd,(1,nameR k,0,0)=x:=⟨_,rfl⟩
 rw [hxx] at HX ⊢
 clear hsh es hs hn hx hxx hw
 go_enter Tryz.func95,Tryz.ntmps95
 go_wp2_with fail
 with_reducible refine (HSH.out _).mono ?_
 rintro r w1 ⟨rfl,hb1⟩
 obtain⟨ho0,hb1w⟩:=box_kept hb1
 obtain⟨c0,c1,c2⟩:=op_cells ho0
 have hlt:=lt_of_block ho0
 have HB2:=xhd (hb1w.alloc hb1w.size (.cells #[.string s, .int .i64 2, .int .i64 lo, .int .i64 hi, .int .i64 lo2, .int .i64 hi2] 201))
 have HO2:=xhd ((Below.heap_alloc w1 (.cells #[.string s, .int .i64 2, .int .i64 lo, .int .i64 hi, .int .i64 lo2, .int .i64 hi2] 201) _ hlt).trans ho0)
 have HS2:=xhd (heap_alloc_new w1 (.cells #[.string s, .int .i64 2, .int .i64 lo, .int .i64 hi, .int .i64 lo2, .int .i64 hi2] 201))
 clear hb1 hb1w ho0
 go_wp2_with fail
 with_reducible refine (HNM.out _).mono ?_
 rintro r w3 ⟨rfl,hb3⟩
 have HW0:=xhd (OWI.start HB2.out HO2.out HS2.out hb3 HX.out)
 have hs3:=(hb3.block _ (lt_of_block HS2.out)).trans HS2.out
 have ho3:=(hb3.block _ (lt_of_block HO2.out)).trans HO2.out
 clear c0 c1 c2
 obtain⟨c0,c1,c2⟩:=op_cells ho3
 obtain⟨d0,d1,d2,d3,d4,d5⟩:=six_cells hs3
 have hl3:=lt_of_block hs3
 have hlo3:=lt_of_block ho3
 clear hb3 hs3 ho3
 go_wp2_with fail
 with_reducible refine (HPN.out _ _).mono ?_
 rintro r w4a ⟨rfl,hb⟩
 have HW4a:=xhd (HW0.out.more hb)
 clear hb c0 c1 c2 d0 d1 d2 d3 d4 d5
 go_wp2_with (at_builtin;refine wpList_append_own _ rfl _ _ 50 rfl w.heap.size 95 i0 (.agg #[.int .i64 0, .string ⟨#[]⟩, .int .i64 0, .int .i64 0]) 4 40 Tryz.underlying50 hi0 hz0 hz1 hz2 rfl (by decide) _ _ _ rfl (row_below HW4a.out.row ((Below.refl _ _).alloc (Nat.le_refl _) _)) ⟨_,0,none⟩ 1 1 [.int .i64 2, .string ⟨#[]⟩, .int .i64 a, .int .i64 0] rfl rfl ?c1 ?c2 ?c3 ?c4 ?c5 ?_)
 case c1=>first|exact word_new _ _ _ _ _ _|exact word_at (by simp) _ _ _ _ _
 case c2=>exact word_ones _ _ _ _
 case c3=>((try simp only [List.length_append]);(try simp only [List.length_cons]);(try simp only [List.length_nil]);unfold maxLen;omega)
 case c4=>((try simp only [List.length_append]);(try simp only [List.length_cons]);(try simp only [List.length_nil]);omega)
 case c5=>exact Nat.le_trans HW4a.out.bel.size (by simp)
 intro v4 w4 hown hgrow _
 have HW4:=xhd ((HW4a.out.more ((Below.refl _ _).alloc (Nat.le_refl _) _)).push (x:=(2,[],a,0)) hown hgrow)
 obtain⟨ao4,cap4,hv4,_⟩:=ownsRow_shape HW4.out.row
 subst hv4
 clear hown hgrow
 obtain⟨c0,c1,c2⟩:=op_cells HW4.out.opb
 obtain⟨d0,d1,d2,d3,d4,d5⟩:=six_cells HW4.out.shp
 go_wp2_with fail
 with_reducible refine (HPN.out _ _).mono ?_
 rintro r w6a ⟨rfl,hb⟩
 have HW6a:=xhd (HW4.out.more hb)
 clear hb c0 c1 c2 d0 d1 d2 d3 d4 d5
 go_wp2_with (at_builtin;refine wpList_append_own _ rfl _ _ 50 rfl w.heap.size 95 i0 (.agg #[.int .i64 0, .string ⟨#[]⟩, .int .i64 0, .int .i64 0]) 4 40 Tryz.underlying50 hi0 hz0 hz1 hz2 rfl (by decide) _ _ _ rfl (row_below HW6a.out.row ((Below.refl _ _).alloc (Nat.le_refl _) _)) ⟨_,0,none⟩ 1 1 [.int .i64 2, .string ⟨#[]⟩, .int .i64 b, .int .i64 0] rfl rfl ?c1 ?c2 ?c3 ?c4 ?c5 ?_)
 case c1=>first|exact word_new _ _ _ _ _ _|exact word_at (by simp) _ _ _ _ _
 case c2=>exact word_ones _ _ _ _
 case c3=>((try simp only [List.length_append]);(try simp only [List.length_cons]);(try simp only [List.length_nil]);unfold maxLen;omega)
 case c4=>((try simp only [List.length_append]);(try simp only [List.length_cons]);(try simp only [List.length_nil]);omega)
 case c5=>exact Nat.le_trans HW6a.out.bel.size (by simp)
 intro v6 w6 hown hgrow _
 have HW6:=xhd ((HW6a.out.more ((Below.refl _ _).alloc (Nat.le_refl _) _)).push (x:=(2,[],b,0)) hown hgrow)
 obtain⟨ao6,cap6,hv6,_⟩:=ownsRow_shape HW6.out.row
 subst hv6
 clear hown hgrow
 obtain⟨c0,c1,c2⟩:=op_cells HW6.out.opb
 obtain⟨d0,d1,d2,d3,d4,d5⟩:=six_cells HW6.out.shp
 go_wp2_with fail
 with_reducible refine (HMK.out _).mono ?_
 rintro r w8 ⟨rfl,hb8⟩
 have HW8:=xhd (HW6.out.more hb8)
 clear hb8 c0 c1 c2 d0 d1 d2 d3 d4 d5
 go_wp2_with (at_builtin;refine wpList_append_own _ rfl _ _ 50 rfl w.heap.size 95 i0 (.agg #[.int .i64 0, .string ⟨#[]⟩, .int .i64 0, .int .i64 0]) 4 40 Tryz.underlying50 hi0 hz0 hz1 hz2 rfl (by decide) _ _ _ rfl (row_below HW8.out.row ((Below.refl _ _).alloc (Nat.le_refl _) _)) ⟨_,0,none⟩ 1 1 [.int .i64 3, .string ⟨#[59]⟩, .int .i64 0, .int .i64 0] rfl rfl ?c1 ?c2 ?c3 ?c4 ?c5 ?_)
 case c1=>first|exact word_new _ _ _ _ _ _|exact word_at (by simp) _ _ _ _ _
 case c2=>exact word_ones _ _ _ _
 case c3=>((try simp only [List.length_append]);(try simp only [List.length_cons]);(try simp only [List.length_nil]);unfold maxLen;omega)
 case c4=>((try simp only [List.length_append]);(try simp only [List.length_cons]);(try simp only [List.length_nil]);omega)
 case c5=>exact Nat.le_trans HW8.out.bel.size (by simp)
 intro v9 w9 hown hgrow _
 have HW9:=xhd ((HW8.out.more ((Below.refl _ _).alloc (Nat.le_refl _) _)).push (x:=(3,[59],0,0)) hown hgrow)
 clear hown hgrow
 go_wp2
 go_ret
 exact⟨_,rfl,HW9.out.row,HW9.out.bel⟩
theorem opw_any (k a b:Int) (w:World):Calls Tryz.prog 95 #[.agg #[.int .i64 k, .int .i64 a, .int .i64 b]] w (WordsP (opW (k,a,b)) w):=by
 rcases shN_is3 k with h|h|h
 ·exact opw_n0 k a b h w
 ·exact opw_n1 k a b h w
 ·exact opw_n2 k a b h w
def PrintP (r:List By×Int) (w:World) (e:Ending) (w':World):Prop:=e= .returned (.tuple #[.string ⟨r.1.toArray⟩, .int .i64 r.2])∧Below w.heap.size w w'
theorem name_len (k:Int):(nameR k).length≤40:=by
 by_cases h:nameR k=[]
 ·rw [h];decide
 ·rcases name_kinds h with h|h|h|h|h|h|h|h|h|h|h<;>subst h<;>decide
theorem opW_len (o:Opn):(opW o).length≤4:=by
 unfold opW
 split<;>split<;>simp
theorem opW_short (o:Opn):∀x ∈ opW o,x.2.1.length≤40:=by
 intro x hx
 unfold opW at hx
 simp only [List.mem_cons,List.mem_append,List.not_mem_nil,or_false] at hx
 rcases hx with rfl|hx|hx|rfl
 ·exact name_len _
 ·split at hx
  ·simp only [List.mem_cons,List.not_mem_nil,or_false] at hx;subst hx;exact Nat.zero_le _
  ·simp at hx
 ·split at hx
  ·simp only [List.mem_cons,List.not_mem_nil,or_false] at hx;subst hx;exact Nat.zero_le _
  ·simp at hx
 ·decide
theorem opsW_len:∀L:List Opn,(L.flatMap opW).length≤L.length*4
 |[]=>Nat.le_refl _
 |o::L=>by
  have:=opsW_len L
  have:=opW_len o
  simp only [List.flatMap_cons,List.length_append,List.length_cons]
  omega
theorem words_len {p:Prg} (h:mayR p=true):(wordsR p).length≤60:=by
 obtain⟨f,L⟩:=p
 simp only [mayR,Bool.and_eq_true,decide_eq_true_eq] at h
 have:=opsW_len L
 rw [words_head]
 simp only [List.length_append,List.length_cons,List.length_nil]
 have:(headR f).length≤3:=by cases f<;>decide
 omega
theorem words_short (p:Prg):∀x ∈ wordsR p,x.2.1.length≤40:=by
 obtain⟨f,L⟩:=p
 intro x hx
 rw [words_head] at hx
 simp only [List.mem_append,List.mem_cons,List.not_mem_nil,or_false] at hx
 rcases hx with (hx|hx) |rfl
 ·cases f<;>simp [headR] at hx
  ·rcases hx with rfl|rfl<;>decide
  ·rcases hx with rfl|rfl|rfl<;>decide
 ·obtain⟨o,_,ho⟩:=List.mem_flatMap.1 hx
  exact opW_short o x ho
 ·decide
structure WLI (w wr:World) (K:Nat) (pv:Array Value) (v:Value) (ws:List Wd):Prop where
 row:WRow w.heap.size wr v ws
 t:Turned [] w wr
 box:wr.heap[w.heap.size]?=some (.cells pv 49 (0,0))
 lst:wr.heap[K]?=some (.cells #[v] 50 (0,0))
 kne:w.heap.size < K
theorem WLI.more {w wr wr':World} {K:Nat} {pv:Array Value} {v:Value} {ws:List Wd} (h:WLI w wr K pv v ws) (hb:Below wr.heap.size wr wr'):WLI w wr' K pv v ws:=
 ⟨row_below h.row hb,h.t.trans (turned_below0 hb) (Newer.refl _ _),(hb.block _ (lt_of_block h.box)).trans h.box,(hb.block _ (lt_of_block h.lst)).trans h.lst,h.kne⟩
theorem WLI.mild {w A B:World} {K N:Nat} {pv:Array Value} {v:Value} {ws:List Wd} (h:WLI w A K pv v ws) (m:Mild [] N A B) (hN:w.heap.size≤N):WLI w B K pv v ws:=by
 refine⟨ownsRow_same h.row (fun k hk _=>?_),h.t.mild m hN (by simp),m.cells h.box (by simp),m.cells h.lst (by simp),h.kne⟩
 obtain⟨cur,hc⟩:=ownsRow_type h.row k hk
 rw [m.cells hc (by simp),hc]
theorem row_up {w:World} {base:Nat} {e:TypeId} {size:Nat} {v:Value} {n:Nat} {xs:List Value} (h:w.ownsRow 0 e size v n xs) (hb:∀g ∈ v.ownBlock.toList,base≤g):w.ownsRow base e size v n xs:=by
 refine⟨h.1,?_⟩
 rcases h.2 with h2|⟨g,cap,cur,rfl,_,rest⟩
 ·exact .inl h2
 ·exact .inr ⟨g,cap,cur,rfl,hb g (by simp [Value.ownBlock]),rest⟩
theorem WLI.grown {w wx w4:World} {K:Nat} {pv:Array Value} {v:Value} {ws:List Wd} (h:WLI w wx K pv v ws) (hg:wx.grownBy w4 v.ownBlock):
  w4.heap[w.heap.size]?=some (.cells pv 49 (0,0))∧w4.heap[K]?=some (.cells #[v] 50 (0,0))∧Turned [] w w4:=
 ⟨(hg.block _ (lt_of_block h.box) (block_off h.box h.row (by decide))).trans h.box,(hg.block _ (lt_of_block h.lst) (block_off h.lst h.row (by decide))).trans h.lst,
   h.t.grown hg (fun k hk=> .inr ((h.row.lt k hk).1))⟩
theorem WLI.push {w wx w4:World} {K:Nat} {pv:Array Value} {v v':Value} {ws xs:List Wd} {m:Nat} (h:WLI w wx K pv v ws) (hm:xs.length=m)
  (hown:w4.ownsRow 0 95 4 v' (ws.length+m) (wdsC ws++wdsC xs)) (hg:wx.grownBy w4 v.ownBlock) (hnew:∀g ∈ v'.ownBlock.toList,g ∈ v.ownBlock.toList∨wx.heap.size≤g):WLI w (w4.setCell ⟨K,0,none⟩ v') K pv v' (ws++xs):=by
 obtain⟨g1,g2,g3⟩:=h.grown hg
 have hrow:WRow w.heap.size w4 v' (ws++xs):=by
  unfold WRow
  rw [List.length_append,hm,wdsC,List.flatMap_append]
  refine row_up hown (fun g hx=>?_)
  rcases hnew g hx with h1|h1
  ·exact (h.row.lt g (by simpa using h1)).1
  ·exact Nat.le_trans h.t.size h1
 have hk:=h.kne
 have hoff:=block_off g2 hrow (by decide)
 refine⟨ownsRow_same hrow (fun k hk2 _=>Below.heap_setCell _ _ _ _ ?_),g3.setCell (.inr (by show w.heap.size≤K;omega)) _,(Below.heap_setCell _ _ _ _ (by show w.heap.size≠K;omega)).trans g1,?_,hk⟩
 ·show k≠K
  rintro rfl
  exact hoff (by simpa using hk2:v'.ownBlock=some k).symm
 ·rw [heap_setCell_same _ _ _ _ _ _ g2]
  rfl
theorem WLI.start {w w1 w3:World} {pv:Array Value} {p q r t:Value} {x:Wd} (hx:wdC x=[p,q,r,t]) (h1:w1.heap[w.heap.size]?=some (.cells pv 49 (0,0))) (hb:Below w.heap.size w w1) (h3:Below w1.heap.size w1 w3):
  WLI w ((w3.alloc (.cells #[p,q,r,t] 95)).alloc (.cells #[.slice (some ⟨w3.heap.size,0,none⟩) 1 1] 50)) (w3.heap.size+1) pv (.slice (some ⟨w3.heap.size,0,none⟩) 1 1) [x]:=by
 have hb3:Below w.heap.size w w3:=hb.trans (h3.mono hb.size)
 have hl:=lt_of_block h1
 have hs:=h3.size
 have hz:=heap_alloc_new (w3.alloc (.cells #[p,q,r,t] 95)) (.cells #[.slice (some ⟨w3.heap.size,0,none⟩) 1 1] 50)
 rw [World.size_alloc] at hz
 refine⟨(first_row w3 _ hb3.size _ _ _ _ _ hx).alloc _,turned_below0 ((hb3.alloc hb3.size _).alloc (by simp;omega) _),?_,hz,by omega⟩
 exact (Below.heap_alloc _ _ _ (by simp;omega)).trans ((Below.heap_alloc _ _ _ (by omega)).trans ((h3.block _ hl).trans h1))
structure WLJ (w W:World) (K N n₀:Nat) (pv:Array Value) (v:Value) (ws:List Wd):Prop where
 i:WLI w W K pv v ws
 g:∀g ∈ v.ownBlock.toList,g < n₀∨N≤g
 z:N≤W.heap.size
theorem WLJ.mild {w A B:World} {K N n₀ M:Nat} {pv:Array Value} {v:Value} {ws:List Wd} (h:WLJ w A K N n₀ pv v ws) (m:Mild [] M A B) (hM:w.heap.size≤M):WLJ w B K N n₀ pv v ws:=
 ⟨h.i.mild m hM,h.g,Nat.le_trans h.z m.size⟩
theorem WLJ.round {w W V1 w4:World} {K N n₀:Nat} {pv:Array Value} {v v':Value} {ws xs:List Wd} {m:Nat} (h:WLJ w W K N n₀ pv v ws) (hK:K < n₀) (hb:Below W.heap.size W V1) (hm:xs.length=m)
  (hown:w4.ownsRow 0 95 4 v' (ws.length+m) (wdsC ws++wdsC xs)) (hg:V1.grownBy w4 v.ownBlock) (hnew:∀g ∈ v'.ownBlock.toList,g ∈ v.ownBlock.toList∨V1.heap.size≤g):
  (∀B,KeepsFrom B W (w4.setCell ⟨K,0,none⟩ v'))∧(∀j,n₀≤j→j < N→(w4.setCell ⟨K,0,none⟩ v').heap[j]?=W.heap[j]?)∧WLJ w (w4.setCell ⟨K,0,none⟩ v') K N n₀ pv v' (ws++xs):=by
 have h1:=h.i.more hb
 have hz:=h.z
 refine⟨fun B=>(keeps_below hb).trans (((KeepsOthers.of_grownBy hg (fun j o hj ho=>?_)).trans (KeepsOthers.setCell _ _ _)).from _),fun j h0 hN=>?_,h1.push hm hown hg hnew,fun g hx=>?_,?_⟩
 ·obtain⟨cur,hc⟩:=ownsRow_type h1.row j (by simp [hj])
  rw [hc] at ho
  cases ho
  rfl
 ·refine (Below.heap_setCell _ _ _ _ (by show j≠K;omega)).trans ((hg.block j (Nat.lt_of_lt_of_le (by omega) hb.size) (fun e=>?_)).trans (hb.block j (by omega)))
  rcases h.g j (by simp [←e]) with hh|hh<;>omega
 ·rcases hnew g hx with hh|hh
  ·exact h.g g hh
  ·have:=hb.size
   exact .inr (by omega)
 ·have:=hb.size
  have:=hg.size
  simp [World.setCell]
  omega
theorem wdsC_one (L:List Wd):∀u ∈ wdsC L,u.oneCell'=true:=by
 intro u hu
 obtain⟨x,_,hx⟩:=List.mem_flatMap.1 hu
 simp [wdC] at hx
 rcases hx with rfl|rfl|rfl|rfl<;>rfl
theorem zip_len {L:List Opn} {pre:List (Opn×Nat)} {x:Opn×Nat} (h:(pre++[x]) <+:L.zipIdx):pre.length+1≤L.length:=by
 have:=h.length_le
 simpa [List.length_zipIdx] using this
theorem flat_len:∀pre:List (Opn×Nat),(pre.flatMap (fun x=>opW x.1)).length≤pre.length*4
 |[]=>Nat.le_refl _
 |x::pre=>by
  have h1:=flat_len pre
  have h2:=opW_len x.1
  simp only [List.flatMap_cons,List.length_append,List.length_cons] at h1 ⊢
  omega
theorem flat_zip (L:List Opn):L.zipIdx.flatMap (fun x=>opW x.1)=L.flatMap opW:=by
 have h:∀(L:List Opn) (k:Nat),(L.zipIdx k).flatMap (fun x=>opW x.1)=L.flatMap opW:=fun L=>by
  induction L with
  |nil=>intro k;rfl
  |cons x L ih=>
   intro k
   rw [List.zipIdx_cons,List.flatMap_cons,List.flatMap_cons,ih]
 exact h L 0
end Go.Proofs.YtbnhnnccioljhaaGreatDoor
