/-
  How many digits a text begins with; how long a remark is.
  The program's skip.
  DERIVED: THE SHELF's CONTRACTS AT THIS DUMP, IN PLAIN WORDS (tools/lay-plain.mjs out of 'TryzShelf.lean', which tools/lay-shelf.mjs wrote): THE SAME DECLARATIONS UNDER THE SAME NAMES: 'import', 'namespace', 'open', 'def', 'theorem' AND NOTHING ELSE: no command of the shelf's: FOR A HAND-IN. Each laying: the table of numbers ('.._ren') and one theorem, a field a fact of the dump's own or the kernel's comparison; each contract: ONE APPLICATION.
  Small letters, for the program.
  How many small letters a text begins with.
  The program's isName, isMark.
  The program's isNum.
  Text in memory of its own.
  The program's cut.
  What the library's Atoi answers.
-/
import Derived.Test.YtbnhnnccioljhaaGreatDoorZAI
import Derived.Shelf.Strconv.Atoi
import Derived.Shelf.Strconv.Itoa0
import Derived.Shelf.Strconv.Itoa1
import Derived.Shelf.LaysM
import Derived.Shelf.Strconv.Itoa2
import Derived.Shelf.Strconv.Itoa3
import Derived.Test.YtbnhnnccioljhaaGreatDoorProg
import Derived.Test.YtbnhnnccioljhaaGreatDoorZAA
import Derived.Test.YtbnhnnccioljhaaGreatDoorZAl
set_option maxRecDepth 100000
set_option maxHeartbeats 25600000
namespace Go.Proofs.YtbnhnnccioljhaaGreatDoor
open Go.RowKit
theorem run_dig (s:ByteArray) (w:World) (hs:s.size≤maxLen):
  Calls Tryz.prog 120 #[.string s, .func (.func 123) #[] #[]] w fun e w'=>e= .returned (.int .i64 (s.data.toList.takeWhile isDig).length)∧w'=w:=by
 unfold maxLen at hs
 have HF:=xhd (pdig_any)
 go_enter Tryz.func120,Tryz.ntmps120
 go_wp2
 go_loop [5] (fun n=>∃k:Nat,k≤s.size∧n= .int .i64 k∧Hid ((s.data.toList.takeWhile isDig).length=k+((s.data.toList.drop k).takeWhile isDig).length)) (fun n=>s.size - (intOf n).toNat)
 case atStart=>exact⟨0,Nat.zero_le _,rfl,by unfold Hid;simp⟩
 case round=>
  obtain⟨k,hk,rfl,HK⟩:=hrel
  by_cases hlt:k < s.size
  ·have HD:=xhd (byte_drop s k hlt)
   have HQ:=xhd (HF.out (s[k]) w)
   obtain⟨c,hc⟩:∃c,s[k]=c:=⟨_,rfl⟩
   rw [hc] at HD HQ
   cases hq:isDig c with
   |true=>
    rw [hq] at HQ
    have HE:=xhd hq
    clear hq
    go_wp2_with fail
    with_reducible refine HQ.out.mono ?_
    rintro e w1 ⟨rfl,rfl⟩
    go_wp2
    go_round
    case rel=>exact⟨k+1,by omega,by go_num,by
     have h:=HK.out
     rw [HD.out,List.takeWhile_cons,if_pos HE.out,List.length_cons] at h
     unfold Hid
     omega⟩
    case measure=>simp [intOf];omega
   |false=>
    rw [hq] at HQ
    have HE:=xhd hq
    clear hq
    go_wp2_with fail
    with_reducible refine HQ.out.mono ?_
    rintro e w1 ⟨rfl,rfl⟩
    go_wp2
    go_ret
    have h:=HK.out
    rw [HD.out,List.takeWhile_cons,if_neg (by rw [HE.out];decide)] at h
    exact⟨by rw [h];rfl,rfl⟩
  ·go_wp2
   go_ret
   have h:=HK.out
   rw [drop_end s k (by omega)] at h
   exact⟨by rw [h];rfl,rfl⟩
theorem run_rem (s:ByteArray) (w:World) (hs:s.size≤maxLen):
  Calls Tryz.prog 120 #[.string s, .func (.func 121) #[] #[]] w fun e w'=>e= .returned (.int .i64 (s.data.toList.takeWhile not10).length)∧w'=w:=by
 unfold maxLen at hs
 have HF:=xhd (prem_any)
 go_enter Tryz.func120,Tryz.ntmps120
 go_wp2
 go_loop [5] (fun n=>∃k:Nat,k≤s.size∧n= .int .i64 k∧Hid ((s.data.toList.takeWhile not10).length=k+((s.data.toList.drop k).takeWhile not10).length)) (fun n=>s.size - (intOf n).toNat)
 case atStart=>exact⟨0,Nat.zero_le _,rfl,by unfold Hid;simp⟩
 case round=>
  obtain⟨k,hk,rfl,HK⟩:=hrel
  by_cases hlt:k < s.size
  ·have HD:=xhd (byte_drop s k hlt)
   have HQ:=xhd (HF.out (s[k]) w)
   obtain⟨c,hc⟩:∃c,s[k]=c:=⟨_,rfl⟩
   rw [hc] at HD HQ
   cases hq:not10 c with
   |true=>
    rw [hq] at HQ
    have HE:=xhd hq
    clear hq
    go_wp2_with fail
    with_reducible refine HQ.out.mono ?_
    rintro e w1 ⟨rfl,rfl⟩
    go_wp2
    go_round
    case rel=>exact⟨k+1,by omega,by go_num,by
     have h:=HK.out
     rw [HD.out,List.takeWhile_cons,if_pos HE.out,List.length_cons] at h
     unfold Hid
     omega⟩
    case measure=>simp [intOf];omega
   |false=>
    rw [hq] at HQ
    have HE:=xhd hq
    clear hq
    go_wp2_with fail
    with_reducible refine HQ.out.mono ?_
    rintro e w1 ⟨rfl,rfl⟩
    go_wp2
    go_ret
    have h:=HK.out
    rw [HD.out,List.takeWhile_cons,if_neg (by rw [HE.out];decide)] at h
    exact⟨by rw [h];rfl,rfl⟩
  ·go_wp2
   go_ret
   have h:=HK.out
   rw [drop_end s k (by omega)] at h
   exact⟨by rw [h];rfl,rfl⟩
theorem skip_any (s:ByteArray) (p:Nat) (w:World) (hp:p≤s.size) (hs:s.size≤maxLen):
  Calls Tryz.prog 63 #[.string s, .int .i64 p] w fun e w'=>e= .returned (.int .i64 (p+skipN (s.data.toList.drop p):Nat))∧w'=w:=by
 have hs':=hs
 unfold maxLen at hs
 obtain⟨T,hT⟩:∃T,p+skipN (s.data.toList.drop p)=T:=⟨_,rfl⟩
 rw [hT]
 have HT:=xhd hT
 clear hT
 go_enter Tryz.func63,Tryz.ntmps63
 go_wp2
 go_loop [1] (fun a=>∃k:Nat,k≤s.size∧a= .int .i64 k∧Hid (k+skipN (s.data.toList.drop k)=T)) (fun a=>s.size - (intOf a).toNat)
 case atStart=>exact⟨p,hp,rfl,HT⟩
 case round=>
  obtain⟨k,hk,rfl,HK⟩:=hrel
  by_cases hlt:k < s.size
  ·have HD:=xhd (byte_drop s k hlt)
   have HQ:=xhd (pbl_any (s[k]) w)
   have HR:=xhd (run_rem (s.extract k s.size) w (by rw [size_from];unfold maxLen;omega))
   have HL:=xhd (show ((s.extract k s.size).data.toList.takeWhile not10).length≤s.size - k by
    rw [bl_from]
    have h1:=(List.takeWhile_sublist (l:=s.data.toList.drop k) not10).length_le
    rw [List.length_drop, ←Lib.size_eq] at h1
    exact h1)
   have HB:=xhd (bl_from s k)
   obtain⟨c,hc⟩:∃c,s[k]=c:=⟨_,rfl⟩
   obtain⟨s',hs'⟩:∃s',s.extract k s.size=s':=⟨_,rfl⟩
   rw [hc] at HD HQ
   rw [hs'] at HR HL HB
   obtain⟨m,hm⟩:∃m,(s'.data.toList.takeWhile not10).length=m:=⟨_,rfl⟩
   rw [hm] at HR HL
   have HM:=xhd hm
   clear hm
   cases hq:isBl c with
   |true=>
    rw [hq] at HQ
    have HE:=xhd hq
    clear hq hs'
    go_wp2_with fail
    with_reducible refine HQ.out.mono ?_
    rintro e w1 ⟨rfl,rfl⟩
    go_wp2
    go_round
    case rel=>exact⟨k+1,by omega,by go_num,by
     have h:=HK.out
     rw [HD.out,skip_blank HE.out] at h
     unfold Hid
     omega⟩
    case measure=>simp [intOf];omega
   |false=>
    rw [hq] at HQ
    have HE:=xhd hq
    clear hq
    by_cases h35:c.toNat=35
    ·have HF:=xhd h35
     have d1:((c.toNat:Int) == 35)=true:=by simp [h35]
     clear h35
     go_wp2_with fail
     with_reducible refine HQ.out.mono ?_
     rintro e w1 ⟨rfl,rfl⟩
     go_wp2_with fail
     with_reducible refine HR.out.mono ?_
     rintro e w1 ⟨rfl,rfl⟩
     have hl:=HL.out
     have hl1:1≤m:=by
      have h:=HM.out
      rw [HB.out,HD.out,List.takeWhile_cons,if_pos (by simp [not10,HF.out])] at h
      rw [←h]
      simp
     go_wp2
     go_round
     case rel=>exact⟨k+m,by omega,by go_num,by
      have h:=HK.out
      rw [HD.out,skip_rem HE.out HF.out] at h
      have h2:=HM.out
      rw [HB.out,HD.out,List.takeWhile_cons,if_pos (by simp [not10,HF.out]),List.length_cons] at h2
      have e:s.data.toList.drop (k+m)=(s.data.toList.drop (k+1)).dropWhile not10:=by
       rw [←drop_take_len,List.drop_drop]
       congr 1
       omega
      unfold Hid
      rw [e]
      omega⟩
     case measure=>simp [intOf];omega
    ·have HF:=xhd h35
     have d1:((c.toNat:Int) == 35)=false:=by simp;omega
     clear h35
     go_wp2_with fail
     with_reducible refine HQ.out.mono ?_
     rintro e w1 ⟨rfl,rfl⟩
     go_wp2
     go_ret
     have h:=HK.out
     rw [HD.out,skip_stop HE.out HF.out] at h
     exact⟨by rw [←h];rfl,rfl⟩
  ·go_wp2
   go_ret
   have h:=HK.out
   rw [drop_end s k (by omega),skip_nil] at h
   exact⟨by rw [←h];rfl,rfl⟩
end Go.Proofs.YtbnhnnccioljhaaGreatDoor
namespace Go.Proofs
open Go.Shelf
def Tryz.lays172_ren:Go.Shelf.Ren:=⟨fun|172=>125|244=>158|245=>159|247=>172|279=>173|280=>174|281=>175|282=>176|287=>186|316=>187|171=>103|205=>188|321=>198|322=>199|243=>150|246=>166|283=>181|284=>182|285=>183|286=>184|129=>193|317=>192|318=>194|319=>195|320=>196|337=>201|338=>202|n=>n,fun|9=>9|3=>3|75=>181|76=>182|4=>4|5=>5|167=>220|37=>93|0=>0|85=>221|2=>2|168=>223|53=>229|175=>235|46=>237|210=>239|127=>250|145=>253|143=>251|21=>21|171=>228|173=>232|212=>244|51=>245|20=>20|213=>246|232=>255|233=>256|80=>257|n=>n,fun|15=>0|16=>1|17=>2|18=>3|19=>4|n=>n⟩
theorem Tryz.lays172:Go.Proofs.Lays.n172 Tryz.prog Tryz.lays172_ren:= {
 mixed:=by kernel_rfl
 f129:=Tryz.func193.trans (congrArg some (by kernel_rfl))
 f171:=Tryz.func103.trans (congrArg some (by kernel_rfl))
 f172:=Tryz.func125.trans (congrArg some (by kernel_rfl))
 f205:=Tryz.func188.trans (congrArg some (by kernel_rfl))
 f243:=Tryz.func150.trans (congrArg some (by kernel_rfl))
 f244:=Tryz.func158.trans (congrArg some (by kernel_rfl))
 f245:=Tryz.func159.trans (congrArg some (by kernel_rfl))
 f246:=Tryz.func166.trans (congrArg some (by kernel_rfl))
 f247:=Tryz.func172.trans (congrArg some (by kernel_rfl))
 f279:=Tryz.func173.trans (congrArg some (by kernel_rfl))
 f280:=Tryz.func174.trans (congrArg some (by kernel_rfl))
 f281:=Tryz.func175.trans (congrArg some (by kernel_rfl))
 f282:=Tryz.func176.trans (congrArg some (by kernel_rfl))
 f283:=Tryz.func181.trans (congrArg some (by kernel_rfl))
 f284:=Tryz.func182.trans (congrArg some (by kernel_rfl))
 f285:=Tryz.func183.trans (congrArg some (by kernel_rfl))
 f286:=Tryz.func184.trans (congrArg some (by kernel_rfl))
 f287:=Tryz.func186.trans (congrArg some (by kernel_rfl))
 f316:=Tryz.func187.trans (congrArg some (by kernel_rfl))
 f317:=Tryz.func192.trans (congrArg some (by kernel_rfl))
 f318:=Tryz.func194.trans (congrArg some (by kernel_rfl))
 f319:=Tryz.func195.trans (congrArg some (by kernel_rfl))
 f320:=Tryz.func196.trans (congrArg some (by kernel_rfl))
 f321:=Tryz.func198.trans (congrArg some (by kernel_rfl))
 f322:=Tryz.func199.trans (congrArg some (by kernel_rfl))
 f337:=Tryz.func201.trans (congrArg some (by kernel_rfl))
 f338:=Tryz.func202.trans (congrArg some (by kernel_rfl))
 t0:=Tryz.underlying0
 a0:=Tryz.isAgg0
 z0:=Tryz.sizeOf0
 v0:=Tryz.zeroValue0
 t2:=Tryz.underlying2
 a2:=Tryz.isAgg2
 z2:=Tryz.sizeOf2
 v2:=Tryz.zeroValue2
 t3:=Tryz.underlying3
 a3:=Tryz.isAgg3
 z3:=Tryz.sizeOf3
 v3:=Tryz.zeroValue3
 t4:=Tryz.underlying4
 a4:=Tryz.isAgg4
 z4:=Tryz.sizeOf4
 v4:=Tryz.zeroValue4
 t5:=Tryz.underlying5
 a5:=Tryz.isAgg5
 z5:=Tryz.sizeOf5
 v5:=Tryz.zeroValue5
 t9:=Tryz.underlying9
 a9:=Tryz.isAgg9
 z9:=Tryz.sizeOf9
 v9:=Tryz.zeroValue9
 t20:=Tryz.underlying20
 a20:=Tryz.isAgg20
 z20:=Tryz.sizeOf20
 v20:=Tryz.zeroValue20
 t21:=Tryz.underlying21
 a21:=Tryz.isAgg21
 z21:=Tryz.sizeOf21
 v21:=Tryz.zeroValue21
 t37:=Tryz.underlying93
 a37:=Tryz.isAgg93
 z37:=Tryz.sizeOf93
 v37:=Tryz.zeroValue93
 t46:=Tryz.underlying237
 a46:=Tryz.isAgg237
 z46:=Tryz.sizeOf237
 v46:=Tryz.zeroValue237
 t51:=Tryz.underlying245
 a51:=Tryz.isAgg245
 z51:=Tryz.sizeOf245
 v51:=Tryz.zeroValue245
 t53:=Tryz.underlying229
 a53:=Tryz.isAgg229
 z53:=Tryz.sizeOf229
 v53:=Tryz.zeroValue229
 t75:=Tryz.underlying181
 a75:=Tryz.isAgg181
 z75:=Tryz.sizeOf181
 v75:=Tryz.zeroValue181
 t76:=Tryz.underlying182
 a76:=Tryz.isAgg182
 z76:=Tryz.sizeOf182
 v76:=Tryz.zeroValue182
 t85:=Tryz.underlying221
 a85:=Tryz.isAgg221
 z85:=Tryz.sizeOf221
 v85:=Tryz.zeroValue221
 t127:=Tryz.underlying250
 a127:=Tryz.isAgg250
 z127:=Tryz.sizeOf250
 v127:=Tryz.zeroValue250
 t143:=Tryz.underlying251
 a143:=Tryz.isAgg251
 z143:=Tryz.sizeOf251
 v143:=Tryz.zeroValue251
 t145:=Tryz.underlying253
 a145:=Tryz.isAgg253
 z145:=Tryz.sizeOf253
 v145:=Tryz.zeroValue253
 t167:=Tryz.underlying220
 a167:=Tryz.isAgg220
 z167:=Tryz.sizeOf220
 v167:=Tryz.zeroValue220
 t168:=Tryz.underlying223
 a168:=Tryz.isAgg223
 z168:=Tryz.sizeOf223
 v168:=Tryz.zeroValue223
 t171:=Tryz.underlying228
 a171:=Tryz.isAgg228
 z171:=Tryz.sizeOf228
 v171:=Tryz.zeroValue228
 t173:=Tryz.underlying232
 a173:=Tryz.isAgg232
 z173:=Tryz.sizeOf232
 v173:=Tryz.zeroValue232
 t175:=Tryz.underlying235
 a175:=Tryz.isAgg235
 z175:=Tryz.sizeOf235
 v175:=Tryz.zeroValue235
 t210:=Tryz.underlying239
 a210:=Tryz.isAgg239
 z210:=Tryz.sizeOf239
 v210:=Tryz.zeroValue239
 t212:=Tryz.underlying244
 a212:=Tryz.isAgg244
 z212:=Tryz.sizeOf244
 v212:=Tryz.zeroValue244
 t213:=Tryz.underlying246
 a213:=Tryz.isAgg246
 z213:=Tryz.sizeOf246
 t232:=Tryz.underlying255
 a232:=Tryz.isAgg255
 z232:=Tryz.sizeOf255
 v232:=Tryz.zeroValue255
 t233:=Tryz.underlying256
 a233:=Tryz.isAgg256
 z233:=Tryz.sizeOf256
 v233:=Tryz.zeroValue256
 g15:=by kernel_rfl
 g16:=by kernel_rfl
 g17:=by kernel_rfl
 g18:=by kernel_rfl
 g19:=by kernel_rfl }
open Go.RowKit in
theorem Tryz.strconv_Atoi (s:ByteArray) (n:Int) (hl:s.size≤18) (h:Lib.atoi s.data.toList=some n) (w:World):
 Calls Tryz.prog 125 #[.string s] w fun e w'=>e= .returned (.tuple #[.int .i64 n, .nilIface])∧∃t,w'=Lib.bytesWorld w 5 t:=Any.strconv_Atoi Tryz.lays172 s n hl h w
def Tryz.laysM171_ren:Go.Shelf.Ren:=⟨fun|171=>103|243=>150|246=>166|283=>181|284=>182|285=>183|286=>184|129=>193|317=>192|318=>194|319=>195|320=>196|337=>201|338=>202|n=>n,fun|3=>3|9=>9|2=>2|4=>4|171=>228|0=>0|53=>229|37=>93|5=>5|173=>232|212=>244|51=>245|20=>20|213=>246|46=>237|232=>255|233=>256|n=>n,fun|17=>2|18=>3|19=>4|n=>n⟩
theorem Tryz.laysM171:Go.Proofs.LaysM.n171 Tryz.prog Tryz.laysM171_ren:= {
 mixed:=by kernel_rfl
 f129:=Tryz.func193.trans (congrArg some (by kernel_rfl))
 f171:=Tryz.func103.trans (congrArg some (by kernel_rfl))
 f243:=Tryz.func150.trans (congrArg some (by kernel_rfl))
 f246:=Tryz.func166.trans (congrArg some (by kernel_rfl))
 f283:=Tryz.func181.trans (congrArg some (by kernel_rfl))
 f284:=Tryz.func182.trans (congrArg some (by kernel_rfl))
 f285:=Tryz.func183.trans (congrArg some (by kernel_rfl))
 f286:=Tryz.func184.trans (congrArg some (by kernel_rfl))
 f317:=Tryz.func192.trans (congrArg some (by kernel_rfl))
 f318:=Tryz.func194.trans (congrArg some (by kernel_rfl))
 f319:=Tryz.func195.trans (congrArg some (by kernel_rfl))
 f320:=Tryz.func196.trans (congrArg some (by kernel_rfl))
 f337:=Tryz.func201.trans (congrArg some (by kernel_rfl))
 f338:=Tryz.func202.trans (congrArg some (by kernel_rfl))
 t0:=Tryz.underlying0
 a0:=Tryz.isAgg0
 z0:=Tryz.sizeOf0
 v0:=Tryz.zeroValue0
 t2:=Tryz.underlying2
 a2:=Tryz.isAgg2
 z2:=Tryz.sizeOf2
 v2:=Tryz.zeroValue2
 t3:=Tryz.underlying3
 a3:=Tryz.isAgg3
 z3:=Tryz.sizeOf3
 v3:=Tryz.zeroValue3
 t4:=Tryz.underlying4
 a4:=Tryz.isAgg4
 z4:=Tryz.sizeOf4
 v4:=Tryz.zeroValue4
 t5:=Tryz.underlying5
 a5:=Tryz.isAgg5
 z5:=Tryz.sizeOf5
 v5:=Tryz.zeroValue5
 t9:=Tryz.underlying9
 a9:=Tryz.isAgg9
 z9:=Tryz.sizeOf9
 v9:=Tryz.zeroValue9
 t20:=Tryz.underlying20
 a20:=Tryz.isAgg20
 z20:=Tryz.sizeOf20
 v20:=Tryz.zeroValue20
 t37:=Tryz.underlying93
 a37:=Tryz.isAgg93
 z37:=Tryz.sizeOf93
 v37:=Tryz.zeroValue93
 t46:=Tryz.underlying237
 a46:=Tryz.isAgg237
 z46:=Tryz.sizeOf237
 v46:=Tryz.zeroValue237
 t51:=Tryz.underlying245
 a51:=Tryz.isAgg245
 z51:=Tryz.sizeOf245
 v51:=Tryz.zeroValue245
 t53:=Tryz.underlying229
 a53:=Tryz.isAgg229
 z53:=Tryz.sizeOf229
 v53:=Tryz.zeroValue229
 t171:=Tryz.underlying228
 a171:=Tryz.isAgg228
 z171:=Tryz.sizeOf228
 v171:=Tryz.zeroValue228
 t173:=Tryz.underlying232
 a173:=Tryz.isAgg232
 z173:=Tryz.sizeOf232
 v173:=Tryz.zeroValue232
 t212:=Tryz.underlying244
 a212:=Tryz.isAgg244
 z212:=Tryz.sizeOf244
 v212:=Tryz.zeroValue244
 t213:=Tryz.underlying246
 a213:=Tryz.isAgg246
 z213:=Tryz.sizeOf246
 t232:=Tryz.underlying255
 a232:=Tryz.isAgg255
 z232:=Tryz.sizeOf255
 v232:=Tryz.zeroValue255
 t233:=Tryz.underlying256
 a233:=Tryz.isAgg256
 z233:=Tryz.sizeOf256
 v233:=Tryz.zeroValue256
 g17:=by kernel_rfl
 g18:=by kernel_rfl
 g19:=by kernel_rfl
 i0:=by kernel_rfl
 i2:=by kernel_rfl
 i3:=by kernel_rfl
 i4:=by kernel_rfl
 i5:=by kernel_rfl
 i9:=by kernel_rfl
 i20:=by kernel_rfl
 i37:=by kernel_rfl
 i46:=by kernel_rfl
 i51:=by kernel_rfl
 i53:=by kernel_rfl
 i171:=by kernel_rfl
 i173:=by kernel_rfl
 i212:=by kernel_rfl
 i232:=by kernel_rfl
 i233:=by kernel_rfl
 m17:=by kernel_rfl
 m18:=by kernel_rfl
 m19:=by kernel_rfl }
open Go.RowKit Go.Sort Go.Lib in
theorem Tryz.strconv_Itoa (n:Int) (h0: -9223372036854775808≤n) (h1:n≤9223372036854775807) (w:World) (htab:Lib.TabIs Tryz.prog w "internal/strconv.uint64pow10" .u64 Lib.pow10Tab):
 Calls Tryz.prog 103 #[.int .i64 n] w fun e w'=>e= .returned (.string ⟨(Lib.itoa n).toArray⟩)∧∃k os,w'=grow (w.drewN k) os:=Any.strconv_Itoa Tryz.laysM171 n h0 h1 w htab
end Go.Proofs
namespace Go.Proofs.YtbnhnnccioljhaaGreatDoor
open Go.RowKit
theorem plet_z (z:Int) (w:World):Calls Tryz.prog 122 #[.int .u8 z] w fun e w'=>e= .returned (.bool (decide (97≤z)&&decide (z≤122)))∧w'=w:=by
 cases h0:(decide (97≤z))
 all_goals
  go_enter Tryz.func122,Tryz.ntmps122
  go_wp2
  go_ret
  exact⟨rfl,rfl⟩
theorem plet_any (c:By) (w:World):Calls Tryz.prog 122 #[.int .u8 c.toNat] w fun e w'=>e= .returned (.bool (isLet c))∧w'=w:=by
 have h:=plet_z (c.toNat:Int) w
 rw [show decide ((97:Int)≤(c.toNat:Int))=decide (97≤c.toNat) from geb c 97,show decide ((c.toNat:Int)≤(122:Int))=decide (c.toNat≤122) from leb c 122] at h
 exact h
theorem run_let (s:ByteArray) (w:World) (hs:s.size≤maxLen):
  Calls Tryz.prog 120 #[.string s, .func (.func 122) #[] #[]] w fun e w'=>e= .returned (.int .i64 (s.data.toList.takeWhile isLet).length)∧w'=w:=by
 unfold maxLen at hs
 have HF:=xhd (plet_any)
 go_enter Tryz.func120,Tryz.ntmps120
 go_wp2
 go_loop [5] (fun n=>∃k:Nat,k≤s.size∧n= .int .i64 k∧Hid ((s.data.toList.takeWhile isLet).length=k+((s.data.toList.drop k).takeWhile isLet).length)) (fun n=>s.size - (intOf n).toNat)
 case atStart=>exact⟨0,Nat.zero_le _,rfl,by unfold Hid;simp⟩
 case round=>
  obtain⟨k,hk,rfl,HK⟩:=hrel
  by_cases hlt:k < s.size
  ·have HD:=xhd (byte_drop s k hlt)
   have HQ:=xhd (HF.out (s[k]) w)
   obtain⟨c,hc⟩:∃c,s[k]=c:=⟨_,rfl⟩
   rw [hc] at HD HQ
   cases hq:isLet c with
   |true=>
    rw [hq] at HQ
    have HE:=xhd hq
    clear hq
    go_wp2_with fail
    with_reducible refine HQ.out.mono ?_
    rintro e w1 ⟨rfl,rfl⟩
    go_wp2
    go_round
    case rel=>exact⟨k+1,by omega,by go_num,by
     have h:=HK.out
     rw [HD.out,List.takeWhile_cons,if_pos HE.out,List.length_cons] at h
     unfold Hid
     omega⟩
    case measure=>simp [intOf];omega
   |false=>
    rw [hq] at HQ
    have HE:=xhd hq
    clear hq
    go_wp2_with fail
    with_reducible refine HQ.out.mono ?_
    rintro e w1 ⟨rfl,rfl⟩
    go_wp2
    go_ret
    have h:=HK.out
    rw [HD.out,List.takeWhile_cons,if_neg (by rw [HE.out];decide)] at h
    exact⟨by rw [h];rfl,rfl⟩
  ·go_wp2
   go_ret
   have h:=HK.out
   rw [drop_end s k (by omega)] at h
   exact⟨by rw [h];rfl,rfl⟩
theorem isName_any (s:ByteArray) (w:World) (hs:s.size≤maxLen):Calls Tryz.prog 101 #[.string s] w fun e w'=>e= .returned (.bool (nameB s.data.toList))∧w'=w:=by
 have HR:=xhd (run_let s w hs)
 have HS:=xhd (Lib.size_eq s)
 unfold nameB
 by_cases h1:1≤s.size
 ·by_cases h2:s.size≤12
  ·rw [←HS.out,decide_eq_true h1,decide_eq_true h2]
   obtain⟨n,hn⟩:∃n,(s.data.toList.takeWhile isLet).length=n:=⟨_,rfl⟩
   rw [hn] at HR ⊢
   clear hn
   cases h3:decide (n=s.size)
   all_goals
    have h4:((n:Int) == (s.size:Int))=decide (n=s.size):=by rw [Bool.eq_iff_iff];simp;omega
    rw [h3] at h4
    clear h3
    go_enter Tryz.func101,Tryz.ntmps101
    go_wp2_with fail
    with_reducible refine HR.out.mono ?_
    rintro e w1 ⟨rfl,rfl⟩
    go_wp2
    go_ret
    exact⟨rfl,rfl⟩
  ·rw [←HS.out,decide_eq_true h1,decide_eq_false h2]
   go_enter Tryz.func101,Tryz.ntmps101
   go_wp2
   go_ret
   exact⟨rfl,rfl⟩
 ·rw [←HS.out,decide_eq_false h1]
  go_enter Tryz.func101,Tryz.ntmps101
  go_wp2
  go_ret
  exact⟨rfl,rfl⟩
theorem isMark_any (s:ByteArray) (w:World):Calls Tryz.prog 104 #[.string s] w fun e w'=>e= .returned (.bool (markB s.data.toList))∧w'=w:=by
 unfold markB
 rw [←Lib.toList_data]
 cases h1:(s.toList == [123])<;>cases h2:(s.toList == [125])<;>cases h3:(s.toList == [59])<;>cases h4:(s.toList == [46])<;>cases h5:(s.toList == [61])
 all_goals
  go_enter Tryz.func104,Tryz.ntmps104
  go_wp2
  go_ret
  exact⟨rfl,rfl⟩
theorem isNum_any (s:ByteArray) (w:World):Calls Tryz.prog 124 #[.string s] w fun e w'=>e= .returned (.bool (numB s.data.toList))∧w'=w:=by
 have HS:=xhd (Lib.size_eq s)
 unfold numB
 rw [←HS.out]
 by_cases h1:s.size=1
 ·rw [decide_eq_true h1]
  have d1:((s.size:Int) == 1)=true:=by simp [h1]
  clear h1
  go_enter Tryz.func124,Tryz.ntmps124
  go_wp2
  go_ret
  exact⟨rfl,rfl⟩
 ·rw [decide_eq_false h1]
  have d1:((s.size:Int) == 1)=false:=by simp;omega
  by_cases h2:1 < s.size
  ·by_cases h3:s.size≤9
   ·rw [decide_eq_true h2,decide_eq_true h3,head_at s (by omega)]
    obtain⟨c,hc⟩:∃c,s[0]=c:=⟨_,rfl⟩
    rw [hc, ←(show ((c.toNat:Int) != 48)=!decide (c.toNat=48) from neb c 48)]
    have hlt:0 < s.size:=by omega
    go_enter Tryz.func124,Tryz.ntmps124
    go_wp2
    go_ret
    exact⟨rfl,rfl⟩
   ·rw [decide_eq_true h2,decide_eq_false h3]
    go_enter Tryz.func124,Tryz.ntmps124
    go_wp2
    go_ret
    exact⟨rfl,rfl⟩
  ·rw [decide_eq_false h2]
   go_enter Tryz.func124,Tryz.ntmps124
   go_wp2
   go_ret
   exact⟨rfl,rfl⟩
theorem conv_own (w:World) (s:ByteArray):∃c,(convert 9 93 (.string s)).run Tryz.prog w= .ok (.slice (some ⟨w.heap.size,0,none⟩) s.size c) (Lib.bytesWorld w 5 s):=by
 exact⟨_,Lib.run_convert_string_bytes w _ _ _ s Tryz.underlying9 Tryz.underlying93 Tryz.underlying5⟩
theorem own_any (s:ByteArray) (w:World):Calls Tryz.prog 102 #[.string s] w fun e w'=>e= .returned (.string s)∧Below w.heap.size w w':=by
 obtain⟨c,h1⟩:=conv_own w s
 have hb:Below w.heap.size w (Lib.bytesWorld w 5 s):=by
  refine⟨rfl,rfl,rfl,by rw [Lib.bytesWorld_size];omega,fun k hk=>Lib.bytesWorld_at_old w _ s k hk⟩
 have h2:=run_convert_bytes_back (P:=Tryz.prog) (Lib.bytesWorld w 5 s) 93 9 5 ⟨w.heap.size,0,none⟩ c s.data.toList Tryz.underlying93 Tryz.underlying5 Tryz.underlying9 (fun j hj=>by
  rw [Addr.add_lit]
  have hj':j < s.size:=by rw [Lib.size_eq];exact hj
  have:=Lib.bytesWorld_cell w 5 s j hj'
  rw [Nat.zero_add,this]
  rw [List.getD_eq_getElem?_getD,List.getElem?_eq_getElem hj]
  rfl)
 rw [Lib.mk_data, ←Lib.size_eq] at h2
 obtain⟨W,hW⟩:∃W,Lib.bytesWorld w 5 s=W:=⟨_,rfl⟩
 rw [hW] at h1 h2 hb
 have HB:=xhd hb
 clear hW hb
 go_enter Tryz.func102,Tryz.ntmps102
 go_wp2
 go_ret
 exact⟨rfl,HB.out⟩
def AtoiSaid:Prop:=∀(s:ByteArray) (n:Int) (w:World),s.size≤18→Lib.atoi s.data.toList=some n→
 Calls Tryz.prog 125 #[.string s] w fun e w'=>e= .returned (.tuple #[.int .i64 n, .nilIface])∧Below w.heap.size w w'
theorem cut_name (s:ByteArray) (w:World) (hs:s.size≤maxLen) (h:nameB (s.data.toList.take (s.data.toList.takeWhile isLet).length)=true):
  Calls Tryz.prog 64 #[.string s] w fun e w'=>e= .returned (.tuple #[.agg #[.int .i64 1, .string (s.extract 0 (s.data.toList.takeWhile isLet).length), .int .i64 0, .int .i64 0], .int .i64 (s.data.toList.takeWhile isLet).length])∧Below w.heap.size w w':=by
 have hn:=run_le s isLet
 have HR:=xhd (fun W=>run_let s W hs)
 rw [←bl_to] at h
 obtain⟨n,hN⟩:∃n,(s.data.toList.takeWhile isLet).length=n:=⟨_,rfl⟩
 rw [hN] at hn HR h ⊢
 have hz:=size_to s n hn
 obtain⟨s1,hs1⟩:∃s1,s.extract 0 n=s1:=⟨_,rfl⟩
 rw [hs1] at h hz ⊢
 have HI:=xhd (fun W=>h ▸ isName_any s1 W (by omega))
 have HO:=xhd (own_any s1)
 unfold maxLen at hs
 clear hN h hz
 go_enter Tryz.func64,Tryz.ntmps64
 go_wp2_with fail
 with_reducible refine (HR.out _).mono ?_
 rintro e w1 ⟨rfl,rfl⟩
 go_wp2_with fail
 with_reducible refine (HI.out _).mono ?_
 rintro e w1 ⟨rfl,rfl⟩
 go_wp2_with fail
 with_reducible refine (HO.out _).mono ?_
 rintro e w2 ⟨rfl,hb⟩
 obtain⟨hc,hf⟩:=bcell hb
 have HB:=xhd hb
 clear hb
 go_wp2
 obtain⟨k1,k2⟩:=word_kept HB.out
 exact bodyPost_ret (word_result rfl rfl rfl (word_stored k1)) rfl ⟨rfl,word_below k2 (Nat.le_refl _) _ _ _ _⟩
theorem cut_num (hA:AtoiSaid) (s:ByteArray) (w:World) (hs:s.size≤maxLen) (h:nameB (s.data.toList.take (s.data.toList.takeWhile isLet).length)=false) (h':numB (s.data.toList.take (s.data.toList.takeWhile isDig).length)=true):
  Calls Tryz.prog 64 #[.string s] w fun e w'=>e= .returned (.tuple #[.agg #[.int .i64 2, .string ⟨#[]⟩, .int .i64 (numR (s.data.toList.take (s.data.toList.takeWhile isDig).length):Nat), .int .i64 0], .int .i64 (s.data.toList.takeWhile isDig).length])∧Below w.heap.size w w':=by
 have hn:=run_le s isLet
 have hm:=run_le s isDig
 have HR:=xhd (fun W=>run_let s W hs)
 have HD:=xhd (fun W=>run_dig s W hs)
 have hlen:numB (s.data.toList.take (s.data.toList.takeWhile isDig).length)=true→(s.data.toList.take (s.data.toList.takeWhile isDig).length).length≤18∧s.data.toList.take (s.data.toList.takeWhile isDig).length≠[]:=by
  intro hx
  constructor
  ·unfold numB at hx
   simp at hx
   simp
   omega
  ·intro e
   rw [e] at hx
   exact absurd hx (by decide)
 obtain⟨hl18,hne⟩:=hlen h'
 have hat:=atoi_digits (l:=s.data.toList.take (s.data.toList.takeWhile isDig).length) (by rw [take_takeWhile];exact takeWhile_all _) hne
 rw [←bl_to] at h h' hl18 hat ⊢
 rw [←Lib.size_eq] at hl18
 have HT:=xhd (fun W=>hA _ _ W hl18 hat)
 clear hat hne hl18 hlen
 obtain⟨n,hN⟩:∃n,(s.data.toList.takeWhile isLet).length=n:=⟨_,rfl⟩
 rw [hN] at hn HR h
 obtain⟨m,hM⟩:∃m,(s.data.toList.takeWhile isDig).length=m:=⟨_,rfl⟩
 rw [hM] at hm HD h' HT ⊢
 have hz:=size_to s n hn
 have hy:=size_to s m hm
 obtain⟨s1,hs1⟩:∃s1,s.extract 0 n=s1:=⟨_,rfl⟩
 rw [hs1] at h hz
 obtain⟨s2,hs2⟩:∃s2,s.extract 0 m=s2:=⟨_,rfl⟩
 rw [hs2] at h' hy HT ⊢
 have HI:=xhd (fun W=>h ▸ isName_any s1 W (by omega))
 have HJ:=xhd (fun W=>h' ▸ isNum_any s2 W)
 obtain⟨v,hv⟩:∃v:Int,((numR s2.data.toList:Nat):Int)=v:=⟨_,rfl⟩
 rw [hv] at HT ⊢
 unfold maxLen at hs
 clear hN hM h h' hz hy hv
 go_enter Tryz.func64,Tryz.ntmps64
 go_wp2_with fail
 with_reducible refine (HR.out _).mono ?_
 rintro e w1 ⟨rfl,rfl⟩
 go_wp2_with fail
 with_reducible refine (HI.out _).mono ?_
 rintro e w1 ⟨rfl,rfl⟩
 go_wp2_with fail
 with_reducible refine (HD.out _).mono ?_
 rintro e w1 ⟨rfl,rfl⟩
 go_wp2_with fail
 with_reducible refine (HJ.out _).mono ?_
 rintro e w1 ⟨rfl,rfl⟩
 go_wp2_with fail
 with_reducible refine (HT.out _).mono ?_
 rintro e w2 ⟨rfl,hb⟩
 obtain⟨hc,hf⟩:=bcell hb
 have HB:=xhd hb
 clear hb
 go_wp2
 obtain⟨k1,k2⟩:=word_kept HB.out
 exact bodyPost_ret (word_result rfl rfl rfl (word_stored k1)) rfl ⟨rfl,word_below k2 (Nat.le_refl _) _ _ _ _⟩
theorem cut_mark (s:ByteArray) (w:World) (h0:0 < s.size) (hs:s.size≤maxLen) (h:nameB (s.data.toList.take (s.data.toList.takeWhile isLet).length)=false) (h':numB (s.data.toList.take (s.data.toList.takeWhile isDig).length)=false) (t:Bool) (ht:markB (s.data.toList.take 1)=t):
  Calls Tryz.prog 64 #[.string s] w fun e w'=>e= .returned (if t then .tuple #[.agg #[.int .i64 3, .string (s.extract 0 1), .int .i64 0, .int .i64 0], .int .i64 1] else .tuple #[.agg #[.int .i64 0, .string ⟨#[]⟩, .int .i64 0, .int .i64 0], .int .i64 0])∧Below w.heap.size w w':=by
 have hn:=run_le s isLet
 have hm:=run_le s isDig
 have HR:=xhd (fun W=>run_let s W hs)
 have HD:=xhd (fun W=>run_dig s W hs)
 rw [←bl_to] at h h' ht
 obtain⟨n,hN⟩:∃n,(s.data.toList.takeWhile isLet).length=n:=⟨_,rfl⟩
 rw [hN] at hn HR h
 obtain⟨m,hM⟩:∃m,(s.data.toList.takeWhile isDig).length=m:=⟨_,rfl⟩
 rw [hM] at hm HD h'
 have hz:=size_to s n hn
 obtain⟨s1,hs1⟩:∃s1,s.extract 0 n=s1:=⟨_,rfl⟩
 rw [hs1] at h hz
 obtain⟨s2,hs2⟩:∃s2,s.extract 0 m=s2:=⟨_,rfl⟩
 rw [hs2] at h'
 obtain⟨s3,hs3⟩:∃s3,s.extract 0 1=s3:=⟨_,rfl⟩
 rw [hs3] at ht ⊢
 have HI:=xhd (fun W=>h ▸ isName_any s1 W (by omega))
 have HJ:=xhd (fun W=>h' ▸ isNum_any s2 W)
 have HM:=xhd (fun W=>ht ▸ isMark_any s3 W)
 have HO:=xhd (own_any s3)
 have hl1:1≤s.size:=h0
 unfold maxLen at hs
 clear hN hM h h' hz ht
 cases t
 all_goals
  first|rw [if_neg (by decide)] |rw [if_pos rfl]
  go_enter Tryz.func64,Tryz.ntmps64
  go_wp2_with fail
  with_reducible refine (HR.out _).mono ?_
  rintro e w1 ⟨rfl,rfl⟩
  go_wp2_with fail
  with_reducible refine (HI.out _).mono ?_
  rintro e w1 ⟨rfl,rfl⟩
  go_wp2_with fail
  with_reducible refine (HD.out _).mono ?_
  rintro e w1 ⟨rfl,rfl⟩
  go_wp2_with fail
  with_reducible refine (HJ.out _).mono ?_
  rintro e w1 ⟨rfl,rfl⟩
  go_wp2_with fail
  with_reducible refine (HM.out _).mono ?_
  rintro e w1 ⟨rfl,rfl⟩
 ·go_wp2
  exact bodyPost_ret (word_result rfl rfl rfl (heap_alloc_new _ _)) rfl ⟨rfl,(Below.refl _ _).alloc (Nat.le_refl _) _⟩
 ·go_wp2_with fail
  with_reducible refine (HO.out _).mono ?_
  rintro e w2 ⟨rfl,hb⟩
  obtain⟨hc,hf⟩:=bcell hb
  have HB:=xhd hb
  clear hb
  go_wp2
  obtain⟨k1,k2⟩:=word_kept HB.out
  exact bodyPost_ret (word_result rfl rfl rfl (word_stored k1)) rfl ⟨rfl,word_below k2 (Nat.le_refl _) _ _ _ _⟩
theorem cut_any (hA:AtoiSaid) (s:ByteArray) (w:World) (h0:0 < s.size) (hs:s.size≤maxLen):
  Calls Tryz.prog 64 #[.string s] w fun e w'=>e= .returned (.tuple #[wdV (cutP s.data.toList).1, .int .i64 (cutP s.data.toList).2])∧Below w.heap.size w w':=by
 unfold cutP
 cases h:nameB (s.data.toList.take (s.data.toList.takeWhile isLet).length) with
 |true=>
  rw [if_pos rfl]
  unfold wdV
  rw [mk_to]
  exact cut_name s w hs h
 |false=>
  rw [if_neg (by decide)]
  cases h':numB (s.data.toList.take (s.data.toList.takeWhile isDig).length) with
  |true=>
   rw [if_pos rfl]
   exact cut_num hA s w hs h h'
  |false=>
   rw [if_neg (by decide)]
   have hm:=cut_mark s w h0 hs h h' _ rfl
   cases ht:markB (s.data.toList.take 1) with
   |true=>
    rw [ht] at hm
    rw [if_pos rfl]
    unfold wdV
    rw [mk_to]
    exact hm
   |false=>
    rw [ht] at hm
    rw [if_neg (by decide)]
    exact hm
theorem atoi_said:AtoiSaid:=fun s n w hl h=>(Tryz.strconv_Atoi s n hl h w).mono fun e w' ⟨he,t,hw⟩=>⟨he,by rw [hw];exact bytes_below w _ t⟩
end Go.Proofs.YtbnhnnccioljhaaGreatDoor
