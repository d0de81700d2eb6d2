import Derived.Shelf.Small.Strs
import Derived.Shelf.Strconv.Itoa4
import Derived.Shelf.Strconv.Clone
import Derived.Shelf.Strconv.AppendIntPublic10
import Derived.Shelf.Bytes.SlClone
import Derived.Test.YticfhckmhcaigaaGreatDoorRows
namespace Go.Proofs
theorem k'{p:Prop}(h:p:=by kernel_rfl):p:=h
abbrev tL:String:=YticfhckmhcaigaaGreatDoor.Rows.allRow.named.headD default
open Go.Shelf
def Tryz.agr:Go.Shelf.Ren:=⟨λ|213=>233|265=>250|n=>n,λ|9=>9|3=>3|n=>n,λ|n=>n⟩
open Go.RowKit in
def Tryz.NU:Go.Shelf.Ren:=⟨λ|106=>201|213=>233|265=>250|n=>n,λ|9=>9|3=>3|n=>n,λ|n=>n⟩
theorem Tryz.ad7:Go.Proofs.Lays.n106 Tryz.prog Tryz.NU:={
 mixed:=by kernel_rfl
 f106:=Tryz.func201.trans (congrArg some k')
 f213:=Tryz.func233.trans (congrArg some k')
 f265:=Tryz.func250.trans (congrArg some k')
 t3:=Tryz.underlying3
 a3:=Tryz.isAgg3
 z3:=Tryz.sizeOf3
 v3:=Tryz.zeroValue3
 t9:=Tryz.underlying9
 a9:=Tryz.isAgg9
 z9:=Tryz.sizeOf9
 v9:=Tryz.zeroValue9}
open Go.RowKit in
theorem Tryz.strings_Compare(a b:ByteArray)(w:World):Calls Tryz.prog 201 #[.string a,.string b] w λe d=>e=.returned (.int .i64 (Lib.compareBytes a.data.toList b.data.toList))/\d=w:=Any.strings_Compare Tryz.ad7 a b w
def Tryz.NV:Go.Shelf.Ren:=⟨λ|129=>195|n=>n,λ|53=>39|3=>3|4=>4|46=>248|5=>5|9=>9|n=>n,λ|n=>n⟩
theorem Tryz.ad8:Go.Proofs.Lays.n129 Tryz.prog Tryz.NV:={
 mixed:=by kernel_rfl
 f129:=Tryz.func195.trans (congrArg some k')
 t3:=Tryz.underlying3
 a3:=Tryz.isAgg3
 z3:=Tryz.sizeOf3
 v3:=Tryz.zeroValue3
 t4:=Tryz.underlying4
 a4:=Tryz.isAgg4
 z4:=Tryz.sizeOf4
 v4:=Tryz.zeroValue4
 t5:=Tryz.underlying5
 a5:=Tryz.isAgg5
 z5:=Tryz.sizeOf5
 v5:=Tryz.zeroValue5
 t9:=Tryz.underlying9
 a9:=Tryz.isAgg9
 z9:=Tryz.sizeOf9
 v9:=Tryz.zeroValue9
 t46:=Tryz.underlying248
 a46:=Tryz.isAgg248
 z46:=Tryz.sizeOf248
 v46:=Tryz.zeroValue248
 t53:=Tryz.underlying39
 a53:=Tryz.isAgg39
 z53:=Tryz.sizeOf39
 v53:=Tryz.zeroValue39}
theorem Tryz.bits_Len64(x:Int)(w:World)(a:0<=x)(b:x<=18446744073709551615):Calls Tryz.prog 195 #[.int .u64 x] w λe d=>e=.returned (.int .i64 (Lib.bitLen x.toNat))/\d=w:=Any.bits_Len64 Tryz.ad8 x w a b
open Go.Lib in
open Go.Lib in
open Go.Lib in
open Go.Lib in
open Go.RowKit Go.Sort Go.Lib in
def Tryz.ad9:Go.Shelf.Ren:=⟨λ|246=>130|283=>156|284=>157|285=>158|286=>159|129=>195|317=>194|318=>196|319=>197|320=>198|337=>231|338=>232|n=>n,λ|2=>2|3=>3|9=>9|4=>4|171=>305|0=>0|53=>39|37=>37|5=>5|173=>307|212=>351|51=>352|20=>20|213=>353|46=>248|232=>394|233=>395|n=>n,λ|17=>0|18=>1|19=>2|n=>n⟩
open Go.RowKit Go.Sort Go.Lib in
open Go.RowKit Go.Sort Go.Lib in
def Tryz.K7:Go.Shelf.Ren:=⟨λ|173=>89|246=>130|283=>156|284=>157|285=>158|286=>159|129=>195|317=>194|318=>196|319=>197|320=>198|337=>231|338=>232|n=>n,λ|2=>2|3=>3|9=>9|4=>4|171=>305|0=>0|53=>39|37=>37|5=>5|173=>307|212=>351|51=>352|20=>20|213=>353|46=>248|232=>394|233=>395|n=>n,λ|17=>0|18=>1|19=>2|n=>n⟩
theorem Tryz.ZM:Go.Proofs.LaysM.n173 Tryz.prog Tryz.K7:={
 mixed:=by kernel_rfl
 f129:=Tryz.func195.trans (congrArg some k')
 f173:=Tryz.func89.trans (congrArg some k')
 f246:=Tryz.func130.trans (congrArg some k')
 f283:=Tryz.func156.trans (congrArg some k')
 f284:=Tryz.func157.trans (congrArg some k')
 f285:=Tryz.func158.trans (congrArg some k')
 f286:=Tryz.func159.trans (congrArg some k')
 f317:=Tryz.func194.trans (congrArg some k')
 f318:=Tryz.func196.trans (congrArg some k')
 f319:=Tryz.func197.trans (congrArg some k')
 f320:=Tryz.func198.trans (congrArg some k')
 f337:=Tryz.func231.trans (congrArg some k')
 f338:=Tryz.func232.trans (congrArg some k')
 t0:=Tryz.underlying0
 a0:=Tryz.isAgg0
 z0:=Tryz.sizeOf0
 v0:=Tryz.zeroValue0
 t2:=Tryz.underlying2
 a2:=Tryz.isAgg2
 z2:=Tryz.sizeOf2
 v2:=Tryz.zeroValue2
 t3:=Tryz.underlying3
 a3:=Tryz.isAgg3
 z3:=Tryz.sizeOf3
 v3:=Tryz.zeroValue3
 t4:=Tryz.underlying4
 a4:=Tryz.isAgg4
 z4:=Tryz.sizeOf4
 v4:=Tryz.zeroValue4
 t5:=Tryz.underlying5
 a5:=Tryz.isAgg5
 z5:=Tryz.sizeOf5
 v5:=Tryz.zeroValue5
 t9:=Tryz.underlying9
 a9:=Tryz.isAgg9
 z9:=Tryz.sizeOf9
 v9:=Tryz.zeroValue9
 t20:=Tryz.underlying20
 a20:=Tryz.isAgg20
 z20:=Tryz.sizeOf20
 v20:=Tryz.zeroValue20
 t37:=Tryz.underlying37
 a37:=Tryz.isAgg37
 z37:=Tryz.sizeOf37
 v37:=Tryz.zeroValue37
 t46:=Tryz.underlying248
 a46:=Tryz.isAgg248
 z46:=Tryz.sizeOf248
 v46:=Tryz.zeroValue248
 t51:=Tryz.underlying352
 a51:=Tryz.isAgg352
 z51:=Tryz.sizeOf352
 v51:=Tryz.zeroValue352
 t53:=Tryz.underlying39
 a53:=Tryz.isAgg39
 z53:=Tryz.sizeOf39
 v53:=Tryz.zeroValue39
 t171:=Tryz.underlying305
 a171:=Tryz.isAgg305
 z171:=Tryz.sizeOf305
 v171:=Tryz.zeroValue305
 t173:=Tryz.underlying307
 a173:=Tryz.isAgg307
 z173:=Tryz.sizeOf307
 v173:=Tryz.zeroValue307
 t212:=Tryz.underlying351
 a212:=Tryz.isAgg351
 z212:=Tryz.sizeOf351
 v212:=Tryz.zeroValue351
 t213:=Tryz.underlying353
 a213:=Tryz.isAgg353
 z213:=Tryz.sizeOf353
 t232:=Tryz.underlying394
 a232:=Tryz.isAgg394
 z232:=Tryz.sizeOf394
 v232:=Tryz.zeroValue394
 t233:=Tryz.underlying395
 a233:=Tryz.isAgg395
 z233:=Tryz.sizeOf395
 v233:=Tryz.zeroValue395
 g17:=by kernel_rfl
 g18:=by kernel_rfl
 g19:=by kernel_rfl
 i0:=by kernel_rfl
 i2:=by kernel_rfl
 i3:=by kernel_rfl
 i4:=by kernel_rfl
 i5:=by kernel_rfl
 i9:=by kernel_rfl
 i20:=by kernel_rfl
 i37:=by kernel_rfl
 i46:=by kernel_rfl
 i51:=by kernel_rfl
 i53:=by kernel_rfl
 i171:=by kernel_rfl
 i173:=by kernel_rfl
 i212:=by kernel_rfl
 i232:=by kernel_rfl
 i233:=by kernel_rfl
 m17:=by kernel_rfl
 m18:=by kernel_rfl
 m19:=by kernel_rfl}
open Go.RowKit Go.Sort Go.Lib in
theorem Tryz.strconv_FormatInt_10(n:Int)(b:-9223372036854775808<=n)(d:n<=9223372036854775807)(w:World)(a:Lib.TabIs Tryz.prog w tL .u64 Lib.pow10Tab):Calls Tryz.prog 89 #[.int .i64 n,.int .i64 10] w λe g=>e=.returned (.string ⟨(Lib.itoa n).toArray⟩)/\∃k f,g=grow (w.drewN k) f:=Any.strconv_FormatInt_10 Tryz.ZM n b d w a
open Go.RowKit Go.Sort Go.Lib in
def Tryz.K8:Go.Shelf.Ren:=⟨λ|316=>203|n=>n,λ|9=>9|3=>3|4=>4|37=>37|0=>0|127=>380|5=>5|n=>n,λ|n=>n⟩
theorem Tryz.ZN:Go.Proofs.LaysM.n316 Tryz.prog Tryz.K8:={
 mixed:=by kernel_rfl
 f316:=Tryz.func203.trans (congrArg some k')
 t0:=Tryz.underlying0
 a0:=Tryz.isAgg0
 z0:=Tryz.sizeOf0
 v0:=Tryz.zeroValue0
 t3:=Tryz.underlying3
 a3:=Tryz.isAgg3
 z3:=Tryz.sizeOf3
 v3:=Tryz.zeroValue3
 t4:=Tryz.underlying4
 a4:=Tryz.isAgg4
 z4:=Tryz.sizeOf4
 v4:=Tryz.zeroValue4
 t9:=Tryz.underlying9
 a9:=Tryz.isAgg9
 z9:=Tryz.sizeOf9
 v9:=Tryz.zeroValue9
 t37:=Tryz.underlying37
 a37:=Tryz.isAgg37
 z37:=Tryz.sizeOf37
 v37:=Tryz.zeroValue37
 t127:=Tryz.underlying380
 a127:=Tryz.isAgg380
 z127:=Tryz.sizeOf380
 v127:=Tryz.zeroValue380
 t5:=Tryz.underlying5
 a5:=Tryz.isAgg5
 z5:=Tryz.sizeOf5
 v5:=Tryz.zeroValue5
 i0:=by kernel_rfl
 i3:=by kernel_rfl
 i4:=by kernel_rfl
 i5:=by kernel_rfl
 i9:=by kernel_rfl
 i37:=by kernel_rfl
 i127:=by kernel_rfl}
open Go.RowKit in
theorem Tryz.stringslite_Clone(s:ByteArray)(w:World)(a:s.size<=281474976710656):Calls Tryz.prog 203 #[.string s] w λe b=>e=.returned (.string s)/\Below w.1.size w b:=Any.stringslite_Clone Tryz.ZN s w a
open Go.RowKit Go.Sort Go.Lib in
open Go.RowKit Go.Sort Go.Lib in
open Go.RowKit Go.Sort Go.Lib in
def Tryz.aea:Go.Shelf.Ren:=⟨λ|249=>193|288=>230|283=>156|284=>157|285=>158|286=>159|129=>195|317=>194|318=>196|319=>197|320=>198|337=>231|338=>232|n=>n,λ|37=>37|2=>2|3=>3|53=>39|4=>4|9=>9|171=>305|0=>0|173=>307|212=>351|51=>352|5=>5|20=>20|213=>353|46=>248|232=>394|233=>395|n=>n,λ|17=>0|18=>1|19=>2|n=>n⟩
open Go.RowKit Go.Sort Go.Lib in
def Tryz.K9:Go.Shelf.Ren:=⟨λ|176=>155|249=>193|288=>230|283=>156|284=>157|285=>158|286=>159|129=>195|317=>194|318=>196|319=>197|320=>198|337=>231|338=>232|n=>n,λ|37=>37|2=>2|3=>3|53=>39|4=>4|9=>9|171=>305|0=>0|173=>307|212=>351|51=>352|5=>5|20=>20|213=>353|46=>248|232=>394|233=>395|n=>n,λ|17=>0|18=>1|19=>2|n=>n⟩
theorem Tryz.ZO:Go.Proofs.LaysM.n176 Tryz.prog Tryz.K9:={
 mixed:=by kernel_rfl
 f129:=Tryz.func195.trans (congrArg some k')
 f176:=Tryz.func155.trans (congrArg some k')
 f249:=Tryz.func193.trans (congrArg some k')
 f283:=Tryz.func156.trans (congrArg some k')
 f284:=Tryz.func157.trans (congrArg some k')
 f285:=Tryz.func158.trans (congrArg some k')
 f286:=Tryz.func159.trans (congrArg some k')
 f288:=Tryz.func230.trans (congrArg some k')
 f317:=Tryz.func194.trans (congrArg some k')
 f318:=Tryz.func196.trans (congrArg some k')
 f319:=Tryz.func197.trans (congrArg some k')
 f320:=Tryz.func198.trans (congrArg some k')
 f337:=Tryz.func231.trans (congrArg some k')
 f338:=Tryz.func232.trans (congrArg some k')
 t0:=Tryz.underlying0
 a0:=Tryz.isAgg0
 z0:=Tryz.sizeOf0
 v0:=Tryz.zeroValue0
 t2:=Tryz.underlying2
 a2:=Tryz.isAgg2
 z2:=Tryz.sizeOf2
 v2:=Tryz.zeroValue2
 t3:=Tryz.underlying3
 a3:=Tryz.isAgg3
 z3:=Tryz.sizeOf3
 v3:=Tryz.zeroValue3
 t4:=Tryz.underlying4
 a4:=Tryz.isAgg4
 z4:=Tryz.sizeOf4
 v4:=Tryz.zeroValue4
 t5:=Tryz.underlying5
 a5:=Tryz.isAgg5
 z5:=Tryz.sizeOf5
 v5:=Tryz.zeroValue5
 t9:=Tryz.underlying9
 a9:=Tryz.isAgg9
 z9:=Tryz.sizeOf9
 v9:=Tryz.zeroValue9
 t20:=Tryz.underlying20
 a20:=Tryz.isAgg20
 z20:=Tryz.sizeOf20
 v20:=Tryz.zeroValue20
 t37:=Tryz.underlying37
 a37:=Tryz.isAgg37
 z37:=Tryz.sizeOf37
 v37:=Tryz.zeroValue37
 t46:=Tryz.underlying248
 a46:=Tryz.isAgg248
 z46:=Tryz.sizeOf248
 v46:=Tryz.zeroValue248
 t51:=Tryz.underlying352
 a51:=Tryz.isAgg352
 z51:=Tryz.sizeOf352
 v51:=Tryz.zeroValue352
 t53:=Tryz.underlying39
 a53:=Tryz.isAgg39
 z53:=Tryz.sizeOf39
 v53:=Tryz.zeroValue39
 t171:=Tryz.underlying305
 a171:=Tryz.isAgg305
 z171:=Tryz.sizeOf305
 v171:=Tryz.zeroValue305
 t173:=Tryz.underlying307
 a173:=Tryz.isAgg307
 z173:=Tryz.sizeOf307
 v173:=Tryz.zeroValue307
 t212:=Tryz.underlying351
 a212:=Tryz.isAgg351
 z212:=Tryz.sizeOf351
 v212:=Tryz.zeroValue351
 t213:=Tryz.underlying353
 a213:=Tryz.isAgg353
 z213:=Tryz.sizeOf353
 t232:=Tryz.underlying394
 a232:=Tryz.isAgg394
 z232:=Tryz.sizeOf394
 v232:=Tryz.zeroValue394
 t233:=Tryz.underlying395
 a233:=Tryz.isAgg395
 z233:=Tryz.sizeOf395
 v233:=Tryz.zeroValue395
 g17:=by kernel_rfl
 g18:=by kernel_rfl
 g19:=by kernel_rfl
 i0:=by kernel_rfl
 i2:=by kernel_rfl
 i3:=by kernel_rfl
 i4:=by kernel_rfl
 i5:=by kernel_rfl
 i9:=by kernel_rfl
 i20:=by kernel_rfl
 i37:=by kernel_rfl
 i46:=by kernel_rfl
 i51:=by kernel_rfl
 i53:=by kernel_rfl
 i171:=by kernel_rfl
 i173:=by kernel_rfl
 i212:=by kernel_rfl
 i232:=by kernel_rfl
 i233:=by kernel_rfl
 m17:=by kernel_rfl
 m18:=by kernel_rfl
 m19:=by kernel_rfl}
open Go.RowKit Go.Sort Go.Lib in
theorem Tryz.strconv_AppendInt_10(B n:Nat)(i:Int)(l:-9223372036854775808<=i)(m:i<=9223372036854775807)(g:Value)(j:List Value)(w:World)(b:w.ownsRow B 5 1 g n j)(f:B<=w.1.size)(a:n+21<=140737488355328)(d:Lib.TabBelow Tryz.prog B w tL .u64 Lib.pow10Tab):Calls Tryz.prog 155 #[g,.int .i64 i,.int .i64 10] w λe h=>∃k,e=.returned k/\h.ownsRow B 5 1 k (n+(Lib.itoa i).length) (j++Lib.byteCells (Lib.itoa i))/\Below B w h/\Lib.OthersKept 5 none w h:=Any.strconv_AppendInt_10 Tryz.ZO B n i l m g j w b f a d
def Tryz.La:Go.Shelf.Ren:=⟨λ|4=>131|n=>n,λ|22=>37|4=>4|5=>5|n=>n,λ|n=>n⟩
theorem Tryz.NW:Go.Proofs.SlLaysK.n4 Tryz.prog Tryz.La:={
 mixed:=by kernel_rfl
 f4:=Tryz.func131.trans (congrArg some k')
 t4:=Tryz.underlying4
 a4:=Tryz.isAgg4
 z4:=Tryz.sizeOf4
 v4:=Tryz.zeroValue4
 t22:=Tryz.underlying37
 a22:=Tryz.isAgg37
 z22:=Tryz.sizeOf37
 v22:=Tryz.zeroValue37
 t5:=Tryz.underlying5
 i5:=by kernel_rfl}
open Go.RowKit Go.Lib in
theorem Tryz.bytes_Clone_at(a:Addr)(n c:Nat)(d:List Int)(w:World)(j:d.length=n)(b:n<=140737488355328)(h:∀i,i<n->w.cell? (a.add i)=some (.int .u8 (d.getD i 0))):Calls Tryz.prog 131 #[.slice (some a) n c] w λe g=>∃f,e=.returned f/\g.ownsRow w.1.size 5 1 f n (d.map (Value.int .u8))/\f≠.slice none 0 0/\Below w.1.size w g:=Any.bytes_Clone_at Tryz.NW a n c d w j b h
open Go.RowKit Go.Lib in
theorem Tryz.bytes_Clone_nil(n c:Nat)(w:World):Calls Tryz.prog 131 #[.slice none n c] w λe a=>e=.returned (.slice none 0 0)/\a=w:=Any.bytes_Clone_nil Tryz.NW n c w
