import Derived.Shelf.Small.Strs
import Derived.Shelf.Strconv.Itoa4
import Derived.Shelf.Strconv.Clone
import Derived.Shelf.Strconv.AppendIntPublic10
import Derived.Shelf.Bytes.SlClone
import Derived.Test.YtlfifnpjeangmaaGreatDoorRows
namespace Go.Proofs
theorem sr{p:Prop}(h:p:=by kernel_rfl):p:=h
abbrev zi:String:=YtlfifnpjeangmaaGreatDoor.Rows.batchesRow.named.headD default
open Go.Shelf
open Go.RowKit in
def Tryz.Lt:Go.Shelf.Ren:=⟨λ|106=>201|213=>233|265=>250|n=>n,λ|9=>9|3=>3|n=>n,λ|n=>n⟩
theorem Tryz.abF:Go.Proofs.Lays.n106 Tryz.prog Tryz.Lt:={
 mixed:=by kernel_rfl
 f106:=Tryz.func201.trans (congrArg some sr)
 f213:=Tryz.func233.trans (congrArg some sr)
 f265:=Tryz.func250.trans (congrArg some sr)
 t3:=Tryz.underlying3
 a3:=Tryz.isAgg3
 z3:=Tryz.sizeOf3
 v3:=Tryz.zeroValue3
 t9:=Tryz.underlying9
 a9:=Tryz.isAgg9
 z9:=Tryz.sizeOf9
 v9:=Tryz.zeroValue9}
open Go.RowKit in
theorem Tryz.strings_Compare(a b:ByteArray)(w:World):Calls Tryz.prog 201 #[.string a,.string b] w λe d=>e=.returned (.int .i64 (Lib.compareBytes a.data.toList b.data.toList))/\d=w:=Any.strings_Compare Tryz.abF a b w
def Tryz.Lu:Go.Shelf.Ren:=⟨λ|129=>195|n=>n,λ|53=>39|3=>3|4=>4|46=>248|5=>5|9=>9|n=>n,λ|n=>n⟩
theorem Tryz.abG:Go.Proofs.Lays.n129 Tryz.prog Tryz.Lu:={
 mixed:=by kernel_rfl
 f129:=Tryz.func195.trans (congrArg some sr)
 t3:=Tryz.underlying3
 a3:=Tryz.isAgg3
 z3:=Tryz.sizeOf3
 v3:=Tryz.zeroValue3
 t4:=Tryz.underlying4
 a4:=Tryz.isAgg4
 z4:=Tryz.sizeOf4
 v4:=Tryz.zeroValue4
 t5:=Tryz.underlying5
 a5:=Tryz.isAgg5
 z5:=Tryz.sizeOf5
 v5:=Tryz.zeroValue5
 t9:=Tryz.underlying9
 a9:=Tryz.isAgg9
 z9:=Tryz.sizeOf9
 v9:=Tryz.zeroValue9
 t46:=Tryz.underlying248
 a46:=Tryz.isAgg248
 z46:=Tryz.sizeOf248
 v46:=Tryz.zeroValue248
 t53:=Tryz.underlying39
 a53:=Tryz.isAgg39
 z53:=Tryz.sizeOf39
 v53:=Tryz.zeroValue39}
theorem Tryz.bits_Len64(x:Int)(w:World)(a:0<=x)(b:x<=18446744073709551615):Calls Tryz.prog 195 #[.int .u64 x] w λe d=>e=.returned (.int .i64 (Lib.bitLen x.toNat))/\d=w:=Any.bits_Len64 Tryz.abG x w a b
open Go.Lib in
open Go.Lib in
open Go.Lib in
open Go.Lib in
open Go.RowKit Go.Sort Go.Lib in
open Go.RowKit Go.Sort Go.Lib in
open Go.RowKit Go.Sort Go.Lib in
open Go.RowKit Go.Sort Go.Lib in
open Go.RowKit Go.Sort Go.Lib in
def Tryz.Jn:Go.Shelf.Ren:=⟨λ|316=>203|n=>n,λ|9=>9|3=>3|4=>4|37=>37|0=>0|127=>380|5=>5|n=>n,λ|n=>n⟩
theorem Tryz.XB:Go.Proofs.LaysM.n316 Tryz.prog Tryz.Jn:={
 mixed:=by kernel_rfl
 f316:=Tryz.func203.trans (congrArg some sr)
 t0:=Tryz.underlying0
 a0:=Tryz.isAgg0
 z0:=Tryz.sizeOf0
 v0:=Tryz.zeroValue0
 t3:=Tryz.underlying3
 a3:=Tryz.isAgg3
 z3:=Tryz.sizeOf3
 v3:=Tryz.zeroValue3
 t4:=Tryz.underlying4
 a4:=Tryz.isAgg4
 z4:=Tryz.sizeOf4
 v4:=Tryz.zeroValue4
 t9:=Tryz.underlying9
 a9:=Tryz.isAgg9
 z9:=Tryz.sizeOf9
 v9:=Tryz.zeroValue9
 t37:=Tryz.underlying37
 a37:=Tryz.isAgg37
 z37:=Tryz.sizeOf37
 v37:=Tryz.zeroValue37
 t127:=Tryz.underlying380
 a127:=Tryz.isAgg380
 z127:=Tryz.sizeOf380
 v127:=Tryz.zeroValue380
 t5:=Tryz.underlying5
 a5:=Tryz.isAgg5
 z5:=Tryz.sizeOf5
 v5:=Tryz.zeroValue5
 i0:=by kernel_rfl
 i3:=by kernel_rfl
 i4:=by kernel_rfl
 i5:=by kernel_rfl
 i9:=by kernel_rfl
 i37:=by kernel_rfl
 i127:=by kernel_rfl}
open Go.RowKit in
theorem Tryz.stringslite_Clone(s:ByteArray)(w:World)(a:s.size<=281474976710656):Calls Tryz.prog 203 #[.string s] w λe b=>e=.returned (.string s)/\Below w.1.size w b:=Any.stringslite_Clone Tryz.XB s w a
open Go.RowKit Go.Sort Go.Lib in
open Go.RowKit Go.Sort Go.Lib in
open Go.RowKit Go.Sort Go.Lib in
open Go.RowKit Go.Sort Go.Lib in
open Go.RowKit Go.Sort Go.Lib in
def Tryz.Jo:Go.Shelf.Ren:=⟨λ|4=>131|n=>n,λ|22=>37|4=>4|5=>5|n=>n,λ|n=>n⟩
theorem Tryz.Lv:Go.Proofs.SlLaysK.n4 Tryz.prog Tryz.Jo:={
 mixed:=by kernel_rfl
 f4:=Tryz.func131.trans (congrArg some sr)
 t4:=Tryz.underlying4
 a4:=Tryz.isAgg4
 z4:=Tryz.sizeOf4
 v4:=Tryz.zeroValue4
 t22:=Tryz.underlying37
 a22:=Tryz.isAgg37
 z22:=Tryz.sizeOf37
 v22:=Tryz.zeroValue37
 t5:=Tryz.underlying5
 i5:=by kernel_rfl}
open Go.RowKit Go.Lib in
theorem Tryz.bytes_Clone_at(a:Addr)(n c:Nat)(d:List Int)(w:World)(j:d.length=n)(b:n<=140737488355328)(h:∀i,i<n->w.cell? (a.add i)=some (.int .u8 (d.getD i 0))):Calls Tryz.prog 131 #[.slice (some a) n c] w λe g=>∃f,e=.returned f/\g.ownsRow w.1.size 5 1 f n (d.map (Value.int .u8))/\f≠.slice none 0 0/\Below w.1.size w g:=Any.bytes_Clone_at Tryz.Lv a n c d w j b h
open Go.RowKit Go.Lib in
theorem Tryz.bytes_Clone_nil(n c:Nat)(w:World):Calls Tryz.prog 131 #[.slice none n c] w λe a=>e=.returned (.slice none 0 0)/\a=w:=Any.bytes_Clone_nil Tryz.Lv n c w
