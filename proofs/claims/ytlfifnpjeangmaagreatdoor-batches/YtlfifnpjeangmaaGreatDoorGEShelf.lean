import Derived.Shelf.Small.Strs
import Derived.Shelf.Strconv.Itoa4
import Derived.Shelf.Strconv.Clone
import Derived.Shelf.Strconv.AppendIntPublic10
import Derived.Shelf.Bytes.SlClone
import Derived.Test.YtlfifnpjeangmaaGreatDoorRows
namespace Go.Proofs
theorem agQ{p:Prop}(h:p:=by kernel_rfl):p:=h
abbrev zg:String:=YtlfifnpjeangmaaGreatDoor.Rows.batchesRow.named.headD default
open Go.Shelf
def Tryz.adJ:Go.Shelf.Ren:=⟨λ|213=>233|265=>250|n=>n,λ|9=>9|3=>3|n=>n,λ|n=>n⟩
open Go.RowKit in
def Tryz.Li:Go.Shelf.Ren:=⟨λ|106=>201|213=>233|265=>250|n=>n,λ|9=>9|3=>3|n=>n,λ|n=>n⟩
theorem Tryz.abt:Go.Proofs.Lays.n106 Tryz.prog Tryz.Li:={
 mixed:=by kernel_rfl
 f106:=Tryz.func201.trans (congrArg some agQ)
 f213:=Tryz.func233.trans (congrArg some agQ)
 f265:=Tryz.func250.trans (congrArg some agQ)
 t3:=Tryz.underlying3
 a3:=Tryz.isAgg3
 z3:=Tryz.sizeOf3
 v3:=Tryz.zeroValue3
 t9:=Tryz.underlying9
 a9:=Tryz.isAgg9
 z9:=Tryz.sizeOf9
 v9:=Tryz.zeroValue9}
open Go.RowKit in
theorem Tryz.strings_Compare(a b:ByteArray)(w:World):
  Calls Tryz.prog 201 #[.string a,.string b] w λe w'=>e=.returned (.int .i64 (Lib.compareBytes a.data.toList b.data.toList))/\w'=w:=Any.strings_Compare Tryz.abt a b w
def Tryz.Lj:Go.Shelf.Ren:=⟨λ|129=>195|n=>n,λ|53=>39|3=>3|4=>4|46=>248|5=>5|9=>9|n=>n,λ|n=>n⟩
theorem Tryz.abu:Go.Proofs.Lays.n129 Tryz.prog Tryz.Lj:={
 mixed:=by kernel_rfl
 f129:=Tryz.func195.trans (congrArg some agQ)
 t3:=Tryz.underlying3
 a3:=Tryz.isAgg3
 z3:=Tryz.sizeOf3
 v3:=Tryz.zeroValue3
 t4:=Tryz.underlying4
 a4:=Tryz.isAgg4
 z4:=Tryz.sizeOf4
 v4:=Tryz.zeroValue4
 t5:=Tryz.underlying5
 a5:=Tryz.isAgg5
 z5:=Tryz.sizeOf5
 v5:=Tryz.zeroValue5
 t9:=Tryz.underlying9
 a9:=Tryz.isAgg9
 z9:=Tryz.sizeOf9
 v9:=Tryz.zeroValue9
 t46:=Tryz.underlying248
 a46:=Tryz.isAgg248
 z46:=Tryz.sizeOf248
 v46:=Tryz.zeroValue248
 t53:=Tryz.underlying39
 a53:=Tryz.isAgg39
 z53:=Tryz.sizeOf39
 v53:=Tryz.zeroValue39}
theorem Tryz.bits_Len64(x:Int)(w:World)(b:0<=x)(a:x<=18446744073709551615):
  Calls Tryz.prog 195 #[.int .u64 x] w λe w'=>e=.returned (.int .i64 (Lib.bitLen x.toNat))/\w'=w:=Any.bits_Len64 Tryz.abu x w b a
open Go.Lib in
open Go.Lib in
open Go.Lib in
open Go.Lib in
open Go.RowKit Go.Sort Go.Lib in
open Go.RowKit Go.Sort Go.Lib in
open Go.RowKit Go.Sort Go.Lib in
open Go.RowKit Go.Sort Go.Lib in
open Go.RowKit Go.Sort Go.Lib in
def Tryz.Jj:Go.Shelf.Ren:=⟨λ|316=>203|n=>n,λ|9=>9|3=>3|4=>4|37=>37|0=>0|127=>380|5=>5|n=>n,λ|n=>n⟩
theorem Tryz.Xg:Go.Proofs.LaysM.n316 Tryz.prog Tryz.Jj:={
 mixed:=by kernel_rfl
 f316:=Tryz.func203.trans (congrArg some agQ)
 t0:=Tryz.underlying0
 a0:=Tryz.isAgg0
 z0:=Tryz.sizeOf0
 v0:=Tryz.zeroValue0
 t3:=Tryz.underlying3
 a3:=Tryz.isAgg3
 z3:=Tryz.sizeOf3
 v3:=Tryz.zeroValue3
 t4:=Tryz.underlying4
 a4:=Tryz.isAgg4
 z4:=Tryz.sizeOf4
 v4:=Tryz.zeroValue4
 t9:=Tryz.underlying9
 a9:=Tryz.isAgg9
 z9:=Tryz.sizeOf9
 v9:=Tryz.zeroValue9
 t37:=Tryz.underlying37
 a37:=Tryz.isAgg37
 z37:=Tryz.sizeOf37
 v37:=Tryz.zeroValue37
 t127:=Tryz.underlying380
 a127:=Tryz.isAgg380
 z127:=Tryz.sizeOf380
 v127:=Tryz.zeroValue380
 t5:=Tryz.underlying5
 a5:=Tryz.isAgg5
 z5:=Tryz.sizeOf5
 v5:=Tryz.zeroValue5
 i0:=by kernel_rfl
 i3:=by kernel_rfl
 i4:=by kernel_rfl
 i5:=by kernel_rfl
 i9:=by kernel_rfl
 i37:=by kernel_rfl
 i127:=by kernel_rfl}
open Go.RowKit in
theorem Tryz.stringslite_Clone(s:ByteArray)(w:World)(a:s.size<=281474976710656):
  Calls Tryz.prog 203 #[.string s] w λe w'=>e=.returned (.string s)/\Below w.heap.size w w':=Any.stringslite_Clone Tryz.Xg s w a
open Go.RowKit Go.Sort Go.Lib in
open Go.RowKit Go.Sort Go.Lib in
open Go.RowKit Go.Sort Go.Lib in
open Go.RowKit Go.Sort Go.Lib in
open Go.RowKit Go.Sort Go.Lib in
def Tryz.Jk:Go.Shelf.Ren:=⟨λ|4=>131|n=>n,λ|22=>37|4=>4|5=>5|n=>n,λ|n=>n⟩
theorem Tryz.Ll:Go.Proofs.SlLaysK.n4 Tryz.prog Tryz.Jk:={
 mixed:=by kernel_rfl
 f4:=Tryz.func131.trans (congrArg some agQ)
 t4:=Tryz.underlying4
 a4:=Tryz.isAgg4
 z4:=Tryz.sizeOf4
 v4:=Tryz.zeroValue4
 t22:=Tryz.underlying37
 a22:=Tryz.isAgg37
 z22:=Tryz.sizeOf37
 v22:=Tryz.zeroValue37
 t5:=Tryz.underlying5
 i5:=by kernel_rfl}
open Go.RowKit Go.Lib in
theorem Tryz.bytes_Clone_at(a:Addr)(n c:Nat)(d:List Int)(w:World)(g:d.length=n)(b:n<=140737488355328)(h:∀i,i<n->w.cell? (a.add i)=some (.int .u8 (d.getD i 0))):
  Calls Tryz.prog 131 #[.slice (some a) n c] w λe w'=>∃f,e=.returned f/\w'.ownsRow w.heap.size 5 1 f n (d.map (Value.int .u8))/\f≠.slice none 0 0/\Below w.heap.size w w':=Any.bytes_Clone_at Tryz.Ll a n c d w g b h
open Go.RowKit Go.Lib in
theorem Tryz.bytes_Clone_nil(n c:Nat)(w:World):
  Calls Tryz.prog 131 #[.slice none n c] w λe w'=>e=.returned (.slice none 0 0)/\w'=w:=Any.bytes_Clone_nil Tryz.Ll n c w
end Go.Proofs
