import Derived.Shelf.Small.Strs
import Derived.Shelf.Strconv.Itoa4
import Derived.Shelf.Strconv.Clone
import Derived.Shelf.Strconv.AppendIntPublic10
import Derived.Shelf.Bytes.SlClone
import Derived.Test.YteknelimjfgmaaaGreatDoorRows
namespace Go.Proofs
theorem afy {p:Prop} (h:p:=by kernel_rfl):p:=h
abbrev yj:String:=YteknelimjfgmaaaGreatDoor.Rows.answersRow.named.headD default
open Go.Shelf
def Tryz.Zr:Go.Shelf.Ren:=⟨fun | 213=>235 | 265=>252 | n=>n,fun | 9=>9 | 3=>3 | n=>n,fun | n=>n⟩
open Go.RowKit in
def Tryz.Jf:Go.Shelf.Ren:=⟨fun | 106=>203 | 213=>235 | 265=>252 | n=>n,fun | 9=>9 | 3=>3 | n=>n,fun | n=>n⟩
theorem Tryz.XA:Go.Proofs.Lays.n106 Tryz.prog Tryz.Jf:={
 mixed:=by kernel_rfl
 f106:=Tryz.func203.trans (congrArg some afy)
 f213:=Tryz.func235.trans (congrArg some afy)
 f265:=Tryz.func252.trans (congrArg some afy)
 t3:=Tryz.underlying3
 a3:=Tryz.isAgg3
 z3:=Tryz.sizeOf3
 v3:=Tryz.zeroValue3
 t9:=Tryz.underlying9
 a9:=Tryz.isAgg9
 z9:=Tryz.sizeOf9
 v9:=Tryz.zeroValue9}
open Go.RowKit in
theorem Tryz.strings_Compare (a b:ByteArray) (w:World) :
  Calls Tryz.prog 203 #[.string a,.string b] w fun e w'=>e = .returned (.int .i64 (Lib.compareBytes a.data.toList b.data.toList))/\w'=w:=Any.strings_Compare Tryz.XA a b w
def Tryz.Jg:Go.Shelf.Ren:=⟨fun | 129=>197 | n=>n,fun | 53=>39 | 3=>3 | 4=>4 | 46=>248 | 5=>5 | 9=>9 | n=>n,fun | n=>n⟩
theorem Tryz.XB:Go.Proofs.Lays.n129 Tryz.prog Tryz.Jg:={
 mixed:=by kernel_rfl
 f129:=Tryz.func197.trans (congrArg some afy)
 t3:=Tryz.underlying3
 a3:=Tryz.isAgg3
 z3:=Tryz.sizeOf3
 v3:=Tryz.zeroValue3
 t4:=Tryz.underlying4
 a4:=Tryz.isAgg4
 z4:=Tryz.sizeOf4
 v4:=Tryz.zeroValue4
 t5:=Tryz.underlying5
 a5:=Tryz.isAgg5
 z5:=Tryz.sizeOf5
 v5:=Tryz.zeroValue5
 t9:=Tryz.underlying9
 a9:=Tryz.isAgg9
 z9:=Tryz.sizeOf9
 v9:=Tryz.zeroValue9
 t46:=Tryz.underlying248
 a46:=Tryz.isAgg248
 z46:=Tryz.sizeOf248
 v46:=Tryz.zeroValue248
 t53:=Tryz.underlying39
 a53:=Tryz.isAgg39
 z53:=Tryz.sizeOf39
 v53:=Tryz.zeroValue39}
theorem Tryz.bits_Len64 (x:Int) (w:World) (h0:0<=x) (h1:x<=18446744073709551615) :
  Calls Tryz.prog 197 #[.int .u64 x] w fun e w'=>e = .returned (.int .i64 (Lib.bitLen x.toNat))/\w'=w:=Any.bits_Len64 Tryz.XB x w h0 h1
open Go.Lib in
open Go.Lib in
open Go.Lib in
open Go.Lib in
open Go.RowKit Go.Sort Go.Lib in
open Go.RowKit Go.Sort Go.Lib in
open Go.RowKit Go.Sort Go.Lib in
open Go.RowKit Go.Sort Go.Lib in
open Go.RowKit Go.Sort Go.Lib in
def Tryz.Gp:Go.Shelf.Ren:=⟨fun | 316=>205 | n=>n,fun | 9=>9 | 3=>3 | 4=>4 | 37=>37 | 0=>0 | 127=>380 | 5=>5 | n=>n,fun | n=>n⟩
theorem Tryz.Tk:Go.Proofs.LaysM.n316 Tryz.prog Tryz.Gp:={
 mixed:=by kernel_rfl
 f316:=Tryz.func205.trans (congrArg some afy)
 t0:=Tryz.underlying0
 a0:=Tryz.isAgg0
 z0:=Tryz.sizeOf0
 v0:=Tryz.zeroValue0
 t3:=Tryz.underlying3
 a3:=Tryz.isAgg3
 z3:=Tryz.sizeOf3
 v3:=Tryz.zeroValue3
 t4:=Tryz.underlying4
 a4:=Tryz.isAgg4
 z4:=Tryz.sizeOf4
 v4:=Tryz.zeroValue4
 t9:=Tryz.underlying9
 a9:=Tryz.isAgg9
 z9:=Tryz.sizeOf9
 v9:=Tryz.zeroValue9
 t37:=Tryz.underlying37
 a37:=Tryz.isAgg37
 z37:=Tryz.sizeOf37
 v37:=Tryz.zeroValue37
 t127:=Tryz.underlying380
 a127:=Tryz.isAgg380
 z127:=Tryz.sizeOf380
 v127:=Tryz.zeroValue380
 t5:=Tryz.underlying5
 a5:=Tryz.isAgg5
 z5:=Tryz.sizeOf5
 v5:=Tryz.zeroValue5
 i0:=by kernel_rfl
 i3:=by kernel_rfl
 i4:=by kernel_rfl
 i5:=by kernel_rfl
 i9:=by kernel_rfl
 i37:=by kernel_rfl
 i127:=by kernel_rfl}
open Go.RowKit in
theorem Tryz.stringslite_Clone (s:ByteArray) (w:World) (hlim:s.size<=281474976710656) :
  Calls Tryz.prog 205 #[.string s] w fun e w'=>e = .returned (.string s)/\Below w.heap.size w w':=Any.stringslite_Clone Tryz.Tk s w hlim
open Go.RowKit Go.Sort Go.Lib in
open Go.RowKit Go.Sort Go.Lib in
open Go.RowKit Go.Sort Go.Lib in
open Go.RowKit Go.Sort Go.Lib in
open Go.RowKit Go.Sort Go.Lib in
def Tryz.Gr:Go.Shelf.Ren:=⟨fun | 4=>133 | n=>n,fun | 22=>37 | 4=>4 | 5=>5 | n=>n,fun | n=>n⟩
theorem Tryz.Jh:Go.Proofs.SlLaysK.n4 Tryz.prog Tryz.Gr:={
 mixed:=by kernel_rfl
 f4:=Tryz.func133.trans (congrArg some afy)
 t4:=Tryz.underlying4
 a4:=Tryz.isAgg4
 z4:=Tryz.sizeOf4
 v4:=Tryz.zeroValue4
 t22:=Tryz.underlying37
 a22:=Tryz.isAgg37
 z22:=Tryz.sizeOf37
 v22:=Tryz.zeroValue37
 t5:=Tryz.underlying5
 i5:=by kernel_rfl}
open Go.RowKit Go.Lib in
theorem Tryz.bytes_Clone_at (a:Addr) (n c:Nat) (xs:List Int) (w:World) (hx:xs.length=n) (hbig:n<=140737488355328) (hc:∀ i,i<n->w.cell? (a.add i)=some (.int .u8 (xs.getD i 0))) :
  Calls Tryz.prog 133 #[.slice (some a) n c] w fun e w'=>∃ v',e = .returned v'/\w'.ownsRow w.heap.size 5 1 v' n (xs.map (Value.int .u8))/\v'≠.slice none 0 0/\Below w.heap.size w w':=Any.bytes_Clone_at Tryz.Jh a n c xs w hx hbig hc
open Go.RowKit Go.Lib in
theorem Tryz.bytes_Clone_nil (n c:Nat) (w:World) :
  Calls Tryz.prog 133 #[.slice none n c] w fun e w'=>e = .returned (.slice none 0 0)/\w'=w:=Any.bytes_Clone_nil Tryz.Jh n c w
end Go.Proofs
