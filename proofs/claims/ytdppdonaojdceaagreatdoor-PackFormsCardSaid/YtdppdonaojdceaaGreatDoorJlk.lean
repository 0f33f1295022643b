/- Contracts of the library in the numbers of this program: theorems proved once over any program; here the kernel compares the bodies and types. -/
import Derived.Test.YtdppdonaojdceaaGreatDoorProg
import Derived.Test.YtdppdonaojdceaaGreatDoorRows
import Derived.Test.YtdppdonaojdceaaGreatDoorJback
import Derived.Shelf.Small.Wraps
import Derived.Shelf.Small.Strs
import Derived.Shelf.Strings.Runes
import Derived.Shelf.Strings.IndexAnyAll
import Derived.Shelf.Strconv.ErrVarAll
import Derived.Shelf.Strconv.ToError
import Derived.Lib.LaidU8
import Derived.Lib.TrimUEq
import Derived.Laws.RangeString
import Derived.Laws.Runes
import Derived.WalkMore
import Derived.BigQuiet
import Derived.Deep.LoopGhost
set_option linter.unusedVariables false
set_option linter.unusedSimpArgs false
set_option maxHeartbeats 8000000
set_option maxRecDepth 1000000
namespace Go.Proofs.YtdppdonaojdceaaGreatDoor
open Go.Shelf Go.RowKit Go.Lib
def jren:Go.Shelf.Ren:=⟨fun | 103=>120 | 119=>161 | 129=>143 | 137=>160 | 152=>148 | 153=>137 | 171=>55 | 172=>124 | 205=>167 | 206=>147 | 210=>136 | 217=>168 | 224=>162 | 225=>163 | 226=>149 | 227=>150 | 228=>151 | 243=>93 | 244=>140 | 245=>141 | 246=>118 | 247=>153 | 266=>169 | 279=>154 | 280=>155 | 281=>156 | 282=>157 | 283=>132 | 284=>133 | 285=>134 | 286=>135 | 287=>152 | 316=>166 | 317=>142 | 318=>144 | 319=>145 | 320=>146 | 321=>164 | 322=>165 | 337=>158 | 338=>159 | n=>n,fun | 0=>0 | 2=>2 | 3=>3 | 4=>4 | 5=>5 | 9=>9 | 20=>20 | 21=>21 | 24=>124 | 37=>56 | 46=>114 | 51=>185 | 53=>74 | 75=>163 | 76=>164 | 80=>131 | 85=>196 | 116=>192 | 117=>193 | 124=>204 | 127=>211 | 143=>212 | 145=>214 | 167=>195 | 168=>198 | 171=>174 | 173=>177 | 175=>180 | 210=>207 | 212=>184 | 213=>186 | 232=>209 | 233=>210 | n=>n,fun | 15=>4 | 16=>5 | 17=>3 | 18=>6 | 19=>7 | n=>n⟩
theorem jlays103:Go.Proofs.Lays.n103 Tryz.prog jren:={
 mixed:=by kernel_rfl
 f103:=Tryz.func120.trans (congrArg some (by kernel_rfl))
 f206:=Tryz.func147.trans (congrArg some (by kernel_rfl))
 f210:=Tryz.func136.trans (congrArg some (by kernel_rfl))
 t3:=Tryz.underlying3
 a3:=Tryz.isAgg3
 z3:=Tryz.sizeOf3
 v3:=Tryz.zeroValue3
 t4:=Tryz.underlying4
 a4:=Tryz.isAgg4
 z4:=Tryz.sizeOf4
 v4:=Tryz.zeroValue4
 t9:=Tryz.underlying9
 a9:=Tryz.isAgg9
 z9:=Tryz.sizeOf9
 v9:=Tryz.zeroValue9
 t24:=Tryz.underlying124
 a24:=Tryz.isAgg124
 z24:=Tryz.sizeOf124
 v24:=Tryz.zeroValue124
}
theorem jlays137:Go.Proofs.Lays.n137 Tryz.prog jren:={
 mixed:=by kernel_rfl
 f137:=Tryz.func160.trans (congrArg some (by kernel_rfl))
 f217:=Tryz.func168.trans (congrArg some (by kernel_rfl))
 f266:=Tryz.func169.trans (congrArg some (by kernel_rfl))
 t3:=Tryz.underlying3
 a3:=Tryz.isAgg3
 z3:=Tryz.sizeOf3
 v3:=Tryz.zeroValue3
 t5:=Tryz.underlying5
 a5:=Tryz.isAgg5
 z5:=Tryz.sizeOf5
 v5:=Tryz.zeroValue5
 t9:=Tryz.underlying9
 a9:=Tryz.isAgg9
 z9:=Tryz.sizeOf9
 v9:=Tryz.zeroValue9
}
theorem jlays152:Go.Proofs.Lays.n152 Tryz.prog jren:={
 mixed:=by kernel_rfl
 f119:=Tryz.func161.trans (congrArg some (by kernel_rfl))
 f137:=Tryz.func160.trans (congrArg some (by kernel_rfl))
 f152:=Tryz.func148.trans (congrArg some (by kernel_rfl))
 f217:=Tryz.func168.trans (congrArg some (by kernel_rfl))
 f224:=Tryz.func162.trans (congrArg some (by kernel_rfl))
 f225:=Tryz.func163.trans (congrArg some (by kernel_rfl))
 f266:=Tryz.func169.trans (congrArg some (by kernel_rfl))
 t0:=Tryz.underlying0
 a0:=Tryz.isAgg0
 z0:=Tryz.sizeOf0
 v0:=Tryz.zeroValue0
 t3:=Tryz.underlying3
 a3:=Tryz.isAgg3
 z3:=Tryz.sizeOf3
 v3:=Tryz.zeroValue3
 t4:=Tryz.underlying4
 a4:=Tryz.isAgg4
 z4:=Tryz.sizeOf4
 v4:=Tryz.zeroValue4
 t5:=Tryz.underlying5
 a5:=Tryz.isAgg5
 z5:=Tryz.sizeOf5
 v5:=Tryz.zeroValue5
 t9:=Tryz.underlying9
 a9:=Tryz.isAgg9
 z9:=Tryz.sizeOf9
 v9:=Tryz.zeroValue9
 t21:=Tryz.underlying21
 a21:=Tryz.isAgg21
 z21:=Tryz.sizeOf21
 v21:=Tryz.zeroValue21
 t46:=Tryz.underlying114
 a46:=Tryz.isAgg114
 z46:=Tryz.sizeOf114
 v46:=Tryz.zeroValue114
}
theorem jlays153:Go.Proofs.Lays.n153 Tryz.prog jren:={
 mixed:=by kernel_rfl
 f119:=Tryz.func161.trans (congrArg some (by kernel_rfl))
 f137:=Tryz.func160.trans (congrArg some (by kernel_rfl))
 f152:=Tryz.func148.trans (congrArg some (by kernel_rfl))
 f153:=Tryz.func137.trans (congrArg some (by kernel_rfl))
 f217:=Tryz.func168.trans (congrArg some (by kernel_rfl))
 f224:=Tryz.func162.trans (congrArg some (by kernel_rfl))
 f225:=Tryz.func163.trans (congrArg some (by kernel_rfl))
 f226:=Tryz.func149.trans (congrArg some (by kernel_rfl))
 f227:=Tryz.func150.trans (congrArg some (by kernel_rfl))
 f228:=Tryz.func151.trans (congrArg some (by kernel_rfl))
 f266:=Tryz.func169.trans (congrArg some (by kernel_rfl))
 t0:=Tryz.underlying0
 a0:=Tryz.isAgg0
 z0:=Tryz.sizeOf0
 v0:=Tryz.zeroValue0
 t3:=Tryz.underlying3
 a3:=Tryz.isAgg3
 z3:=Tryz.sizeOf3
 v3:=Tryz.zeroValue3
 t4:=Tryz.underlying4
 a4:=Tryz.isAgg4
 z4:=Tryz.sizeOf4
 v4:=Tryz.zeroValue4
 t5:=Tryz.underlying5
 a5:=Tryz.isAgg5
 z5:=Tryz.sizeOf5
 v5:=Tryz.zeroValue5
 t9:=Tryz.underlying9
 a9:=Tryz.isAgg9
 z9:=Tryz.sizeOf9
 v9:=Tryz.zeroValue9
 t21:=Tryz.underlying21
 a21:=Tryz.isAgg21
 z21:=Tryz.sizeOf21
 v21:=Tryz.zeroValue21
 t46:=Tryz.underlying114
 a46:=Tryz.isAgg114
 z46:=Tryz.sizeOf114
 v46:=Tryz.zeroValue114
 t116:=Tryz.underlying192
 a116:=Tryz.isAgg192
 z116:=Tryz.sizeOf192
 t117:=Tryz.underlying193
 a117:=Tryz.isAgg193
 z117:=Tryz.sizeOf193
 v117:=Tryz.zeroValue193
 t124:=Tryz.underlying204
 a124:=Tryz.isAgg204
 z124:=Tryz.sizeOf204
 v124:=Tryz.zeroValue204
}
theorem jlays172:Go.Proofs.LaysC.n172 Tryz.prog jren:={
 mixed:=by kernel_rfl
 f129:=Tryz.func143.trans (congrArg some (by kernel_rfl))
 f171:=Tryz.func55.trans (congrArg some (by kernel_rfl))
 f172:=Tryz.func124.trans (congrArg some (by kernel_rfl))
 f205:=Tryz.func167.trans (congrArg some (by kernel_rfl))
 f243:=Tryz.func93.trans (congrArg some (by kernel_rfl))
 f244:=Tryz.func140.trans (congrArg some (by kernel_rfl))
 f245:=Tryz.func141.trans (congrArg some (by kernel_rfl))
 f246:=Tryz.func118.trans (congrArg some (by kernel_rfl))
 f247:=Tryz.func153.trans (congrArg some (by kernel_rfl))
 f279:=Tryz.func154.trans (congrArg some (by kernel_rfl))
 f280:=Tryz.func155.trans (congrArg some (by kernel_rfl))
 f281:=Tryz.func156.trans (congrArg some (by kernel_rfl))
 f282:=Tryz.func157.trans (congrArg some (by kernel_rfl))
 f283:=Tryz.func132.trans (congrArg some (by kernel_rfl))
 f284:=Tryz.func133.trans (congrArg some (by kernel_rfl))
 f285:=Tryz.func134.trans (congrArg some (by kernel_rfl))
 f286:=Tryz.func135.trans (congrArg some (by kernel_rfl))
 f287:=Tryz.func152.trans (congrArg some (by kernel_rfl))
 f316:=Tryz.func166.trans (congrArg some (by kernel_rfl))
 f317:=Tryz.func142.trans (congrArg some (by kernel_rfl))
 f318:=Tryz.func144.trans (congrArg some (by kernel_rfl))
 f319:=Tryz.func145.trans (congrArg some (by kernel_rfl))
 f320:=Tryz.func146.trans (congrArg some (by kernel_rfl))
 f321:=Tryz.func164.trans (congrArg some (by kernel_rfl))
 f322:=Tryz.func165.trans (congrArg some (by kernel_rfl))
 f337:=Tryz.func158.trans (congrArg some (by kernel_rfl))
 f338:=Tryz.func159.trans (congrArg some (by kernel_rfl))
 t0:=Tryz.underlying0
 a0:=Tryz.isAgg0
 z0:=Tryz.sizeOf0
 v0:=Tryz.zeroValue0
 t2:=Tryz.underlying2
 a2:=Tryz.isAgg2
 z2:=Tryz.sizeOf2
 v2:=Tryz.zeroValue2
 t3:=Tryz.underlying3
 a3:=Tryz.isAgg3
 z3:=Tryz.sizeOf3
 v3:=Tryz.zeroValue3
 t4:=Tryz.underlying4
 a4:=Tryz.isAgg4
 z4:=Tryz.sizeOf4
 v4:=Tryz.zeroValue4
 t5:=Tryz.underlying5
 a5:=Tryz.isAgg5
 z5:=Tryz.sizeOf5
 v5:=Tryz.zeroValue5
 t9:=Tryz.underlying9
 a9:=Tryz.isAgg9
 z9:=Tryz.sizeOf9
 v9:=Tryz.zeroValue9
 t20:=Tryz.underlying20
 a20:=Tryz.isAgg20
 z20:=Tryz.sizeOf20
 v20:=Tryz.zeroValue20
 t21:=Tryz.underlying21
 a21:=Tryz.isAgg21
 z21:=Tryz.sizeOf21
 v21:=Tryz.zeroValue21
 t37:=Tryz.underlying56
 a37:=Tryz.isAgg56
 z37:=Tryz.sizeOf56
 v37:=Tryz.zeroValue56
 t46:=Tryz.underlying114
 a46:=Tryz.isAgg114
 z46:=Tryz.sizeOf114
 v46:=Tryz.zeroValue114
 t51:=Tryz.underlying185
 a51:=Tryz.isAgg185
 z51:=Tryz.sizeOf185
 v51:=Tryz.zeroValue185
 t53:=Tryz.underlying74
 a53:=Tryz.isAgg74
 z53:=Tryz.sizeOf74
 v53:=Tryz.zeroValue74
 t75:=Tryz.underlying163
 a75:=Tryz.isAgg163
 z75:=Tryz.sizeOf163
 v75:=Tryz.zeroValue163
 t76:=Tryz.underlying164
 a76:=Tryz.isAgg164
 z76:=Tryz.sizeOf164
 v76:=Tryz.zeroValue164
 t85:=Tryz.underlying196
 a85:=Tryz.isAgg196
 z85:=Tryz.sizeOf196
 v85:=Tryz.zeroValue196
 t127:=Tryz.underlying211
 a127:=Tryz.isAgg211
 z127:=Tryz.sizeOf211
 v127:=Tryz.zeroValue211
 t143:=Tryz.underlying212
 a143:=Tryz.isAgg212
 z143:=Tryz.sizeOf212
 v143:=Tryz.zeroValue212
 t145:=Tryz.underlying214
 a145:=Tryz.isAgg214
 z145:=Tryz.sizeOf214
 v145:=Tryz.zeroValue214
 t167:=Tryz.underlying195
 a167:=Tryz.isAgg195
 z167:=Tryz.sizeOf195
 v167:=Tryz.zeroValue195
 t168:=Tryz.underlying198
 a168:=Tryz.isAgg198
 z168:=Tryz.sizeOf198
 v168:=Tryz.zeroValue198
 t171:=Tryz.underlying174
 a171:=Tryz.isAgg174
 z171:=Tryz.sizeOf174
 v171:=Tryz.zeroValue174
 t173:=Tryz.underlying177
 a173:=Tryz.isAgg177
 z173:=Tryz.sizeOf177
 v173:=Tryz.zeroValue177
 t175:=Tryz.underlying180
 a175:=Tryz.isAgg180
 z175:=Tryz.sizeOf180
 v175:=Tryz.zeroValue180
 t210:=Tryz.underlying207
 a210:=Tryz.isAgg207
 z210:=Tryz.sizeOf207
 v210:=Tryz.zeroValue207
 t212:=Tryz.underlying184
 a212:=Tryz.isAgg184
 z212:=Tryz.sizeOf184
 v212:=Tryz.zeroValue184
 t213:=Tryz.underlying186
 a213:=Tryz.isAgg186
 z213:=Tryz.sizeOf186
 t232:=Tryz.underlying209
 a232:=Tryz.isAgg209
 z232:=Tryz.sizeOf209
 v232:=Tryz.zeroValue209
 t233:=Tryz.underlying210
 a233:=Tryz.isAgg210
 z233:=Tryz.sizeOf210
 v233:=Tryz.zeroValue210
 g15:=by kernel_rfl
 g16:=by kernel_rfl
 g17:=by kernel_rfl
 g18:=by kernel_rfl
 g19:=by kernel_rfl
 t80:=Tryz.underlying131
 a80:=Tryz.isAgg131
 z80:=Tryz.sizeOf131
 v80:=Tryz.zeroValue131
 i0:=by kernel_rfl
 i2:=by kernel_rfl
 i3:=by kernel_rfl
 i4:=by kernel_rfl
 i5:=by kernel_rfl
 i9:=by kernel_rfl
 i20:=by kernel_rfl
 i21:=by kernel_rfl
 i37:=by kernel_rfl
 i46:=by kernel_rfl
 i51:=by kernel_rfl
 i53:=by kernel_rfl
 i75:=by kernel_rfl
 i76:=by kernel_rfl
 i80:=by kernel_rfl
 i85:=by kernel_rfl
 i127:=by kernel_rfl
 i143:=by kernel_rfl
 i145:=by kernel_rfl
 i167:=by kernel_rfl
 i168:=by kernel_rfl
 i171:=by kernel_rfl
 i173:=by kernel_rfl
 i175:=by kernel_rfl
 i210:=by kernel_rfl
 i212:=by kernel_rfl
 i232:=by kernel_rfl
 i233:=by kernel_rfl
 m15:=by kernel_rfl
 m16:=by kernel_rfl
 m17:=by kernel_rfl
 m18:=by kernel_rfl
 m19:=by kernel_rfl
 c0:=by kernel_rfl
 c2:=by kernel_rfl
 c3:=by kernel_rfl
 c4:=by kernel_rfl
 c5:=by kernel_rfl
 c9:=by kernel_rfl
 c20:=by kernel_rfl
 c21:=by kernel_rfl
 c37:=by kernel_rfl
 c46:=by kernel_rfl
 c51:=by kernel_rfl
 c53:=by kernel_rfl
 c75:=by kernel_rfl
 c76:=by kernel_rfl
 c80:=by kernel_rfl
 c85:=by kernel_rfl
 c127:=by kernel_rfl
 c143:=by kernel_rfl
 c145:=by kernel_rfl
 c167:=by kernel_rfl
 c168:=by kernel_rfl
 c171:=by kernel_rfl
 c173:=by kernel_rfl
 c175:=by kernel_rfl
 c210:=by kernel_rfl
 c212:=by kernel_rfl
 c213:=by kernel_rfl
 c232:=by kernel_rfl
 c233:=by kernel_rfl
}
theorem jlays245:Go.Proofs.LaysC.n245 Tryz.prog jren:={
 mixed:=by kernel_rfl
 f129:=Tryz.func143.trans (congrArg some (by kernel_rfl))
 f171:=Tryz.func55.trans (congrArg some (by kernel_rfl))
 f205:=Tryz.func167.trans (congrArg some (by kernel_rfl))
 f243:=Tryz.func93.trans (congrArg some (by kernel_rfl))
 f245:=Tryz.func141.trans (congrArg some (by kernel_rfl))
 f246:=Tryz.func118.trans (congrArg some (by kernel_rfl))
 f279:=Tryz.func154.trans (congrArg some (by kernel_rfl))
 f280:=Tryz.func155.trans (congrArg some (by kernel_rfl))
 f281:=Tryz.func156.trans (congrArg some (by kernel_rfl))
 f282:=Tryz.func157.trans (congrArg some (by kernel_rfl))
 f283:=Tryz.func132.trans (congrArg some (by kernel_rfl))
 f284:=Tryz.func133.trans (congrArg some (by kernel_rfl))
 f285:=Tryz.func134.trans (congrArg some (by kernel_rfl))
 f286:=Tryz.func135.trans (congrArg some (by kernel_rfl))
 f316:=Tryz.func166.trans (congrArg some (by kernel_rfl))
 f317:=Tryz.func142.trans (congrArg some (by kernel_rfl))
 f318:=Tryz.func144.trans (congrArg some (by kernel_rfl))
 f319:=Tryz.func145.trans (congrArg some (by kernel_rfl))
 f320:=Tryz.func146.trans (congrArg some (by kernel_rfl))
 f337:=Tryz.func158.trans (congrArg some (by kernel_rfl))
 f338:=Tryz.func159.trans (congrArg some (by kernel_rfl))
 t0:=Tryz.underlying0
 a0:=Tryz.isAgg0
 z0:=Tryz.sizeOf0
 v0:=Tryz.zeroValue0
 t2:=Tryz.underlying2
 a2:=Tryz.isAgg2
 z2:=Tryz.sizeOf2
 v2:=Tryz.zeroValue2
 t3:=Tryz.underlying3
 a3:=Tryz.isAgg3
 z3:=Tryz.sizeOf3
 v3:=Tryz.zeroValue3
 t4:=Tryz.underlying4
 a4:=Tryz.isAgg4
 z4:=Tryz.sizeOf4
 v4:=Tryz.zeroValue4
 t5:=Tryz.underlying5
 a5:=Tryz.isAgg5
 z5:=Tryz.sizeOf5
 v5:=Tryz.zeroValue5
 t9:=Tryz.underlying9
 a9:=Tryz.isAgg9
 z9:=Tryz.sizeOf9
 v9:=Tryz.zeroValue9
 t20:=Tryz.underlying20
 a20:=Tryz.isAgg20
 z20:=Tryz.sizeOf20
 v20:=Tryz.zeroValue20
 t37:=Tryz.underlying56
 a37:=Tryz.isAgg56
 z37:=Tryz.sizeOf56
 v37:=Tryz.zeroValue56
 t46:=Tryz.underlying114
 a46:=Tryz.isAgg114
 z46:=Tryz.sizeOf114
 v46:=Tryz.zeroValue114
 t51:=Tryz.underlying185
 a51:=Tryz.isAgg185
 z51:=Tryz.sizeOf185
 v51:=Tryz.zeroValue185
 t53:=Tryz.underlying74
 a53:=Tryz.isAgg74
 z53:=Tryz.sizeOf74
 v53:=Tryz.zeroValue74
 t75:=Tryz.underlying163
 a75:=Tryz.isAgg163
 z75:=Tryz.sizeOf163
 v75:=Tryz.zeroValue163
 t127:=Tryz.underlying211
 a127:=Tryz.isAgg211
 z127:=Tryz.sizeOf211
 v127:=Tryz.zeroValue211
 t143:=Tryz.underlying212
 a143:=Tryz.isAgg212
 z143:=Tryz.sizeOf212
 v143:=Tryz.zeroValue212
 t145:=Tryz.underlying214
 a145:=Tryz.isAgg214
 z145:=Tryz.sizeOf214
 v145:=Tryz.zeroValue214
 t167:=Tryz.underlying195
 a167:=Tryz.isAgg195
 z167:=Tryz.sizeOf195
 v167:=Tryz.zeroValue195
 t168:=Tryz.underlying198
 a168:=Tryz.isAgg198
 z168:=Tryz.sizeOf198
 v168:=Tryz.zeroValue198
 t171:=Tryz.underlying174
 a171:=Tryz.isAgg174
 z171:=Tryz.sizeOf174
 v171:=Tryz.zeroValue174
 t173:=Tryz.underlying177
 a173:=Tryz.isAgg177
 z173:=Tryz.sizeOf177
 v173:=Tryz.zeroValue177
 t210:=Tryz.underlying207
 a210:=Tryz.isAgg207
 z210:=Tryz.sizeOf207
 v210:=Tryz.zeroValue207
 t212:=Tryz.underlying184
 a212:=Tryz.isAgg184
 z212:=Tryz.sizeOf184
 v212:=Tryz.zeroValue184
 t213:=Tryz.underlying186
 a213:=Tryz.isAgg186
 z213:=Tryz.sizeOf186
 t232:=Tryz.underlying209
 a232:=Tryz.isAgg209
 z232:=Tryz.sizeOf209
 v232:=Tryz.zeroValue209
 t233:=Tryz.underlying210
 a233:=Tryz.isAgg210
 z233:=Tryz.sizeOf210
 v233:=Tryz.zeroValue210
 g15:=by kernel_rfl
 g16:=by kernel_rfl
 g17:=by kernel_rfl
 g18:=by kernel_rfl
 g19:=by kernel_rfl
 t80:=Tryz.underlying131
 a80:=Tryz.isAgg131
 z80:=Tryz.sizeOf131
 v80:=Tryz.zeroValue131
 i0:=by kernel_rfl
 i2:=by kernel_rfl
 i3:=by kernel_rfl
 i4:=by kernel_rfl
 i5:=by kernel_rfl
 i9:=by kernel_rfl
 i20:=by kernel_rfl
 i37:=by kernel_rfl
 i46:=by kernel_rfl
 i51:=by kernel_rfl
 i53:=by kernel_rfl
 i75:=by kernel_rfl
 i80:=by kernel_rfl
 i127:=by kernel_rfl
 i143:=by kernel_rfl
 i145:=by kernel_rfl
 i167:=by kernel_rfl
 i168:=by kernel_rfl
 i171:=by kernel_rfl
 i173:=by kernel_rfl
 i210:=by kernel_rfl
 i212:=by kernel_rfl
 i232:=by kernel_rfl
 i233:=by kernel_rfl
 m15:=by kernel_rfl
 m16:=by kernel_rfl
 m17:=by kernel_rfl
 m18:=by kernel_rfl
 m19:=by kernel_rfl
 c0:=by kernel_rfl
 c2:=by kernel_rfl
 c3:=by kernel_rfl
 c4:=by kernel_rfl
 c5:=by kernel_rfl
 c9:=by kernel_rfl
 c20:=by kernel_rfl
 c37:=by kernel_rfl
 c46:=by kernel_rfl
 c51:=by kernel_rfl
 c53:=by kernel_rfl
 c75:=by kernel_rfl
 c80:=by kernel_rfl
 c127:=by kernel_rfl
 c143:=by kernel_rfl
 c145:=by kernel_rfl
 c167:=by kernel_rfl
 c168:=by kernel_rfl
 c171:=by kernel_rfl
 c173:=by kernel_rfl
 c210:=by kernel_rfl
 c212:=by kernel_rfl
 c213:=by kernel_rfl
 c232:=by kernel_rfl
 c233:=by kernel_rfl
}
end Go.Proofs.YtdppdonaojdceaaGreatDoor
namespace Go.Proofs.YtdppdonaojdceaaGreatDoor
open Go Go.ChangeShapes Go.WideShapes Go.ChangeAt Go.RowKit
theorem below_drewN {B:Nat} {a w:World} (h:Below B a w) (n:Nat):Below B a (w.drewN n):=h.trans ⟨rfl,rfl,rfl,Lr _,fun _ _=>rfl⟩
theorem enc_high (r:Int) (h:128≤r):∃l:List UInt8,Utf8.encode r=⟨l.toArray⟩∧2≤l.length∧l.length≤4∧∀b,b ∈ l→128≤b.toNat:=by
 obtain ⟨c,hc⟩:∃c,c=(if Utf8.valid r then r.toNat else Utf8.runeError):=⟨_,rfl⟩
 have hc128:128≤c∧c≤1114111:=by
  rw [hc]
  split
  ·rename_i hv
   unfold Utf8.valid at hv
   simp only [Bool.or_eq_true,Bool.and_eq_true,decide_eq_true_eq] at hv
   omega
  ·decide
 unfold Utf8.encode
 simp only [←hc]
 rw [if_neg (by omega)]
 have ho:∀n:Nat,n<256→(UInt8.ofNat n).toNat=n:=fun n hn=>by simp [UInt8.toNat_ofNat'];omega
 split
 ·refine ⟨[UInt8.ofNat (192+c / 64),UInt8.ofNat (128+c % 64)],rfl,by simp,by simp,fun b hb=>?_⟩
  simp only [List.mem_cons,List.not_mem_nil,or_false] at hb
  rcases hb with rfl | rfl <;> rw [ho _ (by omega)] <;> omega
 ·split
  ·refine ⟨[UInt8.ofNat (224+c / 4096),UInt8.ofNat (128+c / 64 % 64),UInt8.ofNat (128+c % 64)],rfl,by simp,by simp,fun b hb=>?_⟩
   simp only [List.mem_cons,List.not_mem_nil,or_false] at hb
   rcases hb with rfl | rfl | rfl <;> rw [ho _ (by omega)] <;> omega
  ·refine ⟨[UInt8.ofNat (240+c / 262144),UInt8.ofNat (128+c / 4096 % 64),UInt8.ofNat (128+c / 64 % 64),UInt8.ofNat (128+c % 64)],rfl,by simp,by simp,fun b hb=>?_⟩
   simp only [List.mem_cons,List.not_mem_nil,or_false] at hb
   rcases hb with rfl | rfl | rfl | rfl <;> rw [ho _ (by omega)] <;> omega
theorem indexByte_none:∀ {l:List UInt8} {c:UInt8},(∀b,b ∈ l→b ≠ c)→Lib.indexByte l c=-1
 | [],_,_=>rfl
 | b::l,c,h=>by
  have hb:(b == c)=false:=by simpa using h b (by simp)
  rw [Lib.indexByte,hb,indexByte_none (fun b hb=>h b (by simp [hb]))]
  rfl
theorem decN_high (n b0 b1 b2 b3:Nat) (hn:1≤n) (h0:128≤b0):128≤(Lib.decodeN n b0 b1 b2 b3).1∧((Lib.decodeN n b0 b1 b2 b3).2=1∨((Lib.decodeN n b0 b1 b2 b3).2=2∧1<n∧128≤b1)∨((Lib.decodeN n b0 b1 b2 b3).2=3∧2<n∧128≤b1∧128≤b2)∨((Lib.decodeN n b0 b1 b2 b3).2=4∧3<n∧128≤b1∧128≤b2∧128≤b3)):=by
 unfold Lib.decodeN
 rw [if_neg (by omega)]
 split
 ·split
  ·exact ⟨by assumption,.inr (.inl ⟨rfl,by omega,by omega⟩)⟩
  ·exact ⟨by decide,.inl rfl⟩
 ·split
  ·split
   ·exact ⟨by show 128≤_;omega,.inr (.inr (.inl ⟨rfl,by omega,by omega,by omega⟩))⟩
   ·exact ⟨by decide,.inl rfl⟩
  ·split
   ·split
    ·exact ⟨by show 128≤_;omega,.inr (.inr (.inr ⟨rfl,by omega,by omega,by omega,by omega⟩))⟩
    ·exact ⟨by decide,.inl rfl⟩
   ·exact ⟨by decide,.inl rfl⟩
theorem dec_high (s:ByteArray) (i:Nat) (x:UInt8) (hx:s.data.toList[i]?=some x) (h:128≤x.toNat):128≤(Utf8.decode s i).1∧i+(Utf8.decode s i).2≤s.size∧∀j b,i≤j→j<i+(Utf8.decode s i).2→s.data.toList[j]?=some b→128≤b.toNat:=by
 have hl:s.data.toList.length=s.size:=by rw [Array.length_toList];rfl
 have hi:i<s.size:=by rw [←hl];exact (List.getElem?_eq_some_iff.1 hx).1
 have hg:∀k b,s.data.toList[k]?=some b→s.data.toList.getD k 0=b:=fun k b e=>by rw [List.getD_eq_getElem?_getD,e];rfl
 rw [Lib.decode_N s i]
 obtain ⟨h1,h2⟩:=decN_high (s.data.toList.length - i) (s.data.toList.getD i 0).toNat (s.data.toList.getD (i+1) 0).toNat (s.data.toList.getD (i+2) 0).toNat (s.data.toList.getD (i+3) 0).toNat (by omega) (by rw [hg _ _ hx];exact h)
 refine ⟨h1,by omega,fun j b hj1 hj2 hb=>?_⟩
 have:=hg j b hb
 have hj:j=i∨j=i+1∨j=i+2∨j=i+3:=by omega
 rcases hj with rfl | rfl | rfl | rfl
 ·rw [hx] at hb;cases hb;exact h
 all_goals
  have hb':=congrArg UInt8.toNat this
  omega
theorem cutp_any (s p:ByteArray) (w:World):Calls Tryz.prog 120 #[.string s,.string p] w fun e w'=>e=.returned (.tuple #[.string ⟨(Lib.trimPrefix s.data.toList p.data.toList).toArray⟩,.bool (Lib.hasPrefix s.data.toList p.data.toList)])∧w=w':=(Any.strings_CutPrefix jlays103 s p w).mono fun e w' h=>⟨h.1,h.2.symm⟩
theorem idxb_any (s:ByteArray) (c:Int) (w:World):Calls Tryz.prog 160 #[.string s,.int .u8 c] w fun e w'=>e=.returned (.int .i64 (Lib.indexByte s.data.toList c.toNat.toUInt8))∧w=w':=(Any.strings_IndexByte jlays137 s c w).mono fun e w' h=>⟨h.1,h.2.symm⟩
theorem idxr_low (s:ByteArray) (r:Int) (w:World) (h0:0≤r) (h1:r<128):Calls Tryz.prog 148 #[.string s,.int .i32 r] w fun e w'=>e=.returned (.int .i64 (Lib.indexByte s.data.toList r.toNat.toUInt8))∧w=w':=(Any.strings_IndexRune_ascii jlays152 s r w h0 h1).mono fun e w' h=>⟨h.1,h.2.symm⟩
theorem vrune_any (r:Int) (w:World) (h0:0≤r):Calls Tryz.prog 161 #[.int .i32 r] w fun e w'=>e=.returned (.bool (decide (r<55296∨(57343<r∧r≤1114111))))∧w=w':=by
 by_cases h1:r<55296
 ·rw [decide_eq_true (.inl h1)]
  go_enter Tryz.func161,Tryz.ntmps161
  go_wp2
  go_ret
  exact ⟨rfl,rfl⟩
 ·by_cases h2:57343<r
  ·by_cases h3:r≤1114111
   ·rw [decide_eq_true (.inr ⟨h2,h3⟩)]
    go_enter Tryz.func161,Tryz.ntmps161
    go_wp2
    go_ret
    exact ⟨rfl,rfl⟩
   ·rw [decide_eq_false (by omega)]
    go_enter Tryz.func161,Tryz.ntmps161
    go_wp2
    go_ret
    exact ⟨rfl,rfl⟩
  ·rw [decide_eq_false (by omega)]
   go_enter Tryz.func161,Tryz.ntmps161
   go_wp2
   go_ret
   exact ⟨rfl,rfl⟩
theorem sascii_any (n:Int) (w:World):Calls Tryz.prog 149 #[.int .i64 n] w fun e w'=>e=.returned (.bool (decide (8<n)))∧w=w':=by
 go_enter Tryz.func149,Tryz.ntmps149
 go_wp2
 go_ret
 exact ⟨rfl,rfl⟩
theorem idxr_high (s:ByteArray) (r:Int) (w:World) (h0:128≤r) (hs:s.size≤100) (hA:∀ (j:Nat) b,s.data.toList[j]?=some b→b.toNat<128):Calls Tryz.prog 148 #[.string s,.int .i32 r] w fun e w'=>e=.returned (.int .i64 (-1))∧Below w.heap.size w w':=by
 have HA:=Hh hA
 have h01:(0:Int)≤r:=by omega
 have h02:¬r<128:=by omega
 clear hA
 by_cases h65:r=65533
 ·subst h65
  go_enter Tryz.func148,Tryz.ntmps148
  go_upto_region 38 with fail
  go_loopg [5,6] s.size (fun g _ _ wx=>∃i:Nat,i+g=s.size∧wx=w.iter s i)
  case atStart=>exact ⟨0,by omega,rfl⟩
  case round=>
   obtain ⟨i,hig,rfl⟩:=hrel
   cases gk with
   | zero=>
    obtain rfl:i=s.size:=by omega
    have hnx:=run_next_end (P:=Tryz.prog) w s s.size
    go_wp2
    go_ret
    exact ⟨rfl,(Br _ _).alloc (Lr _) _⟩
   | succ g=>
    have hi:i<s.size:=by omega
    obtain ⟨x,hx⟩:∃x:UInt8,s[i]'hi=x:=⟨_,rfl⟩
    have hxl:s.data.toList[i]?=some x:=by rw [←hx];exact Lib.data_getElem? s i hi
    have hx128:x.toNat<128:=HA.out i x hxl
    have hnx:=fun ty=>run_next_ascii (P:=Tryz.prog) w s i ty hi (by rw [hx];exact hx128)
    rw [hx] at hnx
    have hne:((x.toNat:Int) == 65533)=false:=by simp;omega
    clear hxl hx
    go_wp2
    go_roundg g
    case measure=>omega
    case rel=>exact ⟨i+1,by omega,rfl⟩
 ·have hne:(r == 65533)=false:=by simpa using h65
  obtain ⟨l,hl,hl2,hl4,hlb⟩:=enc_high r h0
  obtain ⟨m,hm⟩:∃m,l.length=m+1:=⟨l.length - 1,by omega⟩
  have hEs:(Utf8.encode r).size=l.length:=by rw [hl];rfl
  have hm1:((Utf8.encode r).size:Int) - 1=(m:Int):=by omega
  have hmN:m+1=(Utf8.encode r).size:=by omega
  have hm2:(m:Int)<((Utf8.encode r).size:Int):=by omega
  have hm0:(0:Int)≤(m:Int):=by omega
  have hm3:(m:Int)≤3:=by omega
  obtain ⟨y,hy⟩:∃y,l[m]?=some y:=⟨_,List.getElem?_eq_getElem (by omega)⟩
  have hy128:=hlb y (List.mem_of_getElem? hy)
  have hEy:(Utf8.encode r).data.toList[m]?=some y:=by rw [hl];exact hy
  clear hl hlb hEs hm hy hl2 hl4
  have VR:=Hh (fun wx=>vrune_any r wx h01)
  clear h65
  generalize decide (r<55296∨(57343<r∧r≤1114111))=b at VR
  cases b with
  | false=>
   go_enter Tryz.func148,Tryz.ntmps148
   go_wp2_with (go_at_call 161;(with_reducible refine (VR.out _).mono ?_);rintro e w1 ⟨rfl,rfl⟩)
   go_ret
   exact ⟨rfl,Br _ _⟩
  | true=>
   go_enter Tryz.func148,Tryz.ntmps148
   go_upto_region 5 with ((with_reducible refine (VR.out _).mono ?_);rintro e w1 ⟨rfl,rfl⟩)
   go_step3
   go_upto_region 5 with fail
   go_loopw [9,10] (fun a b wr=>a=.int .i64 (m:Int)∧b=.int .i64 0∧wr=w) (fun _ _ _=>0)
   case atStart=>exact ⟨rfl,rfl,rfl⟩
   case round=>
    obtain ⟨rfl,rfl,rfl⟩:=hrel
    by_cases hlt:m<s.size
    ·have hlt':(m:Int)<(s.size:Int):=by omega
     obtain ⟨x,hx⟩:∃x,s.data.toList[m]?=some x:=⟨_,List.getElem?_eq_getElem (by rw [Array.length_toList];exact hlt)⟩
     have hx128:=HA.out _ _ hx
     have hxy:((x.toNat:Int) == (y.toNat:Int))=false:=by simp;omega
     obtain ⟨q,hq⟩:∃q,q=m+1:=⟨_,rfl⟩
     have IB:Hid (∀ (c:UInt8) (wx:World),128≤c.toNat→Calls Tryz.prog 160 #[.string (s.extract q s.size),.int .u8 (c.toNat:Int)] wx fun e w'=>e=.returned (.int .i64 (-1))∧wx=w'):=by
      intro c wx hc
      have hno:∀b,b ∈ (s.extract q s.size).data.toList→b ≠ c:=by
       intro b hb e
       subst e
       rw [ByteArray.data_extract,Array.toList_extract] at hb
       have hb2:=List.mem_of_mem_drop (List.mem_of_mem_take (by simpa [List.extract] using hb))
       obtain ⟨j,hj⟩:=List.getElem?_of_mem hb2
       have:=HA.out j _ hj
       omega
      have h:=idxb_any (s.extract q s.size) (c.toNat:Int) wx
      rwa [show ((c.toNat:Int)).toNat.toUInt8=c by simp,indexByte_none hno] at h
     have HY:Hid (∀h:m<(Utf8.encode r).size,128≤((Utf8.encode r)[m]'h).toNat):=by
      intro h
      have e:=Lib.data_getElem? (Utf8.encode r) m h
      rw [hEy] at e
      cases e
      exact hy128
     have hnq:((s[m]'hlt).toNat:Int) ≠ (((Utf8.encode r)[m]'(by omega)).toNat:Int):=by
      have e:=Lib.data_getElem? s m hlt
      rw [hx] at e
      have e:=Option.some.inj e
      have:=HY.out (by omega)
      rw [←e]
      omega
     have hw:IntKind.i64.wrap ((m:Int)+1)=(q:Int):=by rw [IntWalk.i64_in _ (by omega)];omega
     have hs1:(q:Int)≤(s.size:Int):=by omega
     have hs0:(0:Int)≤(q:Int):=by omega
     clear hmN hq
     go_wp2
     go_step3
     go_wp2
     go_quiet (fail)
     go_wp2
     go_quiet (first | (go_at_call 160;(with_reducible refine (IB.out _ _ (HY.out _)).mono ?_);exact fun e u h=>⟨h.1,_,h.2.symm⟩))
     go_wp2
     rw [Exit.noGoto_ret]
     go_wp2
     rw [Exit.noGoto_ret]
     go_wp2
     go_ret
     exact ⟨rfl,below_drewN (Br _ _) _⟩
    ·have hlt':¬ (m:Int)<(s.size:Int):=by omega
     go_wp2
     go_ret
     exact ⟨rfl,Br _ _⟩
theorem idxany_short (s chars:ByteArray) (w:World) (h2:2≤chars.size) (hc8:chars.size≤100) (h8:s.size≤8) (hA:∀ (j:Nat) b,chars.data.toList[j]?=some b→b.toNat<128):Calls Tryz.prog 137 #[.string s,.string chars] w fun e w'=>e=.returned (.int .i64 (Lib.indexAny s.data.toList chars.data.toList))∧Below w.heap.size w w':=by
 have HA:=Hh hA
 clear hA
 have hemp:chars.toList.isEmpty=false:=by
  rw [Lib.toList_data]
  cases h:chars.data.toList with
  | nil=>have:=Lib.size_eq chars;rw [h,List.length_nil] at this;omega
  | cons _ _=>rfl
 have hn1:((chars.size:Int) == 1)=false:=beq_eq_false_iff_ne.2 (by omega)
 have h8z:decide ((8:Int)<(s.size:Int))=false:=decide_eq_false (by omega)
 go_enter Tryz.func137,Tryz.ntmps137
 go_upto_region 18 with ((with_reducible refine (sascii_any _ _).mono ?_);rintro e w' ⟨rfl,rfl⟩;rw [h8z])
 have hb0:Below w.heap.size w (w.iter s 0):=(Br _ _).alloc (Lr _) _
 have hit0:(w.iter s 0).heap[w.heap.size]?=some (.stringIter s 0):=World.iter_heap w s 0
 generalize w.iter s 0=w0 at hb0 hit0 ⊢
 go_loopw [9,10] (fun _ _ wx=>∃i:Nat,i≤s.size∧wx.heap[w.heap.size]?=some (.stringIter s i)∧Below w.heap.size w wx∧Lib.NoAny s.data.toList chars.data.toList i) (fun _ _ wx=>s.size - wx.iterPos w.heap.size)
 case atStart=>exact ⟨0,Nat.zero_le _,hit0,hb0,Lib.NoAny.zero _ _⟩
 case round=>
  clear hb0 hit0
  obtain ⟨i,his,hit,hbw,hno⟩:=hrel
  have HN:=Hh hno
  clear hno
  have hpos0:=iterPos_of hit
  by_cases hi:i<s.size
  ·obtain ⟨x,hx⟩:∃x:UInt8,s[i]'hi=x:=⟨_,rfl⟩
   have hxl:s.data.toList[i]?=some x:=by rw [←hx];exact Lib.data_getElem? s i hi
   have hnx:∀ty,(Instr.next (.pointer (some ⟨w.heap.size,0,none⟩)) true ty).run Tryz.prog wr=_:=fun ty=>Lib.run_next_any_at wr w.heap.size s i ty hit hi
   have hit2:=Lib.iterAt_heap wr w.heap.size s i (i+(Utf8.decode s i).2) hit
   have hbw2:=Lib.below_iterAt hbw (k:=w.heap.size) (Lr _) s (i+(Utf8.decode s i).2)
   obtain ⟨W1,hW1⟩:∃W1,W1=wr.iterAt w.heap.size s (i+(Utf8.decode s i).2):=⟨_,rfl⟩
   rw [←hW1] at hnx hit2 hbw2
   have Hx:=Hh hxl
   clear hW1 hit hbw hx
   by_cases hx128:x.toNat<128
   ·have hd:Utf8.decode s i=(x.toNat,1):=by
     rw [Lib.decode_N s i,show s.data.toList.getD i 0=x by rw [List.getD_eq_getElem?_getD,hxl];rfl]
     exact Lib.decodeN_ascii _ _ _ _ _ hx128
    rw [hd] at hnx hit2
    clear hd hxl
    have hcon:=Lib.contains_iff_indexByte chars.data.toList x
    have R:=Hh (fun wx=>idxr_low chars (x.toNat:Int) wx (by omega) (by omega))
    rw [show ((x.toNat:Int)).toNat.toUInt8=x by simp] at R
    cases hin:chars.data.toList.contains x
    ·rw [hin] at hcon
     have hlt:¬ ((0:Int)≤Lib.indexByte chars.data.toList x):=of_decide_eq_false hcon.symm
     clear hcon
     go_wp2_with (go_at_call 148;(with_reducible refine (R.out _).mono ?_);rintro e w' ⟨rfl,rfl⟩)
     go_roundw
     case rel=>exact ⟨i+1,by omega,hit2,hbw2,HN.out.succ Hx.out hin⟩
     case measure=>rw [iterPos_of hit2,hpos0];show s.size - (i+1)<_;omega
    ·rw [hin] at hcon
     have hge:(0:Int)≤Lib.indexByte chars.data.toList x:=of_decide_eq_true hcon.symm
     clear hcon
     go_wp2_with (go_at_call 148;(with_reducible refine (R.out _).mono ?_);rintro e w' ⟨rfl,rfl⟩)
     go_ret
     exact ⟨by rw [Lib.indexAny_hit HN.out Hx.out hin];rfl,hbw2⟩
   ·obtain ⟨g1,g2,g3⟩:=dec_high s i x hxl (by omega)
    have g4:=Lib.width_pos s i
    have R:=Hh (fun wx=>idxr_high chars ((Utf8.decode s i).1:Int) wx (by omega) hc8 HA.out)
    have G3:=Hh g3
    have hiW:=lt_of_block hit2
    clear hxl g3
    generalize Utf8.decode s i=D at hnx hit2 g1 g2 g4 R G3
    obtain ⟨D1,D2⟩:=D
    simp only at hnx hit2 g1 g2 g4 R G3
    go_wp2_with (go_at_call 148;(with_reducible refine (R.out _).mono ?_);rintro e w2 ⟨rfl,hb2⟩)
    go_roundw
    case rel=>
     refine ⟨i+D2,by omega,(hb2.block _ hiW).trans hit2,hbw2.trans (hb2.mono hbw2.size),?_⟩
     intro j b hj hb
     by_cases hji:j<i
     ·exact HN.out j b hji hb
     ·have hb128:=G3.out j b (by omega) hj hb
      have:¬b ∈ chars.data.toList:=by
       intro hm
       obtain ⟨q,hq⟩:=List.getElem?_of_mem hm
       have:=HA.out q b hq
       omega
      simpa using this
    case measure=>rw [iterPos_of ((hb2.block _ hiW).trans hit2),hpos0];omega
  ·obtain rfl:i=s.size:=by omega
   have hnx:∀ty,(Instr.next (.pointer (some ⟨w.heap.size,0,none⟩)) true ty).run Tryz.prog wr=_:=fun ty=>Lib.run_next_end_at wr w.heap.size s s.size ty hit hi
   go_wp2
   go_ret
   exact ⟨by rw [Lib.indexAny_none (by rw [←Lib.size_eq];exact HN.out)];rfl,hbw⟩
theorem idxany_any (s chars:ByteArray) (w:World) (h2:2≤chars.size) (hc8:chars.size≤100) (hs:s.size≤1000000) (hA:∀ (j:Nat) b,chars.data.toList[j]?=some b→b.toNat<128):Calls Tryz.prog 137 #[.string s,.string chars] w fun e w'=>e=.returned (.int .i64 (Lib.indexAny s.data.toList chars.data.toList))∧Below w.heap.size w w':=by
 by_cases h8:s.size≤8
 ·exact idxany_short s chars w h2 hc8 h8 hA
 ·refine (Any.strings_IndexAny_long jlays153 (fun w=>by kernel_rfl) (by kernel_rfl) s chars w h2 (by omega) (by omega) (by omega) hA).mono fun e w' h=>⟨h.1,?_⟩
  rw [h.2]
  exact ((Br _ _).alloc (Lr _) _).alloc (by simp) _
end Go.Proofs.YtdppdonaojdceaaGreatDoor