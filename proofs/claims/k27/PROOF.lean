import PyProof.Rows.All
import Wide.All
import OpenK.AllK
import Wide.FinOn
import Lean
import PyProof.EqAt
import PyProof.EqKinds
import PyProof.TupleCall
import PyProof.StrLawsChain
import PyProof.StrLawsIn
import PyProof.Rows.StrNews2
import PyProof.StrBlockL
import PyProof.Rows.StrClose3
import PyProof.Rows.StrClose5
import PyProof.Rows.StrFirst
import PyProof.WalkInts
import PyProof.StrOps
import PyProof.WalksEnum
import PyProof.EnumMake
import PyProof.NeKinds
import KE.KEqDict
import KE.KRevIter
import PyProof.DictWalks
import PyProof.DictValues
import PyProof.ListRange
import PyProof.CollectIter
import PyProof.ZipIter
import PyProof.Rows.ZipGen
import PyProof.FString5
import KE.KDictLaws
import KE.KDictSum
import KE.KSortTup
import PyProof.Rows.SortStr
import PyProof.DictItems
import KE.KPairComp
import KE.KUnpack
import PyProof.P3Eq
import PyProof.Rows.SetFrom
import PyProof.Rows.Range3
import PySem.Challenge.RW_mostwise_k27_leaning
set_option Elab.async false
set_option linter.all false
set_option maxRecDepth 100000
set_option maxHeartbeats 4000000
open PySem.W renaming Frag → Qa, kitOne → Xv, findIn → Yd, kia_one → Yg, emptyDict → Yj, instObj → Yt, keepIn → Zb, fnOf → Zv, kHook → Jk, plainGet → Jl, Hook → Js, plainGet_of → Ju, lookIn → Jx, codeIn → Jy, callWith_K → Ua, methodObj → Ue, hasDictIn → Uf, specialIn → Ug, takerIn → Uv, cellsFrom_some → Uz, typeIn → Vd, methodCall_KW → Ve, subIn → Vo, isFn → Vt, plainOver → Vw, kitx_list → Vx, kitx_dict → Vy, handedIn → Wd, makesIn → Wf, takesIn → Wg, OpenLaw → Wh
open List renaming getElem?_cons_zero → Qb, length_map → Qc, getElem?_cons_succ → Qd, getElem?_eq_getElem → Qf, size_toArray → Qh, append_nil → Qi, mem_cons_self → Qj, mem_cons_of_mem → Qk, length_append → Ql, length_cons → Qm, set_cons_succ → Qn, set_cons_zero → Qo, mem_cons → Qt, mem_append_right → Qx, mem_append → Qy, mem_singleton → Qz, getElem?_eq_some_iff → Xa, take_succ_eq_append_getElem → Xd, length_nil → Xf, mem_append_left → Xg, length_take → Xh, getElem_mem → Xi, not_mem_nil → Xj, map_append → Xk, mem_map → Xm, map_cons → Xp, getElem?_map → Xr, length_singleton → Xw, lookup_cons → Yc, mem_filter → Ye, nodup_cons → Yh, take_length → Yn, range → Yo, mem_of_mem_take → Yp, append_assoc → Yq, mem_flatMap → Ys, pairwise_cons → Yx, getD_eq_getElem?_getD → Yy, length_range → Yz, lookup → Za, nodup_nil → Zd, filter_cons → Zf, toArray → Zg, getElem_map → Zh, find?_cons → Zk, flatMap_cons → Zm, length_filter_le → Zp, ext_getElem → Zq, getElem?_append_right → Zs, getElem?_append_left → Zu, length_erase_of_mem → Zx, filter_append → Zy, Nodup → Jb, length_eq_zero_iff → Jc, take_of_length_le → Je, length_pos_of_mem → Jg, any_cons → Ji, map_take → Jj, length_drop → Jm, mem_of_getElem? → Jp, filterMap_cons → Jt, flatMap_append → Jv, mem_range → Jw, Perm → Ub, length_eraseIdx_of_lt → Uc, map_nil → Ul, map_map → Uq, of_mem_zip → Uw, getElem?_set_self → Uy, getElem?_set_ne → Vj, getElem?_append → Vk, mem_erase_of_ne → Vl, mem_filterMap → Vs
open PySem.Heap renaming get?_push_of_some → Qe, get?_push_size → Qp, lt_size → Qq, SameBut → Xs, get?_update_self → Yl, get?_update_other → Yr, size_push → Zc, get?_push_ne → Jd, size_update → Up, get?_update_ne → Vp
open Nat renaming le_refl → Qg, le_trans → Qs, ne_of_lt → Qw, lt_of_lt_of_le → Xb, zero_le → Xl, lt_of_le_of_lt → Xq, lt_succ_of_lt → Xx, lt_succ_self → Yb, le_of_lt → Ze, le_succ → Zl, lt_irrefl → Zr, le_of_eq → Ui, lt_trans → Um, add_le_add → Vf, pow_le_pow_right → Vm, ne_of_gt → Vr
open Bool renaming false_ne_true → Qr, and_eq_true → Xe, false_eq_true → Yw, not_eq_true' → Zn, eq_iff_iff → Zt, or_eq_true → Ux, and_eq_true_iff → Vn
open Array renaming length_toList → Qu, getElem?_eq_getElem → Yk, getElem?_toList → Ym, getElem?_eq_none → Jf, getD → Jr, append_assoc → Vq, size_append → Wb, toList_push → Wc, Perm → Wi
open PySem.Str renaming ofString → Qv, empty → Vu
open PySem.F renaming plainAttrs_list → Xc, slot_list_append → Xn, type_list_append → Xo, slot_list_clear → Zi, type_list_clear → Zj, slot_list_extend → Zz, type_list_extend → Ja, plainAttrs_str → Jh, slot_dict_get → Jn, slot_dict_setdefault → Jz, plain_extend_loop → Uh, args_tuple_add_2 → Uk, entry_tuple_add → Ur, args_dict_get_3 → Us, plainAttrs_dict → Ut, plain_list_iadd → Uu, slot_tuple_add → Va, entry_dict_get → Vb, slot_str_join → Vh, type_str_join → Vi
open PySem.PyData renaming strOk → Xu, keyHash → Xz, str → Yi, eqv → Yv, eqvAll → Ud
open PySem.SeqAt renaming EqAt → Xy, shaped → Zw
open Int renaming toNat_natCast → Yu
open PySem.Txt renaming startswith → Zo, slice → Jo, slice_le → Uo
open Option renaming map_some → Jq, isSome_iff_exists → Uj, map_eq_some_iff → Vc, isSome_some → Vv, isSome_map → Vz, getD_none → We
open Classical renaming choose_spec → Vg
local macro_rules
 | `(‹sk›)=>`(⟨rfl,rfl,rfl,by decide+kernel,rfl,by decide+kernel,by decide+kernel⟩)
 | `(‹dk›)=>`(by decide+kernel)
 | `(‹iz›)=>`(by intro z;cases z)
 | `(‹dc›)=>`(by decide)
 | `(‹om›)=>`(by omega)
set_option compiler.extract_closed false
set_option bootstrap.genMatcherCode false
noncomputable section
namespace L2
open PySem PySem.Spec PyProof.Rows
def a0e (s:Stmt):Scope:=match s with
 | .FunctionDef _ _ _ _ _ _ sc _ _ _=>sc
 | _=>{kind:=.function,names:=[],isGenerator:=false,isCoroutine:=false}
def a0c (s:Stmt) (j:Nat):Stmt:=match s with
 | .ClassDef _ _ _ body _ _ _ _ _ _ _=>body.getD j (.Pass ⟨0,0,0,0⟩)
 | _=>.Pass ⟨0,0,0,0⟩
def a2d (s:Stmt):Arguments:=match s with
 | .FunctionDef _ a _ _ _ _ _ _ _ _=>a
 | _=>{posonlyargs:=[],args:=[],vararg:=none,kwonlyargs:=[],kw_defaults:=[],kwarg:=none,defaults:=[]}
def a1I (s:Stmt):List Stmt:=match s with
 | .FunctionDef _ _ b _ _ _ _ _ _ _=>b
 | _=>[]
end L2
namespace Tx
end Tx
namespace K27
open PySem L2 Tx
noncomputable def top (i:Nat):Stmt:=PySem.Challenge.pw_mostwise_k27_leaning.main.body.getD i (.Pass ⟨0,0,0,0⟩)
abbrev a6I:Stmt:=top 2
abbrev a7r:Stmt:=top 4
abbrev a6G:Stmt:=top 5
abbrev a7k:Stmt:=top 6
abbrev a5Z:Stmt:=top 7
abbrev a6R:Stmt:=a0c (top 9) 0
abbrev a6K:Stmt:=a0c (top 10) 0
abbrev a7u:Stmt:=a0c (top 15) 0
abbrev a6s:Stmt:=a0c (top 15) 1
abbrev a6i:Stmt:=top 17
abbrev a7m:Stmt:=top 18
abbrev a5B:Stmt:=top 19
abbrev a7n:Stmt:=top 20
abbrev a6J:Stmt:=top 21
abbrev a7d:Stmt:=top 22
abbrev a6m:Stmt:=top 23
abbrev a5k:Stmt:=top 24
abbrev a6b:Stmt:=top 25
abbrev a5Y:Stmt:=top 26
abbrev a6q:Stmt:=top 27
abbrev a7K:Stmt:=top 28
abbrev a1j:Stmt:=top 29
end K27
namespace K27
open PySem PySem.W L2
noncomputable section
noncomputable abbrev kE (P:Params) (x:String) (t:Nat) (v:Value):DictEntry:=⟨Xz P x,.str x t,v⟩
noncomputable abbrev kC (n q:String) (s:Stmt):Obj:=⟨.none,none,(.func ⟨n,q,a2d s,.stmts (a1I s),a0e s,0,[],.none,.none,.none,.none,none,.none,.none,0⟩),#[]⟩
noncomputable abbrev kD1 (n q:String) (t l a r u:Nat):Obj:=⟨.type "code",none,.fields #[.str n t,.str q (t+1),.str "/claim/cut.py" (t+2),.int l 0,.int a 0,.int 0 0,.int 0 0,.int 3 0,.ref r,.bool true,.int 181 0,.ref (r+1),.none,.ref (r+2),.ref (r+3),.ref (r+4),.int u 0,.int l 0,.str "/claim/cut.py" (u+1)],#[]⟩
noncomputable abbrev kD2 (n q:String) (t l a r u:Nat):Obj:=⟨.type "code",none,.fields #[.str n t,.str q (t+1),.str "/claim/cut.py" (t+2),.int l 0,.int a 0,.int 0 0,.int 0 0,.int 3 0,.ref r,.bool true,.int 181 0,.ref (r+1),.none,.none,.none,.ref (r+2),.int u 0,.int l 0,.str "/claim/cut.py" (u+1)],#[]⟩
noncomputable abbrev kG (n q:String) (s:Stmt) (m:Value) (c:Nat):FuncData:=Zv n q (a2d s) (a1I s) (a0e s) .none .none .none m none (.ref c) .none
noncomputable abbrev kF (n q:String) (s:Stmt) (m:Value) (c:Nat):Obj:=⟨.type "function",none,.func (kG n q s m c),#[]⟩
noncomputable abbrev kTs:Nat→List String→List Value
 | _,[]=>[]
 | t,x::l=>.str x t::kTs (t+1) l
noncomputable abbrev kT (t:Nat) (l:List String):Obj:=⟨.type "tuple",none,.seq ⟨kTs t l⟩ 0,#[]⟩
noncomputable abbrev kBs (f:String→Value) (P:Params):Nat→List String→List DictEntry
 | _,[]=>[]
 | t,x::l=>kE P x t (f x)::kBs f P (t+1) l
noncomputable abbrev kLs:List (Nat×Nat×Nat)→List Value
 | []=>[]
 | (a,b,c)::l=>.int a 0::.int b 0::.ref c::kLs l
noncomputable abbrev kL (l:List (Nat×Nat×Nat)):Obj:=⟨.none,none,.fields ⟨kLs l⟩,#[]⟩
noncomputable abbrev kQ (l:List DictEntry) (n:Nat):Obj:=⟨.type "dict",none,.dict ⟨l⟩ n,#[]⟩
noncomputable def kU:Obj:=⟨.type "tuple",none,.seq #[] 0,#[]⟩
noncomputable def kN:Obj:=⟨.none,none,.fields #[],#[]⟩
noncomputable abbrev m0:Value:=.str "__main__" 164
noncomputable abbrev m1:Value:=.str "mostwise.words" 194
noncomputable abbrev m2:Value:=.str "mostwise.leaning" 203
noncomputable abbrev m3:Value:=.str "mostwise.rules" 244
noncomputable abbrev m4:Value:=.str "mostwise.ground" 495
noncomputable abbrev m5:Value:=.str "law_mostwise_k27_leaning" 586
def o0 (P:Params):Obj:=kQ ([kE P "__name__" 1 (.str "builtins" 160),kE P "__doc__" 2 (.builtin "builtins.__doc__:str#opaque"),kE P "__package__" 3 (.builtin "builtins.__package__:str#opaque"),kE P "__loader__" 4 (.builtin "builtins.__loader__:shared#opaque"),kE P "__spec__" 5 (.builtin "builtins.__spec__#opaque")]++kBs .builtin P 6 ["__build_class__","__import__","abs","all","any","ascii","bin","breakpoint","callable","chr","compile","delattr","dir","divmod","eval","exec","format","getattr","globals","hasattr","hash","hex","id","input","isinstance","issubclass","iter","aiter","len","locals","max","min","next","anext","oct","ord","pow","print","repr","round","setattr","sorted","sum","vars"]++[kE P "None" 50 .none,kE P "Ellipsis" 51 .ellipsis,kE P "NotImplemented" 52 .notImplemented,kE P "False" 53 (.bool false),kE P "True" 54 (.bool true)]++kBs .type P 55 ["bool","memoryview","bytearray","bytes","classmethod","complex","dict","enumerate","filter","float","frozenset","property","int","list","map","object","range","reversed","set","slice","staticmethod","str","super","tuple","type","zip"]++[kE P "__debug__" 81 (.bool true)]++kBs .type P 82 ["BaseException","BaseExceptionGroup","Exception","GeneratorExit","KeyboardInterrupt","SystemExit","ArithmeticError","AssertionError","AttributeError","BufferError","EOFError","ImportError","LookupError","MemoryError","NameError","OSError","ReferenceError","RuntimeError","StopAsyncIteration","StopIteration","SyntaxError","SystemError","TypeError","ValueError","Warning","FloatingPointError","OverflowError","ZeroDivisionError","BytesWarning","DeprecationWarning","EncodingWarning","FutureWarning","ImportWarning","PendingDeprecationWarning","ResourceWarning","RuntimeWarning","SyntaxWarning","UnicodeWarning","UserWarning","BlockingIOError","ChildProcessError","ConnectionError","FileExistsError","FileNotFoundError","InterruptedError","IsADirectoryError","NotADirectoryError","PermissionError","ProcessLookupError","TimeoutError"]++kBs .type P 132 ["IndentationError","_IncompleteInputError","IndexError","KeyError","ModuleNotFoundError","NotImplementedError","PythonFinalizationError","RecursionError","UnboundLocalError","UnicodeError","BrokenPipeError","ConnectionAbortedError","ConnectionRefusedError","ConnectionResetError","TabError","UnicodeDecodeError","UnicodeEncodeError","UnicodeTranslateError","ExceptionGroup"]++[kE P "EnvironmentError" 151 (.type "OSError"),kE P "IOError" 152 (.type "OSError"),kE P "open" 153 (.builtin "open"),kE P "quit" 154 (.builtin "builtins.quit#opaque"),kE P "exit" 155 (.builtin "builtins.exit#opaque"),kE P "copyright" 156 (.builtin "builtins.copyright#opaque"),kE P "credits" 157 (.builtin "builtins.credits#opaque"),kE P "license" 158 (.builtin "builtins.license#opaque"),kE P "help" 159 (.builtin "builtins.help#opaque")]) 159
def o1 (P:Params):Obj:=kQ [kE P "builtins" 162 (.ref 4),kE P "__main__" 163 (.ref 5)] 2
noncomputable def o2:Obj:=⟨.none,none,(.dict #[] 0),#[]⟩
def o3 (P:Params):Obj:=kQ [kE P "__name__" 165 (.str "law_mostwise_k27_leaning" 586),kE P "__doc__" 166 .none,kE P "__package__" 167 .none,kE P "__loader__" 168 (.builtin "__main__.__loader__#opaque"),kE P "__spec__" 169 .none,kE P "__annotations__" 170 (.ref 6),kE P "__builtins__" 171 (.ref 4),kE P "__file__" 173 (.str "/claim/cut.py" 172),kE P "__cached__" 174 .none,kE P "_wall" 193 (.ref 21),kE P "opposite" 202 (.ref 28),kE P "reached" 215 (.ref 35),kE P "heads_by_premise" 225 (.ref 42),kE P "leans_on" 235 (.ref 49),kE P "leaners" 243 (.ref 56),kE P "Rule" 330 (.ref 122),kE P "Fact" 384 (.ref 171),kE P "Sure" 423 (.ref 204),kE P "Most" 455 (.ref 230),kE P "Block" 494 (.ref 263),kE P "Ground" 585 (.ref 331),kE P "_law_cell_at" 595 (.ref 342),kE P "_law_mix" 604 (.ref 349),kE P "_law_words" 610 (.ref 354),kE P "_law_opposed" 617 (.ref 361),kE P "_law_pool" 627 (.ref 368),kE P "_law_drawn" 636 (.ref 375),kE P "_law_numbers" 649 (.ref 382),kE P "_law_rule" 655 (.ref 387),kE P "_law_below" 666 (.ref 394),kE P "_law_above" 677 (.ref 401),kE P "_law_closed" 688 (.ref 408),kE P "_law_good" 701 (.ref 415),kE P "law" 707 (.ref 420)] 34
noncomputable def o4:Obj:=⟨(.type "module"),(some 0),.plain,#[]⟩
noncomputable def o5:Obj:=⟨(.type "module"),(some 3),.plain,#[]⟩
noncomputable def o6:Obj:=⟨(.type "dict"),none,(.dict #[] 0),#[]⟩
noncomputable def o9:Obj:=⟨(.type "code"),none,(.fields #[(.str "<module>" 176),(.str "<module>" 177),(.str "/claim/cut.py" 178),(.int (1) 0),(.int (0) 0),(.int (0) 0),(.int (0) 0),(.int (0) 0),(.ref 7),(.bool false),(.int (175) 0),(.ref 8),.none,.none,.none,.none,(.int (179) 0),(.int (1) 0),(.str "/claim/cut.py" 180)]),#[]⟩
noncomputable def o10:Obj:=⟨(.type "frame"),none,.plain,#[(some (.ref 9)),(some (.ref 3)),(some (.ref 3)),none,(some (.str "__main__" 164)),none,(some (.ref 0))]⟩
def o12:Obj:=kL [(1,0,20),(5,0,27),(8,0,34),(18,0,41),(24,0,48),(29,0,55),(32,0,62),(59,0,132),(75,0,179),(85,0,212),(92,0,238),(103,0,271),(135,0,341),(139,0,348),(144,0,353),(158,0,360),(162,0,367),(169,0,374),(174,0,381),(184,0,386),(196,0,393),(204,0,400),(212,0,407),(222,0,414),(234,0,419)]
noncomputable def o13:Obj:=⟨(.type "code"),none,(.fields #[(.str "<module>" 182),(.str "<module>" 183),(.str "/claim/cut.py" 184),(.int (1) 0),(.int (0) 0),(.int (0) 0),(.int (0) 0),(.int (0) 0),(.ref 11),(.bool false),(.int (181) 0),(.ref 12),.none,.none,.none,.none,(.int (185) 0),(.int (1) 0),(.str "/claim/cut.py" 186)]),#[]⟩
noncomputable def o14:Obj:=⟨(.type "frame"),none,.plain,#[(some (.ref 13)),(some (.ref 3)),(some (.ref 3)),none,(some (.str "__main__" 164)),none,(some (.ref 0))]⟩
def o17:Obj:=kT 190 ["k"]
def o19:Obj:=kC "_wall" "_wall" (top 0)
def o20:Obj:=kD1 "_wall" "_wall" 187 1 1 15 191
def o21:Obj:=kF "_wall" "_wall" (top 0) m0 20
def o24:Obj:=kT 199 ["statement"]
def o26:Obj:=kC "opposite" "opposite" a6I
def o27:Obj:=kD1 "opposite" "opposite" 196 5 1 22 200
def o28:Obj:=kF "opposite" "opposite" a6I m1 27
def o31:Obj:=kT 208 ["starts","steps","told","waiting","statement"]
def o33:Obj:=kC "reached" "reached" a7r
def o34:Obj:=kD1 "reached" "reached" 205 8 2 29 213
def o35:Obj:=kF "reached" "reached" a7r m2 34
def o38:Obj:=kT 219 ["ground","heads","rule","premise"]
def o40:Obj:=kC "heads_by_premise" "heads_by_premise" a6G
def o41:Obj:=kD1 "heads_by_premise" "heads_by_premise" 216 18 1 36 223
def o42:Obj:=kF "heads_by_premise" "heads_by_premise" a6G m2 41
def o45:Obj:=kT 229 ["ground","statement","premises","rule"]
def o47:Obj:=kC "leans_on" "leans_on" a7k
def o48:Obj:=kD1 "leans_on" "leans_on" 226 24 2 43 233
def o49:Obj:=kF "leans_on" "leans_on" a7k m2 48
def o52:Obj:=kT 239 ["ground","some"]
def o54:Obj:=kC "leaners" "leaners" a5Z
def o55:Obj:=kD1 "leaners" "leaners" 236 29 2 50 241
def o56:Obj:=kF "leaners" "leaners" a5Z m2 55
noncomputable def o58:Obj:=⟨(.type "builtin_function_or_method"),none,(.fields #[(.builtin "type.__prepare__"),(.type "type")]),#[]⟩
def o59 (P:Params):Obj:=kQ [kE P "__module__" 253 (.str "mostwise.rules" 244),kE P "__qualname__" 255 (.str "Rule" 254),⟨Xz P "__firstlineno__",(.str "__firstlineno__" 257),(.int (32) 256)⟩,kE P "__init__" 267 (.ref 70),kE P "word" 274 (.ref 77),kE P "speaks" 281 (.ref 84),kE P "is_sure" 288 (.ref 91),kE P "letters" 295 (.ref 98),kE P "again" 304 (.ref 105),kE P "filled" 312 (.ref 112),kE P "row" 319 (.ref 119),kE P "__static_attributes__" 323 (.ref 120)] 12
def o61:Obj:=kL [(34,4,69),(39,4,76),(42,4,83),(45,4,90),(48,4,97),(51,4,104),(54,4,111),(57,4,118)]
noncomputable def o62:Obj:=⟨(.type "code"),none,(.fields #[(.str "Rule" 248),(.str "Rule" 249),(.str "/claim/cut.py" 250),(.int (32) 0),(.int (0) 0),(.int (0) 0),(.int (0) 0),(.int (0) 0),(.ref 60),(.bool false),(.int (181) 0),(.ref 61),.none,.none,.none,.none,(.int (251) 0),(.int (32) 0),(.str "/claim/cut.py" 252)]),#[]⟩
noncomputable def o63:Obj:=⟨(.type "frame"),none,.plain,#[(some (.ref 62)),(some (.ref 3)),(some (.ref 59)),none,(some (.str "mostwise.rules" 244)),none,(some (.ref 0))]⟩
def o66:Obj:=kT 261 ["self","label","head","body"]
def o68:Obj:=kC "__init__" "Rule.__init__" a6R
def o69:Obj:=kD1 "__init__" "Rule.__init__" 258 34 4 64 265
def o70:Obj:=kF "__init__" "Rule.__init__" a6R m3 69
def o73:Obj:=kT 271 ["self"]
def o75:Obj:=kC "word" "Rule.word" (a0c (top 9) 1)
def o76:Obj:=kD1 "word" "Rule.word" 268 39 1 71 272
def o77:Obj:=kF "word" "Rule.word" (a0c (top 9) 1) m3 76
def o80:Obj:=kT 278 ["self"]
def o82:Obj:=kC "speaks" "Rule.speaks" (a0c (top 9) 2)
def o83:Obj:=kD1 "speaks" "Rule.speaks" 275 42 1 78 279
def o84:Obj:=kF "speaks" "Rule.speaks" (a0c (top 9) 2) m3 83
def o87:Obj:=kT 285 ["self"]
def o89:Obj:=kC "is_sure" "Rule.is_sure" (a0c (top 9) 3)
def o90:Obj:=kD1 "is_sure" "Rule.is_sure" 282 45 1 85 286
def o91:Obj:=kF "is_sure" "Rule.is_sure" (a0c (top 9) 3) m3 90
def o94:Obj:=kT 292 ["self"]
def o96:Obj:=kC "letters" "Rule.letters" (a0c (top 9) 4)
def o97:Obj:=kD1 "letters" "Rule.letters" 289 48 1 92 293
def o98:Obj:=kF "letters" "Rule.letters" (a0c (top 9) 4) m3 97
def b5I:Obj:=kT 299 ["self","head","body"]
def b7C:Obj:=kC "again" "Rule.again" (a0c (top 9) 5)
def b4I:Obj:=kD1 "again" "Rule.again" 296 51 3 99 302
def b7j:Obj:=kF "again" "Rule.again" (a0c (top 9) 5) m3 104
def b4d:Obj:=kT 308 ["self","given"]
def b7E:Obj:=kC "filled" "Rule.filled" (a0c (top 9) 6)
def b4w:Obj:=kD1 "filled" "Rule.filled" 305 54 2 106 310
def b6N:Obj:=kF "filled" "Rule.filled" (a0c (top 9) 6) m3 111
def b6A:Obj:=kT 316 ["self"]
def b7u:Obj:=kC "row" "Rule.row" (a0c (top 9) 7)
def b5x:Obj:=kD1 "row" "Rule.row" 313 57 1 113 317
def b7H:Obj:=kF "row" "Rule.row" (a0c (top 9) 7) m3 118
def b4l:Obj:=kT 320 ["body","head","label"]
def b6C (P:Params):Obj:=kQ [kE P "__module__" 253 (.str "mostwise.rules" 244),⟨Xz P "__firstlineno__",(.str "__firstlineno__" 257),(.int (32) 256)⟩,kE P "__init__" 267 (.ref 70),kE P "word" 274 (.ref 77),kE P "speaks" 281 (.ref 84),kE P "is_sure" 288 (.ref 91),kE P "letters" 295 (.ref 98),kE P "again" 304 (.ref 105),kE P "filled" 312 (.ref 112),kE P "row" 319 (.ref 119),kE P "__static_attributes__" 323 (.ref 120),kE P "__dict__" 325 (.ref 123),kE P "__weakref__" 327 (.ref 124),kE P "__doc__" 328 .none] 4
noncomputable def b5O:Obj:=⟨(.type "type"),none,(.cls ⟨"Rule",[(.type "object")],[(.ref 122),(.type "object")],121,"Rule",true,[],[(.ref 171),(.ref 204),(.ref 230),(.ref 263)],false,none,false⟩),#[none,none,(some (.str "Rule" 246)),(some (.str "Rule" 254)),(some (.builtin "object.__new__")),(some (.bool true))]⟩
noncomputable def b4o:Obj:=⟨(.type "getset_descriptor"),none,(.fields #[(.str "__dict__" 324),(.ref 122),(.builtin "function.__dict__"),(.builtin "function.__dict__#set")]),#[]⟩
noncomputable def b6f:Obj:=⟨(.type "getset_descriptor"),none,(.fields #[(.str "__weakref__" 326),(.ref 122),(.builtin "ExceptionGroup.__weakref__"),.none]),#[]⟩
noncomputable def b6R:Obj:=⟨(.type "super"),none,(.fields #[(.ref 122),(.ref 122),(.ref 122)]),#[]⟩
noncomputable def b6V:Obj:=⟨(.type "builtin_function_or_method"),none,(.fields #[(.builtin "object.__init_subclass__"),(.ref 122)]),#[]⟩
noncomputable def b4O:Obj:=⟨(.type "tuple"),none,(.seq #[(.ref 122)] 0),#[]⟩
noncomputable def b7Y:Obj:=⟨(.type "builtin_function_or_method"),none,(.fields #[(.builtin "type.__prepare__"),(.type "type")]),#[]⟩
def b7e (P:Params):Obj:=kQ [kE P "__module__" 338 (.str "mostwise.rules" 244),kE P "__qualname__" 340 (.str "Fact" 339),⟨Xz P "__firstlineno__",(.str "__firstlineno__" 342),(.int (59) 341)⟩,kE P "__init__" 350 (.ref 140),kE P "word" 357 (.ref 147),kE P "is_sure" 364 (.ref 154),kE P "again" 373 (.ref 161),kE P "row" 380 (.ref 168),kE P "__static_attributes__" 381 (.ref 169)] 9
def b6K:Obj:=kL [(61,4,139),(64,4,146),(67,4,153),(70,4,160),(73,4,167)]
noncomputable def b6I:Obj:=⟨(.type "code"),none,(.fields #[(.str "Fact" 333),(.str "Fact" 334),(.str "/claim/cut.py" 335),(.int (59) 0),(.int (0) 0),(.int (0) 0),(.int (0) 0),(.int (0) 0),(.ref 130),(.bool false),(.int (181) 0),(.ref 131),.none,.none,.none,.none,(.int (336) 0),(.int (59) 0),(.str "/claim/cut.py" 337)]),#[]⟩
noncomputable def b7v:Obj:=⟨(.type "frame"),none,.plain,#[(some (.ref 132)),(some (.ref 3)),(some (.ref 129)),none,(some (.str "mostwise.rules" 244)),none,(some (.ref 0))]⟩
def b5t:Obj:=kT 346 ["self","head"]
def b8I:Obj:=kC "__init__" "Fact.__init__" a6K
def b5i:Obj:=kD1 "__init__" "Fact.__init__" 343 61 2 134 348
def b5Y:Obj:=kF "__init__" "Fact.__init__" a6K m3 139
def b4g:Obj:=kT 354 ["self"]
def b8C:Obj:=kC "word" "Fact.word" (a0c (top 10) 1)
def b5U:Obj:=kD1 "word" "Fact.word" 351 64 1 141 355
def b8B:Obj:=kF "word" "Fact.word" (a0c (top 10) 1) m3 146
def b5v:Obj:=kT 361 ["self"]
def b7n:Obj:=kC "is_sure" "Fact.is_sure" (a0c (top 10) 2)
def b6x:Obj:=kD1 "is_sure" "Fact.is_sure" 358 67 1 148 362
def b8z:Obj:=kF "is_sure" "Fact.is_sure" (a0c (top 10) 2) m3 153
def b5c:Obj:=kT 368 ["self","head","body"]
def b7g:Obj:=kC "again" "Fact.again" (a0c (top 10) 3)
def b4H:Obj:=kD1 "again" "Fact.again" 365 70 3 155 371
def b7o:Obj:=kF "again" "Fact.again" (a0c (top 10) 3) m3 160
def b5m:Obj:=kT 377 ["self"]
def b7c:Obj:=kC "row" "Fact.row" (a0c (top 10) 4)
def b6b:Obj:=kD1 "row" "Fact.row" 374 73 1 162 378
def b7h:Obj:=kF "row" "Fact.row" (a0c (top 10) 4) m3 167
def b4V (P:Params):Obj:=kQ [kE P "__module__" 338 (.str "mostwise.rules" 244),⟨Xz P "__firstlineno__",(.str "__firstlineno__" 342),(.int (59) 341)⟩,kE P "__init__" 350 (.ref 140),kE P "word" 357 (.ref 147),kE P "is_sure" 364 (.ref 154),kE P "again" 373 (.ref 161),kE P "row" 380 (.ref 168),kE P "__static_attributes__" 381 (.ref 169),kE P "__doc__" 382 .none] 2
noncomputable def b4W:Obj:=⟨(.type "type"),none,(.cls ⟨"Fact",[(.ref 122)],[(.ref 171),(.ref 122),(.type "object")],170,"Fact",true,[],[],false,none,false⟩),#[(some (.ref 127)),none,(some (.str "Fact" 331)),(some (.str "Fact" 339)),(some (.builtin "object.__new__")),(some (.bool true))]⟩
noncomputable def b7y:Obj:=⟨(.type "super"),none,(.fields #[(.ref 171),(.ref 171),(.ref 171)]),#[]⟩
noncomputable def b8f:Obj:=⟨(.type "builtin_function_or_method"),none,(.fields #[(.builtin "object.__init_subclass__"),(.ref 171)]),#[]⟩
noncomputable def b4J:Obj:=⟨(.type "tuple"),none,(.seq #[(.ref 122)] 0),#[]⟩
noncomputable def b8h:Obj:=⟨(.type "builtin_function_or_method"),none,(.fields #[(.builtin "type.__prepare__"),(.type "type")]),#[]⟩
def b8b (P:Params):Obj:=kQ [kE P "__module__" 392 (.str "mostwise.rules" 244),kE P "__qualname__" 394 (.str "Sure" 393),⟨Xz P "__firstlineno__",(.str "__firstlineno__" 396),(.int (75) 395)⟩,kE P "word" 403 (.ref 187),kE P "is_sure" 410 (.ref 194),kE P "again" 419 (.ref 201),kE P "__static_attributes__" 420 (.ref 202)] 7
def b7X:Obj:=kL [(77,4,186),(80,4,193),(83,4,200)]
noncomputable def b7J:Obj:=⟨(.type "code"),none,(.fields #[(.str "Sure" 387),(.str "Sure" 388),(.str "/claim/cut.py" 389),(.int (75) 0),(.int (0) 0),(.int (0) 0),(.int (0) 0),(.int (0) 0),(.ref 177),(.bool false),(.int (181) 0),(.ref 178),.none,.none,.none,.none,(.int (390) 0),(.int (75) 0),(.str "/claim/cut.py" 391)]),#[]⟩
noncomputable def b7L:Obj:=⟨(.type "frame"),none,.plain,#[(some (.ref 179)),(some (.ref 3)),(some (.ref 176)),none,(some (.str "mostwise.rules" 244)),none,(some (.ref 0))]⟩
def b5b:Obj:=kT 400 ["self"]
def b8n:Obj:=kC "word" "Sure.word" (a0c (top 11) 0)
def b4K:Obj:=kD1 "word" "Sure.word" 397 77 1 181 401
def b8d:Obj:=kF "word" "Sure.word" (a0c (top 11) 0) m3 186
def b4h:Obj:=kT 407 ["self"]
def b7m:Obj:=kC "is_sure" "Sure.is_sure" (a0c (top 11) 1)
def b6F:Obj:=kD1 "is_sure" "Sure.is_sure" 404 80 1 188 408
def b8A:Obj:=kF "is_sure" "Sure.is_sure" (a0c (top 11) 1) m3 193
def b5J:Obj:=kT 414 ["self","head","body"]
def b7l:Obj:=kC "again" "Sure.again" (a0c (top 11) 2)
def b5S:Obj:=kD1 "again" "Sure.again" 411 83 3 195 417
def b8v:Obj:=kF "again" "Sure.again" (a0c (top 11) 2) m3 200
def b5p (P:Params):Obj:=kQ [kE P "__module__" 392 (.str "mostwise.rules" 244),⟨Xz P "__firstlineno__",(.str "__firstlineno__" 396),(.int (75) 395)⟩,kE P "word" 403 (.ref 187),kE P "is_sure" 410 (.ref 194),kE P "again" 419 (.ref 201),kE P "__static_attributes__" 420 (.ref 202),kE P "__doc__" 421 .none] 2
noncomputable def b4Q:Obj:=⟨(.type "type"),none,(.cls ⟨"Sure",[(.ref 122)],[(.ref 204),(.ref 122),(.type "object")],203,"Sure",true,[],[],false,none,false⟩),#[(some (.ref 174)),none,(some (.str "Sure" 385)),(some (.str "Sure" 393)),(some (.builtin "object.__new__")),(some (.bool true))]⟩
noncomputable def b8g:Obj:=⟨(.type "super"),none,(.fields #[(.ref 204),(.ref 204),(.ref 204)]),#[]⟩
noncomputable def b7G:Obj:=⟨(.type "builtin_function_or_method"),none,(.fields #[(.builtin "object.__init_subclass__"),(.ref 204)]),#[]⟩
noncomputable def b5L:Obj:=⟨(.type "tuple"),none,(.seq #[(.ref 122)] 0),#[]⟩
noncomputable def b8q:Obj:=⟨(.type "builtin_function_or_method"),none,(.fields #[(.builtin "type.__prepare__"),(.type "type")]),#[]⟩
def b7w (P:Params):Obj:=kQ [kE P "__module__" 431 (.str "mostwise.rules" 244),kE P "__qualname__" 433 (.str "Most" 432),⟨Xz P "__firstlineno__",(.str "__firstlineno__" 435),(.int (85) 434)⟩,kE P "word" 442 (.ref 220),kE P "again" 451 (.ref 227),kE P "__static_attributes__" 452 (.ref 228)] 6
def b6H:Obj:=kL [(87,4,219),(90,4,226)]
noncomputable def b8N:Obj:=⟨(.type "code"),none,(.fields #[(.str "Most" 426),(.str "Most" 427),(.str "/claim/cut.py" 428),(.int (85) 0),(.int (0) 0),(.int (0) 0),(.int (0) 0),(.int (0) 0),(.ref 210),(.bool false),(.int (181) 0),(.ref 211),.none,.none,.none,.none,(.int (429) 0),(.int (85) 0),(.str "/claim/cut.py" 430)]),#[]⟩
noncomputable def b7b:Obj:=⟨(.type "frame"),none,.plain,#[(some (.ref 212)),(some (.ref 3)),(some (.ref 209)),none,(some (.str "mostwise.rules" 244)),none,(some (.ref 0))]⟩
def b4G:Obj:=kT 439 ["self"]
def b7M:Obj:=kC "word" "Most.word" (a0c (top 12) 0)
def b5e:Obj:=kD1 "word" "Most.word" 436 87 1 214 440
def b8D:Obj:=kF "word" "Most.word" (a0c (top 12) 0) m3 219
def b4P:Obj:=kT 446 ["self","head","body"]
def b7D:Obj:=kC "again" "Most.again" (a0c (top 12) 1)
def b5f:Obj:=kD1 "again" "Most.again" 443 90 3 221 449
def b7d:Obj:=kF "again" "Most.again" (a0c (top 12) 1) m3 226
def b6w (P:Params):Obj:=kQ [kE P "__module__" 431 (.str "mostwise.rules" 244),⟨Xz P "__firstlineno__",(.str "__firstlineno__" 435),(.int (85) 434)⟩,kE P "word" 442 (.ref 220),kE P "again" 451 (.ref 227),kE P "__static_attributes__" 452 (.ref 228),kE P "__doc__" 453 .none] 2
noncomputable def b4m:Obj:=⟨(.type "type"),none,(.cls ⟨"Most",[(.ref 122)],[(.ref 230),(.ref 122),(.type "object")],229,"Most",true,[],[],false,none,false⟩),#[(some (.ref 207)),none,(some (.str "Most" 424)),(some (.str "Most" 432)),(some (.builtin "object.__new__")),(some (.bool true))]⟩
noncomputable def b6O:Obj:=⟨(.type "super"),none,(.fields #[(.ref 230),(.ref 230),(.ref 230)]),#[]⟩
noncomputable def b7a:Obj:=⟨(.type "builtin_function_or_method"),none,(.fields #[(.builtin "object.__init_subclass__"),(.ref 230)]),#[]⟩
noncomputable def b5g:Obj:=⟨(.type "tuple"),none,(.seq #[(.ref 122)] 0),#[]⟩
noncomputable def b7N:Obj:=⟨(.type "builtin_function_or_method"),none,(.fields #[(.builtin "type.__prepare__"),(.type "type")]),#[]⟩
def b8p (P:Params):Obj:=kQ [kE P "__module__" 463 (.str "mostwise.rules" 244),kE P "__qualname__" 465 (.str "Block" 464),⟨Xz P "__firstlineno__",(.str "__firstlineno__" 467),(.int (92) 466)⟩,kE P "word" 474 (.ref 246),kE P "speaks" 481 (.ref 253),kE P "again" 490 (.ref 260),kE P "__static_attributes__" 491 (.ref 261)] 7
def b8M:Obj:=kL [(94,4,245),(97,4,252),(100,4,259)]
noncomputable def b8G:Obj:=⟨(.type "code"),none,(.fields #[(.str "Block" 458),(.str "Block" 459),(.str "/claim/cut.py" 460),(.int (92) 0),(.int (0) 0),(.int (0) 0),(.int (0) 0),(.int (0) 0),(.ref 236),(.bool false),(.int (181) 0),(.ref 237),.none,.none,.none,.none,(.int (461) 0),(.int (92) 0),(.str "/claim/cut.py" 462)]),#[]⟩
noncomputable def b8i:Obj:=⟨(.type "frame"),none,.plain,#[(some (.ref 238)),(some (.ref 3)),(some (.ref 235)),none,(some (.str "mostwise.rules" 244)),none,(some (.ref 0))]⟩
def b4R:Obj:=kT 471 ["self"]
def b8r:Obj:=kC "word" "Block.word" (a0c (top 13) 0)
def b4F:Obj:=kD1 "word" "Block.word" 468 94 1 240 472
def b8u:Obj:=kF "word" "Block.word" (a0c (top 13) 0) m3 245
def b5q:Obj:=kT 478 ["self"]
def b6Q:Obj:=kC "speaks" "Block.speaks" (a0c (top 13) 1)
def b5h:Obj:=kD1 "speaks" "Block.speaks" 475 97 1 247 479
def b8R:Obj:=kF "speaks" "Block.speaks" (a0c (top 13) 1) m3 252
def b5P:Obj:=kT 485 ["self","head","body"]
def b7P:Obj:=kC "again" "Block.again" (a0c (top 13) 2)
def b6q:Obj:=kD1 "again" "Block.again" 482 100 3 254 488
def b8H:Obj:=kF "again" "Block.again" (a0c (top 13) 2) m3 259
def b5d (P:Params):Obj:=kQ [kE P "__module__" 463 (.str "mostwise.rules" 244),⟨Xz P "__firstlineno__",(.str "__firstlineno__" 467),(.int (92) 466)⟩,kE P "word" 474 (.ref 246),kE P "speaks" 481 (.ref 253),kE P "again" 490 (.ref 260),kE P "__static_attributes__" 491 (.ref 261),kE P "__doc__" 492 .none] 2
noncomputable def b5H:Obj:=⟨(.type "type"),none,(.cls ⟨"Block",[(.ref 122)],[(.ref 263),(.ref 122),(.type "object")],262,"Block",true,[],[],false,none,false⟩),#[(some (.ref 233)),none,(some (.str "Block" 456)),(some (.str "Block" 464)),(some (.builtin "object.__new__")),(some (.bool true))]⟩
noncomputable def b7W:Obj:=⟨(.type "super"),none,(.fields #[(.ref 263),(.ref 263),(.ref 263)]),#[]⟩
noncomputable def b6W:Obj:=⟨(.type "builtin_function_or_method"),none,(.fields #[(.builtin "object.__init_subclass__"),(.ref 263)]),#[]⟩
noncomputable def b6X:Obj:=⟨(.type "builtin_function_or_method"),none,(.fields #[(.builtin "type.__prepare__"),(.type "type")]),#[]⟩
def b7t (P:Params):Obj:=kQ [kE P "__module__" 504 (.str "mostwise.ground" 495),kE P "__qualname__" 506 (.str "Ground" 505),⟨Xz P "__firstlineno__",(.str "__firstlineno__" 508),(.int (103) 507)⟩,kE P "__init__" 519 (.ref 279),kE P "rules" 526 (.ref 286),kE P "ruling" 534 (.ref 293),kE P "speaking" 542 (.ref 300),kE P "against" 550 (.ref 307),kE P "beats" 559 (.ref 314),kE P "statements" 566 (.ref 321),kE P "part" 574 (.ref 328),kE P "__static_attributes__" 578 (.ref 329)] 12
def b6J:Obj:=kL [(105,4,278),(114,4,285),(117,4,292),(120,4,299),(123,4,306),(126,4,313),(129,4,320),(132,4,327)]
noncomputable def b7p:Obj:=⟨(.type "code"),none,(.fields #[(.str "Ground" 499),(.str "Ground" 500),(.str "/claim/cut.py" 501),(.int (103) 0),(.int (0) 0),(.int (0) 0),(.int (0) 0),(.int (0) 0),(.ref 269),(.bool false),(.int (181) 0),(.ref 270),.none,.none,.none,.none,(.int (502) 0),(.int (103) 0),(.str "/claim/cut.py" 503)]),#[]⟩
noncomputable def b8P:Obj:=⟨(.type "frame"),none,.plain,#[(some (.ref 271)),(some (.ref 3)),(some (.ref 268)),none,(some (.str "mostwise.ground" 495)),none,(some (.ref 0))]⟩
def b4Y:Obj:=kT 512 ["self","rules","pairs","rule","pair"]
def b7O:Obj:=kC "__init__" "Ground.__init__" a7u
def b5w:Obj:=kD1 "__init__" "Ground.__init__" 509 105 3 273 517
def b5D:Obj:=kF "__init__" "Ground.__init__" a7u m4 278
def b5E:Obj:=kT 523 ["self"]
def b7A:Obj:=kC "rules" "Ground.rules" a6s
def b4s:Obj:=kD1 "rules" "Ground.rules" 520 114 1 280 524
def b5V:Obj:=kF "rules" "Ground.rules" a6s m4 285
def b4E:Obj:=kT 530 ["self","statement"]
def b6L:Obj:=kC "ruling" "Ground.ruling" (a0c (top 15) 2)
def b4y:Obj:=kD1 "ruling" "Ground.ruling" 527 117 2 287 532
def b8S:Obj:=kF "ruling" "Ground.ruling" (a0c (top 15) 2) m4 292
def b6g:Obj:=kT 538 ["self","statement"]
def b8J:Obj:=kC "speaking" "Ground.speaking" (a0c (top 15) 3)
def b4T:Obj:=kD1 "speaking" "Ground.speaking" 535 120 2 294 540
def b7I:Obj:=kF "speaking" "Ground.speaking" (a0c (top 15) 3) m4 299
def b4n:Obj:=kT 546 ["self","statement"]
def b8a:Obj:=kC "against" "Ground.against" (a0c (top 15) 4)
def b4C:Obj:=kD1 "against" "Ground.against" 543 123 2 301 548
def b6T:Obj:=kF "against" "Ground.against" (a0c (top 15) 4) m4 306
def b6h:Obj:=kT 554 ["self","one","other"]
def b7s:Obj:=kC "beats" "Ground.beats" (a0c (top 15) 5)
def b6p:Obj:=kD1 "beats" "Ground.beats" 551 126 3 308 557
def b8j:Obj:=kF "beats" "Ground.beats" (a0c (top 15) 5) m4 313
def b5s:Obj:=kT 563 ["self"]
def b8o:Obj:=kC "statements" "Ground.statements" (a0c (top 15) 6)
def b4b:Obj:=kD1 "statements" "Ground.statements" 560 129 1 315 564
def b7k:Obj:=kF "statements" "Ground.statements" (a0c (top 15) 6) m4 320
def b5K:Obj:=kT 570 ["self","some"]
def b7F:Obj:=kC "part" "Ground.part" (a0c (top 15) 7)
def b4z:Obj:=kD1 "part" "Ground.part" 567 132 2 322 572
def b8K:Obj:=kF "part" "Ground.part" (a0c (top 15) 7) m4 327
def b6D:Obj:=kT 575 ["by_head","in_order","pairs"]
def b5G (P:Params):Obj:=kQ [kE P "__module__" 504 (.str "mostwise.ground" 495),⟨Xz P "__firstlineno__",(.str "__firstlineno__" 508),(.int (103) 507)⟩,kE P "__init__" 519 (.ref 279),kE P "rules" 526 (.ref 286),kE P "ruling" 534 (.ref 293),kE P "speaking" 542 (.ref 300),kE P "against" 550 (.ref 307),kE P "beats" 559 (.ref 314),kE P "statements" 566 (.ref 321),kE P "part" 574 (.ref 328),kE P "__static_attributes__" 578 (.ref 329),kE P "__dict__" 580 (.ref 332),kE P "__weakref__" 582 (.ref 333),kE P "__doc__" 583 .none] 4
noncomputable def b4Z:Obj:=⟨(.type "type"),none,(.cls ⟨"Ground",[(.type "object")],[(.ref 331),(.type "object")],330,"Ground",true,[],[],false,none,false⟩),#[none,none,(some (.str "Ground" 497)),(some (.str "Ground" 505)),(some (.builtin "object.__new__")),(some (.bool true))]⟩
noncomputable def b5Z:Obj:=⟨(.type "getset_descriptor"),none,(.fields #[(.str "__dict__" 579),(.ref 331),(.builtin "function.__dict__"),(.builtin "function.__dict__#set")]),#[]⟩
noncomputable def b5M:Obj:=⟨(.type "getset_descriptor"),none,(.fields #[(.str "__weakref__" 581),(.ref 331),(.builtin "ExceptionGroup.__weakref__"),.none]),#[]⟩
noncomputable def b6S:Obj:=⟨(.type "super"),none,(.fields #[(.ref 331),(.ref 331),(.ref 331)]),#[]⟩
noncomputable def b7Z:Obj:=⟨(.type "builtin_function_or_method"),none,(.fields #[(.builtin "object.__init_subclass__"),(.ref 331)]),#[]⟩
def b5T:Obj:=kT 591 ["_law_script","_law_k"]
def b7S:Obj:=kC "_law_cell_at" "_law_cell_at" a6i
def b4A:Obj:=kD1 "_law_cell_at" "_law_cell_at" 588 135 2 336 593
def b4L:Obj:=kF "_law_cell_at" "_law_cell_at" a6i m5 341
def b4c:Obj:=kT 599 ["_law_cell","_law_k","_law_number"]
def b6Y:Obj:=kC "_law_mix" "_law_mix" a7m
def b6j:Obj:=kD1 "_law_mix" "_law_mix" 596 139 2 343 602
def b5y:Obj:=kF "_law_mix" "_law_mix" a7m m5 348
def b8t:Obj:=kC "_law_words" "_law_words" a5B
def b6l:Obj:=kD2 "_law_words" "_law_words" 605 144 2 350 608
def b6u:Obj:=kF "_law_words" "_law_words" a5B m5 353
def b5F:Obj:=kT 614 ["_law_text"]
def b8e:Obj:=kC "_law_opposed" "_law_opposed" a7n
def b5A:Obj:=kD1 "_law_opposed" "_law_opposed" 611 158 1 355 615
def b5l:Obj:=kF "_law_opposed" "_law_opposed" a7n m5 360
def b6i:Obj:=kT 621 ["_law_script","_law_names","_law_things","_law_some"]
def b6Z:Obj:=kC "_law_pool" "_law_pool" a6J
def b4r:Obj:=kD1 "_law_pool" "_law_pool" 618 162 1 362 625
def b4M:Obj:=kF "_law_pool" "_law_pool" a6J m5 367
def b4S:Obj:=kT 631 ["_law_pool_here","_law_number","_law_text"]
def b8F:Obj:=kC "_law_drawn" "_law_drawn" a7d
def b5Q:Obj:=kD1 "_law_drawn" "_law_drawn" 628 169 2 369 634
def b5C:Obj:=kF "_law_drawn" "_law_drawn" a7d m5 374
def b5r:Obj:=kT 640 ["_law_cell","_law_many","_law_size","_law_plain","_law_found","_law_rest","_law_j"]
def b8s:Obj:=kC "_law_numbers" "_law_numbers" a6m
def b6r:Obj:=kD1 "_law_numbers" "_law_numbers" 637 174 4 376 647
def b4u:Obj:=kF "_law_numbers" "_law_numbers" a6m m5 381
def b8y:Obj:=kC "_law_rule" "_law_rule" a5k
def b5k:Obj:=kD2 "_law_rule" "_law_rule" 650 184 4 383 653
def b5X:Obj:=kF "_law_rule" "_law_rule" a5k m5 386
def b6v:Obj:=kT 659 ["_law_rules","_law_some","_law_found","_law_text","_law_rule_here"]
def b7U:Obj:=kC "_law_below" "_law_below" a6b
def b6a:Obj:=kD1 "_law_below" "_law_below" 656 196 2 388 664
def b6c:Obj:=kF "_law_below" "_law_below" a6b m5 393
def b4x:Obj:=kT 670 ["_law_rules","_law_some","_law_found","_law_text","_law_rule_here"]
def b7T:Obj:=kC "_law_above" "_law_above" a5Y
def b4X:Obj:=kD1 "_law_above" "_law_above" 667 204 2 395 675
def b4e:Obj:=kF "_law_above" "_law_above" a5Y m5 400
def b6e:Obj:=kT 681 ["_law_rules","_law_some","_law_way","_law_there","_law_last"]
def b7Q:Obj:=kC "_law_closed" "_law_closed" a6q
def b4p:Obj:=kD1 "_law_closed" "_law_closed" 678 212 3 402 686
def b6E:Obj:=kF "_law_closed" "_law_closed" a6q m5 407
def b5u:Obj:=kT 692 ["_law_ground","_law_rules","_law_some","_law_text","_law_found","_law_handed","_law_told"]
def b8x:Obj:=kC "_law_good" "_law_good" a7K
def b5W:Obj:=kD1 "_law_good" "_law_good" 689 222 3 409 699
def b6m:Obj:=kF "_law_good" "_law_good" a7K m5 414
def b6P:Obj:=kC "law" "law" a1j
def b5j:Obj:=kD2 "law" "law" 702 234 1 416 705
def b6t:Obj:=kF "law" "law" a1j m5 419
def p3 (P:Params):Obj:=kQ [kE P "__name__" 165 (.str "__main__" 164),kE P "__doc__" 166 .none,kE P "__package__" 167 .none,kE P "__loader__" 168 (.builtin "__main__.__loader__#opaque"),kE P "__spec__" 169 .none,kE P "__annotations__" 170 (.ref 6),kE P "__builtins__" 171 (.ref 4),kE P "__file__" 173 (.str "/claim/cut.py" 172),kE P "__cached__" 174 .none] 9
noncomputable def H0 (P:Params):Heap:=⟨⟨o0 P::o1 P::o2::p3 P::o4::o5::o6::kU::kN::o9::o10::[]⟩,{}⟩
noncomputable abbrev S0 (P:Params):List Obj:=o4::o5::o6::kU::kN::o9::o10::kU::[]
noncomputable abbrev S1 (P:Params):List Obj:=o13::o14::kU::kN::o17::kU::o19::o20::o21::kU::kN::o24::kU::o26::o27::o28::kU::kN::o31::kU::o33::o34::o35::kU::kN::o38::kU::o40::o41::o42::kU::kN::o45::kU::o47::o48::o49::kU::kN::o52::kU::o54::o55::o56::kU::o58::o59 P::kU::o61::o62::o63::kU::kN::o66::kU::o68::o69::o70::kU::kN::o73::kU::o75::o76::o77::kU::kN::o80::kU::o82::o83::o84::kU::kN::o87::kU::o89::o90::o91::kU::kN::o94::kU::o96::o97::o98::kU::kN::b5I::kU::b7C::b4I::b7j::kU::kN::b4d::kU::b7E::b4w::b6N::kU::kN::b6A::kU::b7u::b5x::b7H::b4l::b6C P::[]
noncomputable abbrev S2 (P:Params):List Obj:=b4o::b6f::b6R::b6V::b4O::b7Y::b7e P::kU::b6K::b6I::b7v::kU::kN::b5t::kU::b8I::b5i::b5Y::kU::kN::b4g::kU::b8C::b5U::b8B::kU::kN::b5v::kU::b7n::b6x::b8z::kU::kN::b5c::kU::b7g::b4H::b7o::kU::kN::b5m::kU::b7c::b6b::b7h::kU::b4V P::b4W::b7y::b8f::b4J::b8h::b8b P::kU::b7X::b7J::b7L::kU::kN::b5b::kU::b8n::b4K::b8d::kU::kN::b4h::kU::b7m::b6F::b8A::kU::kN::b5J::kU::b7l::b5S::b8v::kU::b5p P::b4Q::b8g::b7G::b5L::b8q::b7w P::kU::b6H::b8N::b7b::kU::kN::b4G::kU::b7M::b5e::b8D::kU::kN::b4P::kU::b7D::b5f::b7d::kU::b6w P::b4m::b6O::b7a::[]
noncomputable abbrev S3 (P:Params):List Obj:=b5g::b7N::b8p P::kU::b8M::b8G::b8i::kU::kN::b4R::kU::b8r::b4F::b8u::kU::kN::b5q::kU::b6Q::b5h::b8R::kU::kN::b5P::kU::b7P::b6q::b8H::kU::b5d P::b5H::b7W::b6W::kU::b6X::b7t P::kU::b6J::b7p::b8P::kU::kN::b4Y::kU::b7O::b5w::b5D::kU::kN::b5E::kU::b7A::b4s::b5V::kU::kN::b4E::kU::b6L::b4y::b8S::kU::kN::b6g::kU::b8J::b4T::b7I::kU::kN::b4n::kU::b8a::b4C::b6T::kU::kN::b6h::kU::b7s::b6p::b8j::kU::kN::b5s::kU::b8o::b4b::b7k::kU::kN::b5K::kU::b7F::b4z::b8K::b6D::b5G P::b4Z::b5Z::b5M::b6S::b7Z::kU::kN::b5T::kU::b7S::b4A::b4L::kU::kN::b4c::kU::b6Y::b6j::b5y::kU::kN::b8t::b6l::b6u::kU::kN::b5F::kU::b8e::b5A::b5l::kU::kN::b6i::kU::b6Z::b4r::b4M::kU::kN::b4S::kU::b8F::b5Q::b5C::kU::kN::b5r::kU::b8s::b6r::b4u::kU::kN::b8y::b5k::b5X::kU::kN::b6v::kU::b7U::b6a::b6c::kU::kN::b4x::kU::b7T::b4X::b4e::kU::kN::b6e::kU::b7Q::b4p::b6E::kU::kN::b5u::kU::b8x::b5W::b6m::kU::kN::b6P::b5j::b6t::[]
noncomputable def H1 (P:Params):Heap:=⟨⟨[o0 P,o1 P,o2,o3 P]++S0 P++[o12]++S1 P++[b5O]++S2 P++S3 P⟩,{}⟩
noncomputable def a3j:Params→Qa:=fun P=>
(nat_lit 2,o2)::(nat_lit 3,o3 P)::(nat_lit 15,kU)::(nat_lit 17,o17)::(nat_lit 18,kU)::(nat_lit 20,o20)::(nat_lit 22,kU)::(nat_lit 24,o24)::(nat_lit 25,kU)::(nat_lit 27,o27)::(nat_lit 28,o28)::(nat_lit 29,kU)::(nat_lit 31,o31)::(nat_lit 32,kU)::(nat_lit 34,o34)::(nat_lit 35,o35)::(nat_lit 36,kU)::(nat_lit 38,o38)::(nat_lit 39,kU)::(nat_lit 41,o41)::(nat_lit 42,o42)::(nat_lit 43,kU)::(nat_lit 45,o45)::(nat_lit 46,kU)::(nat_lit 48,o48)::(nat_lit 49,o49)::(nat_lit 50,kU)::(nat_lit 52,o52)::(nat_lit 53,kU)::(nat_lit 55,o55)::(nat_lit 56,o56)::(nat_lit 64,kU)::(nat_lit 66,o66)::(nat_lit 67,kU)::(nat_lit 69,o69)::(nat_lit 70,o70)::(nat_lit 71,kU)::(nat_lit 73,o73)::(nat_lit 74,kU)::(nat_lit 76,o76)::(nat_lit 78,kU)::(nat_lit 80,o80)::(nat_lit 81,kU)::(nat_lit 83,o83)::(nat_lit 85,kU)::(nat_lit 87,o87)::(nat_lit 88,kU)::(nat_lit 90,o90)::(nat_lit 92,kU)::(nat_lit 94,o94)::(nat_lit 95,kU)::(nat_lit 97,o97)::(nat_lit 99,kU)::(nat_lit 101,b5I)::(nat_lit 102,kU)::(nat_lit 104,b4I)::(nat_lit 106,kU)::(nat_lit 108,b4d)::(nat_lit 109,kU)::(nat_lit 111,b4w)::(nat_lit 113,kU)::(nat_lit 115,b6A)::(nat_lit 116,kU)::(nat_lit 118,b5x)::(nat_lit 120,b4l)::(nat_lit 121,b6C P)::(nat_lit 122,b5O)::(nat_lit 123,b4o)::(nat_lit 124,b6f)::(nat_lit 127,b4O)::(nat_lit 134,kU)::(nat_lit 136,b5t)::(nat_lit 137,kU)::(nat_lit 139,b5i)::(nat_lit 140,b5Y)::(nat_lit 141,kU)::(nat_lit 143,b4g)::(nat_lit 144,kU)::(nat_lit 146,b5U)::(nat_lit 148,kU)::(nat_lit 150,b5v)::(nat_lit 151,kU)::(nat_lit 153,b6x)::(nat_lit 155,kU)::(nat_lit 157,b5c)::(nat_lit 158,kU)::(nat_lit 160,b4H)::(nat_lit 162,kU)::(nat_lit 164,b5m)::(nat_lit 165,kU)::(nat_lit 167,b6b)::(nat_lit 169,kU)::(nat_lit 170,b4V P)::(nat_lit 171,b4W)::(nat_lit 174,b4J)::(nat_lit 181,kU)::(nat_lit 183,b5b)::(nat_lit 184,kU)::(nat_lit 186,b4K)::(nat_lit 188,kU)::(nat_lit 190,b4h)::(nat_lit 191,kU)::(nat_lit 193,b6F)::(nat_lit 195,kU)::(nat_lit 197,b5J)::(nat_lit 198,kU)::(nat_lit 200,b5S)::(nat_lit 202,kU)::(nat_lit 203,b5p P)::(nat_lit 204,b4Q)::(nat_lit 207,b5L)::(nat_lit 214,kU)::(nat_lit 216,b4G)::(nat_lit 217,kU)::(nat_lit 219,b5e)::(nat_lit 221,kU)::(nat_lit 223,b4P)::(nat_lit 224,kU)::(nat_lit 226,b5f)::(nat_lit 228,kU)::(nat_lit 229,b6w P)::(nat_lit 230,b4m)::(nat_lit 233,b5g)::(nat_lit 240,kU)::(nat_lit 242,b4R)::(nat_lit 243,kU)::(nat_lit 245,b4F)::(nat_lit 247,kU)::(nat_lit 249,b5q)::(nat_lit 250,kU)::(nat_lit 252,b5h)::(nat_lit 254,kU)::(nat_lit 256,b5P)::(nat_lit 257,kU)::(nat_lit 259,b6q)::(nat_lit 261,kU)::(nat_lit 262,b5d P)::(nat_lit 263,b5H)::(nat_lit 273,kU)::(nat_lit 275,b4Y)::(nat_lit 276,kU)::(nat_lit 278,b5w)::(nat_lit 279,b5D)::(nat_lit 280,kU)::(nat_lit 282,b5E)::(nat_lit 283,kU)::(nat_lit 285,b4s)::(nat_lit 286,b5V)::(nat_lit 287,kU)::(nat_lit 289,b4E)::(nat_lit 290,kU)::(nat_lit 292,b4y)::(nat_lit 294,kU)::(nat_lit 296,b6g)::(nat_lit 297,kU)::(nat_lit 299,b4T)::(nat_lit 301,kU)::(nat_lit 303,b4n)::(nat_lit 304,kU)::(nat_lit 306,b4C)::(nat_lit 308,kU)::(nat_lit 310,b6h)::(nat_lit 311,kU)::(nat_lit 313,b6p)::(nat_lit 315,kU)::(nat_lit 317,b5s)::(nat_lit 318,kU)::(nat_lit 320,b4b)::(nat_lit 322,kU)::(nat_lit 324,b5K)::(nat_lit 325,kU)::(nat_lit 327,b4z)::(nat_lit 329,b6D)::(nat_lit 330,b5G P)::(nat_lit 331,b4Z)::(nat_lit 332,b5Z)::(nat_lit 333,b5M)::(nat_lit 336,kU)::(nat_lit 338,b5T)::(nat_lit 339,kU)::(nat_lit 341,b4A)::(nat_lit 342,b4L)::(nat_lit 343,kU)::(nat_lit 345,b4c)::(nat_lit 346,kU)::(nat_lit 348,b6j)::(nat_lit 349,b5y)::(nat_lit 350,kU)::(nat_lit 353,b6l)::(nat_lit 354,b6u)::(nat_lit 355,kU)::(nat_lit 357,b5F)::(nat_lit 358,kU)::(nat_lit 360,b5A)::(nat_lit 361,b5l)::(nat_lit 362,kU)::(nat_lit 364,b6i)::(nat_lit 365,kU)::(nat_lit 367,b4r)::(nat_lit 368,b4M)::(nat_lit 369,kU)::(nat_lit 371,b4S)::(nat_lit 372,kU)::(nat_lit 374,b5Q)::(nat_lit 375,b5C)::(nat_lit 376,kU)::(nat_lit 378,b5r)::(nat_lit 379,kU)::(nat_lit 381,b6r)::(nat_lit 382,b4u)::(nat_lit 383,kU)::(nat_lit 386,b5k)::(nat_lit 387,b5X)::(nat_lit 388,kU)::(nat_lit 390,b6v)::(nat_lit 391,kU)::(nat_lit 393,b6a)::(nat_lit 394,b6c)::(nat_lit 395,kU)::(nat_lit 397,b4x)::(nat_lit 398,kU)::(nat_lit 400,b4X)::(nat_lit 401,b4e)::(nat_lit 402,kU)::(nat_lit 404,b6e)::(nat_lit 405,kU)::(nat_lit 407,b4p)::(nat_lit 408,b6E)::(nat_lit 409,kU)::(nat_lit 411,b5u)::(nat_lit 412,kU)::(nat_lit 414,b5W)::(nat_lit 415,b6m)::(nat_lit 416,kU)::(nat_lit 419,b5j)::(nat_lit 420,b6t)::[]
noncomputable abbrev a5t:List Addr:=[2,3,15,17,18,20,22,24,25,27,28,29,31,32,34,35,36,38,39,41,42,43,45,46,48,49,50,52,53,55,56,64,66,67,69,70,71,73,74,76,78,80,81,83,85,87,88,90,92,94,95,97,99,101,102,104,106,108,109,111,113,115,116,118,120,121,122,123,124,127,134,136,137,139,140,141,143,144,146,148,150,151,153,155,157,158,160,162,164,165,167,169,170,171,174,181,183,184,186,188,190,191,193,195,197,198,200,202,203,204,207,214,216,217,219,221,223,224,226,228,229,230,233,240,242,243,245,247,249,250,252,254,256,257,259,261,262,263,273,275,276,278,279,280,282,283,285,286,287,289,290,292,294,296,297,299,301,303,304,306,308,310,311,313,315,317,318,320,322,324,325,327,329,330,331,332,333,336,338,339,341,342,343,345,346,348,349,350,353,354,355,357,358,360,361,362,364,365,367,368,369,371,372,374,375,376,378,379,381,382,383,386,387,388,390,391,393,394,395,397,398,400,401,402,404,405,407,408,409,411,412,414,415,416,419,420]
theorem a6f:∀P,a5t=(a3j P).map (·.1):=fun _=>by kernel_rfl
noncomputable def a9J:Program:=PySem.W.view PySem.Challenge.pw_mostwise_k27_leaning [0,2,4,5,6,7,9,10,11,12,13,15,17,18,19,20,21,22,23,24,25,26,27,28,29]
theorem b0Q:∀w:World,(fencedOpening treeTable PySem.Challenge.pw_mostwise_k27_leaning w 5698).map (fun s=>(s.heap,s.gens,s.drawn,s.toks))=some (H0 w.params,#[],{},181):=fun w=>by kernel_rfl
theorem a5l {tb:String→Option Builtin} {p:Program} {w:World} {n₀:Nat} {ann:Option Value} {env:Env} {q:Pos} {n N a l:Nat} {s s' r:Shared} {b:List Stmt} {c:Code} {pos p':Pos} (h:segRun tb p w n₀ ann 1 n s (piecesOf ((b.drop a).take l) env c pos [topFrame q])=some (.next,s',c,p'))
  (k:topRun tb p w n₀ ann N s' (restOf (b.drop (a+l)) env c p' [topFrame q])=some r):topRun tb p w n₀ ann (n+N) s (restOf (b.drop a) env c pos [topFrame q])=some r:=by
 have e:=piece_app h k
 rwa [←List.drop_drop,List.take_append_drop] at e
noncomputable def b1S (P:Params):Heap:=⟨⟨o0 P::o1 P::o2::p3 P::o4::o5::o6::kU::kN::o9::o10::kU::kN::o13::o14::[]⟩,{}⟩
noncomputable def a6o (P:Params):Heap:=⟨⟨o0 P::o1 P::o2::p3 P::o4::o5::o6::kU::kN::o9::o10::kU::kN::o13::o14::[]⟩,{}⟩
noncomputable def b3l:Env:={scope:=PySem.Challenge.pw_mostwise_k27_leaning.main.scope,locals:=mainNs,globals:=mainNs,cells:=[],code:=(.ref 13),frame:=some 14}
noncomputable def a3Y:Code:=.body (behindTheImports PySem.Challenge.pw_mostwise_k27_leaning) b3l
noncomputable abbrev tFr:List Frame:=[topFrame ⟨0,0,0,0⟩]
noncomputable abbrev b3N (i:Nat) (q:Pos):Thread:=restOf ((behindTheImports PySem.Challenge.pw_mostwise_k27_leaning).drop i) b3l a3Y q tFr
theorem b3V:∀(w:World) (os:OsState),topGo treeTable PySem.Challenge.pw_mostwise_k27_leaning w 11 (some (.ref 6)) 12 ⟨H0 w.params,#[],{},181,os⟩ (topStub PySem.Challenge.pw_mostwise_k27_leaning)=some (⟨b1S w.params,#[],{},187,os⟩,⟨denote treeTable a3Y,a3Y,⟨0,0,0,0⟩,tFr⟩):=fun w os=>by kernel_rfl
theorem a9x:∀(w:World) (os:OsState),segRun treeTable PySem.Challenge.pw_mostwise_k27_leaning w 11 (some (.ref 6)) 1 1 ⟨b1S w.params,#[],{},187,os⟩ (blockOf (behindTheImports PySem.Challenge.pw_mostwise_k27_leaning) b3l a3Y ⟨0,0,0,0⟩ tFr)=some (.next,⟨a6o w.params,#[],{},187,os⟩,a3Y,⟨0,0,0,0⟩):=fun w os=>by kernel_rfl
def g13 (P:Params):Obj:=kQ [kE P "__name__" 165 (.str "mostwise.rules" 244),kE P "__doc__" 166 .none,kE P "__package__" 167 .none,kE P "__loader__" 168 (.builtin "__main__.__loader__#opaque"),kE P "__spec__" 169 .none,kE P "__annotations__" 170 (.ref 6),kE P "__builtins__" 171 (.ref 4),kE P "__file__" 173 (.str "/claim/cut.py" 172),kE P "__cached__" 174 .none,kE P "_wall" 193 (.ref 21),kE P "opposite" 202 (.ref 28),kE P "reached" 215 (.ref 35),kE P "heads_by_premise" 225 (.ref 42),kE P "leans_on" 235 (.ref 49),kE P "leaners" 243 (.ref 56),kE P "Rule" 330 (.ref 122),kE P "Fact" 384 (.ref 171),kE P "Sure" 423 (.ref 204),kE P "Most" 455 (.ref 230)] 19
def b7B:Obj:=kL [(1,0,20),(5,0,27),(8,0,34),(18,0,41),(24,0,48),(29,0,55),(32,0,62),(59,0,132),(75,0,179),(85,0,212)]
noncomputable def b3z:Obj:=⟨(.type "type"),none,(.cls ⟨"Rule",[(.type "object")],[(.ref 122),(.type "object")],121,"Rule",true,[],[(.ref 171),(.ref 204),(.ref 230)],false,none,false⟩),#[none,none,(some (.str "Rule" 246)),(some (.str "Rule" 254)),(some (.builtin "object.__new__")),(some (.bool true))]⟩
noncomputable def b5o (P:Params):Heap:=⟨⟨[o0 P,o1 P,o2,g13 P]++S0 P++[b7B]++S1 P++[b3z]++S2 P⟩,{}⟩
theorem b8l:∀(w:World) (os:OsState),segRun treeTable PySem.Challenge.pw_mostwise_k27_leaning w 11 (some (.ref 6)) 1 1612 ⟨a6o w.params,#[],{},187,os⟩ (piecesOf (((behindTheImports PySem.Challenge.pw_mostwise_k27_leaning).drop 0).take 13) b3l a3Y ⟨0,0,0,0⟩ tFr)=some (.next,⟨b5o w.params,#[],{},456,os⟩,a3Y,⟨85,0,91,17⟩):=fun w os=>by kernel_rfl
theorem b3K:∀(w:World) (os:OsState),topRun treeTable PySem.Challenge.pw_mostwise_k27_leaning w 11 (some (.ref 6)) 1178 ⟨b5o w.params,#[],{},456,os⟩ (b3N 13 ⟨85,0,91,17⟩)=some ⟨H1 w.params,#[],{},708,os⟩:=fun w os=>by kernel_rfl
theorem b3y:∀(w:World) (os:OsState),topRun treeTable PySem.Challenge.pw_mostwise_k27_leaning w 11 (some (.ref 6)) 2803 ⟨H0 w.params,#[],{},181,os⟩ (topStub PySem.Challenge.pw_mostwise_k27_leaning)=some ⟨H1 w.params,#[],{},708,os⟩:=fun w os=>go_top (n:=12) (b3V w os) (piece_block (n:=1) (a9x w os) (a5l (b8l w os) (b3K w os)))
end
end K27
namespace L2
open PySem PySem.Spec PyProof.Rows
abbrev Key:=Sum Int Str
def a5g:Key→Value→Bool
 | .inl k,v=>Value.isInt k v
 | .inr x,v=>Value.isStrOf x v
def b7q (w:World):Key→Int
 | .inl k=>hashInt k
 | .inr x=>hashStr w x
theorem a0q:∀{k:Key} {v:Value},a5g k v=true→(∃i t,k=Sum.inl i∧v=Value.int i t)∨(∃x t,k=Sum.inr x∧v=Value.str x t)
 | .inl i,v,h=>by
  obtain ⟨t,e⟩:=Value.isInt_shape (k:=i) (v:=v) h
  exact .inl ⟨i,t,rfl,e⟩
 | .inr x,v,h=>by
  obtain ⟨t,e⟩:=Value.isStrOf_shape (x:=x) (v:=v) h
  exact .inr ⟨x,t,rfl,e⟩
theorem a5W (i:Int) (t:Tok):a5g (.inl i) (.int i t)=true:=by simp [a5g,Value.isInt]
theorem a6n (x:Str) (t:Tok):a5g (.inr x) (.str x t)=true:=by simp [a5g,Value.isStrOf]
theorem b2I (a b:Int):decide ((Sum.inl a:Key)=Sum.inl b)=(a == b):=by
 by_cases e:a=b
 ·subst e;simp
 ·have h:¬(Sum.inl a:Key)=Sum.inl b:=fun q=>e (Sum.inl.inj q)
  rw [decide_eq_false h]
  exact (beq_eq_false_iff_ne.mpr e).symm
theorem b2U (a b:Str):decide ((Sum.inr a:Key)=Sum.inr b)=decide (a=b):=by
 by_cases e:a=b
 ·subst e;simp
 ·have h:¬(Sum.inr a:Key)=Sum.inr b:=fun q=>e (Sum.inr.inj q)
  rw [decide_eq_false h,decide_eq_false e]
theorem b1e (a:Int) (b:Str):decide ((Sum.inl a:Key)=Sum.inr b)=false:=decide_eq_false (fun q=>nomatch q)
theorem b2W (a:Str) (b:Int):decide ((Sum.inr a:Key)=Sum.inl b)=false:=decide_eq_false (fun q=>nomatch q)
def a0p (prog:Program) (w:World):PySem.KeyKind prog w Key where
 is:=a5g
 hash:=b7q w
 inj:=fun v a b ha hb=>by
  rcases a0q ha with ⟨i,t,rfl,rfl⟩ | ⟨x,t,rfl,rfl⟩
  ·rcases a0q hb with ⟨j,u,rfl,e⟩ | ⟨y,u,rfl,e⟩
   ·injection e with e1 _;rw [e1]
   ·exact nomatch e
  ·rcases a0q hb with ⟨j,u,rfl,e⟩ | ⟨y,u,rfl,e⟩
   ·exact nomatch e
   ·injection e with e1 _;rw [e1]
 byValue:=fun k v h=>by
  rcases a0q h with ⟨i,t,rfl,rfl⟩ | ⟨x,t,rfl,rfl⟩<;>rfl
 pyHash:=fun hv h=>by
  rcases a0q hv with ⟨i,t,rfl,rfl⟩ | ⟨x,t,rfl,rfl⟩
  ·exact wpAny_pyHash_int h
  ·exact wpAny_pyHash_str h
 eqBool:=fun hu hv h=>by
  rcases a0q hu with ⟨i,t,rfl,rfl⟩ | ⟨x,t,rfl,rfl⟩
  ·rcases a0q hv with ⟨j,u,rfl,rfl⟩ | ⟨y,u,rfl,rfl⟩
   ·rw [b2I] at h;exact wpAny_eqBool_int h
   ·rw [b1e] at h;exact Xy.int_str i t y u _ _ _ _ h
  ·rcases a0q hv with ⟨j,u,rfl,rfl⟩ | ⟨y,u,rfl,rfl⟩
   ·rw [b2W] at h;exact Xy.str_int x t j u _ _ _ _ h
   ·rw [b2U] at h;exact wpAny_eqBool_str h
 «strs»:=fun k x t v h=>by
  rcases a0q h with ⟨i,u,rfl,e⟩ | ⟨y,u,rfl,e⟩
  ·exact nomatch e
  ·injection e with e1 _
   subst e1
   cases v<;>rfl
theorem a4h (prog:Program) (w:World) (i:Int) (t:Tok):(a0p prog w).is (.inl i) (.int i t)=true:=a5W i t
theorem a2g (prog:Program) (w:World) (x:Str) (t:Tok):(a0p prog w).is (.inr x) (.str x t)=true:=a6n x t
inductive V where
 | non | bl (b:Bool) | int (i:Int) | str (x:Str) | byt (b:Array UInt8) | flt (b:UInt64) | ref (a:Addr) | ty (n:String)
 deriving DecidableEq
def a0s:V→Value→Prop
 | .non,u=>u=Value.none
 | .bl b,u=>u=Value.bool b
 | .int i,u=>∃t,u=Value.int i t
 | .str x,u=>∃t,u=Value.str x t
 | .byt b,u=>∃t,u=Value.bytes b t
 | .flt b,u=>∃t,u=Value.float b t
 | .ref a,u=>u=Value.ref a
 | .ty n,u=>u=Value.type n
abbrev a0r:List V→List Value→Prop:=Paired a0s
theorem a0r.length {xs:List V} {us:List Value} (r:a0r xs us):xs.length=us.length:=Paired.length r
theorem a0r.get:∀{xs:List V} {us:List Value} {i:Nat} {x:V},a0r xs us→xs[i]?=some x→∃u,us[i]?=some u∧a0s x u
 | _,_,_,_,.nil,e=>by simp at e
 | _,_,0,_,.cons r _,e=>by simp at e;subst e;exact ⟨_,rfl,r⟩
 | _,_,i+1,x,.cons _ t,e=>by
  obtain ⟨u,h1,h2⟩:=a0r.get (i:=i) (x:=x) t (by simpa using e)
  exact ⟨u,by simpa using h1,h2⟩
theorem a0r.set {x:V} {u:Value} (r:a0s x u):∀{xs:List V} {us:List Value} (i:Nat),a0r xs us→a0r (xs.set i x) (us.set i u)
 | _,_,_,.nil=>.nil
 | _,_,0,.cons _ t=>.cons r t
 | _,_,i+1,.cons q t=>.cons q (a0r.set r i t)
theorem a0r.append:∀{xs ys:List V} {us ws:List Value},a0r xs us→a0r ys ws→a0r (xs++ys) (us++ws)
 | _,_,_,_,.nil,s=>s
 | _,_,_,_,.cons r t,s=>.cons r (a0r.append t s)
theorem a0r.take:∀{xs:List V} {us:List Value} (n:Nat),a0r xs us→a0r (xs.take n) (us.take n)
 | _,_,0,_=>.nil
 | _,_,_+1,.nil=>.nil
 | _,_,n+1,.cons r t=>.cons r (a0r.take n t)
theorem a0r.drop:∀{xs:List V} {us:List Value} (n:Nat),a0r xs us→a0r (xs.drop n) (us.drop n)
 | _,_,0,r=>r
 | _,_,_+1,.nil=>.nil
 | _,_,n+1,.cons _ t=>a0r.drop n t
def a3b:Option V→Option Value→Prop
 | some v,some u=>a0s v u
 | none,none=>True
 | _,_=>False
def KV {κ:Type}:List (κ×V)→List (κ×Value)→Prop:=Paired fun (p:κ×V) (q:κ×Value)=>p.1=q.1∧a0s p.2 q.2
def kV:Key→V
 | .inl i=>.int i
 | .inr x=>.str x
inductive HO where
 | lst (xs:List V)
 | tup (xs:List V)
 | dK (kvs:List (Key×V)) | dT (kvs:List (List Key×V))
 | set (S:Int→Bool) (n:Nat)
 | ins (C dx:Addr) (fs:List (Str×V))
 | own (x:Addr)
 | xd (fs:List (Str×V))
 | met (f x:Addr)
 | rng (lo hi:Int)
 | frz (o:Obj) (u:HO)
 | tbl (ps:Array Value)
 | ext (φ:Heap→Prop)
abbrev Hp:=Addr→Option HO
def upd (H:Hp) (a:Addr) (o:HO):Hp:=fun b=>if b=a then some o else H b
theorem a0d {H:Hp} {a:Addr} {o:HO}:upd H a o a=some o:=by unfold upd;rw [if_pos rfl]
theorem a0a {H:Hp} {a b:Addr} {o:HO} (h:b≠a):upd H a o b=H b:=by unfold upd;rw [if_neg h]
theorem a9D {H:Hp} {a:Addr} {o u:HO}:upd (upd H a o) a u=upd H a u:=by
 funext b;unfold upd;split<;>rfl
theorem a0G {H:Hp} {a b:Addr} {o u:HO} (h:H a=some o) (h':H b=some u) (d:o≠u):a≠b:=by
 intro e;subst e;rw [h] at h';exact d (Option.some.inj h')
theorem a0b {H:Hp} {a b:Addr} {o:HO} (h:H a=some o) (h':H b=none):a≠b:=by
 intro e;subst e;rw [h] at h';cases h'
section
variable (P:Program) (w:World)
def a0A (H:Hp) (h:Heap) (a:Addr):HO→Prop
 | .lst xs=>xs.length≤sizeLine∧∃(its:List Value) (n:Nat),a0r xs its∧h.get? a=some {cls:=.type "list",data:=.seq its.toArray n}
 | .tup xs=>xs.length≤sizeLine∧∃its:List Value,a0r xs its∧IsTup h a its.toArray
 | .dK kvs=>kvs.length≤sizeLine∧(a == sysModules)=false∧∃vs,KV kvs vs∧h.DictOf (a0p P w) a vs
 | .dT kvs=>kvs.length≤sizeLine∧(a == sysModules)=false∧∃xs:List (List Key×Addr×Value),
   Paired (fun (p:List Key×V) (q:List Key×Addr×Value)=>p.1=q.1∧H q.2.1=some (.tup (p.1.map kV))∧a0s p.2 q.2.2) kvs xs∧
   ∃o es ep,h.get? a=some o∧o.ExactDict∧o.data=.dict es ep∧es.toList=xs.map (entryOfKey (tupleKind (a0p P w)))∧(xs.map (·.1)).Nodup
 | .set S n=>h.SetOf (intKind P w) a S n
 | .ins C dx fs=>H dx=some (.own a)∧fs.length≤1000∧dx≠a∧h.get? a=some (Yt C dx)∧
   ∃mA,h.Ns1 dx mA∧(∀f,a3b (fs.lookup f) (mA f))∧PySem.Within mA (fs.map (·.1))
 | .own _=>∃o,h.get? a=some o
 | .xd fs=>∃mA,h.Ns1 a mA∧∀f,a3b (fs.lookup f) (mA f)
 | .rng lo hi=>∃t u v,h.get? a=some {cls:=.type "range",data:=.fields #[.int lo t,.int hi u,.int 1 v]}
 | .frz o u=>h.get? a=some o∧a0A H h a u
 | .tbl ps=>h.get? a=some {cls:=.none,data:=.fields ps}
 | .met f x=>h.get? a=some (Ue (.ref f) (.ref x))
 | .ext φ=>φ h∧(∃o,h.get? a=some o)∧∀h1 h2:Heap,φ h1→(∀o,h1.get? a=some o→h2.get? a=some o)→φ h2
def HOk (H:Hp) (h:Heap):Prop:=∀a o,H a=some o→a0A P w H h a o
end
section
variable {P:Program} {w:World} {H H':Hp} {h h':Heap} {a:Addr} {o:HO}
theorem a0A.lt (x:a0A P w H h a o):a < h.objs.size:=by
 cases o with
 | lst xs=>obtain ⟨_,_,_,_,e⟩:=x;exact Qq e
 | tup xs=>obtain ⟨_,_,_,p⟩:=x;exact p.lt
 | dK kvs=>obtain ⟨_,_,_,_,o,_,_,e,_⟩:=x;exact Qq e
 | dT kvs=>obtain ⟨_,_,_,_,o,_,_,e,_⟩:=x;exact Qq e
 | set S n=>obtain ⟨o,_,_,_,e,_⟩:=x;exact Qq e
 | ins C dx fs=>obtain ⟨_,_,_,e,_⟩:=x;exact Qq e
 | own y=>obtain ⟨_,e⟩:=x;exact Qq e
 | xd fs=>obtain ⟨_,⟨_,_,_,e,_⟩,_⟩:=x;exact Qq e
 | rng lo hi=>obtain ⟨_,_,_,e⟩:=x;exact Qq e
 | frz ob u=>obtain ⟨e,_⟩:=x;exact Qq e
 | tbl ps=>exact Qq (show h.get? a=some _ from x)
 | met f y=>exact Qq (show h.get? a=some _ from x)
 | ext φ=>obtain ⟨_,⟨_,e⟩,_⟩:=x;exact Qq e
theorem Paired.mapP {α β:Type} {F G:α→β→Prop}:∀{l₁:List α} {l₂:List β},Paired F l₁ l₂→(∀a b,F a b→G a b)→Paired G l₁ l₂
 | _,_,.nil,_=>.nil
 | _,_,.cons r t,f=>.cons (f _ _ r) (Paired.mapP t f)
theorem a0A.stay (x:a0A P w H h a o) (k:∀b u,(b=a∨H b=some (.own a))→h.get? b=some u→h'.get? b=some u)
  (ho:∀b,H b=some (.own a)→H' b=some (.own a)) (ht:∀b xs,H b=some (.tup xs)→H' b=some (.tup xs)):a0A P w H' h' a o:=by
 induction o with
 | lst xs=>obtain ⟨z,its,n,r,e⟩:=x;exact ⟨z,its,n,r,k _ _ (.inl rfl) e⟩
 | tup xs=>obtain ⟨z,its,r,ob,e,c⟩:=x;exact ⟨z,its,r,ob,k _ _ (.inl rfl) e,c⟩
 | dK kvs=>obtain ⟨z,y,vs,r,ob,es,ep,e,c⟩:=x;exact ⟨z,y,vs,r,ob,es,ep,k _ _ (.inl rfl) e,c⟩
 | dT kvs=>
  obtain ⟨z,y,xs,r,ob,es,ep,e,c⟩:=x
  exact ⟨z,y,xs,Paired.mapP r fun p q z=>⟨z.1,ht _ _ z.2.1,z.2.2⟩,ob,es,ep,k _ _ (.inl rfl) e,c⟩
 | set S n=>obtain ⟨ob,es,ep,t,e,c⟩:=x;exact ⟨ob,es,ep,t,k _ _ (.inl rfl) e,c⟩
 | ins C dx fs=>
  obtain ⟨d,z,ne,e,mA,⟨od,es,ep,e2,c⟩,r⟩:=x
  exact ⟨ho _ d,z,ne,k _ _ (.inl rfl) e,mA,⟨od,es,ep,k _ _ (.inr d) e2,c⟩,r⟩
 | own y=>obtain ⟨ob,e⟩:=x;exact ⟨ob,k _ _ (.inl rfl) e⟩
 | xd fs=>obtain ⟨mA,⟨od,es,ep,e,c⟩,r⟩:=x;exact ⟨mA,⟨od,es,ep,k _ _ (.inl rfl) e,c⟩,r⟩
 | rng lo hi=>obtain ⟨t,u,v,e⟩:=x;exact ⟨t,u,v,k _ _ (.inl rfl) e⟩
 | frz ob u ih=>obtain ⟨e,q⟩:=x;exact ⟨k _ _ (.inl rfl) e,ih q⟩
 | tbl ps=>
  have e:h.get? a=some {cls:=.none,data:=.fields ps}:=x
  show h'.get? a=some {cls:=.none,data:=.fields ps}
  exact k a _ (.inl rfl) e
 | met f y=>
  have e:h.get? a=some (Ue (.ref f) (.ref y)):=x
  show h'.get? a=some (Ue (.ref f) (.ref y))
  exact k a _ (.inl rfl) e
 | ext φ=>obtain ⟨p,⟨o,e⟩,st⟩:=x;exact ⟨st _ _ p fun o q=>k _ _ (.inl rfl) q,⟨o,k _ _ (.inl rfl) e⟩,st⟩
theorem HOk.lt (x:HOk P w H h) (e:H a=some o):a < h.objs.size:=(x a o e).lt
theorem HOk.fresh (x:HOk P w H h) (e:h.objs.size≤a):H a=none:=by
 cases q:H a with
 | none=>rfl
 | some u=>exact absurd (Xb (x.lt q) e) (Zr _)
theorem HOk.kept (x:HOk P w H h) (k:∀b u,h.get? b=some u→h'.get? b=some u):HOk P w H h':=fun a o e=>
 (x a o e).stay (fun b u _ q=>k b u q) (fun _ q=>q) fun _ _ q=>q
theorem HOk.laid (x:HOk P w H h) (k:∀b u,h.get? b=some u→h'.get? b=some u) (hp:h.objs.size≤a) (new:a0A P w (upd H a o) h' a o):HOk P w (upd H a o) h':=fun b u e=>by
 have hn:=x.fresh hp
 by_cases hb:b=a
 ·subst hb;rw [a0d] at e;cases e;exact new
 ·rw [a0a hb] at e
  exact (x b u e).stay (fun c v _ q=>k c v q) (fun c q=>by rw [a0a (a0b q hn)];exact q) fun c xs q=>by rw [a0a (a0b q hn)];exact q
end
def Rd (H:Hp) (a:Addr) (u:HO):Prop:=H a=some u∨∃o,H a=some (.frz o u)
theorem Rd.ok {P:Program} {w:World} {H:Hp} {h:Heap} {a:Addr} {u:HO} (r:Rd H a u) (x:HOk P w H h):a0A P w H h a u:=by
 rcases r with r | ⟨o,r⟩
 ·exact x a u r
 ·obtain ⟨_,q⟩:=x a _ r
  exact q
def Mut:Option HO→Prop
 | some (.lst _)=>True
 | some (.dK _)=>True
 | some (.dT _)=>True
 | some (.set _ _)=>True
 | some (.ins _ _ _)=>True
 | some (.ext _)=>True
 | _=>False
section
variable {P:Program} {w:World} {H:Hp} {h h':Heap} {x e:Addr} {o':HO}
theorem HOk.write (ok:HOk P w H h) (mu:Mut (H x)) (he:e=x∨H e=some (.own x)) (k:∀b u,b≠e→h.get? b=some u→h'.get? b=some u) (heo:∃u,h'.get? e=some u)
  (new:a0A P w (upd H x o') h' x o'):HOk P w (upd H x o') h':=fun b u q=>by
 have nown:∀c y,H c=some (.own y)→c≠x:=fun c y r z=>by subst z;rw [r] at mu;exact mu
 have ntup:∀c xs,H c=some (.tup xs)→c≠x:=fun c xs r z=>by subst z;rw [r] at mu;exact mu
 by_cases hb:b=x
 ·subst hb;rw [a0d] at q;cases q;exact new
 ·rw [a0a hb] at q
  by_cases hbe:b=e
  ·have q':H b=some (.own x):=by
    rcases he with z | z
    ·exact absurd (hbe.trans z) hb
    ·rw [hbe];exact z
   rw [q] at q';cases q'
   obtain ⟨v,hv⟩:=heo
   exact ⟨v,by rw [hbe];exact hv⟩
  ·refine (ok b u q).stay (fun c v hc r=>k c v ?_ r) (fun c r=>by rw [a0a (nown c b r)];exact r) fun c xs r=>by rw [a0a (ntup c xs r)];exact r
   rcases hc with rfl | hc
   ·exact hbe
   ·rintro rfl
    rcases he with z | z
    ·exact nown c b hc z
    ·rw [hc] at z;cases z;exact hb rfl
end
structure Un (fs ex:List Addr) (H H':Hp) (h h':Heap):Prop where
 keep:∀b o,h.get? b=some o→H b=none→b∉fs→b∉ex→h'.get? b=some o
 slot:∀b o,h.get? b=some o→H b=none→b∈fs→b∉ex→∃sl,h'.get? b=some {o with slots:=sl}
 free:∀b o,h.get? b=some o→H b=none→b∉ex→H' b=none
 there:∀b o,h.get? b=some o→b∉ex→∃o',h'.get? b=some o'
 tups:∀b xs,H b=some (.tup xs)→H' b=some (.tup xs)
 frzs:∀b o u,H b=some (.frz o u)→H' b=some (.frz o u)
 tbls:∀b ps,H b=some (.tbl ps)→∃more,H' b=some (.tbl (ps++more))
section
variable {fs fs' ex ex':List Addr} {H H1 H2:Hp} {h h1 h2 h':Heap} {a x e:Addr} {o:HO}
theorem Un.any (u:Un fs ex H H1 h h1) {b:Addr} {ob:Obj} (q:h.get? b=some ob) (n:H b=none) (hx:b∉ex):∃sl,h1.get? b=some {ob with slots:=sl}:=by
 by_cases hb:b∈fs
 ·exact u.slot b ob q n hb hx
 ·exact ⟨ob.slots,u.keep b ob q n hb hx⟩
theorem Un.trans (a:Un fs ex H H1 h h1) (b:Un fs ex H1 H2 h1 h2):Un fs ex H H2 h h2 where
 keep:=fun c ob q n hc hx=>b.keep c ob (a.keep c ob q n hc hx) (a.free c ob q n hx) hc hx
 slot:=fun c ob q n hc hx=>by
  obtain ⟨sl,e1⟩:=a.slot c ob q n hc hx
  obtain ⟨sl',e2⟩:=b.slot c _ e1 (a.free c ob q n hx) hc hx
  exact ⟨sl',e2⟩
 free:=fun c ob q n hx=>by
  obtain ⟨o',e1⟩:=a.there c ob q hx
  exact b.free c o' e1 (a.free c ob q n hx) hx
 there:=fun c ob q hx=>by
  obtain ⟨o',e1⟩:=a.there c ob q hx
  exact b.there c o' e1 hx
 tups:=fun c xs q=>b.tups c xs (a.tups c xs q)
 frzs:=fun c ob xs q=>b.frzs c ob xs (a.frzs c ob xs q)
 tbls:=fun c ps q=>by
  obtain ⟨m1,e1⟩:=a.tbls c ps q
  obtain ⟨m2,e2⟩:=b.tbls c _ e1
  exact ⟨m1++m2,by rw [e2,Vq]⟩
theorem Un.kept (k:∀b u,h.get? b=some u→h'.get? b=some u):Un fs ex H H h h':=
 ⟨fun b ob q _ _ _=>k b ob q,fun b ob q _ _ _=>⟨ob.slots,k b ob q⟩,fun _ _ _ n _=>n,fun b ob q _=>⟨ob,k b ob q⟩,fun _ _ q=>q,fun _ _ _ q=>q,fun _ ps q=>⟨#[],by rw [q];simp⟩⟩
theorem Un.refl:Un fs ex H H h h:=Un.kept fun _ _ q=>q
theorem Un.laid (k:∀b u,h.get? b=some u→h'.get? b=some u) (hp:h.objs.size≤a) (hn:H a=none):Un fs ex H (upd H a o) h h' where
 keep:=fun b u q _ _ _=>k b u q
 slot:=fun b u q _ _ _=>⟨u.slots,k b u q⟩
 free:=fun b u q n _=>by rw [a0a (Qw (Xb (Qq q) hp))];exact n
 there:=fun b u q _=>⟨u,k b u q⟩
 tups:=fun b xs q=>by rw [a0a (a0b q hn)];exact q
 frzs:=fun b u xs q=>by rw [a0a (a0b q hn)];exact q
 tbls:=fun b ps q=>⟨#[],by rw [a0a (a0b q hn),q];simp⟩
theorem Un.write (mu:Mut (H x)) (he:e=x∨H e=some (.own x)) (k:∀b u,b≠e→h.get? b=some u→h'.get? b=some u) (heo:∃u,h'.get? e=some u):Un fs ex H (upd H x o) h h':=by
 have hx:∀b,H b=none→b≠x:=fun b n z=>by subst z;rw [n] at mu;exact mu
 have hb:∀b,H b=none→b≠e:=fun b n z=>by
  subst z
  rcases he with r | r
  ·exact hx b n r
  ·rw [n] at r;cases r
 have hm:∀b u,H b=some u→¬Mut (some u)→b≠x:=fun b u q nm z=>by subst z;rw [q] at mu;exact nm mu
 refine ⟨fun b u q n _ _=>k b u (hb b n) q,fun b u q n _ _=>⟨u.slots,k b u (hb b n) q⟩,fun b u q n _=>by rw [a0a (hx b n)];exact n,fun b u q _=>?_,
  fun b xs q=>by rw [a0a (hm b _ q fun z=>z)];exact q,fun b u xs q=>by rw [a0a (hm b _ q fun z=>z)];exact q,fun b ps q=>⟨#[],by rw [a0a (hm b _ q fun z=>z),q];simp⟩⟩
 by_cases hbe:b=e
 ·subst hbe;exact heo
 ·exact ⟨u,k b u hbe q⟩
end
def trk (h:Heap) (H:Hp):List Addr:=(Yo h.objs.size).filter fun a=>(H a).isSome
def a8r (h:Heap) (H:Hp):Heap:=PySem.W.hideAll h (trk h H)
theorem a7H (h:Heap) (H:Hp):(a8r h H).objs.size=h.objs.size:=PySem.W.hideAll_size _ _
theorem a8A {h:Heap} {H:Hp} {b:Addr} {o:Obj} (e:h.get? b=some o) (n:H b=none):(a8r h H).get? b=some o:=
 PySem.W.hideAll_get _ e fun hm=>by
  have q:(H b).isSome=true:=(Ye.mp hm).2
  rw [n] at q;simp at q
theorem b0f {h:Heap} {H:Hp} {b:Addr} {o:Obj} (e:(a8r h H).get? b=some o):h.get? b=some o∧H b=none:=by
 have e':h.get? b=some o:=PySem.W.of_hideAll (trk h H) e
 refine ⟨e',?_⟩
 cases q:H b with
 | none=>rfl
 | some x=>
  have hm:b∈trk h H:=Ye.mpr ⟨Jw.mpr (Qq e'),by simp [q]⟩
  have z:(a8r h H).get? b=none:=PySem.W.hideAll_none (trk h H) hm
  rw [z] at e;cases e
def a9H (g h:Heap) (L:Addr):List (Addr×Obj):=(Yo h.objs.size).filterMap fun a=>if a=L∨(g.get? a).isSome=true then none else (h.get? a).map fun o=>(a,o)
def a3h (g h:Heap) (L d:Addr):List (Addr×Obj):=(a9H g h L).filter fun p=>decide (p.1≠d)
structure Mod (K:Qa) (mg:Str→Option Value) (base:Heap):Prop where
 kin:K.In base
 glob:base.Ns mainGlobals mg
 blt:∃mb,base.Ns builtinsNs mb∧∀x:Str,x≠"__name__"→mb x=bootBuiltins x
 nolimit:base.NoLimit
structure Cx where
 prog:Program
 w:World
 K:Qa
 mg:Str→Option Value
 base:Heap
 A:Around
 N:List Str
 s₀:Shared
 H₀:Hp
 env:Env
 outer:List Env
 stack:List Env
 ex:List Addr
 fn:Str→Bool
 calm:Bool
 pn:List (Addr×Obj)
 xe:Value→Shared→Prop
def frs (l:List Env):List Addr:=l.filterMap (·.frame)
abbrev Cx.fs (X:Cx):List Addr:=frs X.outer
def Vis (sc:Scope) (x:Str):Prop:=sc.names.lookup x=some .local∨sc.names.lookup x=some .cell∨sc.names.lookup x=some .free
def Loc (sc:Scope) (x:Str):Prop:=sc.names.lookup x=some .local∨sc.names.lookup x=some .cell
def b6U (env:Env) (h:Heap) (m:Str→Option Value) (x:Str) (u:Value):Prop:=
 (env.kindOf x=some .local∧m x=some u)∨((env.kindOf x=some .cell∨env.kindOf x=some .free)∧∃c,env.cells.lookup x=some c∧h.IsCell c (some u))
structure Cx.Ok (X:Cx):Prop where
 mod:Mod X.K X.mg X.base
 kind:X.env.scope.kind=.function
 glob:X.env.globals=mainGlobals
 blt:X.env.builtins=builtinsNs
 above:X.s₀.heap.objs.size≤X.env.locals
 inj:∀x y c,X.env.cells.lookup x=some c→X.env.cells.lookup y=some c→x=y
 has:∀x,(X.env.kindOf x=some .cell∨X.env.kindOf x=some .free)→∃c,X.env.cells.lookup x=some c
 cab:∀x c,X.fn x=true→X.env.cells.lookup x=some c→X.s₀.heap.objs.size≤c
 hd:X.calm=true→X.A.handled=none
 frames:X.A.frames=some X.stack
 stk:X.stack=X.outer∨(X.stack=X.env::X.outer∧X.env.frame=some X.env.locals)
 exf:∀b∈X.ex,b≠X.env.locals∧∀x c,X.env.cells.lookup x=some c→c≠b
 bs:∀b o,X.base.get? b=some o→X.s₀.heap.get? b=some o∧X.H₀ b=none
 bsz:X.base.objs.size≤X.s₀.heap.objs.size
 noex:∀b o,X.base.get? b=some o→b∉X.ex
 exfs:∀b∈X.ex,b∉X.fs
 funs:X.s₀.heap.FunFrames X.base X.outer
 frf:∀b∈X.fs,X.H₀ b=none
structure Inv (X:Cx) (pins:List (Addr×Obj)) (σ:List (Option V)) (H:Hp) (s:Shared):Prop where
 ok:X.Ok
 os:s.os=X.s₀.os
 bare:AllBare s.gens
 base:Un X.fs X.ex X.H₀ H X.s₀.heap s.heap
 loc:∃m,s.heap.Ns X.env.locals m∧∀(i:Nat) (x:Str) (v:V),X.N[i]?=some x→σ[i]?=some (some v)→Vis X.env.scope x→∃u,a0s v u∧b6U X.env s.heap m x u
 cell:∀x c,X.env.cells.lookup x=some c→∃v,s.heap.IsCell c v
 free:H X.env.locals=none
 freeC:∀x c,X.env.cells.lookup x=some c→H c=none
 pin:∀p∈X.pn++pins,s.heap.get? p.1=some p.2∧H p.1=none∧p.1≠X.env.locals∧p.1∉X.fs∧∀v,p.2.data≠.cell v
 hok:HOk X.prog X.w H s.heap
 len:σ.length=X.N.length
section
variable {X:Cx} {pins:List (Addr×Obj)} {σ:List (Option V)} {H H':Hp} {s:Shared} {h':Heap}
theorem Cx.Ok.nofr (ok:X.Ok) {b:Addr} {o:Obj} (e:X.base.get? b=some o):b∉X.fs:=fun hb=>by
 have:=(ok.funs.mem hb).1
 rw [e] at this;cases this
theorem Inv.bs (I:Inv X pins σ H s):∀b o,X.base.get? b=some o→s.heap.get? b=some o∧H b=none:=fun b o e=>
 ⟨I.base.keep b o (I.ok.bs b o e).1 (I.ok.bs b o e).2 (I.ok.nofr e) (I.ok.noex b o e),I.base.free b o (I.ok.bs b o e).1 (I.ok.bs b o e).2 (I.ok.noex b o e)⟩
theorem Inv.bk (I:Inv X pins σ H s):∀b o,X.base.get? b=some o→s.heap.get? b=some o:=fun b o e=>(I.bs b o e).1
theorem Inv.mod (I:Inv X pins σ H s):Mod X.K X.mg X.base:=I.ok.mod
theorem Inv.kIn (I:Inv X pins σ H s):X.K.In s.heap:=I.ok.mod.kin.keeps I.bk
theorem Inv.lt (I:Inv X pins σ H s):X.env.locals < s.heap.objs.size:=let ⟨_,hn,_⟩:=I.loc;hn.lt
theorem Inv.sz (I:Inv X pins σ H s):X.s₀.heap.objs.size≤s.heap.objs.size:=Qs I.ok.above (Ze I.lt)
theorem Inv.nofs (I:Inv X pins σ H s) {a:Addr} (h:s.heap.objs.size≤a):a∉X.fs:=fun hb=>by
 obtain ⟨_,o,ho,_⟩:=I.ok.funs.mem hb
 exact absurd (Xb (Qq ho) (Qs I.sz h)) (Zr _)
theorem Inv.cne (I:Inv X pins σ H s):∀x c,X.env.cells.lookup x=some c→c≠X.env.locals:=fun x c e z=>by
 obtain ⟨v,o,ho,hd⟩:=I.cell x c e
 obtain ⟨m,⟨o',es,ep,ho',hd',_⟩,_⟩:=I.loc
 rw [z,ho'] at ho;cases ho;rw [hd'] at hd;cases hd
theorem Inv.funs (I:Inv X pins σ H s):s.heap.FunFrames X.base X.outer:=by
 have all:∀(l:List Env),(∀b∈frs l,b∈X.fs)→X.s₀.heap.FunFrames X.base l→s.heap.FunFrames X.base l:=by
  intro l
  induction l with
  | nil=>intro _ _;trivial
  | cons env r ih=>
   intro hs hl
   obtain ⟨hk,⟨L,o,hf,hn,ho,hd⟩,hr⟩:=hl
   have hL:L∈X.fs:=hs L (by unfold frs;rw [Jt,hf];exact Qj)
   obtain ⟨sl,e⟩:=I.base.slot L o ho (I.ok.frf L hL) hL fun z=>I.ok.exfs L z hL
   exact ⟨hk,⟨L,_,hf,hn,e,hd⟩,ih (fun b hb=>hs b (by unfold frs;rw [Jt,hf];exact Qk _ hb)) hr⟩
 exact all X.outer (fun _ hb=>hb) I.ok.funs
theorem Inv.stack (I:Inv X pins σ H s):s.heap.FunFrames X.base X.stack:=by
 rcases I.ok.stk with e | ⟨e,hf⟩
 ·rw [e];exact I.funs
 ·rw [e]
  obtain ⟨m,hn,_⟩:=I.loc
  refine .cons (by rw [I.ok.kind];decide) hf hn ?_ I.funs
  exact Heap.get?_none_of_le (Qs I.ok.bsz I.ok.above)
theorem Inv.stkSub (I:Inv X pins σ H s):∀b∈frs X.stack,b∈X.env.locals::X.fs:=fun b hb=>by
 rcases I.ok.stk with e | ⟨e,hf⟩
 ·rw [e] at hb;exact Qk _ hb
 ·rw [e] at hb
  unfold frs at hb
  rw [Jt,hf] at hb
  exact hb
theorem Inv.stkFree (I:Inv X pins σ H s):∀b∈frs X.stack,H b=none:=fun b hb=>by
 rcases Qt.mp (I.stkSub b hb) with e | hb
 ·rw [e];exact I.free
 ·obtain ⟨_,o,ho,_⟩:=I.ok.funs.mem hb
  exact I.base.free b o ho (I.ok.frf b hb) fun z=>I.ok.exfs b z hb
theorem Inv.step {g':Array GenState} {t':Nat} {d':Drawn} {ch:List Addr} (I:Inv X pins σ H s)
  (hch:∀b∈ch,(b∈X.ex∨X.s₀.heap.objs.size≤b)∧b≠X.env.locals∧(∀x c,X.env.cells.lookup x=some c→c≠b)∧∀p∈X.pn++pins,p.1≠b)
  (keep:∀b o,b≠X.env.locals→b∉X.fs→b∉ch→s.heap.get? b=some o→H b=none→h'.get? b=some o)
  (slot:∀b o,b≠X.env.locals→b∈X.fs→b∉ch→s.heap.get? b=some o→H b=none→∃sl,h'.get? b=some {o with slots:=sl}) (free:∀b o,b∉ch→s.heap.get? b=some o→H b=none→H' b=none)
  (there:∀b o,b∉ch→s.heap.get? b=some o→∃o',h'.get? b=some o')
  (tups:∀b xs,H b=some (.tup xs)→H' b=some (.tup xs)) (frzs:∀b o u,H b=some (.frz o u)→H' b=some (.frz o u)) (tbls:∀b ps,H b=some (.tbl ps)→∃more,H' b=some (.tbl (ps++more)))
  (ns:∀m,s.heap.Ns X.env.locals m→h'.Ns X.env.locals m) (hok:HOk X.prog X.w H' h') (hg:AllBare g'):
  Inv X pins σ H' {s with heap:=h',gens:=g',drawn:=d',toks:=t'}:=by
 have neL:∀b o,X.s₀.heap.get? b=some o→b≠X.env.locals:=fun b o e=>Qw (Xb (Qq e) I.ok.above)
 have neC:∀b o,X.s₀.heap.get? b=some o→b∉X.ex→b∉ch:=fun b o e hx hb=>by
  rcases (hch b hb).1 with z | z
  ·exact hx z
  ·exact absurd (Xb (Qq e) z) (Zr _)
 have cellK:∀x c,X.env.cells.lookup x=some c→∀v,s.heap.IsCell c v→h'.IsCell c v:=fun x c e v ⟨o,ho,hd⟩=>by
  have nch:c∉ch:=fun z=>(hch c z).2.2.1 x c e rfl
  by_cases hc:c∈X.fs
  ·obtain ⟨sl,q⟩:=slot c o (I.cne x c e) hc nch ho (I.freeC x c e)
   exact ⟨_,q,hd⟩
  ·exact ⟨o,keep c o (I.cne x c e) hc nch ho (I.freeC x c e),hd⟩
 refine ⟨I.ok,I.os,hg,⟨fun b o e n hb hx=>?_,fun b o e n hb hx=>?_,fun b o e n hx=>?_,fun b o e hx=>?_,fun b xs e=>tups b xs (I.base.tups b xs e),fun b o xs e=>frzs b o xs (I.base.frzs b o xs e),fun b ps e=>?_⟩,?_,fun x c e=>?_,?_,fun x c e=>?_,fun p hp=>?_,hok,I.len⟩
 ·exact keep b o (neL b o e) hb (neC b o e hx) (I.base.keep b o e n hb hx) (I.base.free b o e n hx)
 ·obtain ⟨sl,e1⟩:=I.base.slot b o e n hb hx
  obtain ⟨sl',e2⟩:=slot b _ (neL b o e) hb (neC b o e hx) e1 (I.base.free b o e n hx)
  exact ⟨sl',e2⟩
 ·obtain ⟨o',e1⟩:=I.base.there b o e hx
  exact free b o' (neC b o e hx) e1 (I.base.free b o e n hx)
 ·obtain ⟨o',e1⟩:=I.base.there b o e hx
  exact there b o' (neC b o e hx) e1
 ·obtain ⟨m1,e1⟩:=I.base.tbls b ps e
  obtain ⟨m2,e2⟩:=tbls b _ e1
  exact ⟨m1++m2,by rw [e2,Vq]⟩
 ·obtain ⟨m,hn,hl⟩:=I.loc
  refine ⟨m,ns m hn,fun i x v e1 e2 e3=>?_⟩
  obtain ⟨u,r,l⟩:=hl i x v e1 e2 e3
  refine ⟨u,r,?_⟩
  rcases l with l | ⟨k,c,e,z⟩
  ·exact .inl l
  ·exact .inr ⟨k,c,e,cellK x c e _ z⟩
 ·obtain ⟨v,z⟩:=I.cell x c e
  exact ⟨v,cellK x c e v z⟩
 ·obtain ⟨m,⟨o,_,_,ho,_⟩,_⟩:=I.loc
  exact free _ o (fun z=>(hch _ z).2.1 rfl) ho I.free
 ·obtain ⟨v,o,ho,hd⟩:=I.cell x c e
  exact free c o (fun z=>(hch c z).2.2.1 x c e rfl) ho (I.freeC x c e)
 ·obtain ⟨e,n,ne,nf,d⟩:=I.pin p hp
  have nch:p.1∉ch:=fun z=>(hch p.1 z).2.2.2 p hp rfl
  exact ⟨keep p.1 p.2 ne nf nch e n,free p.1 p.2 nch e n,ne,nf,d⟩
theorem Inv.un {t':Nat} (I:Inv X pins σ H s) (u:Un X.fs [] H H' s.heap h') (hok:HOk X.prog X.w H' h'):Inv X pins σ H' {s with heap:=h',toks:=t'}:=by
 obtain ⟨m,⟨o,es,ep,ho,r⟩,_⟩:=id I.loc
 obtain ⟨sl,hL⟩:=u.any ho I.free (by simp)
 exact I.step (g':=s.gens) (d':=s.drawn) (ch:=[]) (fun _ z=>nomatch z) (fun b o _ hb _ e n=>u.keep b o e n hb (by simp)) (fun b o _ hb _ e n=>u.slot b o e n hb (by simp)) (fun b o _ e n=>u.free b o e n (by simp)) (fun b o _ e=>u.there b o e (by simp)) u.tups u.frzs u.tbls (fun m' hm=>by
  obtain ⟨o',es',ep',ho',r'⟩:=hm
  rw [ho] at ho';cases ho'
  exact ⟨_,es',ep',hL,r'⟩) hok I.bare
theorem Inv.call {g':Array GenState} {t':Nat} {d':Drawn} {ch:List Addr} (I:Inv X pins σ H s) (u:Un (frs X.stack) ch H H' s.heap h') (hok:HOk X.prog X.w H' h') (hg:AllBare g')
  (hch:∀b∈ch,(b∈X.ex∨X.s₀.heap.objs.size≤b)∧b≠X.env.locals∧(∀x c,X.env.cells.lookup x=some c→c≠b)∧∀p∈X.pn++pins,p.1≠b):
  Inv X pins σ H' {s with heap:=h',gens:=g',drawn:=d',toks:=t'}:=by
 obtain ⟨m,⟨o,es,ep,ho,r⟩,_⟩:=id I.loc
 obtain ⟨sl,hL⟩:=u.any ho I.free fun z=>(hch _ z).2.1 rfl
 exact I.step (ch:=ch) hch (fun b o hL hb hc e n=>u.keep b o e n (fun z=>(Qt.mp (I.stkSub b z)).elim hL hb) hc) (fun b o _ _ hc e n=>u.any e n hc) (fun b o hc e n=>u.free b o e n hc) (fun b o hc e=>u.there b o e hc) u.tups u.frzs u.tbls (fun m' hm=>by
  obtain ⟨o',es',ep',ho',r'⟩:=hm
  rw [ho] at ho';cases ho'
  exact ⟨_,es',ep',hL,r'⟩) hok hg
theorem Inv.turned {t':Nat} {it:Addr} (I:Inv X pins σ H s) (k:∀b o,b≠it→s.heap.get? b=some o→h'.get? b=some o) (hn:H it=none) (hL:it≠X.env.locals)
  (h1:it∈X.ex∨X.s₀.heap.objs.size≤it) (h2:∀x c,X.env.cells.lookup x=some c→c≠it) (h3:∀p∈X.pn++pins,p.1≠it):Inv X pins σ H {s with heap:=h',toks:=t'}:=by
 have nit:∀b u,H b=some u→b≠it:=fun b u e z=>by rw [z,hn] at e;cases e
 refine I.step (g':=s.gens) (d':=s.drawn) (ch:=[it]) (fun b hb=>?_) (fun b o _ _ hc e _=>k b o (fun z=>hc (by simp [z])) e) (fun b o _ _ hc e _=>⟨o.slots,k b o (fun z=>hc (by simp [z])) e⟩) (fun _ _ _ _ n=>n)
  (fun b o hc e=>⟨o,k b o (fun z=>hc (by simp [z])) e⟩) (fun _ _ e=>e) (fun _ _ _ e=>e) (fun b ps e=>⟨#[],by rw [e];simp⟩) (fun m hm=>?_) (fun b u e=>?_) I.bare
 ·have e:b=it:=by simpa using hb
  subst e
  exact ⟨h1,hL,h2,h3⟩
 ·obtain ⟨o,es,ep,ho,r⟩:=hm
  exact ⟨o,es,ep,k _ o (Ne.symm hL) ho,r⟩
 ·refine (I.hok b u e).stay (fun c v hc q=>k c v ?_ q) (fun _ q=>q) fun _ _ q=>q
  rcases hc with z | z
  ·rw [z];exact nit b u e
  ·exact nit c _ z
theorem Inv.tok (I:Inv X pins σ H s) (t:Nat):Inv X pins σ H {s with toks:=t}:=I.un (h':=s.heap) (t':=t) Un.refl I.hok
theorem Inv.kept {t':Nat} (I:Inv X pins σ H s) (k:∀b u,s.heap.get? b=some u→h'.get? b=some u):Inv X pins σ H {s with heap:=h',toks:=t'}:=I.un (Un.kept k) (I.hok.kept k)
theorem Inv.laid {a:Addr} {o:HO} {t':Nat} (I:Inv X pins σ H s) (k:∀b u,s.heap.get? b=some u→h'.get? b=some u) (hp:s.heap.objs.size≤a) (new:a0A X.prog X.w (upd H a o) h' a o):
  Inv X pins σ (upd H a o) {s with heap:=h',toks:=t'}:=I.un (Un.laid k hp (I.hok.fresh hp)) (I.hok.laid k hp new)
theorem Inv.write {x e:Addr} {o:HO} {t':Nat} (I:Inv X pins σ H s) (mu:Mut (H x)) (he:e=x∨H e=some (.own x)) (k:∀b u,b≠e→s.heap.get? b=some u→h'.get? b=some u) (heo:∃u,h'.get? e=some u)
  (new:a0A X.prog X.w (upd H x o) h' x o):Inv X pins σ (upd H x o) {s with heap:=h',toks:=t'}:=I.un (Un.write mu he k heo) (I.hok.write mu he k heo new)
theorem Inv.pins_of {pins':List (Addr×Obj)} (I:Inv X pins σ H s) (h:∀p∈pins',s.heap.get? p.1=some p.2∧H p.1=none∧p.1≠X.env.locals∧p.1∉X.fs∧∀v,p.2.data≠.cell v):Inv X pins' σ H s:=
 ⟨I.ok,I.os,I.bare,I.base,I.loc,I.cell,I.free,I.freeC,fun p hp=>(Qy.mp hp).elim (fun z=>I.pin p (Xg _ z)) (h p),I.hok,I.len⟩
theorem a4H {N:List Str} (hN:N.Nodup) {i j:Nat} {x:Str} (a:N[i]?=some x) (b:N[j]?=some x):i=j:=by
 obtain ⟨h1,e1⟩:=Xa.mp a
 obtain ⟨h2,e2⟩:=Xa.mp b
 exact (List.getElem_inj hN).mp (e1.trans e2.symm)
theorem a3r {M:Model} {A:Around} {E:Value→Shared→Prop} {i:Nat} {x:Str} {v:V} {u:Value} {Q:Unit→Shared→Prop} (I:Inv X pins σ H s) (hN:X.N.Nodup) (hi:X.N[i]?=some x) (hx:Loc X.env.scope x) (r:a0s v u)
  (h:∀s',Inv X pins (σ.set i (some v)) H s'→(∃a,Xs a s.heap s'.heap∧(a=X.env.locals∨X.env.cells.lookup x=some a))→Q () s') (hf:X.fn x=true∨X.env.scope.names.lookup x=some .local:=by first | exact .inl rfl | exact .inr rfl | assumption):wpAny M A (storeName X.env x u) Q E s:=by
 obtain ⟨m,hn,hl⟩:=id I.loc
 have hcls:(X.env.scope.kind == .class || (X.env.scope.kind == .module && X.env.locals != X.env.globals))=false:=by rw [I.ok.kind];rfl
 have hiσ:i < σ.length:=by rw [I.len];exact (Xa.mp hi).1
 have cne:=I.cne
 have tracked:∀{a:Addr} {h':Heap},(∃o,s.heap.get? a=some o∧H a=none)→Xs a s.heap h'→HOk X.prog X.w H h':=fun {a h'} ha hs b ob e=>by
  obtain ⟨_,_,hfree⟩:=ha
  refine (I.hok b ob e).stay (fun c w' hc q=>(hs.2 c ?_).trans q) (fun _ q=>q) fun _ _ q=>q
  rintro rfl
  rcases hc with rfl | hc
  ·rw [hfree] at e;cases e
  ·rw [hfree] at hc;cases hc
 rcases hx with hk | hk
 ·refine wpAny_storeName_local hk hn (fun h' hn' hs=>?_) hcls
  obtain ⟨oL,_,_,hoL,_⟩:=id hn
  refine h _ ⟨I.ok,I.os,I.bare,⟨fun b o e n hb hx=>?_,fun b o e n hb hx=>?_,I.base.free,fun b o e hx=>?_,I.base.tups,I.base.frzs,I.base.tbls⟩,⟨_,hn',fun j y v' e1 e2 e3=>?_⟩,fun y c e=>?_,I.free,I.freeC,fun p hp=>?_,tracked ⟨oL,hoL,I.free⟩ hs,by simpa using I.len⟩ ⟨_,hs,.inl rfl⟩
  ·exact (hs.2 b (Qw (Xb (Qq e) I.ok.above))).trans (I.base.keep b o e n hb hx)
  ·obtain ⟨sl,e1⟩:=I.base.slot b o e n hb hx
   exact ⟨sl,(hs.2 b (Qw (Xb (Qq e) I.ok.above))).trans e1⟩
  ·obtain ⟨o',e1⟩:=I.base.there b o e hx
   exact ⟨o',(hs.2 b (Qw (Xb (Qq e) I.ok.above))).trans e1⟩
  ·by_cases hj:j=i
   ·subst hj
    rw [hi] at e1;cases e1
    rw [Uy hiσ] at e2
    cases e2
    exact ⟨u,r,.inl ⟨hk,by simp⟩⟩
   ·rw [Vj (Ne.symm hj)] at e2
    obtain ⟨u',r',q⟩:=hl j y v' e1 e2 e3
    refine ⟨u',r',?_⟩
    rcases q with ⟨k,e⟩ | ⟨k,c,e,z⟩
    ·refine .inl ⟨k,?_⟩
     have:y≠x:=fun e=>hj (a4H hN e1 (e ▸ hi))
     simp [this,e]
    ·exact .inr ⟨k,c,e,z.sameBut hs (cne y c e)⟩
  ·obtain ⟨w',z⟩:=I.cell y c e
   exact ⟨w',z.sameBut hs (cne y c e)⟩
  ·obtain ⟨e,n,ne,nf,d⟩:=I.pin p hp
   exact ⟨(hs.2 p.1 ne).trans e,n,ne,nf,d⟩
 ·have hfn:X.fn x=true:=by
   rcases hf with z | z
   ·exact z
   ·rw [z] at hk;cases hk
  obtain ⟨c,hc⟩:=I.ok.has x (.inl hk)
  obtain ⟨w',z⟩:=I.cell x c hc
  refine wpAny_storeName_cell I.ok.kind hk hc z (fun h' hc' hs=>?_)
  obtain ⟨oc,hoc,hocd⟩:=id z
  refine h {s with heap:=h'} ⟨I.ok,I.os,I.bare,⟨fun b o e n hb hx=>?_,fun b o e n hb hx=>?_,I.base.free,fun b o e hx=>?_,I.base.tups,I.base.frzs,I.base.tbls⟩,⟨m,hn.sameBut hs (Ne.symm (cne x c hc)),fun j y v' e1 e2 e3=>?_⟩,fun y c' e=>?_,I.free,I.freeC,fun p hp=>?_,tracked ⟨oc,hoc,I.freeC x c hc⟩ hs,by simpa using I.len⟩ ⟨c,hs,.inr hc⟩
  ·exact (hs.2 b (Qw (Xb (Qq e) (I.ok.cab x c hfn hc)))).trans (I.base.keep b o e n hb hx)
  ·obtain ⟨sl,e1⟩:=I.base.slot b o e n hb hx
   exact ⟨sl,(hs.2 b (Qw (Xb (Qq e) (I.ok.cab x c hfn hc)))).trans e1⟩
  ·obtain ⟨o',e1⟩:=I.base.there b o e hx
   exact ⟨o',(hs.2 b (Qw (Xb (Qq e) (I.ok.cab x c hfn hc)))).trans e1⟩
  ·by_cases hj:j=i
   ·subst hj
    rw [hi] at e1;cases e1
    rw [Uy hiσ] at e2
    cases e2
    exact ⟨u,r,.inr ⟨.inl hk,c,hc,hc'⟩⟩
   ·rw [Vj (Ne.symm hj)] at e2
    obtain ⟨u',r',q⟩:=hl j y v' e1 e2 e3
    refine ⟨u',r',?_⟩
    rcases q with q | ⟨k,c',e,z'⟩
    ·exact .inl q
    ·refine .inr ⟨k,c',e,z'.sameBut hs ?_⟩
     rintro rfl
     exact hj (a4H hN e1 (I.ok.inj _ _ _ e hc ▸ hi))
  ·by_cases hcc:c'=c
   ·subst hcc;exact ⟨_,hc'⟩
   ·obtain ⟨w2,z2⟩:=I.cell y c' e
    exact ⟨w2,z2.sameBut hs hcc⟩
  ·obtain ⟨e,n,ne,nf,d⟩:=I.pin p hp
   refine ⟨(hs.2 p.1 ?_).trans e,n,ne,nf,d⟩
   intro q
   rw [q,hoc] at e
   have q':oc=p.2:=Option.some.inj e
   exact d w' (by rw [←q'];exact hocd)
theorem a4P {M:Model} {A:Around} {E:Value→Shared→Prop} {i:Nat} {x:Str} {v:V} {u:Value} {Q:Unit→Shared→Prop} (I:Inv X pins σ H s) (hN:X.N.Nodup) (hi:X.N[i]?=some x) (hx:Loc X.env.scope x) (r:a0s v u)
  (h:∀s',Inv X pins (σ.set i (some v)) H s'→Q () s') (hf:X.fn x=true∨X.env.scope.names.lookup x=some .local:=by first | exact .inl rfl | exact .inr rfl | assumption):wpAny M A (storeName X.env x u) Q E s:=
 a3r I hN hi hx r (fun s' I' _=>h s' I') hf
theorem Inv.call' {s':Shared} {ch:List Addr} (I:Inv X pins σ H s) (ho:s'.os=s.os) (u:Un (frs X.stack) ch H H' s.heap s'.heap) (hok:HOk X.prog X.w H' s'.heap) (hg:AllBare s'.gens)
  (hch:∀b∈ch,(b∈X.ex∨X.s₀.heap.objs.size≤b)∧b≠X.env.locals∧(∀x c,X.env.cells.lookup x=some c→c≠b)∧∀p∈X.pn++pins,p.1≠b):Inv X pins σ H' s':=by
 obtain ⟨h',g',d',t',o'⟩:=s'
 have e:o'=s.os:=ho
 subst e
 exact I.call (g':=g') (t':=t') (d':=d') u hok hg hch
end
abbrev XK:=Value→Option Addr→Hp→Prop
abbrev St:=List (Option V)
abbrev VK:=V→Hp→Prop
abbrev TE:=St→Hp→VK→Prop
abbrev TT:=St→Hp→(Bool→Hp→Prop)→Prop
abbrev TA:=St→Hp→(List V→Hp→Prop)→Prop
structure a6L where
 nx:St→Hp→Prop
 rt:VK
 bk:St→Hp→Prop:=fun _ _=>False
 ct:St→Hp→Prop:=fun _ _=>False
abbrev TS:=a6L→St→Hp→Prop
def EP (X:Cx) (pins:List (Addr×Obj)) (σ:St) (Q:VK) (u:Value) (s':Shared):Prop:=∃v H',Inv X pins σ H' s'∧a0s v u∧Q v H'
def TP (X:Cx) (pins:List (Addr×Obj)) (σ:St) (Q:Bool→Hp→Prop) (b:Bool) (s':Shared):Prop:=∃H',Inv X pins σ H' s'∧Q b H'
def AP (X:Cx) (pins:List (Addr×Obj)) (σ:St) (Q:List V→Hp→Prop) (us:List Value) (s':Shared):Prop:=∃vs H',Inv X pins σ H' s'∧a0r vs us∧Q vs H'
def SP (X:Cx) (pins:List (Addr×Obj)) (D:a6L) (f:Flow) (s':Shared):Prop:=
 match f with
 | .next=>∃σ' H',Inv X pins σ' H' s'∧D.nx σ' H'
 | .brk=>∃σ' H',Inv X pins σ' H' s'∧D.bk σ' H'
 | .cont=>∃σ' H',Inv X pins σ' H' s'∧D.ct σ' H'
 | .ret u=>∃v σ' H',Inv X pins σ' H' s'∧a0s v u∧D.rt v H'
def PE (X:Cx) (e:Expr) (t:TE):Prop:=
 ∀(pins:List (Addr×Obj)) (s:Shared) (σ:St) (H:Hp) (Q:VK),Inv X pins σ H s→t σ H Q→wpAny (model X.prog X.w) X.A (eval e X.env) (EP X pins σ Q) X.xe s
def PT (X:Cx) (e:Expr) (t:TT):Prop:=
 ∀(pins:List (Addr×Obj)) (s:Shared) (σ:St) (H:Hp) (Q:Bool→Hp→Prop),Inv X pins σ H s→t σ H Q→wpAny (model X.prog X.w) X.A (isTrue e X.env (eval e X.env)) (TP X pins σ Q) X.xe s
def PW (X:Cx) (e:Expr) (t:TT):Prop:=
 ∀(whole:Sem Value) (pins:List (Addr×Obj)) (s:Shared) (σ:St) (H:Hp) (Q:Bool→Hp→Prop),Inv X pins σ H s→t σ H Q→wpAny (model X.prog X.w) X.A (isTrue e X.env whole) (TP X pins σ Q) X.xe s
theorem PW.pt {X:Cx} {e:Expr} {t:TT} (h:PW X e t):PT X e t:=h _
def PA (X:Cx) (es:List Expr) (t:TA):Prop:=
 ∀(pos:Pos) (pins:List (Addr×Obj)) (s:Shared) (σ:St) (H:Hp) (Q:List V→Hp→Prop),Inv X pins σ H s→t σ H Q→wpAny (model X.prog X.w) X.A (spliced (backTo pos (starEach es X.env))) (AP X pins σ Q) X.xe s
def PS (X:Cx) (st:Stmt) (t:TS):Prop:=
 ∀(pins:List (Addr×Obj)) (s:Shared) (σ:St) (H:Hp) (D:a6L),Inv X pins σ H s→t D σ H→wpAny (model X.prog X.w) X.A (exec st X.env) (SP X pins D) X.xe s
def PSs (X:Cx) (st:List Stmt) (t:TS):Prop:=
 ∀(pins:List (Addr×Obj)) (s:Shared) (σ:St) (H:Hp) (D:a6L),Inv X pins σ H s→t D σ H→wpAny (model X.prog X.w) X.A (execs st X.env) (SP X pins D) X.xe s
theorem thn {α:Type} {t:Sem α} {Q Q':α→Shared→Prop} {M:Model} {A:Around} {E:Value→Shared→Prop} {s:Shared} (h:wpAny M A t Q E s) (hQ:∀a s,Q a s→Q' a s):wpAny M A t Q' E s:=wpAny_mono h hQ fun _ _ x=>x
section
variable {X:Cx}
theorem bin {a b:Expr} {ta tb:TE} (ha:PE X a ta) (hb:PE X b tb) {pins:List (Addr×Obj)} {s:Shared} {σ:St} {H:Hp} {R:V→V→Hp→Prop} (I:Inv X pins σ H s) (h:ta σ H fun x H1=>tb σ H1 fun y H2=>R x y H2)
  {α:Type} {Q:α→Shared→Prop} {f:Value→Value→Sem α}
  (hf:∀v u s2 x y H2,Inv X pins σ H2 s2→a0s x v→a0s y u→R x y H2→wpAny (model X.prog X.w) X.A (f v u) Q X.xe s2):
  wpAny (model X.prog X.w) X.A (eval a X.env) (fun v s₁=>wpAny (model X.prog X.w) X.A (eval b X.env) (fun u s₂=>wpAny (model X.prog X.w) X.A (f v u) Q X.xe s₂) X.xe s₁) X.xe s:=by
 refine thn (ha pins s σ H _ I h) fun v s1 ⟨x,H1,I1,r1,q1⟩=>?_
 refine thn (hb pins s1 σ H1 _ I1 q1) fun u s2 ⟨y,H2,I2,r2,q2⟩=>?_
 exact hf v u s2 x y H2 I2 r1 r2 q2
def a0C (i:Nat):TE:=fun σ H Q=>∃v,σ[i]?=some (some v)∧Q v H
def tC (v:V):TE:=fun _ H Q=>Q v H
theorem b1Q {i:Nat} {x:Str} {pos:Pos} (hN:X.N[i]?=some x) (hv:Vis X.env.scope x) (hd:(x == ("__debug__":Str))=false:=by decide) (hcd:(x == ("__classdict__":Str))=false:=by decide):PE X (.Name x pos) (a0C i):=by
 intro pins s σ H Q I h
 obtain ⟨v,e,h⟩:=h
 obtain ⟨m,hn,hl⟩:=I.loc
 obtain ⟨u,r,l⟩:=hl i x v hN e hv
 have fin:EP X pins σ Q u s:=⟨v,H,I,r,h⟩
 rcases l with ⟨hk,hm⟩ | ⟨hk,c,hc,hcell⟩
 ·exact wpAny_Name (wpAny_loadName_local I.ok.kind hk hn hm fin) hd
 ·rcases hk with hk | hk
  ·exact wpAny_Name (wpAny_loadName_cell I.ok.kind hk hc hcell fin) hd
  ·exact wpAny_Name (wpAny_loadName_free I.ok.kind hk hc hcell fin hcd) hd
theorem b1P {i j pos}:PE X (.Constant (.int i) j pos) (tC (.int i)):=fun _ _ _ H _ I h=>wpAny_Constant_int ⟨.int i,H,I.tok _,⟨_,rfl⟩,h⟩
theorem b3Y {b j pos}:PE X (.Constant (.bool b) j pos) (tC (.bl b)):=fun _ _ _ H _ I h=>Constant_bool ⟨.bl b,H,I,rfl,h⟩
theorem b3j {x j pos}:PE X (.Constant (.str x) j pos) (tC (.str x)):=fun _ _ _ H _ I h=>Calls.Constant_str ⟨.str x,H,I.tok _,⟨_,rfl⟩,h⟩
def Gl (X:Cx) (x:Str):Prop:=X.env.kindOf x=some .globalImplicit
theorem a4k {E:Value→Shared→Prop} {pins:List (Addr×Obj)} {s:Shared} {σ:St} {H:Hp} {x:Str} {u:Value} {pos:Pos} {Q:Value→Shared→Prop} (I:Inv X pins σ H s) (hg:Gl X x) (hm:X.mg x=some u) (h:Q u s)
  (hd:(x == ("__debug__":Str))=false:=by decide):wpAny (model X.prog X.w) X.A (eval (.Name x pos) X.env) Q E s:=
 Calls.Name_function_global I.ok.kind hg (Calls.loadGlobal_global (by rw [I.ok.glob];exact I.mod.glob.keeps I.bk) hm h) hd
theorem a3v {E:Value→Shared→Prop} {pins:List (Addr×Obj)} {s:Shared} {σ:St} {H:Hp} {x:Str} {u:Value} {pos:Pos} {Q:Value→Shared→Prop} (I:Inv X pins σ H s) (hg:Gl X x) (hm:X.mg x=none) (hv:bootBuiltins x=some u) (h:Q u s)
  (hn:x≠"__name__":=by decide) (hd:(x == ("__debug__":Str))=false:=by decide):wpAny (model X.prog X.w) X.A (eval (.Name x pos) X.env) Q E s:=by
 obtain ⟨mb,h1,h2⟩:=I.mod.blt
 exact Calls.Name_function_global I.ok.kind hg (Calls.loadGlobal_builtin (by rw [I.ok.glob];exact I.mod.glob.keeps I.bk) hm (by rw [I.ok.blt];exact h1.keeps I.bk) ((h2 x hn).trans hv) h) hd
theorem a9A {x:Str} {v:V} {u:Value} {pos:Pos} (hg:Gl X x) (hm:X.mg x=some u) (r:a0s v u) (hd:(x == ("__debug__":Str))=false:=by decide):PE X (.Name x pos) (tC v):=
 fun _ _ _ H _ I h=>a4k I hg hm ⟨v,H,I,r,h⟩ hd
theorem a9y {x:Str} {v:V} {u:Value} {pos:Pos} (hg:Gl X x) (hm:X.mg x=none) (hv:bootBuiltins x=some u) (r:a0s v u) (hn:x≠"__name__":=by decide) (hd:(x == ("__debug__":Str))=false:=by decide):PE X (.Name x pos) (tC v):=
 fun _ _ _ H _ I h=>a3v I hg hm hv ⟨v,H,I,r,h⟩ hn hd
variable {a b:Expr} {ta tb:TE} {pos:Pos}
def PC (X:Cx) (op:CmpOp) (a b:Expr) (t:TE):Prop:=
 ∀(pins:List (Addr×Obj)) (s:Shared) (σ:St) (H:Hp) (Q:VK),Inv X pins σ H s→t σ H Q→
  wpAny (model X.prog X.w) X.A (eval a X.env) (fun v s₁=>wpAny (model X.prog X.w) X.A (eval b X.env) (fun u s₂=>wpAny (model X.prog X.w) X.A (compareOp op v u) (EP X pins σ Q) X.xe s₂) X.xe s₁) X.xe s
theorem a8k (b:Expr) {op:CmpOp} (h:op≠.In) (h2:op≠.NotIn):behindInMarks op b=false:=by
 have e1:(op == CmpOp.In)=false:=by cases op<;>first | rfl | exact absurd rfl h
 have e2:(op == CmpOp.NotIn)=false:=by cases op<;>first | rfl | exact absurd rfl h2
 cases b<;>simp [behindInMarks,e1,e2]
def tB (t:TE):TT:=fun σ H Q=>t σ H fun x H1=>∃c,x=.bl c∧Q c H1
theorem b2j {op:CmpOp} {t:TE} (h:PC X op a b t) (h1:behindInMarks op b=false:=by first | exact a8k _ ‹dc› ‹dc› | rfl):PT X (.Compare a [op] [b] pos) (tB t):=by
 intro pins s σ H Q I hw
 refine wpAny_isTrue_Compare1 (thn (h pins s σ H _ I hw) fun v s1 h1=>thn h1 fun u s2 h2=>thn h2 fun c s3 ⟨x,H1,I1,r1,q1⟩=>?_) h1
 obtain ⟨d,rfl,q⟩:=q1
 cases r1
 exact wpAny_truthy_bool ⟨H1,I1,q⟩
theorem b2Y {e:Expr} {t:TE} (h:PE X e t) (he:∀whole,isTrue e X.env whole=(do let v ←whole;standAt e.pos;holding [v] (truthy v)):=by intro _;rfl):PT X e (tB t):=by
 intro pins s σ H Q I hw
 refine isTrue_plain (thn (h pins s σ H _ I hw) fun v s1 ⟨x,H1,I1,r1,q1⟩=>?_) (he _)
 obtain ⟨d,rfl,q⟩:=q1
 cases r1
 exact wpAny_truthy_bool ⟨H1,I1,q⟩
variable {tA tB':TT} {a3h:List Expr}
def b4i (t u:TT):TT:=fun σ H Q=>t σ H fun c H1=>if c=true then u σ H1 Q else Q false H1
def tOr (t u:TT):TT:=fun σ H Q=>t σ H fun c H1=>if c=true then Q true H1 else u σ H1 Q
def b3q (t:TT):TT:=fun σ H Q=>t σ H fun c H1=>Q (!c) H1
theorem a9Y (ha:PT X a tA):PW X (.BoolOp .And [a] pos) tA:=by
 intro wh pins s σ H Q I h
 refine isTrue_and (thn (ha pins s σ H Q I h) fun c s1 e=>?_)
 cases c with
 | true=>exact isTrue_and_nil e
 | false=>exact e
theorem b2S (ha:PT X a tA):PW X (.BoolOp .Or [a] pos) tA:=by
 intro wh pins s σ H Q I h
 refine isTrue_or (thn (ha pins s σ H Q I h) fun c s1 e=>?_)
 cases c with
 | false=>exact isTrue_or_nil e
 | true=>exact e
theorem b2i (ha:PT X a tA) (hb:PW X (.BoolOp .And (b::a3h) pos) tB'):PW X (.BoolOp .And (a::b::a3h) pos) (b4i tA tB'):=by
 intro wh pins s σ H Q I h
 refine isTrue_and (thn (ha pins s σ H _ I h) fun c s1 ⟨H1,I1,q1⟩=>?_)
 cases c with
 | true=>exact hb wh pins s1 σ H1 Q I1 q1
 | false=>exact ⟨H1,I1,q1⟩
theorem b3T (ha:PT X a tA) (hb:PW X (.BoolOp .Or (b::a3h) pos) tB'):PW X (.BoolOp .Or (a::b::a3h) pos) (tOr tA tB'):=by
 intro wh pins s σ H Q I h
 refine isTrue_or (thn (ha pins s σ H _ I h) fun c s1 ⟨H1,I1,q1⟩=>?_)
 cases c with
 | true=>exact ⟨H1,I1,q1⟩
 | false=>exact hb wh pins s1 σ H1 Q I1 q1
theorem b1V (ha:PT X a tA):PT X (.UnaryOp .Not a pos) (b3q tA):=by
 intro pins s σ H Q I h
 exact isTrue_not (ha pins s σ H (fun c H1=>Q (!c) H1) I h)
def tIf (t:TT) (ta tb:TE):TE:=fun σ H Q=>t σ H fun c H1=>if c=true then ta σ H1 Q else tb σ H1 Q
theorem a8H {c:Expr} (hc:PT X c tA) (ha:PE X a ta) (hb:PE X b tb):PE X (.IfExp c a b pos) (tIf tA ta tb):=by
 intro pins s σ H Q I h
 refine wpAny_IfExp (thn (hc pins s σ H _ I h) fun d s1 ⟨H1,I1,q1⟩=>?_)
 cases d with
 | true=>exact ha pins s1 σ H1 Q I1 q1
 | false=>exact hb pins s1 σ H1 Q I1 q1
end
def SqL (K:Qa) (H:Hp) (a:Addr) (xs:List V):Prop:=
 Rd H a (.lst xs)∨
  ∃(o:Obj) (its:Array Value) (n:Nat),K.lookup a=some o∧o.cls=.type "list"∧o.dict=none∧o.data=.seq its n∧its.size≤sizeLine∧a0r xs its.toList
def SqT (K:Qa) (H:Hp) (a:Addr) (xs:List V):Prop:=
 Rd H a (.tup xs)∨
  ∃(o:Obj) (its:Array Value) (n:Nat),K.lookup a=some o∧o.cls=.type "tuple"∧o.data=.seq its n∧its.size≤sizeLine∧a0r xs its.toList
def b8E:Value→Option V
 | .none=>some .non
 | .bool b=>some (.bl b)
 | .int i _=>some (.int i)
 | .str x _=>some (.str x)
 | .bytes b _=>some (.byt b)
 | .float b _=>some (.flt b)
 | .ref a=>some (.ref a)
 | .type n=>some (.ty n)
 | _=>none
theorem a0s.abs {x:V} {u:Value} (r:a0s x u):b8E u=some x:=by
 cases x with
 | non=>cases r;rfl
 | bl _=>cases r;rfl
 | int _=>obtain ⟨t,rfl⟩:=r;rfl
 | str _=>obtain ⟨t,rfl⟩:=r;rfl
 | byt _=>obtain ⟨t,rfl⟩:=r;rfl
 | flt _=>obtain ⟨t,rfl⟩:=r;rfl
 | ref _=>cases r;rfl
 | ty _=>cases r;rfl
theorem a0s.inj {x y:V} {u:Value} (r:a0s x u) (q:a0s y u):x=y:=Option.some.inj (r.abs.symm.trans q.abs)
theorem a0r.inj:∀{xs ys:List V} {us:List Value},a0r xs us→a0r ys us→xs=ys
 | _,_,_,.nil,.nil=>rfl
 | _,_,_,.cons r t,.cons r' t'=>by rw [r.inj r',a0r.inj t t']
section
variable {X:Cx} {pins:List (Addr×Obj)} {σ:St} {H:Hp} {s:Shared} {a:Addr} {xs ys:List V}
theorem SqL.of {K:Qa} (h:H a=some (.lst xs)):SqL K H a xs:=.inl (.inl h)
theorem SqT.of {K:Qa} (h:H a=some (.tup xs)):SqT K H a xs:=.inl (.inl h)
theorem Inv.list (I:Inv X pins σ H s) (h:SqL X.K H a xs):∃its:List Value,a0r xs its∧PlainL s.heap a its.toArray∧xs.length≤sizeLine:=by
 rcases h with h | ⟨o,its,n,hk,hc,hd,hs,hz,r⟩
 ·obtain ⟨z,its,n,r,e⟩:=h.ok I.hok
  exact ⟨its,r,⟨_,n,e,rfl,rfl,rfl⟩,z⟩
 ·refine ⟨its.toList,r,⟨o,n,I.kIn a o hk,hc,hd,by simpa using hs⟩,?_⟩
  have e:=r.length
  simp only [Qu] at e
  omega
theorem Inv.tuple (I:Inv X pins σ H s) (h:SqT X.K H a xs):∃its:List Value,a0r xs its∧IsTup s.heap a its.toArray∧xs.length≤sizeLine:=by
 rcases h with h | ⟨o,its,n,hk,hc,hs,hz,r⟩
 ·obtain ⟨z,its,r,p⟩:=h.ok I.hok
  exact ⟨its,r,p,z⟩
 ·refine ⟨its.toList,r,⟨o,I.kIn a o hk,hc,n,by simpa using hs⟩,?_⟩
  have e:=r.length
  simp only [Qu] at e
  omega
theorem Inv.list_inj (I:Inv X pins σ H s) (h:SqL X.K H a xs) (h':SqL X.K H a ys):xs=ys:=by
 obtain ⟨its,r,⟨o,n,e,_,_,d⟩,_⟩:=I.list h
 obtain ⟨its',r',⟨o',n',e',_,_,d'⟩,_⟩:=I.list h'
 rw [e] at e';cases e'
 rw [d] at d'
 injection d' with d1 _
 have:its=its':=by simpa using congrArg Array.toList d1
 subst this
 exact r.inj r'
theorem Inv.tuple_inj (I:Inv X pins σ H s) (h:SqT X.K H a xs) (h':SqT X.K H a ys):xs=ys:=by
 obtain ⟨its,r,⟨o,e,_,n,d⟩,_⟩:=I.tuple h
 obtain ⟨its',r',⟨o',e',_,n',d'⟩,_⟩:=I.tuple h'
 rw [e] at e';cases e'
 rw [d] at d'
 injection d' with d1 _
 have:its=its':=by simpa using congrArg Array.toList d1
 subst this
 exact r.inj r'
end
abbrev Cx.wish (X:Cx) (E:Value→Shared→Prop):Cx:={X with xe:=E}
abbrev Cx.nox (X:Cx):Cx:=X.wish fun _ _=>False
theorem Cx.Ok.wish {X:Cx} (ok:X.Ok) (E:Value→Shared→Prop):(X.wish E).Ok:=
 ⟨ok.mod,ok.kind,ok.glob,ok.blt,ok.above,ok.inj,ok.has,ok.cab,ok.hd,ok.frames,ok.stk,ok.exf,ok.bs,ok.bsz,ok.noex,ok.exfs,ok.funs,ok.frf⟩
theorem Cx.Ok.unwish {X:Cx} {E:Value→Shared→Prop} (ok:(X.wish E).Ok):X.Ok:=
 ⟨ok.mod,ok.kind,ok.glob,ok.blt,ok.above,ok.inj,ok.has,ok.cab,ok.hd,ok.frames,ok.stk,ok.exf,ok.bs,ok.bsz,ok.noex,ok.exfs,ok.funs,ok.frf⟩
section
variable {X:Cx} {pins:List (Addr×Obj)} {σ:St} {H:Hp} {s:Shared} {E:Value→Shared→Prop}
theorem Inv.wish (I:Inv X pins σ H s) (E:Value→Shared→Prop):Inv (X.wish E) pins σ H s:=⟨I.ok.wish E,I.os,I.bare,I.base,I.loc,I.cell,I.free,I.freeC,I.pin,I.hok,I.len⟩
theorem Inv.unwish (I:Inv (X.wish E) pins σ H s):Inv X pins σ H s:=⟨I.ok.unwish,I.os,I.bare,I.base,I.loc,I.cell,I.free,I.freeC,I.pin,I.hok,I.len⟩
theorem SP.unwish {D:a6L} {f:Flow} {s':Shared} (h:SP (X.wish E) pins D f s'):SP X pins D f s':=by
 cases f with
 | next=>obtain ⟨σ',H',I,q⟩:=h;exact ⟨σ',H',I.unwish,q⟩
 | brk=>obtain ⟨σ',H',I,q⟩:=h;exact ⟨σ',H',I.unwish,q⟩
 | cont=>obtain ⟨σ',H',I,q⟩:=h;exact ⟨σ',H',I.unwish,q⟩
 | ret u=>obtain ⟨v,σ',H',I,r,q⟩:=h;exact ⟨v,σ',H',I.unwish,r,q⟩
theorem PSs.nox {st:List Stmt} {t:TS} (h:PSs X.nox st t):PSs X st t:=fun pins s σ H D I hw=>
 wpAny_mono (h pins s σ H D (I.wish _) hw) (fun _ _ q=>q.unwish) fun _ _ z=>False.elim z
end
section
variable {X:Cx} {st:Stmt} {a3h:List Stmt} {t u:TS} {e:Expr} {te:TE} {pos:Pos}
def a1O:TS:=fun D σ H=>D.nx σ H
def a1y (t u:TS):TS:=fun D σ H=>t {D with nx:=u D} σ H
theorem b0g:PSs X [] a1O:=fun _ _ σ H _ I h=>wpAny_execs_nil ⟨σ,H,I,h⟩
theorem a8F (h1:PS X st t) (h2:PSs X a3h u):PSs X (st::a3h) (a1y t u):=by
 intro pins s σ H D I h
 refine wpAny_execs_cons (thn (h1 pins s σ H {D with nx:=u D} I h) fun f s1 q=>?_)
 cases f with
 | next=>
  obtain ⟨σ',H',I',q⟩:=q
  exact h2 pins s1 σ' H' D I' q
 | ret v=>exact q
 | brk=>exact q
 | cont=>exact q
theorem a9L (h1:PS X st t):PSs X [st] t:=by
 intro pins s σ H D I h
 refine wpAny_execs_cons (thn (h1 pins s σ H D I h) fun f s1 q=>?_)
 cases f with
 | next=>exact wpAny_execs_nil q
 | ret v=>exact q
 | brk=>exact q
 | cont=>exact q
theorem Inv.quiet {pins:List (Addr×Obj)} {σ:St} {H:Hp} {s:Shared} (I:Inv X pins σ H s):interactive X.env=false:=by simp [interactive,I.ok.kind]
def a1u (te:TE):TS:=fun D σ H=>te σ H fun _ H1=>D.nx σ H1
theorem b0e (he:PE X e te) (hs:swapsWith e none pos.line X.env=pure false:=by rfl):PS X (.Expr e pos) (a1u te):=by
 intro pins s σ H D I h
 exact wpAny_Expr_any (thn (he pins s σ H _ I h) fun v s1 ⟨x,H1,I1,r1,q1⟩=>⟨σ,H1,I1,q1⟩) I.quiet hs
def a1R (te:TE):TS:=fun D σ H=>te σ H D.rt
theorem b0T (he:PE X e te):PS X (.Return (some e) pos) (a1R te):=by
 intro pins s σ H D I h
 exact wpAny_Return_some (thn (he pins s σ H _ I h) fun v s1 ⟨x,H1,I1,r1,q1⟩=>⟨x,σ,H1,I1,r1,q1⟩)
def a4o (c:TT) (t u:TS):TS:=fun D σ H=>c σ H fun b H1=>if b=true then t D σ H1 else u D σ H1
theorem b3L {c:Expr} {a b:List Stmt} {tc:TT} (hc:PT X c tc) (ha:PSs X a t) (hb:PSs X b u):PS X (.If c a b pos) (a4o tc t u):=by
 intro pins s σ H D I h
 refine wpAny_If (thn (hc pins s σ H _ I h) fun d s1 ⟨H1,I1,q1⟩=>?_)
 cases d with
 | true=>exact ha pins s1 σ H1 D I1 q1
 | false=>exact hb pins s1 σ H1 D I1 q1
end
abbrev TG:=V→St→Hp→(St→Hp→Prop)→Prop
def PG (X:Cx) (target:Expr) (t:TG):Prop:=
 ∀(pins:List (Addr×Obj)) (s:Shared) (σ:St) (H:Hp) (v:V) (u:Value) (Q:St→Hp→Prop),Inv X pins σ H s→a0s v u→t v σ H Q→
  wpAny (model X.prog X.w) X.A (assign target X.env u) (fun _ s'=>∃σ' H',Inv X pins σ' H' s'∧Q σ' H') X.xe s
abbrev b3M:=V→V→V→Hp→(Hp→Prop)→Prop
def b3Z (X:Cx) (t:b3M):Prop:=
 ∀(pins:List (Addr×Obj)) (s:Shared) (σ:St) (H:Hp) (o i v:V) (ov iv u:Value) (Q:Hp→Prop),Inv X pins σ H s→a0s o ov→a0s i iv→a0s v u→t o i v H Q→
  wpAny (model X.prog X.w) X.A (setItem ov iv u) (fun _ s'=>∃H',Inv X pins σ H' s'∧Q H') X.xe s
section
variable {X:Cx} {pos:Pos}
def a0u (i:Nat):TG:=fun v σ H Q=>Q (σ.set i (some v)) H
theorem a9z {i:Nat} {x:Str} (hN:X.N.Nodup) (hi:X.N[i]?=some x) (hx:Loc X.env.scope x) (hf:X.fn x=true∨X.env.scope.names.lookup x=some .local:=by first | exact .inl rfl | exact .inr rfl | assumption):PG X (.Name x pos) (a0u i):=by
 intro pins s σ H v u Q I r h
 exact wpAny_assign_Name (a4P I hN hi hx r (fun s' I'=>⟨_,H,I',h⟩) hf)
def b4t (to ti:TE) (t:b3M):TG:=fun v σ H Q=>to σ H fun o H1=>ti σ H1 fun i H2=>t o i v H2 fun H3=>Q σ H3
theorem b1W {o i:Expr} {to ti:TE} {t:b3M} (ho:PE X o to) (hi:PE X i ti) (hs:b3Z X t)
  (ha:∀v,assign (.Subscript o i pos) X.env v=(do
   let ov ←holding [v] (eval o X.env)
   let iv ←holding [v,ov] (eval i X.env)
   standAt pos
   holding [v,ov,iv] (setItem ov iv v)
   release [v,ov,iv] []):=by intro _;rfl):PG X (.Subscript o i pos) (b4t to ti t):=by
 intro pins s σ H v u Q I r h
 rw [ha]
 refine wpAny_bind (wpAny_holding (thn (ho pins s σ H _ I h) fun ov s1 ⟨x,H1,I1,r1,q1⟩=>?_))
 refine wpAny_bind (wpAny_holding (thn (hi pins s1 σ H1 _ I1 q1) fun iv s2 ⟨y,H2,I2,r2,q2⟩=>?_))
 refine wpAny_bind (wpAny_standAt (wpAny_bind (wpAny_holding (thn (hs pins s2 σ H2 x y v ov iv u _ I2 r1 r2 r q2) fun _ s3 ⟨H3,I3,q3⟩=>?_))))
 exact wpAny_release ⟨σ,H3,I3,q3⟩
def a2y (te:TE) (g:TG):TS:=fun D σ H=>te σ H fun x H1=>g x σ H1 D.nx
theorem b2Q {tg e:Expr} {te:TE} {g:TG} (he:PE X e te) (hg:PG X tg g) (hs:swapsWithSole [tg] e pos.line X.env=pure false:=by rfl) (hw:swappedStores [tg] e X.env=pure none:=by rfl)
  (h1:(assignEach [tg] X.env).map (·.2)=[assign tg X.env]:=by rfl):PS X (.Assign [tg] e pos) (a2y te g):=by
 intro pins s σ H D I h
 refine wpAny_Assign_stores (thn (he pins s σ H _ I h) fun v s1 ⟨x,H1,I1,r1,q1⟩=>?_) hs hw
 rw [h1]
 exact thn (hg pins s1 σ H1 x v _ I1 r1 q1) fun _ s2 q=>q
theorem b1K {i:Nat} {x:Str} {e:Expr} {te:TE} {pos':Pos} (hN:X.N.Nodup) (hi:X.N[i]?=some x) (hx:Loc X.env.scope x) (he:PE X e te) (hs:swapsWith e (some (.Name x pos')) pos.line X.env=pure false:=by rfl) (hf:X.fn x=true∨X.env.scope.names.lookup x=some .local:=by first | exact .inl rfl | exact .inr rfl | assumption):
  PS X (.Assign [.Name x pos'] e pos) (a2y te (a0u i)):=by
 intro pins s σ H D I h
 refine wpAny_Assign_Name (thn (he pins s σ H _ I h) fun v s1 ⟨y,H1,I1,r1,q1⟩=>?_) hs
 exact a4P I1 hN hi hx r1 (fun s2 I2=>⟨_,H1,I2,q1⟩) hf
end
section
variable {X:Cx} {pos:Pos}
def a9i (c:TT) (tb:TS):TS:=fun D σ H=>∃W:Nat→St→Hp→Prop,(∃m,W m σ H)∧∀m σ H,W m σ H→
 c σ H fun b H1=>if b=true then ∃N:St→Hp→Prop,(∀σ' H',N σ' H'→∃m',m' < m∧W m' σ' H')∧tb {D with nx:=N,ct:=N,bk:=D.nx} σ H1 else D.nx σ H1
theorem a8L {c:Expr} {body:List Stmt} {tc:TT} {tb:TS} (hp:PassesOwn (model X.prog X.w) X.A X.env X.xe) (hc:PT X c tc) (hb:PSs X body tb):PS X (.While c body [] pos) (a9i tc tb):=by
 intro pins s σ H D I h
 obtain ⟨W,⟨m0,w0⟩,turn⟩:=h
 refine wpAny_While (codeAny_whileLoop (fun n s'=>∃σ' H',Inv X pins σ' H' s'∧W n σ' H') ?_ m0 ⟨σ,H,I,w0⟩)
 rintro n s1 ⟨σ1,H1,I1,w1⟩
 refine wpAny_passesOwn hp (thn (hc pins s1 σ1 H1 _ I1 (turn n σ1 H1 w1)) fun b s2 ⟨H2,I2,q2⟩=>?_)
 cases b with
 | true=>
  obtain ⟨N,hN,q2⟩:=q2
  rw [if_pos rfl]
  refine wpAny_passesOwn hp (thn (hb pins s2 σ1 H2 _ I2 q2) fun f s3 q3=>?_)
  cases f with
  | next=>
   obtain ⟨σ3,H3,I3,n3⟩:=q3
   obtain ⟨m',hm,w3⟩:=hN σ3 H3 n3
   exact ⟨m',hm,σ3,H3,I3,w3⟩
  | cont=>
   obtain ⟨σ3,H3,I3,n3⟩:=q3
   obtain ⟨m',hm,w3⟩:=hN σ3 H3 n3
   exact ⟨m',hm,σ3,H3,I3,w3⟩
  | brk=>exact q3
  | ret v=>exact q3
 | false=>
  rw [if_neg Qr]
  exact wpAny_execs_nil ⟨σ1,H2,I2,q2⟩
end
structure It where
 go:Nat→Hp→Prop
 yld:Nat→Hp→V→Hp→Prop
 stop:Nat→Hp→Prop
def a8R (X:Cx) (pins:List (Addr×Obj)) (H:Hp) (b:Addr):Prop:=
 H b=none∧b≠X.env.locals∧b∉X.fs∧(b∈X.ex∨X.s₀.heap.objs.size≤b)∧(∀x c,X.env.cells.lookup x=some c→c≠b)∧∀p∈X.pn++pins,p.1≠b
theorem Inv.fpOk {X:Cx} {pins:List (Addr×Obj)} {σ:St} {H H':Hp} {s:Shared} {b:Addr} (I:Inv X pins σ H s) (hb:s.heap.objs.size≤b) (hn:H' b=none):a8R X pins H' b:=by
 refine ⟨hn,Vr (Xb I.lt hb),I.nofs hb,.inr (Qs I.sz hb),fun x c e z=>?_,fun p hp z=>?_⟩
 ·obtain ⟨v,q⟩:=I.cell x c e
  exact absurd (Xb q.lt (by rw [z];exact hb)) (Zr _)
 ·exact absurd (Xb (Qq (I.pin p hp).1) (by rw [z];exact hb)) (Zr _)
structure b0M (P:Program) (w:World) (K:Qa) (tg:Expr) (J:It) (fp:List Addr) (it:Addr) (tn:Nat→Heap→Prop):Prop where
 mem:it∈fp
 obj:∀i h,tn i h→∀b∈fp,∃o,h.get? b=some o∧∀v,o.data≠.cell v
 keep:∀i h h',tn i h→(∀b∈fp,∀o,h.get? b=some o→h'.get? b=some o)→tn i h'
 item:∀(X:Cx),X.prog=P→X.w=w→X.K=K→X.calm=true→∀(i:Nat) (pins:List (Addr×Obj)) (s:Shared) (σ:St) (H:Hp) (E:Value→Shared→Prop),Inv X pins σ H s→(∀b∈fp,a8R X pins H b)→tn i s.heap→J.go i H→
  wpAny (model P w) X.A (pyNext (.ref it)) (fun r s1=>∃u,r=some u∧
   wpAny (model P w) X.A (letOwnedTupleGo tg (.ref it) u) (fun _ s2=>∃x H',Inv X pins σ H' s2∧a0s x u∧J.yld i H x H'∧tn (i+1) s2.heap∧∀b∈fp,H' b=none) E s1) E s
 done:∀(X:Cx),X.prog=P→X.w=w→X.K=K→X.calm=true→∀(i:Nat) (pins:List (Addr×Obj)) (s:Shared) (σ:St) (H:Hp) (E:Value→Shared→Prop),Inv X pins σ H s→(∀b∈fp,a8R X pins H b)→tn i s.heap→J.stop i H→
  wpAny (model P w) X.A (pyNext (.ref it)) (fun r s1=>r=none∧Inv X pins σ H s1) E s
 self:∀(A:Around) (i:Nat) (s:Shared) (Q:Value→Shared→Prop) (E:Value→Shared→Prop),tn i s.heap→Q (.ref it) s→wpAny (model P w) A (pyIter (.ref it)) Q E s
abbrev TI:=St→Hp→(It→Hp→Prop)→Prop
def PIE (X:Cx) (pins:List (Addr×Obj)) (σ:St) (tg:Expr) (R:It→Hp→Prop) (itv:Value) (s2:Shared):Prop:=
 ∃(it:Addr) (fp:List Addr) (tn:Nat→Heap→Prop) (J:It) (H':Hp),itv=.ref it∧Inv X pins σ H' s2∧b0M X.prog X.w X.K tg J fp it tn∧tn 0 s2.heap∧(∀b∈fp,a8R X pins H' b)∧R J H'
def PI (X:Cx) (tg iter:Expr) (wi:TI):Prop:=
 ∀(pins:List (Addr×Obj)) (s:Shared) (σ:St) (H:Hp) (R:It→Hp→Prop),Inv X pins σ H s→wi σ H R→
  wpAny (model X.prog X.w) X.A (eval iter X.env) (fun v s1=>wpAny (model X.prog X.w) X.A (pyIter v) (PIE X pins σ tg R) X.xe s1) X.xe s
theorem a7Z {M:Model} {A:Around} {E:Value→Shared→Prop} {s:Shared} {tg:Expr} {it:Addr} {u:Value} {o:Obj} {n:String} {vs:Array Value} {Q:Unit→Shared→Prop} (ho:s.heap.get? it=some o) (hc:o.cls=.type n) (hd:o.data=.fields vs)
  (hn:["enumerate","zip","dict_itemiterator","dict_reverseitemiterator","odict_iterator","itertools.zip_longest","itertools.pairwise"].contains n=false) (hQ:Q () s):wpAny M A (letOwnedTupleGo tg (.ref it) u) Q E s:=by
 unfold letOwnedTupleGo
 cases tg<;>first
  | exact wpAny_pure hQ
  | (cases u<;>first
    | exact wpAny_pure hQ
    | (refine wpAny_bind (wpAny_load ho ?_);rw [hc,hd];show wpAny M A (if (["enumerate","zip","dict_itemiterator","dict_reverseitemiterator","odict_iterator","itertools.zip_longest","itertools.pairwise"].contains n && vs[0]? == some (rawInt _))=true then _ else _) Q E s;rw [if_neg (by intro h;rw [hn,Bool.false_and] at h;cases h)];exact wpAny_pure hQ))
def Itl (K:Qa) (a:Addr):It:=
 ⟨fun i H=>∃xs x,SqL K H a xs∧xs[i]?=some x,fun i H x H'=>H'=H∧∀xs,SqL K H a xs→xs[i]?=some x,fun i H=>∃xs,SqL K H a xs∧xs.length≤i⟩
def Itt (K:Qa) (a:Addr):It:=
 ⟨fun i H=>∃xs x,SqT K H a xs∧xs[i]?=some x,fun i H x H'=>H'=H∧∀xs,SqT K H a xs→xs[i]?=some x,fun i H=>∃xs,SqT K H a xs∧xs.length≤i⟩
def Itr (lo:Int) (n:Nat):It:=⟨fun i _=>i < n,fun i H x H'=>H'=H∧x=.int (lo+i),fun i _=>n≤i⟩
theorem a5S {P:Program} {w:World} {K:Qa} {tg:Expr} (a it:Addr):b0M P w K tg (Itl K a) [it] it (fun i h=>h.IsListIter it a i) where
 mem:=by simp
 obj:=fun i h st b hb=>by
  have e:b=it:=by simpa using hb
  subst e
  obtain ⟨o,e,c,d⟩:=st
  exact ⟨o,e,fun v z=>by rw [d] at z;cases z⟩
 keep:=fun i h h' st k=>st.at fun o e=>k it (by simp) o e
 item:=by
  intro X hP hw hK hc i pins s σ H E I hf st hg
  subst hP hw hK
  obtain ⟨xs,x,hq,hx⟩:=hg
  obtain ⟨its,rv,p,hz⟩:=I.list hq
  obtain ⟨u,hu,ru⟩:=rv.get hx
  obtain ⟨f0,f1,f2,f3,f4,f5⟩:=hf it (by simp)
  refine wpAny_pyNext_list_item st p.isList (x:=u) (by simpa using hu) fun h' st' sb=>?_
  have I1:Inv X pins σ H {s with heap:=h'}:=I.turned (t':=s.toks) (fun b o hb e=>(sb.2 b hb).trans e) f0 f1 f3 f4 f5
  obtain ⟨o,e,c,d⟩:=id st'
  exact ⟨u,rfl,a7Z (s:={s with heap:=h'}) e c d ‹dc› ⟨x,H,I1,ru,⟨rfl,fun ys hy=>by rw [I.list_inj hy hq];exact hx⟩,st',fun b hb=>(hf b hb).1⟩⟩
 done:=by
  intro X hP hw hK hc i pins s σ H E I hf st hg
  subst hP hw hK
  obtain ⟨xs,hq,hx⟩:=hg
  obtain ⟨its,rv,p,hz⟩:=I.list hq
  obtain ⟨f0,f1,f2,f3,f4,f5⟩:=hf it (by simp)
  have hl:=rv.length
  exact wpAny_pyNext_list_end (I.ok.hd hc) st p.isList (by simp;omega) fun h' eb=>⟨rfl,I.turned (t':=s.toks) (fun b o hb e=>eb b o hb e) f0 f1 f3 f4 f5⟩
 self:=fun _ _ _ _ _ st h=>wpAny_pyIter_listiter st h
theorem a5u {P:Program} {w:World} {K:Qa} {tg:Expr} (a it:Addr):b0M P w K tg (Itt K a) [it] it (fun i h=>h.IsTupleIter it a i) where
 mem:=by simp
 obj:=fun i h st b hb=>by
  have e:b=it:=by simpa using hb
  subst e
  obtain ⟨o,e,c,d⟩:=st
  exact ⟨o,e,fun v z=>by rw [d] at z;cases z⟩
 keep:=fun i h h' st k=>st.at fun o e=>k it (by simp) o e
 item:=by
  intro X hP hw hK hc i pins s σ H E I hf st hg
  subst hP hw hK
  obtain ⟨xs,x,hq,hx⟩:=hg
  obtain ⟨its,rv,p,hz⟩:=I.tuple hq
  obtain ⟨u,hu,ru⟩:=rv.get hx
  obtain ⟨f0,f1,f2,f3,f4,f5⟩:=hf it (by simp)
  refine wpAny_pyNext_tuple_item st (show s.heap.IsTuple a its.toArray from p) (x:=u) (by simpa using hu) fun h' st' sb=>?_
  have I1:Inv X pins σ H {s with heap:=h'}:=I.turned (t':=s.toks) (fun b o hb e=>(sb.2 b hb).trans e) f0 f1 f3 f4 f5
  obtain ⟨o,e,c,d⟩:=id st'
  exact ⟨u,rfl,a7Z (s:={s with heap:=h'}) e c d ‹dc› ⟨x,H,I1,ru,⟨rfl,fun ys hy=>by rw [I.tuple_inj hy hq];exact hx⟩,st',fun b hb=>(hf b hb).1⟩⟩
 done:=by
  intro X hP hw hK hc i pins s σ H E I hf st hg
  subst hP hw hK
  obtain ⟨xs,hq,hx⟩:=hg
  obtain ⟨its,rv,p,hz⟩:=I.tuple hq
  obtain ⟨f0,f1,f2,f3,f4,f5⟩:=hf it (by simp)
  have hl:=rv.length
  exact wpAny_pyNext_tuple_end (I.ok.hd hc) st (show s.heap.IsTuple a its.toArray from p) (by simp;omega) fun h' eb=>⟨rfl,I.turned (t':=s.toks) (fun b o hb e=>eb b o hb e) f0 f1 f3 f4 f5⟩
 self:=fun _ _ _ _ _ st h=>wpAny_pyIter_tupleiter st h
theorem a5I {P:Program} {w:World} {K:Qa} {tg:Expr} (it:Addr) (lo:Int) (n:Nat):b0M P w K tg (Itr lo n) [it] it (fun i h=>IsRangeIter h it (lo+(i:Nat) * 1) ((n:Int) - (i:Nat)) 1) where
 mem:=by simp
 obj:=fun i h st b hb=>by
  have e:b=it:=by simpa using hb
  subst e
  exact ⟨_,st,fun v z=>by
   have z':Data.fields _=Data.cell v:=z
   cases z'⟩
 keep:=fun i h h' st k=>k it (by simp) _ st
 item:=by
  intro X hP hw hK hc i pins s σ H E I hf st hg
  subst hP hw hK
  obtain ⟨f0,f1,f2,f3,f4,f5⟩:=hf it (by simp)
  have W:=Walks.range (prog:=X.prog) (w:=X.w) (I.ok.hd hc) it lo 1 n
  refine W.item i s _ _ hg st fun v h' tk hv st' kk=>?_
  obtain ⟨t,rfl⟩:=hv
  have I1:Inv X pins σ H {s with heap:=h',toks:=tk}:=I.turned (fun b o hb e=>kk b o (by simpa using hb) e) f0 f1 f3 f4 f5
  refine ⟨_,rfl,a7Z (s:={s with heap:=h',toks:=tk}) (n:="range_iterator") st' rfl rfl ‹dc› ⟨.int (lo+i),H,I1,⟨t,?_⟩,⟨rfl,rfl⟩,st',fun b hb=>(hf b hb).1⟩⟩
  rw [Int.mul_one]
 done:=by
  intro X hP hw hK hc i pins s σ H E I hf st hg
  subst hP hw hK
  obtain ⟨f0,f1,f2,f3,f4,f5⟩:=hf it (by simp)
  exact wpAny_pyNext_range_end (I.ok.hd hc) st (by have:n≤i:=hg;omega) fun h' eb=>⟨rfl,I.turned (t':=s.toks) (fun b o hb e=>eb b o hb e) f0 f1 f3 f4 f5⟩
 self:=fun _ _ _ _ _ st h=>wpAny_pyIter_rangeiter st h
section
variable {X:Cx} {tg:Expr}
def a2A (K:Qa) (tl:TE):TI:=fun σ H R=>tl σ H fun x H1=>∃a,x=.ref a∧(∃xs,SqL K H1 a xs)∧R (Itl K a) H1
def b3w (K:Qa) (tl:TE):TI:=fun σ H R=>tl σ H fun x H1=>∃a,x=.ref a∧(∃xs,SqT K H1 a xs)∧R (Itt K a) H1
theorem b0c {l:Expr} {tl:TE} (hl:PE X l tl):PI X tg l (a2A X.K tl):=by
 intro pins s σ H R I h
 refine thn (hl pins s σ H _ I h) fun v s1 ⟨x,H1,I1,r1,q1⟩=>?_
 obtain ⟨a,e,⟨xs,hq⟩,q⟩:=q1
 subst e
 cases r1
 obtain ⟨its,rv,p,hz⟩:=I1.list hq
 refine wpAny_pyIter_list p.isList ?_
 refine ⟨s1.heap.objs.size,[s1.heap.objs.size],_,_,H1,rfl,I1.kept (t':=s1.toks) fun b o e=>Qe _ e,a5S a _,⟨_,Qp _ rfl,rfl,rfl⟩,fun b hb=>?_,q⟩
 have e:b=s1.heap.objs.size:=by simpa using hb
 subst e
 exact I1.fpOk (Qg _) (I1.hok.fresh (Qg _))
theorem b0S {l:Expr} {tl:TE} (hl:PE X l tl):PI X tg l (b3w X.K tl):=by
 intro pins s σ H R I h
 refine thn (hl pins s σ H _ I h) fun v s1 ⟨x,H1,I1,r1,q1⟩=>?_
 obtain ⟨a,e,⟨xs,hq⟩,q⟩:=q1
 subst e
 cases r1
 obtain ⟨its,rv,p,hz⟩:=I1.tuple hq
 refine wpAny_pyIter_tuple (show s1.heap.IsTuple a its.toArray from p) ?_
 refine ⟨s1.heap.objs.size,[s1.heap.objs.size],_,_,H1,rfl,I1.kept (t':=s1.toks) fun b o e=>Qe _ e,a5u a _,⟨_,Qp _ rfl,rfl,rfl⟩,fun b hb=>?_,q⟩
 have e:b=s1.heap.objs.size:=by simpa using hb
 subst e
 exact I1.fpOk (Qg _) (I1.hok.fresh (Qg _))
theorem a8v {pins:List (Addr×Obj)} {σ:St} {H:Hp} {s:Shared} {R:It→Hp→Prop} {E:Value→Shared→Prop} {lo hi:Int} {t u v:Tok} {tk:Nat} (I:Inv X pins σ H s) (h1:-(2 ^ 62)≤lo) (h2:lo < 2 ^ 62) (h3:-(2 ^ 62)≤hi) (h4:hi < 2 ^ 62)
  (q:R (Itr lo (hi - lo).toNat) H):wpAny (model X.prog X.w) X.A (pyIter (.ref s.heap.objs.size)) (PIE X pins σ tg R) E {s with heap:=s.heap.push {cls:=.type "range",data:=.fields #[.int lo t,.int hi u,.int 1 v]},toks:=tk}:=by
 refine wpAny_pyIter_range (IsRange.new ..) (small_one h1 h2 h3 h4) ?_
 have I1:Inv X pins σ H {s with heap:=s.heap.push {cls:=.type "range",data:=.fields #[.int lo t,.int hi u,.int 1 v]},toks:=tk}:=I.kept fun b o e=>Qe _ e
 refine ⟨(s.heap.push {cls:=.type "range",data:=.fields #[.int lo t,.int hi u,.int 1 v]}).objs.size,[(s.heap.push {cls:=.type "range",data:=.fields #[.int lo t,.int hi u,.int 1 v]}).objs.size],_,_,H,rfl,
  I1.kept (t':=tk) fun b o e=>Qe _ e,a5I _ lo (hi - lo).toNat,?_,fun b hb=>?_,q⟩
 ·have e1:lo+((0:Nat):Int) * 1=lo:=by simp
  have e2:(((hi - lo).toNat:Nat):Int) - ((0:Nat):Int)=Builtin.Range.rangeSize lo hi 1:=by rw [rangeSize_one];split<;>omega
  show IsRangeIter _ _ (lo+((0:Nat):Int) * 1) ((((hi - lo).toNat:Nat):Int) - ((0:Nat):Int)) 1
  rw [e1,e2]
  exact Qp _ rfl
 ·have e:b=(s.heap.push {cls:=.type "range",data:=.fields #[.int lo t,.int hi u,.int 1 v]}).objs.size:=by simpa using hb
  subst e
  exact I1.fpOk (Qg _) (I1.hok.fresh (Qg _))
def a8D (ta:TA):TI:=fun σ H R=>ta σ H fun vs H1=>∃j:Int,vs=[.int j]∧-(2 ^ 62)≤j∧j < 2 ^ 62∧R (Itr 0 j.toNat) H1
theorem a6e {a:Expr} {ta:TA} {p pos:Pos} (hg:Gl X "range") (hm:X.mg "range"=none) (ha:PA X [a] ta) (hs:starEach [a] X.env=[(false,eval a X.env)]:=by rfl):PI X tg (.Call (.Name "range" p) [a] [] pos) (a8D ta):=by
 intro pins s σ H R I h
 refine Call_ (a3v I hg hm boot_range (PyProof.Rows.callWith_type1 (thn (ha pos pins s σ H _ I h) fun us s1 ⟨vs,H1,I1,r1,q1⟩=>?_) hs rfl))
 obtain ⟨j,e,q1,q2,q⟩:=q1
 subst e
 cases r1 with
 | cons r rr=>
  cases rr
  obtain ⟨t,rfl⟩:=r
  exact call_range_1 (a8v I1 ‹om› ‹om› q1 q2 (by simpa using q))
def b4D (wi:TI) (g:TG) (tb:TS):TS:=fun D σ H=>wi σ H fun J H1=>∃W:Nat→Nat→St→Hp→Prop,(∃m,W 0 m σ H1)∧∀i m σ H,W i m σ H→
 (J.stop i H∧D.nx σ H)∨(J.go i H∧∃N:St→Hp→Prop,(∀σ' H',N σ' H'→∃m',m' < m∧W (i+1) m' σ' H')∧∀x H',J.yld i H x H'→g x σ H' fun σ2 H2=>tb {D with nx:=N,ct:=N,bk:=D.nx} σ2 H2)
def a3w (fp:List Addr) (h:Heap):List (Addr×Obj):=fp.filterMap fun b=>(h.get? b).map fun o=>(b,o)
theorem a1o {fp:List Addr} {h:Heap} {b:Addr} {o:Obj} (hb:b∈fp) (e:h.get? b=some o):(b,o)∈a3w fp h:=Vs.mpr ⟨b,hb,by rw [e];rfl⟩
theorem a7F {fp:List Addr} {h:Heap} {p:Addr×Obj} (hp:p∈a3w fp h):p.1∈fp∧h.get? p.1=some p.2:=by
 obtain ⟨b,hb,e⟩:=Vs.mp hp
 cases q:h.get? b with
 | none=>rw [q] at e;cases e
 | some o=>
  rw [q] at e
  have e':(b,o)=p:=Option.some.inj e
  subst e'
  exact ⟨hb,q⟩
theorem Inv.pinned {pins:List (Addr×Obj)} {σ:St} {H:Hp} {s:Shared} {fp:List Addr} (I:Inv X pins σ H s) (hf:∀b∈fp,a8R X pins H b) (ho:∀b∈fp,∃o,s.heap.get? b=some o∧∀v,o.data≠.cell v):Inv X (pins++a3w fp s.heap) σ H s:=
 I.pins_of fun p hp=>(Qy.mp hp).elim (fun z=>I.pin p (Qx _ z)) fun z=>by
  obtain ⟨hb,e⟩:=a7F z
  obtain ⟨f0,f1,f2,_⟩:=hf p.1 hb
  obtain ⟨o,e',d⟩:=ho p.1 hb
  rw [e] at e';cases e'
  exact ⟨e,f0,f1,f2,d⟩
theorem Inv.unpinned {pins pl:List (Addr×Obj)} {σ:St} {H:Hp} {s:Shared} (I:Inv X (pins++pl) σ H s):Inv X pins σ H s:=I.pins_of fun p hp=>I.pin p (Qx _ (Xg _ hp))
theorem b2T {iter:Expr} {body:List Stmt} {wi:TI} {g:TG} {tb:TS} {pos:Pos} (hp:PassesOwn (model X.prog X.w) X.A X.env X.xe) (hc:X.calm=true) (hi:PI X tg iter wi) (hg:PG X tg g) (hb:PSs X body tb)
  (hs:∀x,foldedSetIterable iter X.env x=pure x:=by intro _;rfl):PS X (.For tg iter body [] pos) (b4D wi g tb):=by
 intro pins s σ H D I h
 refine wpAny_For (thn (hi pins s σ H _ I h) fun v s1 h1=>thn h1 fun itv s2 h2=>?_) hs
 obtain ⟨it,fp,tn,J,H2,e,I2,T,st2,f2,W,⟨m0,w0⟩,turn⟩:=h2
 subst e
 have stat:∀{H':Hp},(∀b∈fp,H' b=none)→∀b∈fp,a8R X pins H' b:=fun hn b hb=>⟨hn b hb,(f2 b hb).2⟩
 refine codeAny_forLoop_any (fun n s'=>∃i σ' H',Inv X pins σ' H' s'∧tn i s'.heap∧(∀b∈fp,H' b=none)∧W i n σ' H') ?_ m0 ⟨0,σ,H2,I2,st2,fun b hb=>(f2 b hb).1,w0⟩
 rintro n s3 ⟨i,σ3,H3,I3,st3,fr3,w3⟩
 rcases turn i n σ3 H3 w3 with ⟨stop,qn⟩ | ⟨go,N,hN,step⟩
 ·refine wpAny_passesOwn hp (thn (T.done X rfl rfl rfl hc i pins s3 σ3 H3 X.xe I3 (stat fr3) st3 stop) fun r s4 ⟨hr,I4⟩=>?_)
  subst hr
  exact wpAny_execs_nil ⟨σ3,H3,I4,qn⟩
 ·refine wpAny_passesOwn hp (thn (T.item X rfl rfl rfl hc i pins s3 σ3 H3 X.xe I3 (stat fr3) st3 go) fun r s4 ⟨u,hr,h4⟩=>?_)
  subst hr
  refine wpAny_passesOwn hp (thn h4 fun _ s5 ⟨x,H5,I5,r5,y5,st5,fr5⟩=>?_)
  have I5':=I5.pinned (stat fr5) (T.obj _ _ st5)
  refine wpAny_passesOwn hp (thn (hg _ s5 σ3 H5 x u _ I5' r5 (step x H5 y5)) fun _ s6 ⟨σ6,H6,I6,q6⟩=>?_)
  refine wpAny_passesOwn hp (thn (hb _ s6 σ6 H6 _ I6 q6) fun f s7 q7=>?_)
  have again:∀{σ7:St} {H7:Hp},Inv X (pins++a3w fp s5.heap) σ7 H7 s7→N σ7 H7→∃m,m < n∧∃i σ' H',Inv X pins σ' H' s7∧tn i s7.heap∧(∀b∈fp,H' b=none)∧W i m σ' H':=fun {σ7 H7} I7 n7=>by
   obtain ⟨m',hm,w7⟩:=hN σ7 H7 n7
   refine ⟨m',hm,i+1,σ7,H7,I7.unpinned,T.keep _ _ _ st5 fun b hb o e=>(I7.pin (b,o) (Qx _ (Qx _ (a1o hb e)))).1,fun b hb=>?_,w7⟩
   obtain ⟨o,e,d⟩:=T.obj _ _ st5 b hb
   exact (I7.pin (b,o) (Qx _ (Qx _ (a1o hb e)))).2.1
  cases f with
  | next=>obtain ⟨σ7,H7,I7,n7⟩:=q7;exact again I7 n7
  | cont=>obtain ⟨σ7,H7,I7,n7⟩:=q7;exact again I7 n7
  | brk=>obtain ⟨σ7,H7,I7,q7⟩:=q7;exact ⟨σ7,H7,I7.unpinned,q7⟩
  | ret v=>obtain ⟨x7,σ7,H7,I7,r7,q7⟩:=q7;exact ⟨x7,σ7,H7,I7.unpinned,r7,q7⟩
end
theorem a0X {K:Qa} {a:Addr} {xs:List V} {g:TG} {tb:TS} {D:a6L} {σ:St} {H:Hp} (Pv:Nat→St→Hp→Prop) (h0:Pv 0 σ H) (hl:∀i σ H,i≤xs.length→Pv i σ H→SqL K H a xs)
  (hs:∀i x σ H,xs[i]?=some x→Pv i σ H→g x σ H fun σ2 H2=>tb {D with nx:=Pv (i+1),ct:=Pv (i+1),bk:=D.nx} σ2 H2) (hd:∀σ H,Pv xs.length σ H→D.nx σ H):
  ∃W:Nat→Nat→St→Hp→Prop,(∃m,W 0 m σ H)∧∀i m σ H,W i m σ H→
   ((Itl K a).stop i H∧D.nx σ H)∨((Itl K a).go i H∧∃N:St→Hp→Prop,(∀σ' H',N σ' H'→∃m',m' < m∧W (i+1) m' σ' H')∧∀x H',(Itl K a).yld i H x H'→g x σ H' fun σ2 H2=>tb {D with nx:=N,ct:=N,bk:=D.nx} σ2 H2):=by
 refine ⟨fun i m σ H=>m=xs.length - i∧i≤xs.length∧Pv i σ H,⟨xs.length,by simp,Xl _,h0⟩,?_⟩
 rintro i m σ H ⟨rfl,hi,p⟩
 have q:=hl i σ H hi p
 by_cases hlt:i < xs.length
 ·refine .inr ⟨⟨xs,xs[i],q,by simp [hlt]⟩,Pv (i+1),fun σ' H' p'=>⟨xs.length - (i+1),by omega,rfl,hlt,p'⟩,fun x H' y=>?_⟩
  obtain ⟨e,y⟩:=y
  subst e
  exact hs i x σ _ (y xs q) p
 ·have e:i=xs.length:=by omega
  subst e
  exact .inl ⟨⟨xs,q,Qg _⟩,hd σ H p⟩
theorem a5U {K:Qa} {a:Addr} {xs:List V} {g:TG} {tb:TS} {D:a6L} {σ:St} {H:Hp} (Pv:Nat→St→Hp→Prop) (h0:Pv 0 σ H) (hl:∀i σ H,i≤xs.length→Pv i σ H→SqT K H a xs)
  (hs:∀i x σ H,xs[i]?=some x→Pv i σ H→g x σ H fun σ2 H2=>tb {D with nx:=Pv (i+1),ct:=Pv (i+1),bk:=D.nx} σ2 H2) (hd:∀σ H,Pv xs.length σ H→D.nx σ H):
  ∃W:Nat→Nat→St→Hp→Prop,(∃m,W 0 m σ H)∧∀i m σ H,W i m σ H→
   ((Itt K a).stop i H∧D.nx σ H)∨((Itt K a).go i H∧∃N:St→Hp→Prop,(∀σ' H',N σ' H'→∃m',m' < m∧W (i+1) m' σ' H')∧∀x H',(Itt K a).yld i H x H'→g x σ H' fun σ2 H2=>tb {D with nx:=N,ct:=N,bk:=D.nx} σ2 H2):=by
 refine ⟨fun i m σ H=>m=xs.length - i∧i≤xs.length∧Pv i σ H,⟨xs.length,by simp,Xl _,h0⟩,?_⟩
 rintro i m σ H ⟨rfl,hi,p⟩
 have q:=hl i σ H hi p
 by_cases hlt:i < xs.length
 ·refine .inr ⟨⟨xs,xs[i],q,by simp [hlt]⟩,Pv (i+1),fun σ' H' p'=>⟨xs.length - (i+1),by omega,rfl,hlt,p'⟩,fun x H' y=>?_⟩
  obtain ⟨e,y⟩:=y
  subst e
  exact hs i x σ _ (y xs q) p
 ·have e:i=xs.length:=by omega
  subst e
  exact .inl ⟨⟨xs,q,Qg _⟩,hd σ H p⟩
theorem a3O {lo:Int} {n:Nat} {g:TG} {tb:TS} {D:a6L} {σ:St} {H:Hp} (Pv:Nat→St→Hp→Prop) (h0:Pv 0 σ H)
  (hs:∀i σ H,i < n→Pv i σ H→g (.int (lo+i)) σ H fun σ2 H2=>tb {D with nx:=Pv (i+1),ct:=Pv (i+1),bk:=D.nx} σ2 H2) (hd:∀σ H,Pv n σ H→D.nx σ H):
  ∃W:Nat→Nat→St→Hp→Prop,(∃m,W 0 m σ H)∧∀i m σ H,W i m σ H→
   ((Itr lo n).stop i H∧D.nx σ H)∨((Itr lo n).go i H∧∃N:St→Hp→Prop,(∀σ' H',N σ' H'→∃m',m' < m∧W (i+1) m' σ' H')∧∀x H',(Itr lo n).yld i H x H'→g x σ H' fun σ2 H2=>tb {D with nx:=N,ct:=N,bk:=D.nx} σ2 H2):=by
 refine ⟨fun i m σ H=>m=n - i∧i≤n∧Pv i σ H,⟨n,by simp,Xl _,h0⟩,?_⟩
 rintro i m σ H ⟨rfl,hi,p⟩
 by_cases hlt:i < n
 ·refine .inr ⟨hlt,Pv (i+1),fun σ' H' p'=>⟨n - (i+1),by omega,rfl,hlt,p'⟩,fun x H' y=>?_⟩
  obtain ⟨e,y⟩:=y
  subst e y
  exact hs i σ _ hlt p
 ·have e:i=n:=by omega
  subst e
  exact .inl ⟨Qg _,hd σ H p⟩
abbrev R2:=V→V→Hp→VK→Prop
def OpR (X:Cx) (f:Value→Value→Sem Value) (r:R2):Prop:=
 ∀(pins:List (Addr×Obj)) (s:Shared) (σ:St) (H:Hp) (x y:V) (v u:Value) (Q:VK),Inv X pins σ H s→a0s x v→a0s y u→r x y H Q→
  wpAny (model X.prog X.w) X.A (f v u) (EP X pins σ Q) X.xe s
def a0N (X:Cx) (f:Value) (r:List V→Hp→VK→Prop):Prop:=
 ∀(pins:List (Addr×Obj)) (s:Shared) (σ:St) (H:Hp) (xs:List V) (us:List Value) (Q:VK),Inv X pins σ H s→a0r xs us→r xs H Q→
  wpAny (model X.prog X.w) X.A (call f us) (EP X pins σ Q) X.xe s
def tOp (r:R2) (ta tb:TE):TE:=fun σ H Q=>ta σ H fun x H1=>tb σ H1 fun y H2=>r x y H2 Q
def rI (C:Int→Int→Prop) (g:Int→Int→V):R2:=fun x y H Q=>∃i j,x=.int i∧y=.int j∧C i j∧Q (g i j) H
def rI0 (g:Int→Int→V):R2:=fun x y H Q=>∃i j,x=.int i∧y=.int j∧Q (g i j) H
section
variable {X:Cx} {a b c:Expr} {ta tb tc:TE} {pos:Pos}
theorem b3F (ha:PE X a ta) (hb:PE X b tb) {pins:List (Addr×Obj)} {s:Shared} {σ:St} {H:Hp} {R:V→V→Hp→Prop} (I:Inv X pins σ H s)
  (h:ta σ H fun x H1=>tb σ H1 fun y H2=>R x y H2) {Q:Value→Shared→Prop} {f:Value→Value→Sem Value}
  (hf:∀v u s2 x y H2,Inv X pins σ H2 s2→a0s x v→a0s y u→R x y H2→wpAny (model X.prog X.w) X.A (f v u) Q X.xe s2):
  wpAny (model X.prog X.w) X.A (eval a X.env) (fun v s₁=>wpAny (model X.prog X.w) X.A (eval b X.env) (fun u s₂=>wpAny (model X.prog X.w) X.A (f v u) Q X.xe s₂) X.xe s₁) X.xe s:=by
 refine thn (ha pins s σ H _ I h) fun v s1 ⟨x,H1,I1,r1,q1⟩=>?_
 refine thn (hb pins s1 σ H1 _ I1 q1) fun u s2 ⟨y,H2,I2,r2,q2⟩=>?_
 exact hf v u s2 x y H2 I2 r1 r2 q2
theorem b3G {op:Operator} {r:R2} (ho:OpR X (binaryOp op) r) (ha:PE X a ta) (hb:PE X b tb):PE X (.BinOp a op b pos) (tOp r ta tb):=by
 intro pins s σ H Q I h
 exact wpAny_BinOp (b3F ha hb I h fun v u s2 x y H2 I2 rx ry q=>ho pins s2 σ H2 x y v u Q I2 rx ry q)
theorem opI {f:Value→Value→Sem Value} {C:Int→Int→Prop} {g:Int→Int→Int}
  (rule:∀(i j:Int) (t u:Tok) (s:Shared) (Q:Value→Shared→Prop) (E:Value→Shared→Prop),C i j→Q (.int (g i j) s.toks) {s with toks:=s.toks+1}→wpAny (model X.prog X.w) X.A (f (.int i t) (.int j u)) Q E s):
  OpR X f (rI C fun i j=>.int (g i j)):=by
 intro pins s σ H x y v u Q I rx ry h
 obtain ⟨i,j,rfl,rfl,hc,q⟩:=h
 obtain ⟨t,rfl⟩:=rx
 obtain ⟨t',rfl⟩:=ry
 exact rule i j t t' s _ _ hc ⟨.int (g i j),H,I.tok _,⟨_,rfl⟩,q⟩
theorem b6o {f:Value→Value→Sem Value} {g:Int→Int→Int}
  (rule:∀(i j:Int) (t u:Tok) (s:Shared) (Q:Value→Shared→Prop) (E:Value→Shared→Prop),Q (.int (g i j) s.toks) {s with toks:=s.toks+1}→wpAny (model X.prog X.w) X.A (f (.int i t) (.int j u)) Q E s):
  OpR X f (rI0 fun i j=>.int (g i j)):=by
 intro pins s σ H x y v u Q I rx ry h
 obtain ⟨i,j,rfl,rfl,q⟩:=h
 obtain ⟨t,rfl⟩:=rx
 obtain ⟨t',rfl⟩:=ry
 exact rule i j t t' s _ _ ⟨.int (g i j),H,I.tok _,⟨_,rfl⟩,q⟩
theorem b5R {f:Value→Value→Sem Value} {g:Int→Int→Bool}
  (rule:∀(i j:Int) (t u:Tok) (s:Shared) (Q:Value→Shared→Prop) (E:Value→Shared→Prop),Q (.bool (g i j)) s→wpAny (model X.prog X.w) X.A (f (.int i t) (.int j u)) Q E s):
  OpR X f (rI0 fun i j=>.bl (g i j)):=by
 intro pins s σ H x y v u Q I rx ry h
 obtain ⟨i,j,rfl,rfl,q⟩:=h
 obtain ⟨t,rfl⟩:=rx
 obtain ⟨t',rfl⟩:=ry
 exact rule i j t t' s _ _ ⟨.bl (g i j),H,I,rfl,q⟩
def b0K (i j:Int):Prop:=0 < j∧j < 1073741824
def b3g (i j:Int):Prop:=(-(2 ^ 64) < i∧i < 2 ^ 64)∨(-(2 ^ 64) < j∧j < 2 ^ 64)
theorem b3g.ok {i j:Int} (h:b3g i j):IntMulOk i j:=by
 rcases h with ⟨h1,h2⟩ | ⟨h1,h2⟩
 ·exact .of_left (intBits_le_64 h1 h2)
 ·exact .of_right (intBits_le_64 h1 h2)
theorem b2J:OpR X (binaryOp .Add) (rI0 fun i j=>.int (i+j)):=b6o fun _ _ _ _ _ _ _ q=>add_int q
theorem b1H:OpR X (binaryOp .Sub) (rI0 fun i j=>.int (i - j)):=b6o fun _ _ _ _ _ _ _ q=>sub_int q
theorem a3K:OpR X (binaryOp .Mult) (rI b3g fun i j=>.int (i * j)):=opI fun _ _ _ _ _ _ _ hc q=>mul_int q hc.ok
theorem a2k:OpR X (binaryOp .FloorDiv) (rI b0K fun i j=>.int (i / j)):=opI fun i j _ _ _ _ _ hc q=>by
 have h1:(0:Int) < j:=hc.1
 have h2:j < 1073741824:=hc.2
 exact floordiv_int ‹om› (by rw [Int.fdiv_eq_ediv_of_nonneg i ‹om›];exact q) (.inl (PyProof.noPylong_small ‹om›))
theorem a0F:OpR X (binaryOp .Mod) (rI (fun _ j=>0 < j) fun i j=>.int (i % j)):=opI fun i j _ _ _ _ _ hc q=>by
 have h1:(0:Int) < j:=hc
 exact mod_int' ‹om› (by rw [Int.fmod_eq_emod_of_nonneg i ‹om›];exact q)
end
def b4N:V→V→Bool
 | .non,.non=>true | .non,.int _=>true | .int _,.non=>true | .non,.bl _=>true | .bl _,.non=>true | .non,.str _=>true | .str _,.non=>true
 | .int _,.int _=>true | .bl _,.bl _=>true | .str _,.str _=>true | .byt _,.byt _=>true
 | .int _,.str _=>true | .str _,.int _=>true | .bl _,.str _=>true | .str _,.bl _=>true
 | _,_=>false
def rEq:R2:=fun x y H Q=>b4N x y=true∧Q (.bl (decide (x=y))) H
def rNe:R2:=fun x y H Q=>b4N x y=true∧Q (.bl (!decide (x=y))) H
theorem a6u {i j:Int}:decide (V.int i=V.int j)=(i == j):=by
 rw [Zt]
 simp
theorem a9d {i j:Bool}:decide (V.bl i=V.bl j)=(i == j):=by
 rw [Zt]
 simp
theorem a7i {i j:Str}:decide (V.str i=V.str j)=(i == j):=by
 rw [Zt]
 simp
theorem a7C {i j:Array UInt8}:decide (V.byt i=V.byt j)=(i.toList == j.toList):=by
 rw [Zt]
 cases i
 cases j
 simp
section
variable {X:Cx} {a b c:Expr} {ta tb tc:TE} {pos:Pos}
theorem a0k {pins:List (Addr×Obj)} {σ:St} {H:Hp} {s:Shared} {Q:VK} {k k':Bool} (I:Inv X pins σ H s) (q:Q (.bl k) H) (e:k=k'):EP X pins σ Q (.bool k') s:=by
 subst e
 exact ⟨.bl k,H,I,rfl,q⟩
theorem b3x:OpR X (compareOp .Eq) rEq:=by
 intro pins s σ H x y v u Q I rx ry h
 obtain ⟨hs,q⟩:=h
 cases x with
 | non=>
  cases rx
  cases y with
  | non=>cases ry;exact PySem.EqNone.eq_none_none (a0k I q (by simp))
  | bl j=>cases ry;exact PySem.EqNone.eq_none_bool (a0k I q (by simp))
  | int j=>obtain ⟨t',rfl⟩:=ry;exact PySem.EqNone.eq_none_int (a0k I q (by simp))
  | str j=>obtain ⟨t',rfl⟩:=ry;exact PySem.EqNone.eq_none_str (a0k I q (by simp))
  | _=>exact absurd (show false=true from hs) Qr
 | bl i=>
  cases rx
  cases y with
  | non=>cases ry;exact PySem.EqNone.eq_bool_none (a0k I q (by simp))
  | bl j=>cases ry;exact eq_bool (a0k I q a9d)
  | str j=>obtain ⟨t',rfl⟩:=ry;exact PySem.EqMixed.eq_bool_str (a0k I q (by simp))
  | _=>exact absurd (show false=true from hs) Qr
 | int i=>
  obtain ⟨t,rfl⟩:=rx
  cases y with
  | non=>cases ry;exact PySem.EqNone.eq_int_none (a0k I q (by simp))
  | int j=>obtain ⟨t',rfl⟩:=ry;exact eq_int (a0k I q a6u)
  | str j=>obtain ⟨t',rfl⟩:=ry;exact PySem.EqMixed.eq_int_str (a0k I q (by simp))
  | _=>exact absurd (show false=true from hs) Qr
 | str i=>
  obtain ⟨t,rfl⟩:=rx
  cases y with
  | non=>cases ry;exact PySem.EqNone.eq_str_none (a0k I q (by simp))
  | bl j=>cases ry;exact PySem.EqMixed.eq_str_bool (a0k I q (by simp))
  | int j=>obtain ⟨t',rfl⟩:=ry;exact PySem.EqMixed.eq_str_int (a0k I q (by simp))
  | str j=>obtain ⟨t',rfl⟩:=ry;exact eq_str (a0k I q a7i)
  | _=>exact absurd (show false=true from hs) Qr
 | byt i=>
  obtain ⟨t,rfl⟩:=rx
  cases y with
  | byt j=>obtain ⟨t',rfl⟩:=ry;exact PySem.W.eq_bytes (a0k I q a7C)
  | _=>exact absurd (show false=true from hs) Qr
 | _=>cases y<;>exact absurd (show false=true from hs) Qr
theorem b3B:OpR X (compareOp .NotEq) rNe:=by
 intro pins s σ H x y v u Q I rx ry h
 obtain ⟨hs,q⟩:=h
 cases x with
 | non=>
  cases rx
  cases y with
  | non=>cases ry;exact PySem.EqNone.ne_none_none (a0k I q (by simp))
  | bl j=>cases ry;exact PySem.EqNone.ne_none_bool (a0k I q (by simp))
  | int j=>obtain ⟨t',rfl⟩:=ry;exact PySem.EqNone.ne_none_int (a0k I q (by simp))
  | str j=>obtain ⟨t',rfl⟩:=ry;exact PySem.EqNone.ne_none_str (a0k I q (by simp))
  | _=>exact absurd (show false=true from hs) Qr
 | bl i=>
  cases rx
  cases y with
  | non=>cases ry;exact PySem.EqNone.ne_bool_none (a0k I q (by simp))
  | bl j=>cases ry;exact ne_bool (a0k I q (congrArg not a9d))
  | str j=>obtain ⟨t',rfl⟩:=ry;exact PySem.EqMixed.ne_bool_str (a0k I q (by simp))
  | _=>exact absurd (show false=true from hs) Qr
 | int i=>
  obtain ⟨t,rfl⟩:=rx
  cases y with
  | non=>cases ry;exact PySem.EqNone.ne_int_none (a0k I q (by simp))
  | int j=>obtain ⟨t',rfl⟩:=ry;exact ne_int (a0k I q (congrArg not a6u))
  | str j=>obtain ⟨t',rfl⟩:=ry;exact PySem.EqMixed.ne_int_str (a0k I q (by simp))
  | _=>exact absurd (show false=true from hs) Qr
 | str i=>
  obtain ⟨t,rfl⟩:=rx
  cases y with
  | non=>cases ry;exact PySem.EqNone.ne_str_none (a0k I q (by simp))
  | bl j=>cases ry;exact PySem.EqMixed.ne_str_bool (a0k I q (by simp))
  | int j=>obtain ⟨t',rfl⟩:=ry;exact PySem.EqMixed.ne_str_int (a0k I q (by simp))
  | str j=>obtain ⟨t',rfl⟩:=ry;exact ne_str (a0k I q (congrArg not a7i))
  | _=>exact absurd (show false=true from hs) Qr
 | byt i=>
  obtain ⟨t,rfl⟩:=rx
  cases y with
  | byt j=>obtain ⟨t',rfl⟩:=ry;exact PySem.W.ne_bytes (a0k I q (congrArg not a7C))
  | _=>exact absurd (show false=true from hs) Qr
 | _=>cases y<;>exact absurd (show false=true from hs) Qr
theorem b3Q:OpR X (compareOp .Lt) (rI0 fun i j=>.bl (decide (i < j))):=b5R fun _ _ _ _ _ _ _ q=>lt_int q
theorem b3t:OpR X (compareOp .Gt) (rI0 fun i j=>.bl (decide (j < i))):=b5R fun _ _ _ _ _ _ _ q=>gt_int q
theorem a6Q:OpR X (compareOp .Lt) (fun x y H Q=>∃i j,x=.str i∧y=.str j∧Q (.bl (decide (i.cps.toList < j.cps.toList))) H):=by
 intro pins s σ H x y v u Q I rx ry h
 obtain ⟨i,j,rfl,rfl,q⟩:=h
 obtain ⟨t,rfl⟩:=rx
 obtain ⟨t',rfl⟩:=ry
 exact lt_str (a0k I q rfl)
theorem a6C:OpR X (compareOp .In) (fun x y H Q=>∃i j,x=.str i∧y=.str j∧Q (.bl (!(Builtin.Str.occurrences j i 0 j.length 1).isEmpty)) H):=by
 intro pins s σ H x y v u Q I rx ry h
 obtain ⟨i,j,rfl,rfl,q⟩:=h
 obtain ⟨t,rfl⟩:=rx
 obtain ⟨t',rfl⟩:=ry
 exact in_str (a0k I q rfl)
theorem OpR.or {f:Value→Value→Sem Value} {r r':R2} (h:OpR X f r) (h':OpR X f r'):OpR X f (fun x y H Q=>r x y H Q∨r' x y H Q):=by
 intro pins s σ H x y v u Q I rx ry q
 rcases q with q | q
 ·exact h pins s σ H x y v u Q I rx ry q
 ·exact h' pins s σ H x y v u Q I rx ry q
theorem a0K (b:Expr) {op:CmpOp} (h:op≠.In:=by decide) (h2:op≠.NotIn:=by decide):behindInMarks op b=false:=by
 have e1:(op == CmpOp.In)=false:=by cases op<;>first | rfl | exact absurd rfl h
 have e2:(op == CmpOp.NotIn)=false:=by cases op<;>first | rfl | exact absurd rfl h2
 cases b<;>simp [behindInMarks,e1,e2]
theorem a9T {op:CmpOp} {r:R2} (ho:OpR X (compareOp op) r) (ha:PE X a ta) (hb:PE X b tb) (hm:behindInMarks op b=false):PE X (.Compare a [op] [b] pos) (tOp r ta tb):=by
 intro pins s σ H Q I h
 exact wpAny_Compare1 (b3F ha hb I h fun v u s2 x y H2 I2 rx ry q=>ho pins s2 σ H2 x y v u Q I2 rx ry q) hm
def a1G (t:TE):TT:=fun σ H Q=>t σ H fun x H'=>∃k,x=.bl k∧Q k H'
theorem b0r {op:CmpOp} {r:R2} (ho:OpR X (compareOp op) r) (ha:PE X a ta) (hb:PE X b tb) (hm:behindInMarks op b=false):PT X (.Compare a [op] [b] pos) (a1G (tOp r ta tb)):=by
 intro pins s σ H Q I h
 refine wpAny_isTrue_Compare1 (thn (ha pins s σ H _ I h) fun v s1 ⟨x,H1,I1,r1,q1⟩=>thn (hb pins s1 σ H1 _ I1 q1) fun u s2 ⟨y,H2,I2,r2,q2⟩=>
  thn (ho pins s2 σ H2 x y v u _ I2 r1 r2 q2) fun c s3 ⟨z,H3,I3,r3,k,e,q3⟩=>?_) hm
 subst e
 cases r3
 exact wpAny_truthy_bool ⟨H3,I3,q3⟩
theorem a3y:(sizeLine:Nat) < 2 ^ 63:=by rw [sizeLine_eq];decide
theorem a5p:OpR X (binaryOp .Add) (fun x y H Q=>∃i j,x=.str i∧y=.str j∧i.length+j.length≤sizeLine∧Q (.str (i++j)) H):=by
 intro pins s σ H x y v u Q I rx ry h
 obtain ⟨i,j,rfl,rfl,hz,q⟩:=h
 obtain ⟨t,rfl⟩:=rx
 obtain ⟨t',rfl⟩:=ry
 exact add_str (fun t' tk=>⟨.str (i++j),H,I.tok _,⟨_,rfl⟩,q⟩) hz
theorem a1N {x:V} {us:List Value} (r:a0r [x] us):∃u,us=[u]∧a0s x u:=by
 cases r with
 | cons r1 r2=>cases r2;exact ⟨_,rfl,r1⟩
theorem b1I {x y:V} {us:List Value} (r:a0r [x,y] us):∃u w',us=[u,w']∧a0s x u∧a0s y w':=by
 cases r with
 | cons r1 r2=>
  cases r2 with
  | cons r3 r4=>cases r4;exact ⟨_,_,rfl,r1,r3⟩
theorem a6V (hc:X.calm=true):a0N X (.builtin "max") (fun xs H Q=>∃i j,xs=[.int i,.int j]∧Q (.int (if j > i then j else i)) H):=by
 intro pins s σ H xs us Q I r h
 obtain ⟨i,j,rfl,q⟩:=h
 obtain ⟨u,w',rfl,⟨t,rfl⟩,⟨t',rfl⟩⟩:=b1I r
 refine max_two_ints (I.ok.hd hc) fun h' tk k=>⟨_,H,I.kept k,?_,q⟩
 by_cases hj:j > i
 ·rw [if_pos hj,if_pos hj];exact ⟨_,rfl⟩
 ·rw [if_neg hj,if_neg hj];exact ⟨_,rfl⟩
theorem a1m:a0N X (.type "str") (fun xs H Q=>∃i,xs=[.int i]∧i.natAbs.log2 < 1920∧Q (.str (toString i)) H):=by
 intro pins s σ H xs us Q I r h
 obtain ⟨i,rfl,hz,q⟩:=h
 obtain ⟨u,rfl,t,rfl⟩:=a1N r
 exact PySem.P.str_of_int hz ⟨.str _,H,I.tok _,⟨_,rfl⟩,q⟩
def b4q (K:Qa) (x:V) (H:Hp) (n:Nat):Prop:=
 match x with
 | .str y=>y.length≤sizeLine∧n=y.length
 | .byt y=>y.size≤sizeLine∧n=y.size
 | .ref p=>(∃xs,SqL K H p xs∧n=xs.length)∨∃xs,SqT K H p xs∧n=xs.length
 | _=>False
theorem a8o:a0N X (.builtin "len") (fun xs H Q=>∃x n,xs=[x]∧b4q X.K x H n∧Q (.int n) H):=by
 intro pins s σ H xs us Q I r h
 obtain ⟨x,n,rfl,e,q⟩:=h
 obtain ⟨u,rfl,rx⟩:=a1N r
 have hl:=a3y
 have hs:sizeLine=16777216:=sizeLine_eq
 cases x with
 | str y=>
  obtain ⟨t,rfl⟩:=rx
  obtain ⟨hy,e'⟩:y.length≤sizeLine∧n=y.length:=e
  subst e'
  exact len_str ‹om› ⟨.int _,H,I.tok _,⟨_,rfl⟩,q⟩
 | byt y=>
  obtain ⟨t,rfl⟩:=rx
  obtain ⟨hy,e'⟩:y.size≤sizeLine∧n=y.size:=e
  subst e'
  exact PySem.W.len_bytes ‹om› ⟨.int _,H,I.tok _,⟨_,rfl⟩,q⟩
 | ref p=>
  cases rx
  have e':(∃xs,SqL X.K H p xs∧n=xs.length)∨∃xs,SqT X.K H p xs∧n=xs.length:=e
  rcases e' with ⟨xs,hx,e'⟩ | ⟨xs,hx,e'⟩
  ·subst e'
   obtain ⟨its,r',pl,hz⟩:=I.list hx
   have hlen:=r'.length
   exact Calls.call_len_list pl.isList (by simp only [Qh];omega) ⟨.int xs.length,H,I.tok _,⟨_,by simp only [Qh];rw [hlen]⟩,q⟩
  ·subst e'
   obtain ⟨its,r',pl,hz⟩:=I.tuple hx
   have hlen:=r'.length
   exact len_tuple pl (by simp only [Qh];omega) ⟨.int xs.length,H,I.tok _,⟨_,by simp only [Qh];rw [hlen]⟩,q⟩
 | _=>exact (show False from e).elim
end
structure b0q (h:Heap) (x dx C:Addr) (mA:Str→Option Value):Prop where
 obj:h.get? x=some (Yt C dx)
 ns:h.Ns1 dx mA
 ne:dx≠x
theorem a6j {h:Heap} {dx:Addr} {mA:Str→Option Value} (n:h.Ns1 dx mA):∃od,h.get? dx=some od∧∀name,Jx name od=some (mA name):=by
 obtain ⟨o,es,ep,ho,hd,hk,_,hm⟩:=n
 refine ⟨o,ho,fun name=>?_⟩
 have e:=hm name
 unfold nsFind findBy at e
 rw [←Array.find?_toList] at e
 unfold Jx
 rw [hd]
 dsimp only
 split
 ·rename_i y q
  rw [q] at e
  exact congrArg some e
 ·rename_i q
  rw [q] at e
  have a:es.toList.any (·.refKey)=false:=by
   rw [List.any_eq_false]
   intro y hy
   obtain ⟨z,t,hkey⟩:=hk y (Array.mem_toList_iff.mp hy)
   simp [DictEntry.refKey,hkey]
  have a':¬es.toList.any (·.refKey)=true:=by rw [a];exact Qr
  rw [if_neg a']
  exact congrArg some e
theorem b0q.look {h:Heap} {x dx C:Addr} {mA:Str→Option Value} (I:b0q h x dx C mA):∃od,PySem.W.InstAt h x (Yt C dx) C (some od)∧∀name,Jx name od=some (mA name):=
 let ⟨od,ho,hl⟩:=a6j I.ns
 ⟨od,⟨I.obj,rfl,rfl,ho⟩,hl⟩
section
variable {prog:Program} {w:World} {A:Around} {E:Value→Shared→Prop} {s:Shared} {K:Qa} {x dx C f:Addr} {mA:Str→Option Value} {name:Str} {v:Value}
theorem a9B {expr:Bool} {Q:Value→Shared→Prop} (X:K.In s.heap) (I:b0q s.heap x dx C mA) (hg:Jl K C name=true) (hh:Uf K C=true)
  (ha:Yd K (.ref C) name=some none) (hv:mA name=some v) (hv':Wd v=true) (h:Q v {s with toks:=s.toks+1}):
  wpAny (model prog w) A (getAttr (.ref x) name expr) Q E s:=by
 obtain ⟨od,J,hl⟩:=I.look
 exact PySem.W.get_value X J (Ju hg).1 (PySem.W.findObj_own hh ha rfl (by rw [hl,hv])) hv' h
theorem a8E {pl:Sem Bool} {Q:Value×List Value→Shared→Prop} (X:K.In s.heap) (I:b0q s.heap x dx C mA) (hg:Jl K C name=true)
  (hf:Yd K (.ref C) name=some (some (.ref f))) (ht:Vt K (.ref f)=true) (hv:mA name=none) (h:Q (.ref f,[.ref x]) s):
  wpAny (model prog w) A (getMethod (.ref x) name pl) Q E s:=by
 obtain ⟨od,J,hl⟩:=I.look
 exact PySem.W.method_fn X J (Ju hg).1 (Ju hg).2 hf (beq_iff_eq.mp ht) (by show (Jx name od).map (·.isSome)=some false;rw [hl,hv];rfl) h
theorem a9S {ns:List Str} {Q:Unit→Shared→Prop} (X:K.In s.heap) (I:b0q s.heap x dx C mA)
  (hs:Yd K (.ref C) "__setattr__"=some (some (.builtin "object.__setattr__"))) (hp:Vw K C=true) (ht:Uv K C name=some none) (hh:Uf K C=true)
  (hw:PySem.Within mA ns) (hsz:ns.length≤sizeLine)
  (h:∀h',b0q h' x dx C (fun y=>if y=name then some v else mA y)→Xs dx s.heap h'→Q () {s with heap:=h',toks:=s.toks+2}):
  wpAny (model prog w) A (setAttr (.ref x) name v) Q E s:=by
 obtain ⟨od,J,hl⟩:=I.look
 refine PySem.W.set_plain X J hs (PySem.W.osa_open (s:={s with toks:=s.toks+1}) (r:=none) X J hp ht fun b=>?_)
 obtain ⟨cd,hc,hd'⟩:=PySem.W.any_some hh
 have hx:s.heap.get? x=some ⟨.ref C,some dx,.plain,#[]⟩:=I.obj
 refine wpAny_bind (wpAny_pure (wpAny_bind (wpAny_bind (wpAny_loadPart hx (wpAny_bind (PySem.W.Looks.here (s:={s with toks:=s.toks+1}) (PySem.W.looks_clsIn X hc) ?_))))))
 rw [hd']
 refine wpAny_pure (a:=some dx) (wpAny_bind (wpAny_pure (wpAny_bind ?_)))
 refine wpAny_nsSet1 (s:={s with toks:=s.toks+1}) I.ns fun h' hn2 hs2=>?_
 obtain ⟨oD,esD,epD,hoD,hdD,hcD⟩:=hn2.count (PySem.Within.cons name v hw)
 refine wpAny_bind (wpAny_lookBehind hoD (by rw [hdD];exact pastItsLine_dict (Qs hcD (by rw [Qm];omega))) ?_)
 exact wpAny_pure (h _ ⟨(hs2.2 _ (Ne.symm I.ne)).trans I.obj,hn2,I.ne⟩ hs2)
theorem a8y {R:Result→Shared→Prop} {vs:List Value} {kw:List (Str×Value)} (X:K.In s.heap) (hm:Wf K C=true)
  (hi:Yd K (.ref C) "__init__"=some (some (.ref f))) (hf:Vd K (.ref f)=some (.type "function"))
  (h:codeAny (model prog w) (A.under (.builtin "type.__call__" ⟨.ref C::vs,kw⟩)) (.call (.ref f) ⟨.ref (s.heap.objs.size+1)::vs,kw⟩) (PySem.W.InitBack (s.heap.objs.size+1) R)
   {s with heap:=(s.heap.push Yj).push (Yt C s.heap.objs.size)}):
  codeAny (model prog w) A (.call (.ref C) ⟨vs,kw⟩) R s:=by
 obtain ⟨hh,g,d,t,os⟩:=s
 exact PySem.W.make_core (PySem.W.makes_of X hm) (PySem.W.looks_findIn X hi) (fun self=>PySem.W.bind_fn X self hf) (.inl rfl) h
end
def a0O (f:Str) (v:V):List (Str×V)→List (Str×V)
 | []=>[(f,v)]
 | (g,x)::r=>if g=f then (g,v)::r else (g,x)::a0O f v r
theorem a0h (f g:Str) (v:V):∀fs:List (Str×V),(a0O f v fs).lookup g=if g=f then some v else fs.lookup g
 | []=>by
  show Za g [(f,v)]=_
  by_cases h:g=f
  ·have hb:(g == f)=true:=beq_iff_eq.mpr h
   simp only [Za,hb,if_pos h]
  ·have hb:(g == f)=false:=beq_eq_false_iff_ne.mpr h
   simp only [Za,hb,if_neg h]
 | (k,x)::r=>by
  have ih:=a0h f g v r
  rw [show a0O f v ((k,x)::r)=(if k=f then (k,v)::r else (k,x)::a0O f v r) from rfl]
  by_cases hk:k=f
  ·rw [if_pos hk]
   by_cases h:g=k
   ·have hb:(g == k)=true:=beq_iff_eq.mpr h
    simp only [Za,hb,if_pos (h.trans hk)]
   ·have hb:(g == k)=false:=beq_eq_false_iff_ne.mpr h
    simp only [Za,hb,if_neg (fun e:g=f=>h (e.trans hk.symm))]
  ·rw [if_neg hk]
   by_cases h:g=k
   ·have hb:(g == k)=true:=beq_iff_eq.mpr h
    simp only [Za,hb,if_neg (fun e:g=f=>hk (h.symm.trans e))]
   ·have hb:(g == k)=false:=beq_eq_false_iff_ne.mpr h
    simp only [Za,hb]
    exact ih
theorem a1Z (f:Str) (v:V):∀fs:List (Str×V),f∈(a0O f v fs).map (·.1)∧∀g,g∈fs.map (·.1)→g∈(a0O f v fs).map (·.1)
 | []=>⟨by simp [a0O],fun g h=>by simp at h⟩
 | (k,x)::r=>by
  obtain ⟨i1,i2⟩:=a1Z f v r
  rw [show a0O f v ((k,x)::r)=(if k=f then (k,v)::r else (k,x)::a0O f v r) from rfl]
  by_cases hk:k=f
  ·rw [if_pos hk]
   subst hk
   exact ⟨by simp,fun g h=>by simpa using h⟩
  ·rw [if_neg hk]
   refine ⟨?_,fun g h=>?_⟩
   ·rw [Xp]
    exact Qk _ i1
   ·rw [Xp] at h ⊢
    rcases Qt.mp h with e | e
    ·exact Qt.mpr (.inl e)
    ·exact Qk _ (i2 g e)
theorem a2j (f:Str) (v:V):∀fs:List (Str×V),(a0O f v fs).length≤fs.length+1
 | []=>by simp [a0O]
 | (k,x)::r=>by
  have ih:=a2j f v r
  rw [show a0O f v ((k,x)::r)=(if k=f then (k,v)::r else (k,x)::a0O f v r) from rfl]
  by_cases hk:k=f
  ·rw [if_pos hk,Qm,Qm];omega
  ·rw [if_neg hk,Qm,Qm];omega
theorem a3b.some_of {v:V} {o:Option Value} (r:a3b (some v) o):∃u,o=some u∧a0s v u:=by
 cases o with
 | none=>exact (show False from r).elim
 | some u=>exact ⟨u,rfl,r⟩
theorem a3b.none_of {o:Option Value} (r:a3b none o):o=none:=by
 cases o with
 | none=>rfl
 | some u=>exact (show False from r).elim
theorem a6O {v:V} {u:Value} (r:a0s v u):Wd u=true:=by
 cases v with
 | non=>cases (show u=Value.none from r);rfl
 | bl b=>cases (show u=Value.bool b from r);rfl
 | int i=>obtain ⟨t,e⟩:=(show ∃t,u=Value.int i t from r);cases e;rfl
 | str x=>obtain ⟨t,e⟩:=(show ∃t,u=Value.str x t from r);cases e;rfl
 | byt b=>obtain ⟨t,e⟩:=(show ∃t,u=Value.bytes b t from r);cases e;rfl
 | flt b=>obtain ⟨t,e⟩:=(show ∃t,u=Value.float b t from r);cases e;rfl
 | ref a=>cases (show u=Value.ref a from r);rfl
 | ty n=>cases (show u=Value.type n from r);rfl
section
variable {P:Program} {w:World} {H H':Hp} {h h':Heap} {a C dx:Addr} {fs fs':List (Str×V)}
theorem a2Q (hok:HOk P w H h) (e:H a=some (.ins C dx fs)):∃mA,b0q h a dx C mA∧(∀f,a3b (fs.lookup f) (mA f))∧PySem.Within mA (fs.map (·.1))∧fs.length≤1000∧H dx=some (.own a):=by
 obtain ⟨d,z,ne,ob,mA,n,r,q⟩:=(show a0A P w H h a (.ins C dx fs) from hok a _ e)
 exact ⟨mA,⟨ob,n,ne⟩,r,q,z,d⟩
end
structure Cls (K:Qa) (C:Addr):Prop where
 pg:Jl K C Vu=true
 hd:Uf K C=true
 po:Vw K C=true
 sa:Yd K (.ref C) "__setattr__"=some (some (.builtin "object.__setattr__"))
theorem Cls.get {K:Qa} {C:Addr} (c:Cls K C) (f:Str):Jl K C f=true:=c.pg
def a0o (K:Qa) (C:Addr) (f:Str):Prop:=Yd K (.ref C) f=some none
theorem a0o.taker {K:Qa} {C:Addr} {f:Str} (n:a0o K C f):Uv K C f=some none:=by
 unfold Uv
 rw [show Yd K (.ref C) f=some none from n]
 rfl
structure b3E (K:Qa) (C:Addr) (m:Str) (f:Addr):Prop where
 at_:Yd K (.ref C) m=some (some (.ref f))
 fn:Vt K (.ref f)=true
 kp:Zb K (.ref f)=true
section
variable {X:Cx} {pins:List (Addr×Obj)} {σ:St} {H:Hp} {s:Shared} {a C dx:Addr} {fs:List (Str×V)} {f:Str} {v:V} {A:Around} {E:Value→Shared→Prop}
theorem a5F {b:Bool} {Q:Value→Shared→Prop} (I:Inv X pins σ H s) (e:H a=some (.ins C dx fs)) (c:Cls X.K C) (n:a0o X.K C f) (l:fs.lookup f=some v)
  (h:∀u s',Inv X pins σ H s'→a0s v u→Q u s'):wpAny (model X.prog X.w) A (getAttr (.ref a) f b) Q E s:=by
 obtain ⟨mA,O,r,_,_,_⟩:=a2Q I.hok e
 obtain ⟨u,hu,ru⟩:=a3b.some_of (v:=v) (o:=mA f) (by rw [←l];exact r f)
 exact a9B I.kIn O (c.get f) c.hd n hu (a6O ru) (h u _ (I.tok _) ru)
theorem a5c {m:Str} {g:Addr} {pl:Sem Bool} {Q:Value×List Value→Shared→Prop} (I:Inv X pins σ H s) (e:H a=some (.ins C dx fs)) (c:Cls X.K C) (k:b3E X.K C m g) (l:fs.lookup m=none)
  (h:Q (.ref g,[.ref a]) s):wpAny (model X.prog X.w) A (getMethod (.ref a) m pl) Q E s:=by
 obtain ⟨mA,O,r,_,_,_⟩:=a2Q I.hok e
 have hn:mA m=none:=a3b.none_of (by rw [←l];exact r m)
 exact a8E I.kIn O (c.get m) k.at_ k.fn hn h
theorem a5m {y:V} {u:Value} {Q:Unit→Shared→Prop} (I:Inv X pins σ H s) (e:H a=some (.ins C dx fs)) (c:Cls X.K C) (n:a0o X.K C f) (hl:fs.length < 1000) (ry:a0s y u)
  (h:∀s',Inv X pins σ (upd H a (.ins C dx (a0O f y fs))) s'→Q () s'):wpAny (model X.prog X.w) A (setAttr (.ref a) f u) Q E s:=by
 obtain ⟨mA,O,r,wi,_,ho⟩:=a2Q I.hok e
 have hz:(fs.map (·.1)).length≤sizeLine:=by rw [Qc,sizeLine_eq];omega
 refine a9S I.kIn O c.sa c.po n.taker c.hd wi hz fun h' O' sb=>h _ ?_
 have hd:∃o,h'.get? dx=some o:=let ⟨o,_,_,e',_⟩:=O'.ns;⟨o,e'⟩
 refine I.write (x:=a) (e:=dx) (by rw [e];exact True.intro) (.inr ho) (fun b q hb z=>(sb.2 b hb).trans z) hd ?_
 refine ⟨by rw [a0a O.ne];exact ho,?_,O.ne,O'.obj,_,O'.ns,fun g=>?_,fun g hg=>?_⟩
 ·have:=a2j f y fs;omega
 ·show a3b ((a0O f y fs).lookup g) (if g=f then some u else mA g)
  rw [a0h]
  by_cases q:g=f
  ·rw [if_pos q,if_pos q];exact ry
  ·rw [if_neg q,if_neg q];exact r g
 ·by_cases q:g=f
  ·rw [q];exact (a1Z f y fs).1
  ·refine (a1Z f y fs).2 g (wi g fun z=>hg ?_)
   show (if g=f then some u else mA g)=none
   rw [if_neg q];exact z
theorem Inv.made (I:Inv X pins σ H s):Inv X pins σ (upd (upd H s.heap.objs.size (.own (s.heap.objs.size+1))) (s.heap.objs.size+1) (.ins C s.heap.objs.size []))
  {s with heap:=(s.heap.push Yj).push (Yt C s.heap.objs.size)}:=by
 have e1:(s.heap.push Yj).get? s.heap.objs.size=some Yj:=Qp s.heap rfl
 have e2:((s.heap.push Yj).push (Yt C s.heap.objs.size)).get? (s.heap.objs.size+1)=some (Yt C s.heap.objs.size):=by
  have:=Qp (s.heap.push Yj) (o:=Yt C s.heap.objs.size) rfl
  rwa [Zc] at this
 have e3:(s.heap.push Yj).Ns s.heap.objs.size (fun _=>none):=⟨Yj,#[],_,e1,rfl,(fun e he=>absurd he (by simp)),fun _=>rfl⟩
 have I1:=I.laid (a:=s.heap.objs.size) (o:=.own (s.heap.objs.size+1)) (h':=s.heap.push Yj) (t':=s.toks) (fun b u q=>Qe _ q) (Qg _) ⟨_,e1⟩
 refine I1.laid (a:=s.heap.objs.size+1) (o:=.ins C s.heap.objs.size []) (t':=s.toks) (fun b u q=>Qe _ q) (Ui (Zc _ _)) ?_
 have ne:s.heap.objs.size≠s.heap.objs.size+1:=Qw (Yb _)
 refine ⟨by rw [a0a ne,a0d],Xl _,ne,e2,fun _=>none,(Heap.Ns1.of_empty e3).at fun o q=>Qe _ q,fun _=>True.intro,fun y hy=>absurd rfl hy⟩
theorem b0p {prog:Program} {w:World} {env:Env} {e:Expr} {f:Str} {pos:Pos} {s:Shared} {Q:Value→Shared→Prop} (hb:attributeBase e f env (eval e env)=eval e env)
  (h:wpAny (model prog w) A (eval e env) (fun o s₁=>wpAny (model prog w) A (getAttr o f true) Q E s₁) E s):wpAny (model prog w) A (eval (.Attribute e f pos) env) Q E s:=
 Attribute_any_ h (by rw [arm_eval_Attribute,hb])
end
def a7Q (K:Qa) (ta:TE) (f:Str):TE:=fun σ H Q=>ta σ H fun x H1=>∃a C dx fs v,x=.ref a∧H1 a=some (.ins C dx fs)∧Cls K C∧a0o K C f∧fs.lookup f=some v∧Q v H1
def b3r (K:Qa) (ta tv:TE) (f:Str):TS:=fun D σ H=>tv σ H fun y H1=>ta σ H1 fun x H2=>∃a C dx fs,x=.ref a∧H2 a=some (.ins C dx fs)∧Cls K C∧a0o K C f∧fs.length < 1000∧
 D.nx σ (upd H2 a (.ins C dx (a0O f y fs)))
section
variable {X:Cx} {o e value:Expr} {f:Str} {pos pos' tpos:Pos} {ta tv:TE}
theorem b1L (he:PE X e ta) (hb:attributeBase e f X.env (eval e X.env)=eval e X.env):PE X (.Attribute e f pos) (a7Q X.K ta f):=by
 intro pins s σ H Q I h
 refine b0p hb (thn (he pins s σ H _ I h) fun u s1 ⟨x,H1,I1,rx,a,C,dx,fs,v,ex,ea,c,n,l,q⟩=>?_)
 subst ex
 obtain rfl:u=Value.ref a:=rx
 exact a5F I1 ea c n l fun u' s2 I2 ru=>⟨v,H1,I2,ru,q⟩
theorem b1M (ha:PE X o ta) (hv:PE X value tv) (hs:swapsWith value (some (.Attribute o f pos')) pos.line X.env=pure false):PS X (.Assign [.Attribute o f pos'] value pos) (b3r X.K ta tv f):=by
 intro pins s σ H D I h
 refine plainObj_wpAny_Assign_Attribute (thn (hv pins s σ H _ I h) fun u s1 ⟨y,H1,I1,ry,q⟩=>thn (ha pins s1 σ H1 _ I1 q) fun ov s2 ⟨x,H2,I2,rx,a,C,dx,fs,ex,ea,c,n,l,q2⟩=>?_) hs
 subst ex
 obtain rfl:ov=Value.ref a:=rx
 exact a5m I2 ea c n l ry fun s3 I3=>⟨σ,_,I3,q2⟩
end
section
variable {X:Cx} {pins:List (Addr×Obj)} {σ:St} {H:Hp} {s:Shared} {A:Around} {E:Value→Shared→Prop} {Q:Value→Shared→Prop} {c:Value} {b:Bool}
inductive a5j (K:Qa) (H:Hp):V→Value→Prop where
 | non:a5j K H .non (.type "NoneType")
 | bl (x:Bool):a5j K H (.bl x) (.type "bool")
 | int (i:Int):a5j K H (.int i) (.type "int")
 | str (x:Str):a5j K H (.str x) (.type "str")
 | flt (x:UInt64):a5j K H (.flt x) (.type "float")
 | lst {a:Addr} {xs:List V} (e:H a=some (.lst xs)):a5j K H (.ref a) (.type "list")
 | frz {a:Addr} {o:Obj} {xs:List V} (e:H a=some (.frz o (.lst xs))):a5j K H (.ref a) (.type "list")
 | tup {a:Addr} {xs:List V} (e:H a=some (.tup xs)):a5j K H (.ref a) (.type "tuple")
 | dK {a:Addr} {kvs:List (Key×V)} (e:H a=some (.dK kvs)):a5j K H (.ref a) (.type "dict")
 | dT {a:Addr} {kvs:List (List Key×V)} (e:H a=some (.dT kvs)):a5j K H (.ref a) (.type "dict")
 | ins {a C dx:Addr} {fs:List (Str×V)} (e:H a=some (.ins C dx fs)) (cl:Cls K C) (ha:Yd K (.ref C) "__class__"=some (some (.builtin "object.__class__")))
   (hn:Ug K (.builtin "object.__class__") "__get__"=some (some (.builtin "getset_descriptor.__get__"))) (htk:Wg K (.builtin "object.__class__")=some true)
   (hm:PySem.W.mroIn K C (.type "object")=some true):a5j K H (.ref a) (.ref C)
theorem a5X {x:V} {u t:Value} (I:Inv X pins σ H s) (rx:a0s x u) (ty:a5j X.K H x t) (e:Xv X.K t c=some b) (h:∀tk,Q (.bool b) {s with toks:=tk}):
  wpAny (model X.prog X.w) A (call (.builtin "isinstance") [u,c]) Q E s:=by
 cases ty with
 | non=>cases (show u=Value.none from rx);exact Yg PySem.W.kitx_none I.kIn True.intro e (fun z=>nomatch z) h
 | bl y=>cases (show u=Value.bool y from rx);exact Yg PySem.W.kitx_bool I.kIn True.intro e (fun z=>nomatch z) h
 | int i=>obtain ⟨t,q⟩:=(show ∃t,u=Value.int i t from rx);cases q;exact Yg PySem.W.kitx_int I.kIn True.intro e (fun z=>nomatch z) h
 | str y=>obtain ⟨t,q⟩:=(show ∃t,u=Value.str y t from rx);cases q;exact Yg PySem.W.kitx_str I.kIn True.intro e (fun z=>nomatch z) h
 | flt y=>obtain ⟨t,q⟩:=(show ∃t,u=Value.float y t from rx);cases q;exact Yg PySem.W.kitx_float I.kIn True.intro e (fun z=>nomatch z) h
 | @lst a xs ea=>
  cases (show u=Value.ref a from rx)
  obtain ⟨_,_,n,_,h1⟩:=(show a0A X.prog X.w H s.heap a (.lst xs) from I.hok a _ ea)
  exact Yg Vx I.kIn ⟨_,h1,rfl⟩ e (fun z=>nomatch z) h
 | @frz a ob xs ea=>
  cases (show u=Value.ref a from rx)
  obtain ⟨_,_,_,n,_,h1⟩:=(show a0A X.prog X.w H s.heap a (.frz ob (.lst xs)) from I.hok a _ ea)
  exact Yg Vx I.kIn ⟨_,h1,rfl⟩ e (fun z=>nomatch z) h
 | @tup a xs ea=>
  cases (show u=Value.ref a from rx)
  obtain ⟨_,_,_,p⟩:=(show a0A X.prog X.w H s.heap a (.tup xs) from I.hok a _ ea)
  obtain ⟨o,h1,h2,_⟩:=p
  exact Yg PySem.W.kitx_tuple I.kIn ⟨o,h1,h2⟩ e (fun z=>nomatch z) h
 | @dK a kvs ea=>
  cases (show u=Value.ref a from rx)
  obtain ⟨_,_,vs,_,p⟩:=(show a0A X.prog X.w H s.heap a (.dK kvs) from I.hok a _ ea)
  obtain ⟨o,es,ep,h1,h2,_⟩:=p
  exact Yg Vy I.kIn ⟨o,h1,h2.1⟩ e (fun z=>nomatch z) h
 | @dT a kvs ea=>
  cases (show u=Value.ref a from rx)
  obtain ⟨_,_,xs,_,o,es,ep,h1,h2,_⟩:=(show a0A X.prog X.w H s.heap a (.dT kvs) from I.hok a _ ea)
  exact Yg Vy I.kIn ⟨o,h1,h2.1⟩ e (fun z=>nomatch z) h
 | @ins a C dx fs ea cl ha hn htk hm=>
  cases (show u=Value.ref a from rx)
  obtain ⟨mA,O,_⟩:=a2Q I.hok ea
  obtain ⟨od,J,_⟩:=O.look
  exact Yg (PySem.W.kitx_own (cl.get _) cl.hd ha hn htk hm) I.kIn J e (fun z=>nomatch z) h
end
structure a1M (k:Nat) (A:Around):Prop where
 hd:A.handled=none
 dp:A.depth+3 * k+5 < recursionLimit
 un:A.units+16 * k+200 < cLine
theorem a1M.mono {j k:Nat} {A:Around} (r:a1M k A) (h:j≤k):a1M j A:=⟨r.hd,by have:=r.dp;omega,by have:=r.un;omega⟩
theorem a1M.deeper {k:Nat} {A:Around} (r:a1M (k+1) A) (env:Env):a1M k (A.deeper env):=
 ⟨r.hd,by have:=r.dp;show A.depth+1+3 * k+5 < _;omega,by have:=r.un;show A.units+3+16 * k+200 < _;omega⟩
theorem a5M {A:Around} {C:Addr} {us:List Value} {kw:List (Str×Value)}:(A.under (.builtin "type.__call__" ⟨.ref C::us,kw⟩)).depth=A.depth+1:=by
 first | rfl | simp [Around.under,Code.weight,Code.isCreation,Code.isGuard,Code.isCaller,Code.frames,Code.isFrame,guardIds]
theorem a5n {A:Around} {C:Addr} {us:List Value} {kw:List (Str×Value)}:(A.under (.builtin "type.__call__" ⟨.ref C::us,kw⟩)).units=A.units+1:=by
 first | rfl | simp [Around.under,Code.cUnits,Code.frames,Code.isFrame]
theorem a1M.make {k:Nat} {A:Around} (r:a1M (k+1) A) (C:Addr) (us:List Value) (kw:List (Str×Value)):a1M k (A.under (.builtin "type.__call__" ⟨.ref C::us,kw⟩)):=
 ⟨r.hd,by have:=r.dp;rw [a5M];omega,by have:=r.un;rw [a5n];omega⟩
theorem a1M.depth {k:Nat} {A:Around} (r:a1M k A):A.depth < recursionLimit:=by have:=r.dp;omega
theorem a1M.units {k:Nat} {A:Around} (r:a1M k A):A.units+64 < cLine:=by have:=r.un;omega
def a0P:TA:=fun _ H Q=>Q [] H
def a0n (ta:TE) (tr:TA):TA:=fun σ H Q=>ta σ H fun x H1=>tr σ H1 fun xs H2=>Q (x::xs) H2
section
variable {X:Cx} {e:Expr} {es:List Expr} {te:TE} {t:TA} {pos:Pos}
theorem b1t:PA X [] a0P:=fun _ _ _ _ H Q I h=>Calls.spliced_nil ⟨[],H,I,.nil,h⟩
theorem a9P (ha:PE X e te) (hr:PA X es t) (hs:starEach (e::es) X.env=(false,eval e X.env)::starEach es X.env:=by rfl):PA X (e::es) (a0n te t):=by
 intro pos pins s σ H Q I h
 rw [hs]
 show wpAny _ _ (spliced ((false,eval e X.env)::backTo pos (starEach es X.env))) _ _ s
 refine Calls.spliced_cons (thn (ha pins s σ H _ I h) fun u s1 ⟨x,H1,I1,r1,q1⟩=>?_)
 exact thn (hr pos pins s1 σ H1 _ I1 q1) fun us s2 ⟨xs,H2,I2,r2,q2⟩=>⟨x::xs,H2,I2,.cons r1 r2,q2⟩
def b3s (t:TA):TE:=fun σ H Q=>t σ H fun xs H1=>xs.length≤sizeLine∧∀p,H1 p=none→Q (.ref p) (upd H1 p (.tup xs))
def a3T (t:TA):TE:=fun σ H Q=>t σ H fun xs H1=>xs.length≤sizeLine∧∀p,H1 p=none→Q (.ref p) (upd H1 p (.lst xs))
theorem b1z {x1} (h:PA X es t):PE X (.Tuple es x1 pos) (b3s t):=by
 intro pins s σ H Q I hq
 refine wpAny_Tuple_spliced (thn (h pos pins s σ H _ I hq) fun us s1 ⟨xs,H1,I1,r,z,q⟩=>⟨by rw [←r.length];exact z,?_⟩)
 have hf:H1 s1.heap.objs.size=none:=I1.hok.fresh (Qg _)
 refine ⟨.ref s1.heap.objs.size,upd H1 s1.heap.objs.size (.tup xs),I1.laid (t':=s1.toks) (fun b u e=>Qe _ e) (Qg _) ?_,rfl,q _ hf⟩
 exact ⟨z,us,r,⟨_,Qp _ rfl,rfl,_,rfl⟩⟩
theorem b1a (h:PA X es t):PE X (.List es pos) (a3T t):=by
 intro pins s σ H Q I hq
 refine wpAny_List_spliced (thn (h pos pins s σ H _ I hq) fun us s1 ⟨xs,H1,I1,r,z,q⟩=>⟨by rw [←r.length];exact z,?_⟩)
 have hf:H1 s1.heap.objs.size=none:=I1.hok.fresh (Qg _)
 refine ⟨.ref s1.heap.objs.size,upd H1 s1.heap.objs.size (.lst xs),I1.laid (t':=s1.toks) (fun b u e=>Qe _ e) (Qg _) ?_,rfl,q _ hf⟩
 exact ⟨z,us,0,r,Qp _ rfl⟩
end
abbrev Sp:=List V→Hp→VK→XK→Prop
abbrev CXT:=List Env→Hp→Shared→XK→Value→Shared→Prop
structure b0v (P:Program) (w:World) (K:Qa) (mg:Str→Option Value) (base:Heap) (A:Around) (outer:List Env) (s:Shared) (H:Hp):Prop where
 frames:A.frames=some outer
 mod:Mod K mg base
 bs:∀b o,base.get? b=some o→s.heap.get? b=some o∧H b=none
 bsz:base.objs.size≤s.heap.objs.size
 funs:s.heap.FunFrames base outer
 frf:∀b∈frs outer,H b=none
 hok:HOk P w H s.heap
 bare:AllBare s.gens
def CE (outer:List Env) (P:Program) (w:World) (H:Hp) (s:Shared) (Q:VK) (u:Value) (s':Shared):Prop:=
 ∃v H',s'.os=s.os∧AllBare s'.gens∧Un (frs outer) [] H H' s.heap s'.heap∧HOk P w H' s'.heap∧a0s v u∧Q v H'
def CR (CX:CXT) (outer:List Env) (P:Program) (w:World) (H:Hp) (s:Shared) (Q:VK) (E:XK) (r:Result) (s':Shared):Prop:=
 match r with
 | .ok (.ret u)=>CE outer P w H s Q u s'
 | .ok _=>False
 | .error e=>CX outer H s E e s'
structure a1r (P:Program) (w:World) (K:Qa) (mg:Str→Option Value) (base:Heap) (CX:CXT) (k:Nat) (f:Addr) (fd:FuncData) (ps:List Str) (sp:Sp):Prop where
 len:∀vs H Q E,sp vs H Q E→vs.length=ps.length
 run:∀(A:Around) (outer:List Env) (s:Shared) (H:Hp) (args:Args) (us:List Value) (vs:List V) (Q:VK) (E:XK),a1M k A→b0v P w K mg base A outer s H→BindsTo s fd args (ps.zip us)→a0r vs us→sp vs H Q E→
  codeAny (model P w) A (.call (.ref f) args) (CR CX outer P w H s Q E) s
theorem b0v.make {P:Program} {w:World} {K:Qa} {mg:Str→Option Value} {base:Heap} {A:Around} {outer:List Env} {s:Shared} {H:Hp} (e:b0v P w K mg base A outer s H) (C:Addr) (us:List Value) (kw:List (Str×Value)):
  b0v P w K mg base (A.under (.builtin "type.__call__" ⟨.ref C::us,kw⟩)) outer s H:=⟨by first | exact e.frames | (simpa [Around.under,Code.envs,Code.isFrame,pushEnvs] using e.frames),e.mod,e.bs,e.bsz,e.funs,e.frf,e.hok,e.bare⟩
section
variable {X:Cx} {pins:List (Addr×Obj)} {σ:St} {H:Hp} {s s':Shared}
theorem Inv.env0 (I:Inv X pins σ H s):b0v X.prog X.w X.K X.mg X.base X.A X.stack s H:=
 ⟨I.ok.frames,I.ok.mod,I.bs,Qs I.ok.bsz I.sz,I.stack,I.stkFree,I.hok,I.bare⟩
theorem Inv.after {Q:VK} {u:Value} (I:Inv X pins σ H s) (h:CE X.stack X.prog X.w H s Q u s'):EP X pins σ Q u s':=by
 obtain ⟨v,H',os,bare,un,hok,r,q⟩:=h
 obtain ⟨hh,g,d,t,os'⟩:=s'
 obtain rfl:os'=s.os:=os
 exact ⟨v,H',I.call (h':=hh) (g':=g) (d':=d) (t':=t) (ch:=[]) un hok bare (fun b z=>absurd z (by simp)),r,q⟩
end
def a0M (sp:Sp) (dvs:List V) (E:XK) (t:TA):TE:=fun σ H Q=>t σ H fun vs H1=>sp (vs++dvs) H1 Q E
def b0n (C:Addr) (m:Str) (sp:Sp) (dvs:List V) (E:XK) (ta:TE) (t:TA):TE:=fun σ H Q=>ta σ H fun x H1=>∃a dx fs,x=.ref a∧H1 a=some (.ins C dx fs)∧fs.lookup m=none∧
 t σ H1 fun vs H2=>sp (x::(vs++dvs)) H2 Q E
def a8e (C:Addr) (sp:Sp) (dvs:List V) (E:XK) (t:TA):TE:=fun σ H Q=>t σ H fun vs H1=>∀x dx,H1 x=none→H1 dx=none→dx≠x→
 sp (.ref x::(vs++dvs)) (upd (upd H1 dx (.own x)) x (.ins C dx [])) (fun v H2=>v=.non∧Q (.ref x) H2) E
def a0z (K:Qa) (fd:FuncData) (ps:List Str) (ds:List Value):Prop:=
 ∀(s:Shared) (us:List Value),K.In s.heap→(us++ds).length=ps.length→BindsTo s fd ⟨us,[]⟩ (ps.zip (us++ds))
theorem a0z.all {K:Qa} {fd:FuncData} {ps:List Str} (h:∀us:List Value,us.length=ps.length→bindArgs fd ⟨us,[]⟩=pure (ps.zip us)):a0z K fd ps []:=fun s us _ hl=>by
 rw [Qi] at hl ⊢
 exact .of_eq (h us hl)
def a2c (CX:CXT) (X:Cx) (E:XK):Prop:=∀(pins:List (Addr×Obj)) (σ:St) (H:Hp) (s:Shared) (e:Value) (s':Shared),Inv X pins σ H s→CX X.stack H s E e s'→X.xe e s'
section
variable {X:Cx} {CX:CXT} {k:Nat} {f C:Addr} {fd:FuncData} {ps:List Str} {sp:Sp} {dvs:List V} {ds:List Value} {E:XK} {x m:Str} {p pos apos:Pos} {e o:Expr} {es:List Expr} {ta:TE} {t:TA}
theorem a7b {pins:List (Addr×Obj)} {σ:St} {H:Hp} {s:Shared} {Q:VK} {us:List Value} {vs:List V} (F:a1r X.prog X.w X.K X.mg X.base CX k f fd ps sp) (hr:a1M k X.A) (hb:a0z X.K fd ps ds) (hd:a0r dvs ds) (hx:a2c CX X E)
  (I:Inv X pins σ H s) (r:a0r vs us) (h:sp (vs++dvs) H Q E):wpAny (model X.prog X.w) X.A (call (.ref f) us) (EP X pins σ Q) X.xe s:=by
 have r2:a0r (vs++dvs) (us++ds):=r.append hd
 have hl:(us++ds).length=ps.length:=by rw [←r2.length];exact F.len _ _ _ _ h
 refine wpAny_call (codeAny_mono (F.run X.A X.stack s H ⟨us,[]⟩ (us++ds) (vs++dvs) Q E hr I.env0 (hb s us I.kIn hl) r2 h) fun r s' hq=>?_)
 cases r with
 | error e=>exact hx pins σ H s e s' I hq
 | ok fl=>
  cases fl with
  | ret u=>exact I.after hq
  | next=>exact False.elim hq
  | brk=>exact False.elim hq
  | cont=>exact False.elim hq
theorem a9U (F:a1r X.prog X.w X.K X.mg X.base CX k f fd ps sp) (hr:a1M k X.A) (hg:Gl X x) (hm:X.mg x=some (.ref f)) (hk:Zb X.K (.ref f)=true) (hb:a0z X.K fd ps ds) (hd:a0r dvs ds) (hx:a2c CX X E)
  (ha:PA X (e::es) t) (hdb:(x == ("__debug__":Str))=false:=by decide) (he:starEach (e::es) X.env=(false,eval e X.env)::starEach es X.env:=by rfl) (hpl:(backTo pos (starEach es X.env)).any (·.1)=false:=by rfl):
  PE X (.Call (.Name x p) (e::es) [] pos) (a0M sp dvs E t):=by
 intro pins s σ H Q I h
 refine wpAny_Call_Name_kw (a4k I hg hm ?_ hdb)
 refine Ua (h₀:=X.base) I.ok.mod.kin hk (thn (ha pos pins s σ H _ I h) fun us s1 ⟨vs,H1,I1,r,q⟩=>⟨I1.kIn,?_⟩) he hpl
 exact a7b F hr hb hd hx I1 r q
theorem a8n {pl:Sem Bool} (he:PE X o ta) (c:Cls X.K C) (hm:b3E X.K C m f) (F:a1r X.prog X.w X.K X.mg X.base CX k f fd ps sp) (hr:a1M k X.A) (hb:a0z X.K fd ps ds) (hd:a0r dvs ds) (hx:a2c CX X E)
  (ht:eval (.Call (.Attribute o m apos) [] [] pos) X.env=(do
   let ov ←eval o X.env
   standAt apos.atName
   let (f,first) ←holding [ov] (getMethod ov m pl)
   callWith pos f first (backTo pos (starEach [] X.env)) (backToKw pos (keywordEach [] X.env))):=by rfl):
  PE X (.Call (.Attribute o m apos) [] [] pos) (b0n C m sp dvs E ta a0P):=by
 intro pins s σ H Q I h
 refine Ve (pl:=pl) (thn (he pins s σ H _ I h) fun u s1 ⟨x,H1,I1,rx,a,dx,fs,ex,ea,l,q⟩=>?_) ht
 subst ex
 obtain rfl:u=Value.ref a:=rx
 refine a5c I1 ea c hm l ?_
 exact PySem.W.callWith_K0 (first:=[.ref a]) I1.kIn hm.kp (a7b (us:=[.ref a]) (vs:=[.ref a]) F hr hb hd hx I1 (.cons rfl .nil) q)
structure Mk (K:Qa) (C f:Addr):Prop where
 makes:Wf K C=true
 init:Yd K (.ref C) "__init__"=some (some (.ref f))
 fn:Vt K (.ref f)=true
 kp:Zb K (.ref C)=true
theorem a8a {pins:List (Addr×Obj)} {σ:St} {H:Hp} {s:Shared} {Q:VK} {us:List Value} {vs:List V} (M:Mk X.K C f) (F:a1r X.prog X.w X.K X.mg X.base CX k f fd ps sp) (hr:a1M (k+1) X.A) (hb:a0z X.K fd ps ds) (hd:a0r dvs ds)
  (hx:a2c CX X E) (I:Inv X pins σ H s) (r:a0r vs us)
  (h:∀x dx,H x=none→H dx=none→dx≠x→sp (.ref x::(vs++dvs)) (upd (upd H dx (.own x)) x (.ins C dx [])) (fun v H2=>v=.non∧Q (.ref x) H2) E):
  wpAny (model X.prog X.w) X.A (call (.ref C) us) (EP X pins σ Q) X.xe s:=by
 have hq:=h (s.heap.objs.size+1) s.heap.objs.size (I.hok.fresh (Zl _)) (I.hok.fresh (Qg _)) (Qw (Yb _))
 have I2:=Inv.made (C:=C) I
 have r2:a0r (V.ref (s.heap.objs.size+1)::(vs++dvs)) (Value.ref (s.heap.objs.size+1)::(us++ds)):=.cons rfl (r.append hd)
 have hl:(Value.ref (s.heap.objs.size+1)::us++ds).length=ps.length:=by
  have e:=r2.length
  rw [F.len _ _ _ _ hq] at e
  exact e.symm
 refine wpAny_call (a8y (f:=f) I.kIn M.makes M.init (beq_iff_eq.mp M.fn) (codeAny_mono (F.run _ X.stack _ _ ⟨Value.ref (s.heap.objs.size+1)::us,[]⟩ (Value.ref (s.heap.objs.size+1)::(us++ds)) _ _ E (hr.make C us [])
  (I2.env0.make C us []) (hb _ (Value.ref (s.heap.objs.size+1)::us) I2.kIn hl) r2 hq) fun r s' hq'=>?_))
 cases r with
 | error e=>exact hx pins σ _ _ e s' I2 hq'
 | ok fl=>
  cases fl with
  | ret u=>
   obtain ⟨v,H',I3,rv,ev,q3⟩:=I2.after hq'
   subst ev
   exact ⟨rv,⟨V.ref (s.heap.objs.size+1),H',I3,rfl,q3⟩⟩
  | next=>exact False.elim hq'
  | brk=>exact False.elim hq'
  | cont=>exact False.elim hq'
theorem b0y (M:Mk X.K C f) (F:a1r X.prog X.w X.K X.mg X.base CX k f fd ps sp) (hr:a1M (k+1) X.A) (hg:Gl X x) (hm:X.mg x=some (.ref C)) (hb:a0z X.K fd ps ds) (hd:a0r dvs ds) (hx:a2c CX X E)
  (ha:PA X (e::es) t) (hdb:(x == ("__debug__":Str))=false:=by decide) (he:starEach (e::es) X.env=(false,eval e X.env)::starEach es X.env:=by rfl) (hpl:(backTo pos (starEach es X.env)).any (·.1)=false:=by rfl):
  PE X (.Call (.Name x p) (e::es) [] pos) (a8e C sp dvs E t):=by
 intro pins s σ H Q I h
 refine wpAny_Call_Name_kw (a4k I hg hm ?_ hdb)
 refine Ua (h₀:=X.base) I.ok.mod.kin M.kp (thn (ha pos pins s σ H _ I h) fun us s1 ⟨vs,H1,I1,r,q⟩=>⟨I1.kIn,?_⟩) he hpl
 exact a8a M F hr hb hd hx I1 r q
end
structure a0j (N P:List Str) (sc:Scope):Prop where
 kind:sc.kind=.function
 co:sc.isCoroutine=false
 gen:sc.isGenerator=false
 nd:N.Nodup
 pre:N.take P.length=P
 par:∀x∈P,sc.names.lookup x=some .local∨sc.names.lookup x=some .cell
 nofree:∀y∈sc.names,y.2≠.free
theorem a3L {kindOf:Str→Option NameKind} {x:Str}:∀{binds:List (Str×Value)} {m:Str→Option Value},(∀v,(x,v)∉binds)→bindL kindOf binds m x=m x
 | [],_,_=>rfl
 | (n,v)::r,m,h=>by
  unfold bindL
  rw [a3L fun w hw=>h w (Qk _ hw)]
  split
  ·have:x≠n:=by rintro rfl;exact h v Qj
   simp [this]
  ·rfl
theorem a3k {kindOf:Str→Option NameKind} {x:Str}:∀{binds:List (Str×Value)} {m:Str→Option Value},(∀v,(x,v)∉binds)→bindC kindOf binds m x=m x
 | [],_,_=>rfl
 | (n,v)::r,m,h=>by
  unfold bindC
  rw [a3k fun w hw=>h w (Qk _ hw)]
  split
  ·rfl
  ·have:x≠n:=by rintro rfl;exact h v Qj
   simp [this]
theorem a3D {kindOf:Str→Option NameKind} {x:Str} {v:Value}:∀{P:List Str} {vs:List Value} {i:Nat} {m:Str→Option Value},P.Nodup→P[i]?=some x→vs[i]?=some v→kindOf x=some .local→
  bindL kindOf (P.zip vs) m x=some v
 | [],_,_,_,_,h,_,_=>by simp at h
 | _::_,[],_,_,_,_,h,_=>by simp at h
 | p::P,w::vs,0,m,nd,h1,h2,hk=>by
  simp at h1 h2;subst h1;subst h2
  show bindL kindOf ((p,w)::P.zip vs) m p=_
  unfold bindL
  rw [a3L fun v hv=>(Yh.mp nd).1 (Uw hv).1,if_pos hk]
  simp
 | p::P,w::vs,i+1,m,nd,h1,h2,hk=>by
  show bindL kindOf ((p,w)::P.zip vs) m x=_
  unfold bindL
  exact a3D (i:=i) (Yh.mp nd).2 (by simpa using h1) (by simpa using h2) hk
theorem a3u {kindOf:Str→Option NameKind} {x:Str} {v:Value}:∀{P:List Str} {vs:List Value} {i:Nat} {m:Str→Option Value},P.Nodup→P[i]?=some x→vs[i]?=some v→kindOf x≠some .local→
  bindC kindOf (P.zip vs) m x=some v
 | [],_,_,_,_,h,_,_=>by simp at h
 | _::_,[],_,_,_,_,h,_=>by simp at h
 | p::P,w::vs,0,m,nd,h1,h2,hk=>by
  simp at h1 h2;subst h1;subst h2
  show bindC kindOf ((p,w)::P.zip vs) m p=_
  unfold bindC
  rw [a3k fun v hv=>(Yh.mp nd).1 (Uw hv).1,if_neg hk]
  simp
 | p::P,w::vs,i+1,m,nd,h1,h2,hk=>by
  show bindC kindOf ((p,w)::P.zip vs) m x=_
  unfold bindC
  exact a3u (i:=i) (Yh.mp nd).2 (by simpa using h1) (by simpa using h2) hk
def start (N:List Str) (vs:List V):St:=vs.map some++List.replicate (N.length - vs.length) none
def b0I (CX:CXT) (P:Program) (w:World) (K:Qa) (mg:Str→Option Value) (base:Heap) (N:List Str) (qual:Str) (scope:Scope) (f:Addr) (cd:Value) (A:Around) (outer:List Env) (s:Shared) (H:Hp) (E:XK):Cx where
 prog:=P
 w:=w
 K:=K
 mg:=mg
 base:=base
 A:=A.deeper (envOfC qual scope s.heap.objs.size f cd)
 N:=N
 s₀:=s
 H₀:=H
 env:=envOfC qual scope s.heap.objs.size f cd
 outer:=outer
 stack:=envOfC qual scope s.heap.objs.size f cd::outer
 ex:=[]
 calm:=true
 fn:=fun _=>true
 pn:=[]
 xe:=fun e s'=>wpAny (model P w) (A.deeper (envOfC qual scope s.heap.objs.size f cd)) (leaving (envOfC qual scope s.heap.objs.size f cd) e) (fun _ s''=>CX outer H s E e s'') (fun e' s''=>CX outer H s E e' s'') s'
theorem a4M {sc:Scope} {n:Nat} {x:Str} (h:sc.names.lookup x=some .cell):∃c,(cellsFrom n sc.names []).lookup x=some c:=by
 have q:=Uz sc.names n [] (.inl h)
 exact Uj.mp q
theorem a7s {CX:CXT} {P:Program} {w:World} {K:Qa} {mg:Str→Option Value} {base:Heap} {N ps:List Str} {qual:Str} {scope:Scope} {f:Addr} {cd:Value} {A:Around} {outer:List Env} {s s1:Shared} {H:Hp} {E:XK} {us:List Value} {vs:List V}
  (S:a0j N ps scope) (hd:A.handled=none) (e0:b0v P w K mg base A outer s H) (hl:vs.length=ps.length) (r:a0r vs us)
  (x:InCallC s s.heap.objs.size (bindL (envOfC qual scope s.heap.objs.size f cd).kindOf (ps.zip us) fun _=>none) (cellsFrom (s.heap.objs.size+1) scope.names []) (bindC (envOfC qual scope s.heap.objs.size f cd).kindOf (ps.zip us) fun _=>none) s1):
  Inv (b0I CX P w K mg base N qual scope f cd A outer s H E) [] (start N vs) H s1:=by
 have hpl:ps.length≤N.length:=by have:=congrArg List.length S.pre;rw [Xh] at this;omega
 obtain ⟨h1,tk,rfl,hk⟩:=x.done
 have noA:∀b:Addr,b∉(b0I CX P w K mg base N qual scope f cd A outer s H E).ex:=fun b z=>absurd (show b∈([]:List Addr) from z) (by simp)
 refine ⟨⟨e0.mod,S.kind,rfl,rfl,Qg _,fun y z c h1 h2=>?_,fun y hy=>?_,fun y c _ h=>?_,fun _=>hd,Around.frames_deeper e0.frames,.inr ⟨rfl,rfl⟩,fun b z=>absurd z (noA b),e0.bs,e0.bsz,fun b _ _=>noA b,fun b z=>absurd z (noA b),e0.funs,e0.frf⟩,
  rfl,e0.bare,Un.kept hk,⟨_,x.toInCall.ns,fun i y v h1 h2 h3=>?_⟩,fun y c h=>⟨_,x.cell y c h⟩,e0.hok.fresh (Qg _),fun y c h=>?_,fun p hp=>absurd (show p∈([]:List (Addr×Obj)) from hp) (by simp),e0.hok.kept hk,?_⟩
 ·exact name_of_addr x.apart (PySem.mem_of_lookup h1) (PySem.mem_of_lookup h2)
 ·have hy:scope.names.lookup y=some .cell∨scope.names.lookup y=some .free:=hy
  rcases hy with hy | hy
  ·exact a4M hy
  ·exact absurd rfl (S.nofree _ (PySem.mem_of_lookup hy))
 ·exact Ze (x.above y c (PySem.mem_of_lookup h))
 ·have hi:i < vs.length:=by
   unfold start at h2
   by_cases hi:i < vs.length
   ·exact hi
   ·rw [Zs (by simpa using hi)] at h2
    rw [List.getElem?_replicate] at h2
    split at h2<;>cases h2
  have ha:vs[i]?=some v:=by
   unfold start at h2
   rw [Zu (by simpa using hi),Xr] at h2
   cases e:vs[i]? with
   | none=>rw [e] at h2;cases h2
   | some a=>rw [e] at h2;cases h2;rfl
  obtain ⟨u,hu,rv⟩:=r.get ha
  have hp:ps[i]?=some y:=by
   rw [←S.pre,List.getElem?_take_of_lt ‹om›];exact h1
  have ndP:ps.Nodup:=by rw [←S.pre];exact S.nd.sublist (List.take_sublist _ _)
  refine ⟨u,rv,?_⟩
  rcases S.par y (Jp hp) with k | k
  ·exact .inl ⟨k,a3D ndP hp hu k⟩
  ·obtain ⟨c,e⟩:=a4M (n:=s.heap.objs.size+1) k
   refine .inr ⟨.inl k,c,e,?_⟩
   have q:=x.cell y c e
   rw [a3u ndP hp hu (by show scope.names.lookup y≠_;rw [k];decide)] at q
   exact q
 ·exact e0.hok.fresh (Ze (x.above y c (PySem.mem_of_lookup h)))
 ·unfold start
  show _=N.length
  rw [Ql,Qc,List.length_replicate]
  omega
theorem b3D {CX:CXT} {P:Program} {w:World} {K:Qa} {mg:Str→Option Value} {base:Heap} {k:Nat} {f:Addr} {name qual:Str} {params:Arguments} {body:List Stmt} {scope:Scope} {dV kV doc pm cdv ct oc:Value} {an od:Option Addr}
  {osl:Array (Option Value)} {N ps:List Str} {sp:Sp} (lk:K.lookup f=some ⟨oc,od,.func (Zv name qual params body scope dV kV doc pm an cdv ct),osl⟩) (hcd:Jy K cdv qual=true) (S:a0j N ps scope)
  (len:∀vs H Q E,sp vs H Q E→vs.length=ps.length)
  (hbody:∀(A:Around) (outer:List Env) (s:Shared) (H:Hp) (vs:List V) (Q:VK) (E:XK),a1M k (A.deeper (envOfC qual scope s.heap.objs.size f cdv))→sp vs H Q E→
   ∃t,PSs (b0I CX P w K mg base N qual scope f cdv A outer s H E) body t∧t {nx:=fun _ H'=>Q .non H',rt:=Q} (start N vs) H):
  a1r P w K mg base CX (k+1) f (Zv name qual params body scope dV kV doc pm an cdv ct) ps sp:=by
 refine ⟨len,fun A outer s H args us vs Q E hr e0 hb r hsp=>?_⟩
 have hl:=len _ _ _ _ hsp
 have KX:K.In s.heap:=e0.mod.kin.keeps fun b o e=>(e0.bs b o e).1
 have lim:s.heap.NoLimit:=e0.mod.nolimit.keeps fun b o e=>(e0.bs b o e).1
 have hkind:∀y∈ps.zip us,scope.names.lookup y.1=some .local∨(scope.names.lookup y.1=some .cell∧((cellsFrom (s.heap.objs.size+1) scope.names []).lookup y.1).isSome=true):=fun ⟨n,v⟩ hy=>by
  rcases S.par n (Uw hy).1 with q | q
  ·exact .inl q
  ·exact .inr ⟨q,Uz _ _ _ (.inl q)⟩
 refine codeAny_call_function hr.depth (KX _ _ lk) rfl S.co S.gen rfl (PySem.W.codeRec_of KX hcd) (hb _ _ _ _ ?_)
 refine wpAny_newFunctionEnv_cells S.kind hkind fun env he s1 x=>?_
 subst he
 refine ⟨lim.keeps x.toInCall.keep,codeAny_func ?_⟩
 obtain ⟨t,ht,hq⟩:=hbody A outer s H vs Q E (hr.deeper _) hsp
 have I:Inv (b0I CX P w K mg base N qual scope f cdv A outer s H E) [] (start N vs) H s1:=a7s S hr.hd e0 hl r x
 refine wpAny_mono (ht [] s1 (start N vs) H _ I hq) (fun fl s' hs=>?_) fun e s' hs=>hs
 have fin:∀{σ':St} {H':Hp} {v:V} {u:Value},Inv (b0I CX P w K mg base N qual scope f cdv A outer s H E) [] σ' H' s'→a0s v u→Q v H'→CE outer P w H s Q u s':=
  fun {σ' H' v u} J rv q=>⟨v,H',J.os,J.bare,J.base,J.hok,rv,q⟩
 cases fl with
 | ret u=>
  obtain ⟨v,σ',H',J,rv,q⟩:=hs
  exact fin J rv q
 | next=>
  obtain ⟨σ',H',J,q⟩:=hs
  exact fin (v:=V.non) (u:=Value.none) J rfl q
 | brk=>
  obtain ⟨_,_,_,q⟩:=hs
  exact False.elim q
 | cont=>
  obtain ⟨_,_,_,q⟩:=hs
  exact False.elim q
section
variable {X:Cx} {x:Str} {p pos:Pos} {e:Expr} {es:List Expr} {t:TA} {id T:String} {r:List V→Hp→VK→Prop}
def tCB (r:List V→Hp→VK→Prop) (t:TA):TE:=fun σ H Q=>t σ H fun vs H1=>r vs H1 Q
theorem a8G (hc:a0N X (.builtin id) r) (hg:Gl X x) (hm:X.mg x=none) (hv:bootBuiltins x=some (.builtin id)) (ha:PA X (e::es) t) (hn:x≠"__name__":=by decide) (hdb:(x == ("__debug__":Str))=false:=by decide)
  (he:starEach (e::es) X.env=(false,eval e X.env)::starEach es X.env:=by rfl) (hpl:(backTo pos (starEach es X.env)).any (·.1)=false:=by rfl):PE X (.Call (.Name x p) (e::es) [] pos) (tCB r t):=by
 intro pins s σ H Q I h
 refine wpAny_Call_Name_kw (a3v I hg hm hv ?_ hn hdb)
 exact PyProof.Rows.callWith_builtin1 (thn (ha pos pins s σ H _ I h) fun us s1 ⟨vs,H1,I1,r1,q1⟩=>hc pins s1 σ H1 vs us Q I1 r1 q1) he hpl
theorem a6t (hc:a0N X (.type T) r) (hg:Gl X x) (hm:X.mg x=none) (hv:bootBuiltins x=some (.type T)) (ha:PA X (e::es) t) (hn:x≠"__name__":=by decide) (hdb:(x == ("__debug__":Str))=false:=by decide)
  (he:starEach (e::es) X.env=(false,eval e X.env)::starEach es X.env:=by rfl) (hpl:(backTo pos (starEach es X.env)).any (·.1)=false:=by rfl):PE X (.Call (.Name x p) (e::es) [] pos) (tCB r t):=by
 intro pins s σ H Q I h
 refine wpAny_Call_Name_kw (a3v I hg hm hv ?_ hn hdb)
 exact PyProof.Rows.callWith_type1 (thn (ha pos pins s σ H _ I h) fun us s1 ⟨vs,H1,I1,r1,q1⟩=>hc pins s1 σ H1 vs us Q I1 r1 q1) he hpl
end
end L2
namespace HT
open PySem PyProof.Rows
section
variable {prog:Program} {w:World} {A:Around} {E:Value→Shared→Prop} {s:Shared}
theorem cat_tup {t b:Addr} {vs ws:List Value} {Q:Value→Shared→Prop} (ht:IsTup s.heap t vs.toArray) (hb:IsTup s.heap b ws.toArray) (hv:vs≠[])
  (h1:ws=[]→Q (.ref t) s) (h2:ws≠[]→Q (.ref s.heap.objs.size) {s with heap:=s.heap.push {cls:=.type "tuple",data:=.seq (vs++ws).toArray}})
  (hsz:vs.length+ws.length≤sizeLine):wpAny (model prog w) A (binaryOp .Add (.ref t) (.ref b)) Q E s:=by
 obtain ⟨⟨cls,dd,data,sl⟩,ho,hc,n,hd⟩:=id ht
 obtain ⟨⟨cls2,dd2,data2,sl2⟩,ho2,hc2,n2,hd2⟩:=id hb
 simp only at hc hd hc2 hd2
 subst hc hd hc2 hd2
 have e:vs.toArray++ws.toArray=(vs++ws).toArray:=by simp
 by_cases hw:ws=[]
 ·exact concat_meets ⟨_,ho,rfl⟩ ⟨_,ho2,rfl⟩ noFill_tuple_add seq_tuple_add Va Ur (Uk _ _)
   (tuple_addW1 t b vs.toArray ws.toArray n n2 dd dd2 sl sl2 (by simpa using hv) (by simp [hw])) ⟨ho,ho2,h1 hw⟩
 ·refine concat_meets ⟨_,ho,rfl⟩ ⟨_,ho2,rfl⟩ noFill_tuple_add seq_tuple_add Va Ur (Uk _ _)
   (tuple_addW2 t b vs.toArray ws.toArray n n2 dd dd2 sl sl2 (by simpa using hv) (by simpa using hw) (by rw [Qh,Qh];exact hsz)) ⟨ho,ho2,?_⟩
  rw [e]
  exact h2 hw
def sIx (n d:Nat):Option Int→Nat
 | none=>d
 | some v=>if v < 0 then (v+(n:Int)).toNat else min v.toNat n
theorem sIx_nat (n d k:Nat):sIx n d (some (k:Int))=min k n:=by
 show (if (k:Int) < 0 then ((k:Int)+(n:Int)).toNat else min (k:Int).toNat n)=min k n
 rw [if_neg ‹om›,Yu]
theorem b3h (n d:Nat) (hd:d≤n) (o:Option Int):sIx n d o≤n:=by
 cases o with
 | none=>exact hd
 | some v=>
  show (if v < 0 then (v+(n:Int)).toNat else min v.toNat n)≤n
  by_cases hv:v < 0
  ·rw [if_pos hv];omega
  ·rw [if_neg hv];exact Nat.min_le_right _ _
theorem a7w (v:Int) (n d:Nat):(if v < 0 then max (v+(n:Int)) 0 else min v (n:Int))=((sIx n d (some v):Nat):Int):=by
 show (if v < 0 then max (v+(n:Int)) 0 else min v (n:Int))=(((if v < 0 then (v+(n:Int)).toNat else min v.toNat n):Nat):Int)
 by_cases hv:v < 0
 ·simp only [if_pos hv];omega
 ·simp only [if_neg hv];omega
theorem a5a (lo hi:Option Int) (n:Nat):Builtin.Slice.sliceAdjust lo hi 1 (n:Int)=(((sIx n 0 lo:Nat):Int),((sIx n n hi:Nat):Int)):=by
 have h1:¬((1:Int) < 0):=by omega
 unfold Builtin.Slice.sliceAdjust
 simp only [h1,if_false]
 refine Prod.ext ?_ ?_
 ·cases lo with
  | none=>rfl
  | some v=>exact a7w v n 0
 ·cases hi with
  | none=>rfl
  | some v=>exact a7w v n n
theorem a5E (i j:Nat):Builtin.Slice.slicePlaces (i:Int) (j:Int) 1=j - i:=by
 unfold Builtin.Slice.slicePlaces
 have h1:(1:Int) > 0:=by omega
 simp only [h1,if_true,Int.ediv_one]
 split<;>omega
theorem a2H {v:Value} {o:Option Int} {Q:Option Int→Shared→Prop} (p:IsPart v o) (h:Q o s):wpAny (model prog w) A (Builtin.Slice.slicePartIndex v) Q E s:=by
 cases p with
 | none=>exact slicePart_none h
 | int i t=>exact slicePart_int h
theorem a1P {sl:Addr} {vl vu:Value} {lo hi:Option Int} {n:Nat} {Q:Int×Int×Nat→Shared→Prop} (hs:s.heap.IsSliceOf sl vl vu .none) (pl:IsPart vl lo) (pu:IsPart vu hi)
  (h:Q (((sIx n 0 lo:Nat):Int),1,sIx n n hi - sIx n 0 lo) s):wpAny (model prog w) A (Builtin.Slice.sliceApplied (.ref sl) (pure (n:Int))) Q E s:=by
 obtain ⟨os,hos,hcs,hds⟩:=id hs
 unfold Builtin.Slice.sliceApplied Builtin.Slice.sliceFields
 refine wpAny_bind (wpAny_bind (wpAny_field hos hds (x:=vl) rfl (wpAny_bind (wpAny_field hos hds (x:=vu) rfl (wpAny_bind (wpAny_field hos hds (x:=.none) rfl (wpAny_pure ?_)))))))
 refine wpAny_bind (slicePart_none ?_)
 show wpAny _ _ (if ((1:Int) == 0)=true then _ else _) _ _ s
 rw [if_neg ‹dc›]
 refine wpAny_bind (a2H pl (wpAny_bind (a2H pu (wpAny_bind (wpAny_pure ?_)))))
 show wpAny _ _ (match Builtin.Slice.sliceAdjust lo hi 1 (n:Int) with | (lo,hi)=>pure (lo,(1:Int),Builtin.Slice.slicePlaces lo hi 1)) _ _ s
 rw [a5a lo hi n]
 show wpAny _ _ (pure (((sIx n 0 lo:Nat):Int),(1:Int),Builtin.Slice.slicePlaces ((sIx n 0 lo:Nat):Int) ((sIx n n hi:Nat):Int) 1)) _ _ s
 rw [a5E]
 exact wpAny_pure h
theorem a8B (xs:Array Value) (i k:Nat):((Yo k).filterMap fun (m:Nat)=>xs[((i:Int)+(m:Int) * 1).toNat]?).toArray=((xs.toList.drop i).take k).toArray:=by
 have e:(fun (m:Nat)=>xs[((i:Int)+(m:Int) * 1).toNat]?)=fun m=>xs[i+m]?:=by
  funext m
  have:((i:Int)+(m:Int) * 1).toNat=i+m:=by omega
  rw [this]
 rw [e]
 have:=pick_run xs i k
 rw [List.filterMap_map] at this
 have e2:((fun x=>xs[x]?)∘fun x=>i+x)=fun m=>xs[i+m]?:=rfl
 rw [e2] at this
 rw [this]
theorem getItem_tuple_cut {t sl:Addr} {items:Array Value} {vl vu:Value} {lo hi:Option Int} {Q:Value→Shared→Prop} (ht:IsTup s.heap t items) (hs:s.heap.IsSliceOf sl vl vu .none) (pl:IsPart vl lo) (pu:IsPart vu hi)
  (hw:¬(sIx items.size 0 lo=0∧sIx items.size items.size hi=items.size))
  (h:Q (.ref s.heap.objs.size) {s with heap:=s.heap.push {cls:=.type "tuple",data:=.seq ((items.toList.drop (sIx items.size 0 lo)).take (sIx items.size items.size hi - sIx items.size 0 lo)).toArray}})
  (hsz:items.size≤sizeLine):wpAny (model prog w) A (getItem (.ref t) (.ref sl)) Q E s:=by
 have htake:sizeOk (.seq ((items.toList.drop (sIx items.size 0 lo)).take (sIx items.size items.size hi - sIx items.size 0 lo)).toArray):=by
  show ((items.toList.drop (sIx items.size 0 lo)).take (sIx items.size items.size hi - sIx items.size 0 lo)).toArray.size≤sizeLine
  rw [Qh,Xh,Jm,Qu]
  omega
 have hj:sIx items.size items.size hi≤items.size:=b3h _ _ (Qg _) hi
 obtain ⟨os,hos,hcs,hds⟩:=id hs
 have hTs:s.TypeIs (.ref sl) "slice":=⟨os,hos,hcs⟩
 unfold getItem
 try with_reducible refine wpAny_holding ?_
 first | refine wpAny_bind (wpAny_pure ?_) | skip
 refine wpAny_bind (wpAny_sequenceKey ht.typeIs ‹dc› ?_)
 refine wpAny_bind (wpAny_callSpecial?_slot (name:=Qv "__getitem__") ht.typeIs PyProof.Rows.slot_tuple_getitem
  (wpAny_call_entry PyProof.Rows.slot_tuple_getitem ht.typeIs entry_tuple_getitem ?_ (args_tuple_getitem _ _)))
 show wpAny _ _ (Builtin.Tuple.tupleItemsOf (.ref t) >>= _) _ _ s
 refine wpAny_bind (tupleItemsOf_ ht ?_)
 refine wpAny_bind (wpAny_typeOf hTs ?_)
 rw [if_pos ‹dc›]
 refine wpAny_bind (a1P hs pl pu ?_)
 have hno:¬((((sIx items.size 0 lo:Nat):Int) == 0 && (1:Int) == 1 && (sIx items.size items.size hi - sIx items.size 0 lo) == items.size)=true):=by
  intro q
  rw [Xe,Xe] at q
  have q1:((sIx items.size 0 lo:Nat):Int)=0:=eq_of_beq q.1.1
  have q2:sIx items.size items.size hi - sIx items.size 0 lo=items.size:=eq_of_beq q.2
  exact hw ⟨by omega,by omega⟩
 show wpAny _ _ (if (((sIx items.size 0 lo:Nat):Int) == 0 && (1:Int) == 1 && (sIx items.size items.size hi - sIx items.size 0 lo) == items.size)=true then _ else _) _ _ s
 rw [if_neg hno,a8B]
 first
  | exact wpAny_bind (m:=Builtin.Tuple.tupleExact _) (wpAny_newObj_type (wpAny_pure ⟨_,rfl,wpAny_pure h⟩) htake)
  | exact wpAny_bind (m:=Builtin.Tuple.tupleExact _) (wpAny_newObj_type (wpAny_bind (wpAny_pure (wpAny_pure ⟨_,rfl,wpAny_pure h⟩))) htake)
  | exact wpAny_bind (wpAny_bind (m:=Builtin.Tuple.tupleExact _) (wpAny_newObj_type (wpAny_pure (wpAny_pure ⟨_,rfl,wpAny_pure h⟩)) htake))
  | exact wpAny_bind (wpAny_bind (m:=Builtin.Tuple.tupleExact _) (wpAny_newObj_type (wpAny_pure ⟨_,rfl,wpAny_pure h⟩) htake))
end
end HT
namespace L2
open PySem PySem.Spec PyProof.Rows
abbrev TO:=St→Hp→(Option Int→Hp→Prop)→Prop
def PO (X:Cx) (e:Option Expr) (t:TO):Prop:=
 ∀(pins:List (Addr×Obj)) (s:Shared) (σ:St) (H:Hp) (Q:Option Int→Hp→Prop),Inv X pins σ H s→t σ H Q→
  wpAny (model X.prog X.w) X.A (evalPart e X.env) (fun u s'=>∃o H',Inv X pins σ H' s'∧IsPart u o∧Q o H') X.xe s
def a1x:TO:=fun _ H Q=>Q none H
def a3S (t:TE):TO:=fun σ H Q=>t σ H fun x H1=>∃i,x=.int i∧Q (some i) H1
section
variable {X:Cx} {e:Expr} {te:TE} {lo hi:Option Expr} {tl th:TO} {pos p2:Pos}
theorem b0w:PO X none a1x:=by
 intro pins s σ H Q I h
 rw [evalPart_none]
 exact wpAny_pure ⟨none,H,I,.none,h⟩
theorem b0a (h:PE X e te):PO X (some e) (a3S te):=by
 intro pins s σ H Q I hw
 rw [evalPart_some]
 refine thn (h pins s σ H _ I hw) fun u s1 ⟨x,H1,I1,r1,q1⟩=>?_
 obtain ⟨i,rfl,q⟩:=q1
 obtain ⟨t,rfl⟩:=r1
 exact ⟨some i,H1,I1,.int i t,q⟩
def SlR (X:Cx) (r:V→Option Int→Option Int→Hp→VK→Prop):Prop:=
 ∀(pins:List (Addr×Obj)) (s:Shared) (σ:St) (H:Hp) (x:V) (v vl vu:Value) (lo hi:Option Int) (sl:Addr) (Q:VK),Inv X pins σ H s→a0s x v→s.heap.IsSliceOf sl vl vu .none→IsPart vl lo→IsPart vu hi→r x lo hi H Q→
  ∃T id,typeLookup (.type T) "__getitem__"=pure (some (.builtin id))∧s.TypeIs v T∧wpAny (model X.prog X.w) X.A (getItem v (.ref sl)) (EP X pins σ Q) X.xe s
theorem SlR.or {r r':V→Option Int→Option Int→Hp→VK→Prop} (h:SlR X r) (h':SlR X r'):SlR X (fun x lo hi H Q=>r x lo hi H Q∨r' x lo hi H Q):=by
 intro pins s σ H x v vl vu lo hi sl Q I rx hs pl pu q
 rcases q with q | q
 ·exact h pins s σ H x v vl vu lo hi sl Q I rx hs pl pu q
 ·exact h' pins s σ H x v vl vu lo hi sl Q I rx hs pl pu q
def tSl (r:V→Option Int→Option Int→Hp→VK→Prop) (te:TE) (tl th:TO):TE:=fun σ H Q=>te σ H fun x H1=>tl σ H1 fun l H2=>th σ H2 fun u H3=>r x l u H3 Q
theorem a7Y {r:V→Option Int→Option Int→Hp→VK→Prop} (hr:SlR X r) (he:PE X e te) (hl:PO X lo tl) (hu:PO X hi th):PE X (.Subscript e (.Slice lo hi none p2) pos) (tSl r te tl th):=by
 intro pins s σ H Q I h
 refine Subscript_ (thn (he pins s σ H _ I h) fun v s1 ⟨x,H1,I1,r1,q1⟩=>?_)
 refine wpAny_Slice (thn (hl pins s1 σ H1 _ I1 q1) fun vl s2 ⟨l,H2,I2,pl,q2⟩=>thn (hu pins s2 σ H2 _ I2 q2) fun vu s3 ⟨u,H3,I3,pu,q3⟩=>?_)
 rw [evalPart_none]
 refine wpAny_pure ?_
 have I4:Inv X pins σ H3 {s3 with heap:=s3.heap.push {cls:=.type "slice",data:=.fields #[vl,vu,.none]}}:=I3.kept (t':=s3.toks) fun b ob q=>Qe _ q
 obtain ⟨T,id,hT,ht,hg⟩:=hr pins {s3 with heap:=s3.heap.push {cls:=.type "slice",data:=.fields #[vl,vu,.none]}} σ H3 x v vl vu l u s3.heap.objs.size Q I4 r1 (Heap.IsSliceOf.new ..) pl pu q3
 show wpAny (model X.prog X.w) X.A (subscriptTail e (.Slice lo hi none p2) v (.ref s3.heap.objs.size)) (EP X pins σ Q) X.xe {s3 with heap:=s3.heap.push {cls:=.type "slice",data:=.fields #[vl,vu,.none]}}
 exact tail_any (ops:=[.ref s3.heap.objs.size,v]) ht hT hg (by with_unfolding_all rfl)
def a4j (xs:List V) (lo hi:Option Int):List V:=(xs.drop (HT.sIx xs.length 0 lo)).take (HT.sIx xs.length xs.length hi - HT.sIx xs.length 0 lo)
theorem a2n (xs:List V) (lo hi:Option Int):(a4j xs lo hi).length≤xs.length:=by
 unfold a4j
 rw [Xh,Jm]
 omega
def b5B (K:Qa):V→Option Int→Option Int→Hp→VK→Prop:=fun x lo hi H Q=>∃a xs,x=.ref a∧SqT K H a xs∧
 ¬(HT.sIx xs.length 0 lo=0∧HT.sIx xs.length xs.length hi=xs.length)∧∀p,H p=none→Q (.ref p) (upd H p (.tup (a4j xs lo hi)))
theorem b1i:SlR X (b5B X.K):=by
 intro pins s σ H x v vl vu lo hi sl Q I rx hs pl pu h
 obtain ⟨a,xs,rfl,hx,hw,q⟩:=h
 cases rx
 obtain ⟨its,r,ht,hz⟩:=I.tuple hx
 have hlen:its.toArray.size=xs.length:=by rw [Qh];exact r.length.symm
 refine ⟨"tuple",_,PyProof.Rows.slot_tuple_getitem.lookup,ht.typeIs,?_⟩
 refine HT.getItem_tuple_cut ht hs pl pu (by rw [hlen];exact hw) ?_ (by rw [hlen];exact hz)
 rw [hlen]
 refine ⟨.ref s.heap.objs.size,_,I.laid (t':=s.toks) (o:=.tup (a4j xs lo hi)) (fun b ob q=>Qe _ q) (Qg _) ?_,rfl,q _ (I.hok.fresh (Qg _))⟩
 exact ⟨Qs (a2n xs lo hi) hz,_,(r.drop (HT.sIx xs.length 0 lo)).take (HT.sIx xs.length xs.length hi - HT.sIx xs.length 0 lo),IsTup.new _ _⟩
def b1G (K:Qa):R2:=fun x y H Q=>∃a b xs ys,x=.ref a∧y=.ref b∧SqT K H a xs∧SqT K H b ys∧xs≠[]∧xs.length+ys.length≤sizeLine∧
 (ys=[]→Q (.ref a) H)∧(ys≠[]→∀p,H p=none→Q (.ref p) (upd H p (.tup (xs++ys))))
theorem a0r.nil_iff {xs:List V} {us:List Value} (r:a0r xs us):us=[]↔xs=[]:=by
 cases r with
 | nil=>simp
 | cons _ _=>simp
theorem b0C:OpR X (binaryOp .Add) (b1G X.K):=by
 intro pins s σ H x y v u Q I rx ry h
 obtain ⟨a,b,xs,ys,rfl,rfl,ha,hb,hx,hz,q1,q2⟩:=h
 cases rx
 cases ry
 obtain ⟨its,r1,p1,_⟩:=I.tuple ha
 obtain ⟨its2,r2,p2,_⟩:=I.tuple hb
 refine HT.cat_tup p1 p2 (fun z=>hx (r1.nil_iff.mp z)) (fun z=>⟨.ref a,H,I,rfl,q1 (r2.nil_iff.mp z)⟩) (fun z=>?_) (by rw [←r1.length,←r2.length];exact hz)
 refine ⟨.ref s.heap.objs.size,_,I.laid (t':=s.toks) (o:=.tup (xs++ys)) (fun b ob q=>Qe _ q) (Qg _) ?_,rfl,q2 (fun w=>z (r2.nil_iff.mpr w)) _ (I.hok.fresh (Qg _))⟩
 exact ⟨by rw [Ql];exact hz,_,r1.append r2,IsTup.new _ _⟩
end
def ixN (n:Nat) (i:Int):Option Nat:=if 0≤i then (if i < n then some i.toNat else none) else if -(n:Int)≤i then some (i+n).toNat else none
def atI {α:Type} (xs:List α) (i:Int):Option α:=(ixN xs.length i).bind fun j=>xs[j]?
theorem a6k {n:Nat} {i:Int} {j:Nat} (h:ixN n i=some j):seqIndex? i n=some j∧j < n∧-(n:Int)≤i∧i < n:=by
 unfold ixN at h
 by_cases h0:0≤i
 ·rw [if_pos h0] at h
  by_cases h1:i < n
  ·rw [if_pos h1] at h
   have e:i.toNat=j:=Option.some.inj h
   exact ⟨by rw [seqIndex_of h0 h1,e],by omega,by omega,h1⟩
  ·rw [if_neg h1] at h;cases h
 ·rw [if_neg h0] at h
  by_cases h1:-(n:Int)≤i
  ·rw [if_pos h1] at h
   have e:(i+n).toNat=j:=Option.some.inj h
   exact ⟨by rw [seqIndex_neg ‹om› h1,e],by omega,h1,by omega⟩
  ·rw [if_neg h1] at h;cases h
theorem a3Z {α:Type} {xs:List α} {i:Int} {v:α} (h:atI xs i=some v):∃j,seqIndex? i xs.length=some j∧xs[j]?=some v∧j < xs.length∧-(xs.length:Int)≤i∧i < xs.length:=by
 unfold atI at h
 cases e:ixN xs.length i with
 | none=>rw [e] at h;cases h
 | some j=>
  rw [e] at h
  obtain ⟨h1,h2,h3,h4⟩:=a6k e
  exact ⟨j,h1,h,h2,h3,h4⟩
def a9C (b:Expr):Prop:=∀o i,subscripted b false o i=operate [o,i] (getItem o i)
def IxR (X:Cx) (r:R2):Prop:=
 ∀(value slice:Expr) (pins:List (Addr×Obj)) (s:Shared) (σ:St) (H:Hp) (x y:V) (v u:Value) (Q:VK),Inv X pins σ H s→a0s x v→a0s y u→r x y H Q→
  subscripted slice false v u=operate [v,u] (getItem v u)→wpAny (model X.prog X.w) X.A (subscriptTail value slice v u) (EP X pins σ Q) X.xe s
def MtR (X:Cx) (id:String) (r:V→List V→Hp→VK→Prop):Prop:=
 ∀(pins:List (Addr×Obj)) (s:Shared) (σ:St) (H:Hp) (x:V) (xs:List V) (v:Value) (us:List Value) (Q:VK),Inv X pins σ H s→a0s x v→a0r xs us→r x xs H Q→
  wpAny (model X.prog X.w) X.A (call (.builtin id) (v::us)) (EP X pins σ Q) X.xe s
section
variable {X:Cx} {a b:Expr} {ta tb:TE} {pos:Pos}
theorem IxR.or {r r':R2} (h:IxR X r) (h':IxR X r'):IxR X (fun x y H Q=>r x y H Q∨r' x y H Q):=by
 intro value slice pins s σ H x y v u Q I rx ry q hs
 rcases q with q | q
 ·exact h value slice pins s σ H x y v u Q I rx ry q hs
 ·exact h' value slice pins s σ H x y v u Q I rx ry q hs
theorem b3W {r:R2} (hr:IxR X r) (ha:PE X a ta) (hb:PE X b tb) (hs:a9C b):PE X (.Subscript a b pos) (tOp r ta tb):=by
 intro pins s σ H Q I h
 exact Subscript_ (b3F ha hb I h fun v u s2 x y H2 I2 rx ry q=>hr a b pins s2 σ H2 x y v u Q I2 rx ry q (hs _ _))
def b5N (K:Qa):R2:=fun x y H Q=>∃p xs i v,x=.ref p∧y=.int i∧SqL K H p xs∧atI xs i=some v∧Q v H
def b6d (K:Qa):R2:=fun x y H Q=>∃p xs i v,x=.ref p∧y=.int i∧SqT K H p xs∧atI xs i=some v∧Q v H
def b4j:R2:=fun x y H Q=>∃z i c,x=.str z∧y=.int i∧z.length≤sizeLine∧atI z.cps.toList i=some c∧Q (.str ⟨#[c]⟩) H
theorem b0s:IxR X (b5N X.K):=by
 intro value slice pins s σ H x y v u Q I rx ry h hs
 obtain ⟨p,xs,i,z,rfl,rfl,hq,he,q⟩:=h
 cases rx
 obtain ⟨t,rfl⟩:=ry
 obtain ⟨its,r,pl,hz⟩:=I.list hq
 obtain ⟨j,h1,h2,h3,h4,h5⟩:=a3Z he
 obtain ⟨w,ew,rw'⟩:=r.get h2
 have hl:=r.length
 have hn:=a3y
 have fin:EP X pins σ Q w s:=⟨z,H,I,rw',q⟩
 by_cases h0:0≤i
 ·have hj:i.toNat=j:=by
   rw [seqIndex_of h0 h5] at h1
   exact Option.some.inj h1
  exact item_listR pl.isList h0 ‹om› (by rw [hj];simpa using ew) fin hs
 ·have hj:(i+(its.toArray.size:Int)).toNat=j:=by
   rw [seqIndex_neg ‹om› h4] at h1
   rw [Qh,←hl]
   exact Option.some.inj h1
  exact subscriptTail_builtinR (x:=w) pl.isList.typeIs slot_list_getitem.lookup
   (wpAny_getItem_list_neg (Q:=fun r s'=>r=w∧EP X pins σ Q r s') pl.isList ‹om› (by rw [Qh]<;>omega) ‹om› (by rw [hj];simpa using ew) ⟨rfl,fin⟩) hs
theorem b0X:IxR X (b6d X.K):=by
 intro value slice pins s σ H x y v u Q I rx ry h hs
 obtain ⟨p,xs,i,z,rfl,rfl,hq,he,q⟩:=h
 cases rx
 obtain ⟨t,rfl⟩:=ry
 obtain ⟨its,r,pl,hz⟩:=I.tuple hq
 obtain ⟨j,h1,h2,h3,h4,h5⟩:=a3Z he
 obtain ⟨w,ew,rw'⟩:=r.get h2
 have hl:=r.length
 have hn:=a3y
 have fin:EP X pins σ Q w s:=⟨z,H,I,rw',q⟩
 exact subscriptTail_builtinR (x:=w) pl.typeIs slot_tuple_getitem.lookup
  (getItem_tuple (j:=j) (Q:=fun r s'=>r=w∧EP X pins σ Q r s') pl ‹om› ‹om› (by rw [Qh,←hl];exact h1) (by simpa using ew) ⟨rfl,fin⟩) hs
theorem b1y:IxR X b4j:=by
 intro value slice pins s σ H x y v u Q I rx ry h hs
 obtain ⟨z,i,c,rfl,rfl,hz,he,q⟩:=h
 obtain ⟨t,rfl⟩:=rx
 obtain ⟨t',rfl⟩:=ry
 obtain ⟨j,h1,h2,h3,h4,h5⟩:=a3Z he
 have hl:z.cps.toList.length=z.length:=by simp [Str.length]
 rw [hl] at h1 h4 h5
 have hn:=a3y
 exact tail_any (typeIs_str s z t) slot_str_getitem.lookup (getItem_str (c:=c) (by
  have e1:decide (i < -(2 ^ 63:Int))=false:=decide_eq_false ‹om›
  have e2:decide (i≥2 ^ 63)=false:=decide_eq_false ‹om›
  rw [e1,e2,Bool.or_false]) (by rw [h1];simpa using h2) ⟨.str ⟨#[c]⟩,H,I.tok _,⟨_,rfl⟩,q⟩) hs
def rIx (K:Qa):R2:=fun x y H Q=>b5N K x y H Q∨b6d K x y H Q∨b4j x y H Q
theorem a0l:IxR X (rIx X.K):=b0s.or (b0X.or b1y)
theorem a5A (its:List Value) (n j:Nat) (u:Value):Obj.mapSeq (·.setIfInBounds j u) {cls:=.type "list",data:=.seq its.toArray n}={cls:=.type "list",data:=.seq (its.set j u).toArray n}:=by
 simp [Obj.mapSeq]
theorem Inv.lst {pins:List (Addr×Obj)} {σ:St} {H:Hp} {s:Shared} {p:Addr} {xs:List V} (I:Inv X pins σ H s) (h:H p=some (.lst xs)):
  ∃(its:List Value) (n:Nat),a0r xs its∧s.heap.get? p=some {cls:=.type "list",data:=.seq its.toArray n}∧xs.length≤sizeLine:=by
 obtain ⟨z,its,n,r,e⟩:=I.hok p _ h
 exact ⟨its,n,r,e,z⟩
theorem Inv.lstUpd {pins:List (Addr×Obj)} {σ:St} {H:Hp} {s:Shared} {p:Addr} {xs ys:List V} {its its':List Value} {n n':Nat} {f:Obj→Obj} (I:Inv X pins σ H s) (h:H p=some (.lst xs))
  (ho:s.heap.get? p=some {cls:=.type "list",data:=.seq its.toArray n}) (hf:f {cls:=.type "list",data:=.seq its.toArray n}={cls:=.type "list",data:=.seq its'.toArray n'}) (r:a0r ys its') (hz:ys.length≤sizeLine) (t:Nat):
  Inv X pins σ (upd H p (.lst ys)) {s with heap:=s.heap.update p f,toks:=t}:=by
 have e:(s.heap.update p f).get? p=some {cls:=.type "list",data:=.seq its'.toArray n'}:=by
  rw [Yl f ho (by rw [hf]<;>rfl),hf]
 refine I.write (x:=p) (e:=p) (by rw [h];trivial) (.inl rfl) (fun b u hb q=>(Yr _ _ (Ne.symm hb)).trans q) ⟨_,e⟩ ?_
 exact ⟨hz,its',n',r,e⟩
def b0Y:V→V→V→Hp→(Hp→Prop)→Prop:=fun o i v H Q=>∃p xs k j,o=.ref p∧i=.int k∧H p=some (.lst xs)∧ixN xs.length k=some j∧Q (upd H p (.lst (xs.set j v)))
theorem a8z:b3Z X b0Y:=by
 intro pins s σ H o i v ov iv u Q I ro ri rv h
 obtain ⟨p,xs,k,j,rfl,rfl,hp,hj,q⟩:=h
 cases ro
 obtain ⟨t,rfl⟩:=ri
 obtain ⟨its,n,r,ho,hz⟩:=I.lst hp
 obtain ⟨h1,h2,h3,h4⟩:=a6k hj
 have hl:=r.length
 have hn:=a3y
 have I':Inv X pins σ (upd H p (.lst (xs.set j v))) {s with heap:=s.heap.update p (Obj.mapSeq (·.setIfInBounds j u))}:=
  I.lstUpd hp ho (a5A its n j u) (r.set rv j) (by rw [List.length_set];exact hz) s.toks
 by_cases h0:0≤k
 ·have hk:k.toNat=j:=by
   rw [seqIndex_of h0 h4] at h1
   exact Option.some.inj h1
  exact PySem.W.ki_setAt ho h0 ‹om› (by rw [Qh,←hl];exact h4) (by rw [hk];exact ⟨_,I',q⟩)
 ·have hk:(k+(its.toArray.size:Int)).toNat=j:=by
   rw [seqIndex_neg ‹om› h3] at h1
   rw [Qh,←hl]
   exact Option.some.inj h1
  exact PySem.W.ki_setBack ho ‹om› (by rw [Qh,←hl];exact h3) ‹om› (by rw [hk];exact ⟨_,I',q⟩)
theorem a3p (lo hi:Option Int) (n:Nat):(sliceBounds lo hi none n).1=((HT.sIx n 0 lo:Nat):Int)∧(sliceBounds lo hi none n).2.1=((HT.sIx n n hi:Nat):Int)∧(sliceBounds lo hi none n).2.2=1:=by
 refine ⟨?_,?_,rfl⟩
 ·cases lo with
  | none=>simp [sliceBounds,HT.sIx]
  | some i=>
   simp only [sliceBounds,HT.sIx,We,show (1:Int) > 0 by decide,if_true]
   by_cases h:i < 0
   ·simp only [h,if_true]<;>omega
   ·simp only [h,if_false]<;>omega
 ·cases hi with
  | none=>simp [sliceBounds,HT.sIx]
  | some i=>
   simp only [sliceBounds,HT.sIx,We,show (1:Int) > 0 by decide,if_true]
   by_cases h:i < 0
   ·simp only [h,if_true]<;>omega
   ·simp only [h,if_false]<;>omega
theorem a2P (its:List Value) (lo hi:Option Int):slicePick its.toArray lo hi none=((its.drop (HT.sIx its.length 0 lo)).take (HT.sIx its.length its.length hi - HT.sIx its.length 0 lo)).toArray:=by
 obtain ⟨h1,h2,h3⟩:=a3p lo hi its.toArray.size
 unfold slicePick
 rw [h1,h2,h3]
 simp only [sliceRange_one,pick_run,Qh]<;>rfl
def b5n (K:Qa):V→Option Int→Option Int→Hp→VK→Prop:=fun x lo hi H Q=>∃a xs,x=.ref a∧SqL K H a xs∧∀p,H p=none→Q (.ref p) (upd H p (.lst (a4j xs lo hi)))
theorem b0h:SlR X (b5n X.K):=by
 intro pins s σ H x v vl vu lo hi sl Q I rx hs pl pu h
 obtain ⟨a,xs,rfl,hx,q⟩:=h
 cases rx
 obtain ⟨its,r,ht,hz⟩:=I.list hx
 have hlen:=r.length
 refine ⟨"list",_,slot_list_getitem.lookup,ht.isList.typeIs,?_⟩
 refine wpAny_getItem_list_slice ht.isList hs pl pu .none (by simp) ?_ (by rw [Qh]<;>omega)
 rw [a2P,←hlen]
 refine ⟨.ref s.heap.objs.size,_,I.laid (t':=s.toks) (o:=.lst (a4j xs lo hi)) (fun b ob q=>Qe _ q) (Qg _) ?_,rfl,q _ (I.hok.fresh (Qg _))⟩
 exact ⟨Qs (a2n xs lo hi) hz,_,0,(r.drop (HT.sIx xs.length 0 lo)).take (HT.sIx xs.length xs.length hi - HT.sIx xs.length 0 lo),Qp _ rfl⟩
def a2T:V→Bool
 | .non=>true
 | .bl _=>true
 | .int _=>true
 | .str _=>true
 | _=>false
def eqV:V→V→Bool
 | .non,.non=>true
 | .bl a,.bl b=>a == b
 | .bl a,.int b=>(if a then 1 else 0) == b
 | .int a,.bl b=>a == (if b then 1 else 0)
 | .int a,.int b=>a == b
 | .str a,.str b=>a == b
 | _,_=>false
theorem b0R {A:Around} {s:Shared} {y x:V} {u v:Value} (ry:a0s y u) (rx:a0s x v) (fy:a2T y=true) (fx:a2T x=true):Xy A s u v (eqV y x):=by
 cases y with
 | non=>
  cases ry
  cases x with
  | non=>cases rx;exact Xy.same _
  | bl b=>cases rx;exact Xy.none_bool b
  | int b=>obtain ⟨t,rfl⟩:=rx;exact Xy.none_int b t
  | str b=>obtain ⟨t,rfl⟩:=rx;exact Xy.none_str b t
  | _=>exact absurd (show false=true from fx) Qr
 | bl a=>
  cases ry
  cases x with
  | non=>cases rx;exact Xy.bool_none a
  | bl b=>cases rx;exact Xy.bool_bool a b
  | int b=>obtain ⟨t,rfl⟩:=rx;exact Xy.bool_int a b t
  | str b=>obtain ⟨t,rfl⟩:=rx;exact Xy.bool_str a b t
  | _=>exact absurd (show false=true from fx) Qr
 | int a=>
  obtain ⟨t',rfl⟩:=ry
  cases x with
  | non=>cases rx;exact Xy.int_none a t'
  | bl b=>cases rx;exact Xy.int_bool a t' b
  | int b=>obtain ⟨t,rfl⟩:=rx;exact Xy.int_int a t' b t
  | str b=>obtain ⟨t,rfl⟩:=rx;exact Xy.int_str a t' b t
  | _=>exact absurd (show false=true from fx) Qr
 | str a=>
  obtain ⟨t',rfl⟩:=ry
  cases x with
  | non=>cases rx;exact Xy.str_none a t'
  | bl b=>cases rx;exact Xy.str_bool a t' b
  | int b=>obtain ⟨t,rfl⟩:=rx;exact Xy.str_int a t' b t
  | str b=>obtain ⟨t,rfl⟩:=rx;exact Xy.str_str a t' b t
  | _=>exact absurd (show false=true from fx) Qr
 | _=>exact absurd (show false=true from fy) Qr
def eqU (x:V) (u:Value):Bool:=match u with
 | .none=>eqV .non x
 | .bool b=>eqV (.bl b) x
 | .int i _=>eqV (.int i) x
 | .str z _=>eqV (.str z) x
 | _=>false
theorem a9f {x y:V} {u:Value} (r:a0s y u) (f:a2T y=true):eqU x u=eqV y x:=by
 cases y with
 | non=>cases r;rfl
 | bl b=>cases r;rfl
 | int i=>obtain ⟨t,rfl⟩:=r;rfl
 | str z=>obtain ⟨t,rfl⟩:=r;rfl
 | _=>exact absurd (show false=true from f) Qr
theorem a4b {x:V}:∀{xs:List V} {us:List Value},a0r xs us→xs.all a2T=true→us.any (eqU x)=xs.any fun y=>eqV y x
 | _,_,.nil,_=>rfl
 | y::xs,u::us,.cons r t,f=>by
  rw [List.all_cons,Xe] at f
  rw [Ji,Ji,a9f r f.1,a4b t f.2]
theorem a3a {A:Around} {s:Shared} {x:V} {v:Value} (rx:a0s x v) (fx:a2T x=true):∀{xs:List V} {us:List Value},a0r xs us→xs.all a2T=true→∀u∈us,Xy A s u v (eqU x u)
 | _,_,.nil,_=>fun u hu=>by cases hu
 | y::xs,u::us,.cons r t,f=>fun u' hu=>by
  rw [List.all_cons,Xe] at f
  rcases Qt.mp hu with rfl | hu
  ·rw [a9f r f.1];exact b0R r rx f.1 fx
  ·exact a3a rx fx t f.2 u' hu
def inV (x:V) (xs:List V):Bool:=xs.any fun y=>eqV y x
def rIn (K:Qa) (neg:Bool):R2:=fun x y H Q=>∃p xs,y=.ref p∧(SqL K H p xs∨SqT K H p xs)∧a2T x=true∧xs.all a2T=true∧Q (.bl (if neg then !inV x xs else inV x xs)) H
theorem a6r:OpR X (compareOp .In) (rIn X.K false):=by
 intro pins s σ H x y v u Q I rx ry h
 obtain ⟨p,xs,rfl,hq,fx,fs,q⟩:=h
 cases ry
 rcases hq with hq | hq
 ·obtain ⟨its,r,pl,hz⟩:=I.list hq
  refine SeqAt.in_listAt (eqU x) pl.isList (fun w hw=>a3a rx fx r fs w (by simpa using hw)) ⟨.bl _,H,I,rfl,?_⟩
  rw [show its.toArray.any (eqU x)=its.any (eqU x) by simp,a4b r fs]
  exact q
 ·obtain ⟨its,r,pl,hz⟩:=I.tuple hq
  refine SeqAt.in_tupleAt (eqU x) pl (fun w hw=>a3a rx fx r fs w (by simpa using hw)) ⟨.bl _,H,I,rfl,?_⟩
  rw [show its.toArray.any (eqU x)=its.any (eqU x) by simp,a4b r fs]
  exact q
theorem a0N.or {f:Value} {r r':List V→Hp→VK→Prop} (h:a0N X f r) (h':a0N X f r'):a0N X f (fun xs H Q=>r xs H Q∨r' xs H Q):=by
 intro pins s σ H xs us Q I rs q
 rcases q with q | q
 ·exact h pins s σ H xs us Q I rs q
 ·exact h' pins s σ H xs us Q I rs q
theorem a3o:a0N X (.type "list") (fun xs H Q=>∃p ys,xs=[.ref p]∧(SqL X.K H p ys∨SqT X.K H p ys)∧∀l,H l=none→Q (.ref l) (upd H l (.lst ys))):=by
 intro pins s σ H xs us Q I r h
 obtain ⟨p,ys,rfl,hq,q⟩:=h
 obtain ⟨u,rfl,rx⟩:=a1N r
 cases rx
 have fin:∀(its:List Value),a0r ys its→ys.length≤sizeLine→∀(h':Heap) (c':Nat),(∀b o',s.heap.get? b=some o'→h'.get? b=some o')→
   h'.get? s.heap.objs.size=some {cls:=.type "list",dict:=none,data:=.seq its.toArray c',slots:=#[]}→EP X pins σ Q (.ref s.heap.objs.size) {s with heap:=h'}:=fun its r' hz h' c' kp e=>
  ⟨.ref s.heap.objs.size,_,I.laid (t':=s.toks) kp (Qg _) (show a0A X.prog X.w _ h' _ (.lst ys) from ⟨hz,its,c',r',e⟩),rfl,q _ (I.hok.fresh (Qg _))⟩
 rcases hq with hq | hq
 ·obtain ⟨its,r',pl,hz⟩:=I.list hq
  have hlen:=r'.length
  obtain ⟨o,ho,hc,n,hd⟩:=pl.isList
  exact call_list_seq p (.inl rfl) ho hc hd (fun h' c' kp e=>fin its r' hz h' c' kp e) (by simp only [Qh]<;>omega)
 ·obtain ⟨its,r',pl,hz⟩:=I.tuple hq
  have hlen:=r'.length
  obtain ⟨o,ho,hc,n,hd⟩:=pl
  exact call_list_seq p (.inr rfl) ho hc hd (fun h' c' kp e=>fin its r' hz h' c' kp e) (by simp only [Qh]<;>omega)
theorem a2V:a0N X (.type "tuple") (fun xs H Q=>∃p ys,xs=[.ref p]∧((SqL X.K H p ys∧∀l,H l=none→Q (.ref l) (upd H l (.tup ys)))∨(SqT X.K H p ys∧Q (.ref p) H))):=by
 intro pins s σ H xs us Q I r h
 obtain ⟨p,ys,rfl,h⟩:=h
 obtain ⟨u,rfl,rx⟩:=a1N r
 cases rx
 rcases h with ⟨hq,q⟩ | ⟨hq,q⟩
 ·obtain ⟨its,r',pl,hz⟩:=I.list hq
  have hlen:=r'.length
  refine call_tuple_list pl.isList (fun h' kp=>?_) (by simp only [Qh]<;>omega)
  have I1:Inv X pins σ H {s with heap:=h'}:=I.kept (t':=s.toks) kp
  have I2:Inv X pins σ (upd H h'.objs.size (.tup ys)) {s with heap:=h'.push {cls:=.type "tuple",data:=.seq its.toArray}}:=
   I1.laid (t':=s.toks) (fun b o e=>Qe _ e) (Qg _) (show a0A X.prog X.w _ _ _ (.tup ys) from ⟨hz,its,r',IsTup.new _ _⟩)
  exact ⟨.ref h'.objs.size,_,I2,rfl,q _ (I1.hok.fresh (Qg _))⟩
 ·obtain ⟨its,r',pl,hz⟩:=I.tuple hq
  exact call_tuple_same pl ⟨.ref p,H,I,rfl,q⟩
def tyV (K:Qa) (T:String) (x:V) (H:Hp):Prop:=match x with
 | .str _=>T="str"
 | .int _=>T="int"
 | .ref p=>(T="list"∧∃xs,SqL K H p xs)∨(T="tuple"∧∃o,K.lookup p=some o∧o.cls=.type "tuple"∧o.dict=none)∨
   (T="dict"∧((∃kvs,H p=some (.dK kvs))∨∃kvs,H p=some (.dT kvs)))∨(T="set"∧∃S n,H p=some (.set S n))
 | _=>False
theorem a8T {pins:List (Addr×Obj)} {σ:St} {H:Hp} {s:Shared} {T:String} {x:V} {v:Value} (I:Inv X pins σ H s) (r:a0s x v) (ty:tyV X.K T x H):
  s.TypeIs v T∧∀a,v=.ref a→∃ob,s.heap.get? a=some ob∧ob.dict=none:=by
 cases x with
 | str z=>
  obtain ⟨t,rfl⟩:=r
  cases (show T="str" from ty)
  exact ⟨typeIs_str s z t,fun _ e=>nomatch e⟩
 | int i=>
  obtain ⟨t,rfl⟩:=r
  cases (show T="int" from ty)
  exact ⟨typeIs_int s i t,fun _ e=>nomatch e⟩
 | ref p=>
  cases r
  rcases ty with ⟨rfl,xs,hq⟩ | ⟨rfl,o,hk,hc,hd⟩ | ⟨rfl,hk⟩ | ⟨rfl,S,n,hk⟩
  ·obtain ⟨its,_,pl,_⟩:=I.list hq
   refine ⟨pl.isList.typeIs,fun a e=>?_⟩
   cases e
   obtain ⟨o,n,e,c,hd,_⟩:=pl
   exact ⟨o,e,hd⟩
  ·refine ⟨⟨o,I.kIn p o hk,hc⟩,fun a e=>?_⟩
   cases e
   exact ⟨o,I.kIn _ o hk,hd⟩
  ·have z:∃o,s.heap.get? p=some o∧o.ExactDict:=by
    rcases hk with ⟨kvs,hk⟩ | ⟨kvs,hk⟩
    ·obtain ⟨_,_,_,_,o,_,_,e,ex,_⟩:=I.hok p _ hk
     exact ⟨o,e,ex⟩
    ·obtain ⟨_,_,_,_,o,_,_,e,ex,_⟩:=I.hok p _ hk
     exact ⟨o,e,ex⟩
   obtain ⟨o,e,ex⟩:=z
   refine ⟨⟨o,e,ex.1⟩,fun a e2=>?_⟩
   cases e2
   exact ⟨o,e,ex.2.1⟩
  ·obtain ⟨o,_,_,_,e,ex,_⟩:=I.hok p _ hk
   refine ⟨⟨o,e,ex.1⟩,fun a e2=>?_⟩
   cases e2
   exact ⟨o,e,ex.2.1⟩
 | _=>exact False.elim ty
def b1b (K:Qa) (T:String) (r:V→List V→Hp→VK→Prop) (to:TE):TE:=fun σ H Q=>to σ H fun x H1=>tyV K T x H1∧r x [] H1 Q
def tBM (K:Qa) (T:String) (r:V→List V→Hp→VK→Prop) (to:TE) (t:TA):TE:=fun σ H Q=>to σ H fun x H1=>tyV K T x H1∧t σ H1 fun xs H2=>r x xs H2 Q
variable {o e:Expr} {es:List Expr} {to:TE} {t:TA} {name:Str} {apos cpos:Pos} {T id:String} {r:V→List V→Hp→VK→Prop}
theorem b2L (pa:PlainAttrs T) (slot:Slot T name id) (hty:typeOf (.builtin id)=pure (.type "method_descriptor")) (hm:MtR X id r) (ho:PE X o to)
  (hbase:attributeBase o name X.env (eval o X.env)=eval o X.env:=by rfl) (hline:(apos.endLine == cpos.line)=true:=by rfl):PE X (.Call (.Attribute o name apos) [] [] cpos) (b1b X.K T r to):=by
 intro pins s σ H Q I h
 refine wpAny_Call_method0_late hbase hline (thn (ho pins s σ H _ I h) fun v s1 ⟨x,H1,I1,r1,ty,q1⟩=>?_)
 obtain ⟨h1,h2⟩:=a8T I1 r1 ty
 exact ⟨T,id,pa,slot,hty,h1,h2,Calls.callWith_builtin rfl (PySem.evalArgs_none (hm pins s1 σ H1 x [] v [] Q I1 r1 .nil q1))⟩
theorem b3R (pa:PlainAttrs T) (slot:Slot T name id) (hty:typeOf (.builtin id)=pure (.type "method_descriptor")) (hm:MtR X id r) (ho:PE X o to) (ha:PA X (e::es) t)
  (hbase:attributeBase o name X.env (eval o X.env)=eval o X.env:=by rfl)
  (hfew:((backTo cpos (starEach (e::es) X.env)).all (fun x=>!x.1) && (backToKw cpos (keywordEach [] X.env)).all (fun x=>x.1.isSome)
   && decide ((e::es).length+([]:List Keyword).length+(if ([]:List Keyword).isEmpty then 0 else 1) < 30))=true:=by rfl)
  (hline:(apos.endLine == cpos.line)=true:=by rfl) (hs:starEach (e::es) X.env=(false,eval e X.env)::starEach es X.env:=by rfl) (hplain:(backTo cpos (starEach es X.env)).any (·.1)=false:=by rfl):
  PE X (.Call (.Attribute o name apos) (e::es) [] cpos) (tBM X.K T r to t):=by
 intro pins s σ H Q I h
 refine wpAny_Call_method_late hbase hfew hline rfl (thn (ho pins s σ H _ I h) fun v s1 ⟨x,H1,I1,r1,ty,q1⟩=>?_)
 obtain ⟨h1,h2⟩:=a8T I1 r1 ty
 refine ⟨T,id,pa,slot,hty,h1,h2,?_⟩
 have hA:=ha cpos pins s1 σ H1 _ I1 q1
 rw [hs] at hA ⊢
 refine Calls.callWith_builtin (by show (false || (backTo cpos (starEach es X.env)).any (·.1))=false;rw [hplain]<;>rfl) (Calls.evalArgs_plain ?_)
 exact thn hA fun us s2 ⟨vs,H2,I2,r2,q2⟩=>hm pins s2 σ H2 x vs v us Q I2 r1 r2 q2
end
def MtM (X:Cx) (id:String) (r:V→List V→Hp→VK→Prop):Prop:=
 ∀(pins:List (Addr×Obj)) (s:Shared) (σ:St) (H:Hp) (x:V) (xs:List V) (v:Value) (us:List Value) (Q:VK),Inv X pins σ H s→a0s x v→a0r xs us→r x xs H Q→
  wpAny (model X.prog X.w) X.A (call (.builtin id) (v::us)) (EP X pins σ Q) X.xe s
theorem a0r.one:∀{x:V} {us:List Value},a0r [x] us→∃u,us=[u]∧a0s x u
 | _,_,.cons r .nil=>⟨_,rfl,r⟩
theorem a0r.zero:∀{us:List Value},a0r [] us→us=[]
 | _,.nil=>rfl
theorem a0r.dropLast {xs:List V} {us:List Value} (h:a0r xs us):a0r xs.dropLast us.dropLast:=by
 induction h with
 | nil=>exact .nil
 | cons r t ih=>
  cases t with
  | nil=>exact .nil
  | cons q t'=>exact .cons r ih
theorem a5v {α:Type} (l:List α):l.eraseIdx (l.length - 1)=l.dropLast:=by
 induction l with
 | nil=>rfl
 | cons a r ih=>
  cases r with
  | nil=>rfl
  | cons b r=>
   have e:(a::b::r).length - 1=((b::r).length - 1)+1:=by
    have h1:(a::b::r).length=r.length+2:=rfl
    have h2:(b::r).length=r.length+1:=rfl
    omega
   rw [e,List.eraseIdx_cons_succ,ih]
   all_goals rfl
section
variable {X:Cx} {pins:List (Addr×Obj)} {σ:St} {H:Hp} {s:Shared} {l b:Addr} {xs ys zs:List V}
theorem Inv.lset {its its':List Value} {n:Nat} {f:Array Value→Array Value} {t':Nat} (I:Inv X pins σ H s) (hH:H l=some (.lst xs))
  (e:s.heap.get? l=some {cls:=.type "list",data:=.seq its.toArray n}) (hf:f its.toArray=its'.toArray) (hv:a0r ys its') (hz:ys.length≤sizeLine):
  Inv X pins σ (upd H l (.lst ys)) {s with heap:=s.heap.update l (Obj.mapSeq f),toks:=t'}:=by
 have q:=PySem.IsL.update e f
 rw [hf] at q
 refine I.write (x:=l) (e:=l) (by rw [hH];exact trivial) (.inl rfl) (fun b' u hb hu=>(Yr s.heap (Obj.mapSeq f) (Ne.symm hb)).trans hu) ⟨_,q⟩ ?_
 exact ⟨hz,its',_,hv,q⟩
theorem Inv.lnew {its:List Value} {t':Nat} (I:Inv X pins σ H s) (hv:a0r ys its) (hz:ys.length≤sizeLine):
  Inv X pins σ (upd H s.heap.objs.size (.lst ys)) {s with heap:=s.heap.push {cls:=.type "list",data:=.seq its.toArray},toks:=t'}:=
 I.laid (fun _ _ q=>Qe _ q) (Qg _) ⟨hz,its,0,hv,Qp _ rfl⟩
theorem Inv.fresh (I:Inv X pins σ H s):H s.heap.objs.size=none:=I.hok.fresh (Qg _)
theorem Inv.lstM (I:Inv X pins σ H s) (hH:H l=some (.lst xs)):xs.length≤sizeLine∧∃(its:List Value) (n:Nat),a0r xs its∧xs.length=its.length∧s.heap.get? l=some {cls:=.type "list",data:=.seq its.toArray n}:=by
 obtain ⟨z,its,n,r,e⟩:=I.hok l _ hH
 exact ⟨z,its,n,r,r.length,e⟩
theorem a4N {n:Nat} (h:n≤sizeLine):Builtin.List.listTooLong n=false:=by
 unfold Builtin.List.listTooLong
 exact decide_eq_false ‹om›
end
section
variable {X:Cx}
def b0i:V→List V→Hp→VK→Prop:=fun x vs H Q=>∃l xs y,x=.ref l∧vs=[y]∧H l=some (.lst xs)∧xs.length < sizeLine∧Q .non (upd H l (.lst (xs++[y])))
theorem a0t:MtM X "list.append" b0i:=by
 intro pins s σ H x vs v us Q I rx rv h
 obtain ⟨l,xs,y,rfl,rfl,hH,hz,q⟩:=h
 cases rx
 obtain ⟨u,rfl,ru⟩:=rv.one
 obtain ⟨z,its,n,r,hl,e⟩:=I.lstM hH
 refine call_meets F.slot_list_append ⟨_,e,rfl⟩ F.entry_list_append (F.args_list_append_2 _ _) (PySem.list_append l its.toArray n u (by rw [Qh];omega)) ⟨e,?_⟩
 refine ⟨.non,_,I.lset (its':=its++[u]) hH e (by simp) (r.append (.cons ru .nil)) ?_,rfl,q⟩
 rw [Ql,Xw]
 omega
def b0u:V→List V→Hp→VK→Prop:=fun x vs H Q=>∃l b xs zs,x=.ref l∧vs=[.ref b]∧H l=some (.lst xs)∧H b=some (.lst zs)∧xs.length+zs.length≤sizeLine∧Q .non (upd H l (.lst (xs++zs)))
theorem a7l:MtM X "list.extend" b0u:=by
 intro pins s σ H x vs v us Q I rx rv h
 obtain ⟨l,b,xs,zs,rfl,rfl,hH,hB,hz,q⟩:=h
 cases rx
 obtain ⟨u,rfl,ru⟩:=rv.one
 cases ru
 obtain ⟨z,its,n,r,hl,e⟩:=I.lstM hH
 obtain ⟨z2,its2,n2,r2,hl2,e2⟩:=I.lstM hB
 have hsz:its.toArray.size+its2.toArray.size≤sizeLine:=by rw [Qh,Qh];omega
 have hlong:¬(!its.toArray.isEmpty && Builtin.List.listTooLong (its.toArray.size+its2.toArray.size))=true:=by
  rw [a4N hsz,Bool.and_false]
  exact Qr
 refine call_meets F.slot_list_extend ⟨_,e,rfl⟩ F.entry_list_extend (F.args_list_extend_2 _ _)
  (AutoSeq1.list_extend_list_list_0 l its.toArray n b its2.toArray n2 hlong (by rw [Qh];omega) ‹om›) ⟨e,e2,?_⟩
 refine ⟨.non,_,I.lset (its':=its++its2) hH e (by simp) (r.append r2) ?_,rfl,q⟩
 rw [Ql]
 omega
def b8Q:V→List V→Hp→VK→Prop:=fun x vs H Q=>∃l xs y,x=.ref l∧vs=[]∧H l=some (.lst xs)∧xs[xs.length - 1]?=some y∧Q y (upd H l (.lst xs.dropLast))
theorem b2d:MtM X "list.pop" b8Q:=by
 intro pins s σ H x vs v us Q I rx rv h
 obtain ⟨l,xs,y,rfl,rfl,hH,hy,q⟩:=h
 cases rx
 have hus:=rv.zero
 subst hus
 obtain ⟨z,its,n,r,hl,e⟩:=I.lstM hH
 obtain ⟨u,hu,ru⟩:=r.get hy
 have hy':its.toArray[its.toArray.size - 1]?=some u:=by
  show its.toArray[its.length - 1]?=some u
  rw [←Ym,←hl]
  exact hu
 refine call_meets F.slot_list_pop ⟨_,e,rfl⟩ F.entry_list_pop (F.args_list_pop_1 _) (MeetsSeq.list_pop_last l its.toArray n u hy' (by rw [Qh];omega)) ⟨e,?_⟩
 refine ⟨y,_,I.lset (its':=its.dropLast) hH e ?_ r.dropLast ?_,ru,q⟩
 ·show its.toArray.eraseIdxIfInBounds (its.toArray.size - 1)=its.dropLast.toArray
  rw [Qh,List.eraseIdxIfInBounds_toArray,a5v]
 ·rw [List.length_dropLast]
  omega
def b1m:V→List V→Hp→VK→Prop:=fun x vs H Q=>∃l xs,x=.ref l∧vs=[]∧H l=some (.lst xs)∧Q .non (upd H l (.lst []))
theorem a1W:MtM X "list.clear" b1m:=by
 intro pins s σ H x vs v us Q I rx rv h
 obtain ⟨l,xs,rfl,rfl,hH,q⟩:=h
 cases rx
 have hus:=rv.zero
 subst hus
 obtain ⟨z,its,n,r,hl,e⟩:=I.lstM hH
 refine call_meets F.slot_list_clear ⟨_,e,rfl⟩ F.entry_list_clear (F.args_list_clear_1 _) (AutoSeq1.list_clear_list_0 l its.toArray n (by rw [Qh];omega)) ⟨e,?_⟩
 exact ⟨.non,_,I.lset (its':=[]) (ys:=[]) hH e rfl .nil (Xl _),rfl,q⟩
def b4k:R2:=fun x y H Q=>∃l b xs zs,x=.ref l∧y=.ref b∧H l=some (.lst xs)∧H b=some (.lst zs)∧xs.length+zs.length≤sizeLine∧∀p,H p=none→Q (.ref p) (upd H p (.lst (xs++zs)))
theorem b2N:OpR X (binaryOp .Add) b4k:=by
 intro pins s σ H x y v u Q I rx ry h
 obtain ⟨l,b,xs,zs,rfl,rfl,hH,hB,hz,q⟩:=h
 cases rx
 cases ry
 obtain ⟨z,its,n,r,hl,e⟩:=I.lstM hH
 obtain ⟨z2,its2,n2,r2,hl2,e2⟩:=I.lstM hB
 refine PySem.P.add_list e e2 ?_ (by rw [Qh,Qh];omega)
 have ea:its.toArray++its2.toArray=(its++its2).toArray:=by simp
 rw [ea]
 exact ⟨.ref _,_,I.lnew (t':=s.toks) (r.append r2) (by rw [Ql];omega),rfl,q _ I.fresh⟩
end
section
variable {prog:Program} {w:World} {A:Around} {E:Value→Shared→Prop} {s:Shared}
set_option maxRecDepth 100000 in
end
section
variable {κ:Type} [DecidableEq κ]
def a0E (kvs:List (κ×V)) (k:κ):Option V:=(kvs.find? fun kv=>decide (kv.1=k)).map (·.2)
def a1J (kvs:List (κ×V)) (k:κ) (v:V):List (κ×V):=
 if (kvs.any fun kv=>decide (kv.1=k))=true then kvs.map (fun kv=>if kv.1=k then (kv.1,v) else kv) else kvs++[(k,v)]
def b0Z (kvs:List (κ×V)) (k:κ):List (κ×V):=kvs.filter fun kv=>decide (kv.1≠k)
theorem a0v {p:κ×V} {r:List (κ×V)} {k:κ} (e:p.1=k):a0E (p::r) k=some p.2:=by simp [a0E,Zk,e]
theorem a0w {p:κ×V} {r:List (κ×V)} {k:κ} (e:¬p.1=k):a0E (p::r) k=a0E r k:=by simp [a0E,Zk,e]
theorem a1D (k:κ):∀kvs:List (κ×V),(kvs.any fun kv=>decide (kv.1=k))=(a0E kvs k).isSome
 | []=>rfl
 | p::r=>by
  rw [Ji]
  by_cases e:p.1=k
  ·simp only [a0v e,decide_eq_true e,Bool.true_or,Vv]
  ·rw [a0w e,decide_eq_false e,Bool.false_or];exact a1D k r
theorem a4Q (k j:κ) (y:V):∀kvs:List (κ×V),a0E (kvs.map fun kv=>if kv.1=k then (kv.1,y) else kv) j=(a0E kvs j).map fun x=>if j=k then y else x
 | []=>rfl
 | p::r=>by
  have ih:=a4Q k j y r
  rw [Xp]
  by_cases h:p.1=k
  ·rw [if_pos h]
   by_cases e:p.1=j
   ·rw [a0v (p:=(p.1,y)) e,a0v e,Jq,if_pos (e.symm.trans h)]
   ·rw [a0w (p:=(p.1,y)) e,a0w e,ih]
  ·rw [if_neg h]
   by_cases e:p.1=j
   ·rw [a0v (p:=p) e,a0v e,Jq,if_neg (fun z=>h (e.trans z))]
   ·rw [a0w (p:=p) e,a0w e,ih]
theorem a3B (k j:κ) (y:V):∀kvs:List (κ×V),a0E kvs k=none→a0E (kvs++[(k,y)]) j=if j=k then some y else a0E kvs j
 | [],_=>by
  by_cases e:k=j
  ·rw [if_pos e.symm];exact a0v (p:=(k,y)) e
  ·rw [if_neg (fun z=>e z.symm)];exact a0w (p:=(k,y)) e
 | p::r,hn=>by
  rw [List.cons_append]
  have hk:¬p.1=k:=fun z=>by rw [a0v z] at hn;cases hn
  rw [a0w hk] at hn
  have ih:=a3B k j y r hn
  by_cases e:p.1=j
  ·rw [a0v e,a0v e,if_neg (fun z=>hk (e.trans z))]
  ·rw [a0w e,a0w e,ih]
theorem a1g (kvs:List (κ×V)) (k j:κ) (y:V):a0E (a1J kvs k y) j=if j=k then some y else a0E kvs j:=by
 unfold a1J
 by_cases a:(kvs.any fun kv=>decide (kv.1=k))=true
 ·rw [if_pos a,a4Q]
  rw [a1D] at a
  by_cases e:j=k
  ·obtain ⟨x,hx⟩:=Uj.mp a
   rw [if_pos e,e,hx,Jq,if_pos rfl]
  ·rw [if_neg e]
   cases a0E kvs j with
   | none=>rfl
   | some x=>rw [Jq,if_neg e]
 ·rw [if_neg a]
  refine a3B k j y kvs ?_
  rw [a1D] at a
  cases q:a0E kvs k with
  | none=>rfl
  | some x=>rw [q] at a;exact (a rfl).elim
theorem a0x (kvs:List (κ×V)) (k:κ) (v:V):(a1J kvs k v).length≤kvs.length+1:=by
 unfold a1J
 split
 ·rw [Qc];omega
 ·rw [Ql,Qm,Xf];omega
theorem a3b.isSome_eq {o:Option V} {u:Option Value} (r:a3b o u):o.isSome=u.isSome:=by
 cases o with
 | none=>cases u with
  | none=>rfl
  | some _=>exact (show False from r).elim
 | some _=>cases u with
  | none=>exact (show False from r).elim
  | some _=>rfl
theorem a3b.getD {o:Option V} {u:Option Value} {d:V} {d':Value} (r:a3b o u) (rd:a0s d d'):a0s (o.getD d) (u.getD d'):=by
 cases o with
 | none=>cases u with
  | none=>exact rd
  | some _=>exact (show False from r).elim
 | some _=>cases u with
  | none=>exact (show False from r).elim
  | some _=>exact r
theorem KV.val {kvs:List (κ×V)} {vs:List (κ×Value)} (r:KV kvs vs) (k:κ):a3b (a0E kvs k) (valueAt vs k):=by
 unfold KV at r
 induction r with
 | nil=>exact True.intro
 | @cons p q ps qs h t ih=>
  obtain ⟨h1,h2⟩:=h
  by_cases e:p.1=k
  ·have e':q.1=k:=h1.symm.trans e
   have b:valueAt (q::qs) k=some q.2:=by simp [valueAt,Zk,e']
   rw [a0v e,b];exact h2
  ·have e':¬q.1=k:=fun z=>e (h1.trans z)
   have b:valueAt (q::qs) k=valueAt qs k:=by simp [valueAt,Zk,e']
   rw [a0w e,b];exact ih
theorem KV.any {kvs:List (κ×V)} {vs:List (κ×Value)} (r:KV kvs vs) (k:κ):(kvs.any fun kv=>decide (kv.1=k))=vs.any fun kv=>decide (kv.1=k):=by
 unfold KV at r
 induction r with
 | nil=>rfl
 | cons h t ih=>rw [Ji,Ji,ih,h.1]
theorem KV.repl {kvs:List (κ×V)} {vs:List (κ×Value)} (r:KV kvs vs) (k:κ) {y:V} {u:Value} (ry:a0s y u):
  KV (kvs.map fun kv=>if kv.1=k then (kv.1,y) else kv) (vs.map fun kv=>if kv.1=k then (kv.1,u) else kv):=by
 unfold KV at r ⊢
 induction r with
 | nil=>exact .nil
 | @cons p q ps qs h t ih=>
  rw [Xp,Xp]
  refine .cons ?_ ih
  obtain ⟨h1,h2⟩:=h
  by_cases e:p.1=k
  ·rw [if_pos e,if_pos (h1.symm.trans e)];exact ⟨h1,ry⟩
  ·rw [if_neg e,if_neg (fun z=>e (h1.trans z))];exact ⟨h1,h2⟩
theorem KV.put {kvs:List (κ×V)} {vs:List (κ×Value)} (r:KV kvs vs) (k:κ) {y:V} {u:Value} (ry:a0s y u):KV (a1J kvs k y) (stored vs k u):=by
 unfold a1J stored
 rw [r.any k]
 by_cases e:(vs.any fun kv=>decide (kv.1=k))=true
 ·rw [if_pos e,if_pos e];exact r.repl k ry
 ·rw [if_neg e,if_neg e];exact Paired.snoc r ⟨rfl,ry⟩
theorem KV.drop {kvs:List (κ×V)} {vs:List (κ×Value)} (r:KV kvs vs) (k:κ):KV (b0Z kvs k) (without vs k):=by
 unfold KV at r ⊢
 unfold b0Z without
 induction r with
 | nil=>exact .nil
 | @cons p q ps qs h t ih=>
  obtain ⟨h1,h2⟩:=h
  rw [Zf,Zf]
  by_cases e:p.1=k
  ·have a:¬decide (p.1≠k)=true:=by simp [e]
   have b:¬decide (q.1≠k)=true:=by simp [h1.symm.trans e]
   rw [if_neg a,if_neg b];exact ih
  ·have e':¬q.1=k:=fun z=>e (h1.trans z)
   have a:decide (p.1≠k)=true:=by simp [e]
   have b:decide (q.1≠k)=true:=by simp [e']
   rw [if_pos a,if_pos b];exact .cons ⟨h1,h2⟩ ih
theorem KV.length {kvs:List (κ×V)} {vs:List (κ×Value)} (r:KV kvs vs):kvs.length=vs.length:=Paired.length r
end
theorem a7G {P:Program} {w:World} {k:Key} {u:Value} (r:a0s (kV k) u):(a0p P w).is k u=true:=by
 cases k with
 | inl i=>obtain ⟨t,e⟩:=(show ∃t,u=Value.int i t from r);subst e;exact a4h P w i t
 | inr x=>obtain ⟨t,e⟩:=(show ∃t,u=Value.str x t from r);subst e;exact a2g P w x t
theorem a3G {P:Program} {w:World}:∀{ks:List Key} {us:List Value},a0r (ks.map kV) us→ItemsAre (a0p P w) ks us
 | [],_,r=>by rw [Ul] at r;cases r;exact .nil
 | k::ks,_,r=>by
  rw [Xp] at r
  cases r with
  | cons h t=>exact .cons (a7G h) (a3G t)
abbrev KT (H:Hp):List (List Key×V)→List (List Key×Addr×Value)→Prop:=Paired fun p q=>p.1=q.1∧H q.2.1=some (.tup (p.1.map kV))∧a0s p.2 q.2.2
theorem KT.val {H:Hp} {kvs:List (List Key×V)} {xs:List (List Key×Addr×Value)} (r:KT H kvs xs) (k:List Key):a3b (a0E kvs k) ((atKey xs k).map (·.2)):=by
 induction r with
 | nil=>exact True.intro
 | @cons p q ps qs h t ih=>
  obtain ⟨h1,_,h2⟩:=h
  by_cases e:p.1=k
  ·have e':q.1=k:=h1.symm.trans e
   have b:atKey (q::qs) k=some q.2:=by simp [atKey,Zk,e']
   rw [a0v e,b];exact h2
  ·have e':¬q.1=k:=fun z=>e (h1.trans z)
   have b:atKey (q::qs) k=atKey qs k:=by simp [atKey,Zk,e']
   rw [a0w e,b];exact ih
theorem KT.repl {H:Hp} {kvs:List (List Key×V)} {xs:List (List Key×Addr×Value)} (r:KT H kvs xs) (k:List Key) {y:V} {u:Value} (ry:a0s y u):
  KT H (kvs.map fun kv=>if kv.1=k then (kv.1,y) else kv) (xs.map (putAt k u)):=by
 induction r with
 | nil=>exact .nil
 | @cons p q ps qs h t ih=>
  rw [Xp,Xp]
  refine .cons ?_ ih
  obtain ⟨h1,h2,h3⟩:=h
  unfold putAt
  by_cases e:p.1=k
  ·rw [if_pos e,if_pos (h1.symm.trans e)];exact ⟨h1,h2,ry⟩
  ·rw [if_neg e,if_neg (fun z=>e (h1.trans z))];exact ⟨h1,h2,h3⟩
theorem KT.put {H:Hp} {kvs:List (List Key×V)} {xs:List (List Key×Addr×Value)} (r:KT H kvs xs) (k:List Key) {b:Addr} {y:V} {u:Value} (hb:H b=some (.tup (k.map kV))) (ry:a0s y u):
  KT H (a1J kvs k y) (storedH xs k b u):=by
 have e:(kvs.any fun kv=>decide (kv.1=k))=(atKey xs k).isSome:=by
  rw [a1D,(r.val k).isSome_eq,Vz]
 unfold a1J storedH
 rw [e]
 by_cases q:(atKey xs k).isSome=true
 ·rw [if_pos q,if_pos q];exact r.repl k ry
 ·rw [if_neg q,if_neg q];exact Paired.snoc r ⟨rfl,hb,ry⟩
theorem KT.keeps {H H':Hp} {kvs:List (List Key×V)} {xs:List (List Key×Addr×Value)} (r:KT H kvs xs) (ht:∀b ys,H b=some (.tup ys)→H' b=some (.tup ys)):KT H' kvs xs:=
 Paired.mapP r fun _ _ z=>⟨z.1,ht _ _ z.2.1,z.2.2⟩
section
variable {P:Program} {w:World} {H:Hp} {h:Heap} {a:Addr}
theorem b2K {u:HO} (ok:HOk P w H h) (e:Rd H a u):a0A P w H h a u:=e.ok ok
theorem a4W {kvs:List (Key×V)} (ok:HOk P w H h) (e:Rd H a (.dK kvs)):kvs.length≤sizeLine∧(a == sysModules)=false∧∃vs,KV kvs vs∧h.DictOf (a0p P w) a vs:=
 show a0A P w H h a (.dK kvs) from b2K ok e
theorem b1Y {kvs:List (Key×V)} (ok:HOk P w H h) (e:H a=some (.dK kvs)):kvs.length≤sizeLine∧(a == sysModules)=false∧∃vs,KV kvs vs∧h.DictOf (a0p P w) a vs:=a4W ok (.inl e)
theorem a4t {ks:List Key} (ok:HOk P w H h) (e:H a=some (.tup (ks.map kV))):(tupleKind (a0p P w)).is h ks a:=by
 obtain ⟨_,its,r,o,h1,h2,n,h3⟩:=(show a0A P w H h a (.tup (ks.map kV)) from ok a _ e)
 exact ⟨o,its.toArray,n,h1,h2,h3,by simpa using a3G r⟩
theorem a8P {kvs:List (List Key×V)} (ok:HOk P w H h) (e:Rd H a (.dT kvs)):kvs.length≤sizeLine∧(a == sysModules)=false∧
  ∃xs,KT H kvs xs∧h.DictOfH (tupleKind (a0p P w)) a xs:=by
 obtain ⟨z,y,xs,r,o,es,ep,h1,h2,h3,h4,h5⟩:=(show a0A P w H h a (.dT kvs) from b2K ok e)
 refine ⟨z,y,xs,r,o,es,ep,h1,h2,h3,h4,fun x hx=>?_,h5⟩
 have all:∀{l:List (List Key×V)} {m:List (List Key×Addr×Value)},KT H l m→∀x∈m,(tupleKind (a0p P w)).is h x.1 x.2.1:=by
  intro l m q
  induction q with
  | nil=>intro x hx;exact nomatch hx
  | @cons p q ps qs hq t ih=>
   intro x hx
   rcases Qt.mp hx with e | hx
   ·subst e
    exact a4t ok (by rw [←hq.1];exact hq.2.1)
   ·exact ih x hx
 exact all r x hx
theorem b3O {kvs:List (List Key×V)} (ok:HOk P w H h) (e:H a=some (.dT kvs)):kvs.length≤sizeLine∧(a == sysModules)=false∧
  ∃xs,KT H kvs xs∧h.DictOfH (tupleKind (a0p P w)) a xs:=a8P ok (.inl e)
end
def a7h (H:Hp) (a:Addr) (y:V) (r:Option V):Prop:=
 (∃kvs k,Rd H a (.dK kvs)∧y=kV k∧r=a0E kvs k)∨∃kvs k b,Rd H a (.dT kvs)∧y=.ref b∧H b=some (.tup (k.map kV))∧r=a0E kvs k
def a8w (H:Hp) (a:Addr) (y v:V) (H':Hp):Prop:=
 (∃kvs k,H a=some (.dK kvs)∧y=kV k∧kvs.length < sizeLine∧H'=upd H a (.dK (a1J kvs k v)))∨
 ∃kvs k b,H a=some (.dT kvs)∧y=.ref b∧H b=some (.tup (k.map kV))∧kvs.length < sizeLine∧H'=upd H a (.dT (a1J kvs k v))
theorem a7h.k {H:Hp} {a:Addr} {kvs:List (Key×V)} {k:Key} (e:H a=some (.dK kvs)):a7h H a (kV k) (a0E kvs k):=.inl ⟨kvs,k,.inl e,rfl,rfl⟩
theorem a7h.t {H:Hp} {a b:Addr} {kvs:List (List Key×V)} {k:List Key} (e:H a=some (.dT kvs)) (eb:H b=some (.tup (k.map kV))):a7h H a (.ref b) (a0E kvs k):=.inr ⟨kvs,k,b,.inl e,rfl,eb,rfl⟩
theorem a8w.k {H:Hp} {a:Addr} {kvs:List (Key×V)} {k:Key} {v:V} (e:H a=some (.dK kvs)) (hl:kvs.length < sizeLine):a8w H a (kV k) v (upd H a (.dK (a1J kvs k v))):=.inl ⟨kvs,k,e,rfl,hl,rfl⟩
theorem a8w.t {H:Hp} {a b:Addr} {kvs:List (List Key×V)} {k:List Key} {v:V} (e:H a=some (.dT kvs)) (eb:H b=some (.tup (k.map kV))) (hl:kvs.length < sizeLine):
  a8w H a (.ref b) v (upd H a (.dT (a1J kvs k v))):=.inr ⟨kvs,k,b,e,rfl,eb,hl,rfl⟩
section
variable {X:Cx} {pins:List (Addr×Obj)} {σ:St} {H:Hp} {s:Shared} {a:Addr} {y v:V} {u r:Value} {o:Option V} {A:Around} {E:Value→Shared→Prop}
theorem Inv.big (I:Inv X pins σ H s):sysModules < s.heap.objs.size:=by
 have h:mainGlobals < s.heap.objs.size:=(I.mod.glob.keeps I.bk).lt
 exact Um ‹dc› h
theorem a9G {Q:Value→Shared→Prop} (hu:A.units+1 < cLine) (I:Inv X pins σ H s) (g:a7h H a y o) (ry:a0s y u) (h:∀s',Inv X pins σ H s'→Q (.bool (!o.isSome)) s'):
  wpAny (model X.prog X.w) A (compareOp .NotIn u (.ref a)) Q E s:=by
 rcases g with ⟨kvs,k,e,ey,l⟩ | ⟨kvs,k,b,e,ey,eb,l⟩
 ·subst ey
  obtain ⟨z,hd,vs,rel,dd⟩:=a4W I.hok e
  refine wpAny_notIn_of (a7G ry) hd dd.mapOf ?_
  rw [←(rel.val k).isSome_eq,←l]
  exact h _ (I.tok _)
 ·subst ey
  cases (show u=Value.ref b from ry)
  obtain ⟨z,hd,xs,rel,dd⟩:=a8P I.hok e
  refine wpAny_notIn_heap (tupleKind_room_in1 hu) (a4t I.hok eb) hd dd ?_
  have q:=(rel.val k).isSome_eq
  rw [Vz] at q
  rw [←q,←l]
  exact h _ (I.tok _)
theorem a3W {h':Heap} {t':Nat} {ob:HO} (I:Inv X pins σ H s) (mu:Mut (H a)) (hs:Xs a s.heap h') (he:∃q,h'.get? a=some q) (new:a0A X.prog X.w (upd H a ob) h' a ob):
  Inv X pins σ (upd H a ob) {s with heap:=h',toks:=t'}:=
 I.write (x:=a) (e:=a) mu (.inl rfl) (fun b q hb z=>(hs.2 b hb).trans z) he new
theorem a9s {P:Program} {w:World} {H':Hp} {h':Heap} {kvs:List (Key×V)} {vs:List (Key×Value)} (z:kvs.length≤sizeLine) (hd:(a == sysModules)=false) (rel:KV kvs vs) (dd:h'.DictOf (a0p P w) a vs):
  a0A P w H' h' a (.dK kvs):=⟨z,hd,vs,rel,dd⟩
theorem a7v {H':Hp} {Q:Unit→Shared→Prop} (hu:A.units+1 < cLine) (I:Inv X pins σ H s) (g:a8w H a y v H') (ry:a0s y u) (rv:a0s v r) (h:∀s',Inv X pins σ H' s'→Q () s'):
  wpAny (model X.prog X.w) A (setItem (.ref a) u r) Q E s:=by
 rcases g with ⟨kvs,k,e,ey,l,eH⟩ | ⟨kvs,k,b,e,ey,eb,l,eH⟩
 ·subst ey eH
  obtain ⟨z,hd,vs,rel,dd⟩:=b1Y I.hok e
  have hz:vs.length≤sizeLine:=by rw [←rel.length];exact z
  have hl:(a1J kvs k v).length≤sizeLine:=by have:=a0x kvs k v;omega
  refine wpAny_setItem_pairs (hsz:=hz) (a7G ry) dd fun h' dd' hs=>h _ ?_
  have he:∃q,h'.get? a=some q:=let ⟨q,_,_,hq,_⟩:=dd';⟨q,hq⟩
  exact a3W I (by rw [e];exact True.intro) hs he (a9s hl hd (rel.put k rv) dd')
 ·subst ey eH
  cases (show u=Value.ref b from ry)
  obtain ⟨z,hd,xs,rel,dd⟩:=b3O I.hok e
  have hz:xs.length≤sizeLine:=by rw [←Paired.length rel];exact z
  have hl:(a1J kvs k v).length≤sizeLine:=by have:=a0x kvs k v;omega
  refine wpAny_setItem_heap (hsz:=hz) (tupleKind_room_in1 hu) (a4t I.hok eb) dd fun h' dd' hs=>h _ ?_
  obtain ⟨q,es,ep,hq,h2,h3,h4,_,h5⟩:=dd'
  refine a3W I (by rw [e];exact True.intro) hs ⟨q,hq⟩ ⟨hl,hd,_,(rel.put k eb rv).keeps fun c ys ec=>?_,q,es,ep,hq,h2,h3,h4,h5⟩
  rw [a0a (a0G ec e (fun z=>nomatch z))]
  exact ec
end
section
variable {X:Cx} {pins:List (Addr×Obj)} {σ:St} {H:Hp} {s:Shared} {a:Addr} {kvs:List (Key×V)} {k:Key} {u:Value} {A:Around} {E:Value→Shared→Prop}
theorem b3P {Q:Value→Shared→Prop} (I:Inv X pins σ H s) (e:Rd H a (.dK kvs)) (h:∀t s',Inv X pins σ H s'→Q (.int kvs.length t) s'):wpAny (model X.prog X.w) A (call (.builtin "len") [.ref a]) Q E s:=by
 obtain ⟨z,hd,vs,rel,dd⟩:=a4W I.hok e
 refine call_len_dict hd dd (by rw [←rel.length];rw [sizeLine_eq] at z;omega) ?_
 rw [←rel.length]
 exact h _ _ (I.tok _)
end
def a7j (ty td:TE):TE:=fun σ H Q=>ty σ H fun y H1=>td σ H1 fun x H2=>∃a o,x=.ref a∧a7h H2 a y o∧Q (.bl (!o.isSome)) H2
def a9M (td ty tv:TE):TS:=fun D σ H=>tv σ H fun v H1=>td σ H1 fun x H2=>ty σ H2 fun y H3=>∃a H4,x=.ref a∧a8w H3 a y v H4∧D.nx σ H4
section
variable {X:Cx} {o i e value:Expr} {pos pos' tpos:Pos} {td ty tv:TE}
theorem a6Y (hu:X.A.units+1 < cLine) (hi:PE X i ty) (ho:PE X o td):PC X .NotIn i o (a7j ty td):=by
 intro pins s σ H Q I h
 refine thn (hi pins s σ H _ I h) fun iv s1 ⟨y,H1,I1,ry,q1⟩=>thn (ho pins s1 σ H1 _ I1 q1) fun u s2 ⟨x,H2,I2,rx,a,ov,ex,g,q2⟩=>?_
 subst ex
 obtain rfl:u=Value.ref a:=rx
 exact a9G hu I2 g ry fun s3 I3=>⟨.bl (!ov.isSome),H2,I3,rfl,q2⟩
theorem a9Z (hu:X.A.units+1 < cLine) (ho:PE X o td) (hi:PE X i ty) (hv:PE X value tv) (hs:swapsWith value (some (.Subscript o i pos')) pos.line X.env=pure false):
  PS X (.Assign [.Subscript o i pos'] value pos) (a9M td ty tv):=by
 intro pins s σ H D I h
 refine wpAny_Assign_Subscript (thn (hv pins s σ H _ I h) fun r s1 ⟨v,H1,I1,rv,q1⟩=>thn (ho pins s1 σ H1 _ I1 q1) fun u s2 ⟨x,H2,I2,rx,q2⟩=>thn (hi pins s2 σ H2 _ I2 q2) fun iv s3 ⟨y,H3,I3,ry,a,H4,ex,g,q3⟩=>?_) hs
 subst ex
 obtain rfl:u=Value.ref a:=rx
 exact a7v hu I3 g ry rv fun s4 I4=>⟨σ,H4,I4,q3⟩
end
theorem a8f {P:Program} {w:World} {H:Hp} (h:Heap) (hb:sysModules < h.objs.size):a0A P w H (h.push {cls:=.type "dict",data:=.dict #[]}) h.objs.size (.dK []):=
 ⟨Xl _,beq_eq_false_iff_ne.mpr (Ne.symm (Qw hb)),[],.nil,Heap.DictOf.new h⟩
theorem a7X {P:Program} {w:World} {H:Hp} (h:Heap) (hb:sysModules < h.objs.size):a0A P w H (h.push {cls:=.type "dict",data:=.dict #[]}) h.objs.size (.dT []):=
 ⟨Xl _,beq_eq_false_iff_ne.mpr (Ne.symm (Qw hb)),[],.nil,_,#[],0,Qp _ rfl,⟨rfl,rfl,rfl⟩,rfl,rfl,Zd⟩
def a3J:TE:=fun _ H Q=>∀p,H p=none→Q (.ref p) (upd H p (.dK []))
def b2o:TE:=fun _ H Q=>∀p,H p=none→Q (.ref p) (upd H p (.dT []))
section
variable {X:Cx} {pos:Pos}
theorem a7V:PE X (.Dict [] [] pos) a3J:=fun pins s σ H Q I h=>
 wpAny_Dict_empty ⟨.ref s.heap.objs.size,_,I.laid (a:=s.heap.objs.size) (o:=.dK []) (t':=s.toks) (fun _ _ q=>Qe _ q) (Qg _) (a8f s.heap I.big),rfl,h _ (I.hok.fresh (Qg _))⟩
theorem a8I:PE X (.Dict [] [] pos) b2o:=fun pins s σ H Q I h=>
 wpAny_Dict_empty ⟨.ref s.heap.objs.size,_,I.laid (a:=s.heap.objs.size) (o:=.dT []) (t':=s.toks) (fun _ _ q=>Qe _ q) (Qg _) (a7X s.heap I.big),rfl,h _ (I.hok.fresh (Qg _))⟩
end
structure M2 (X:Cx) (o:Expr) (m:Str) (apos:Pos) (e f:Expr) (cpos:Pos):Prop where
 base:attributeBase o m X.env (eval o X.env)=eval o X.env
 few:((backTo cpos (starEach [e,f] X.env)).all (fun x=>!x.1) && (backToKw cpos (keywordEach [] X.env)).all (fun x=>x.1.isSome)
  && decide (([e,f]:List Expr).length+([]:List Keyword).length+(if ([]:List Keyword).isEmpty then 0 else 1) < 30))=true
 line:(apos.endLine == cpos.line)=true
 trees:backTo cpos (starEach [e,f] X.env)=[(false,eval e X.env),(false,eval f X.env)]
def IsD (H:Hp) (a:Addr):Prop:=(∃kvs,Rd H a (.dK kvs))∨∃kvs,Rd H a (.dT kvs)
theorem a9g {X:Cx} {pins:List (Addr×Obj)} {σ:St} {H:Hp} {s:Shared} {a:Addr} (I:Inv X pins σ H s) (d:IsD H a):
  s.TypeIs (.ref a) "dict"∧(∀b,Value.ref a=.ref b→∃ob,s.heap.get? b=some ob∧ob.dict=none)∧(a == sysModules)=false:=by
 rcases d with ⟨kvs,e⟩ | ⟨kvs,e⟩
 ·obtain ⟨_,hd,vs,_,dd⟩:=a4W I.hok e
  refine ⟨dd.typeIs,fun b q=>?_,hd⟩
  cases q
  obtain ⟨ob,_,_,h1,h2,_⟩:=dd
  exact ⟨ob,h1,h2.2.1⟩
 ·obtain ⟨_,hd,xs,_,dd⟩:=a8P I.hok e
  refine ⟨dd.typeIs,fun b q=>?_,hd⟩
  cases q
  obtain ⟨ob,_,_,h1,h2,_⟩:=dd
  exact ⟨ob,h1,h2.2.1⟩
section
variable {X:Cx} {pins:List (Addr×Obj)} {σ:St} {H:Hp} {s:Shared} {a:Addr} {y d:V} {u r:Value} {o:Option V} {A:Around} {E:Value→Shared→Prop}
theorem b2E {Q:Value→Shared→Prop} (hu:A.units+1 < cLine) (I:Inv X pins σ H s) (g:a7h H a y o) (ry:a0s y u) (rd:a0s d r) (h:∀w' s',Inv X pins σ H s'→a0s (o.getD d) w'→Q w' s'):
  wpAny (model X.prog X.w) A (call (.builtin "dict.get") [.ref a,u,r]) Q E s:=by
 rcases g with ⟨kvs,k,e,ey,l⟩ | ⟨kvs,k,b,e,ey,eb,l⟩
 ·subst ey
  obtain ⟨z,hd,vs,rel,dd⟩:=a4W I.hok e
  refine call_meetsIn Jn dd.typeIs Vb (Us _ _ _) (meets_dict_get_default (a0p X.prog X.w) a (a7G ry) hd r) ⟨_,dd.mapOf,h _ _ (I.tok _) ?_⟩
  rw [l]
  exact (rel.val k).getD rd
 ·subst ey
  cases (show u=Value.ref b from ry)
  obtain ⟨z,hd,xs,rel,dd⟩:=a8P I.hok e
  refine call_meetsIn Jn dd.typeIs Vb (Us _ _ _) (meetsH_dict_get_default (tupleKind (a0p X.prog X.w)) a b hd r) ⟨tupleKind_room_in1 hu,k,xs,a4t I.hok eb,dd,h _ _ (I.tok _) ?_⟩
  rw [l]
  exact (rel.val k).getD rd
end
def a9n (td ty tx:TE):TE:=fun σ H Q=>td σ H fun x H1=>∃a,x=.ref a∧IsD H1 a∧ty σ H1 fun y H2=>tx σ H2 fun z H3=>∃o,a7h H3 a y o∧Q (o.getD z) H3
section
variable {X:Cx} {o e f:Expr} {apos cpos:Pos} {td ty tx:TE}
theorem a8c (hu:X.A.units+1 < cLine) (ho:PE X o td) (he:PE X e ty) (hf:PE X f tx) (m:M2 X o "get" apos e f cpos):PE X (.Call (.Attribute o "get" apos) [e,f] [] cpos) (a9n td ty tx):=by
 intro pins s σ H Q I h
 refine wpAny_Call_method m.base m.few m.line Ut Jn PySem.F.type_dict_get (thn (ho pins s σ H _ I h) fun u s1 ⟨x,H1,I1,rx,a,ex,d,q1⟩=>?_)
 subst ex
 obtain rfl:u=Value.ref a:=rx
 obtain ⟨t1,t2,_⟩:=a9g I1 d
 refine ⟨t1,t2,?_⟩
 rw [m.trees]
 refine Calls.callWith_builtin rfl (Calls.evalArgs_plain (Calls.spliced_cons (thn (he pins s1 σ H1 _ I1 q1) fun iv s2 ⟨y,H2,I2,ry,q2⟩=>
  Calls.spliced_cons (thn (hf pins s2 σ H2 _ I2 q2) fun fv s3 ⟨z,H3,I3,rz,ov,g,q3⟩=>Calls.spliced_nil ?_))))
 exact b2E hu I3 g ry rz fun w' s4 I4 rw'=>⟨_,H3,I4,rw',q3⟩
end
end L2
namespace Att
open PySem PySem.W PySem.Calls PyProof.Rows
theorem a2p {P:Params} {h:Heap}:∀(ns:List Int) (vs:List Value),WellAll P h vs (ns.map WData.int)→IntsAre vs ns:=by
 intro ns
 induction ns with
 | nil=>
  intro vs w
  rw [Ul] at w
  cases w
  exact .nil
 | cons n ns ih=>
  intro vs w
  rw [Xp] at w
  cases w with
  | cons a b=>
   cases a
   exact .cons _ _ (ih _ b)
theorem a6Z {l:OpenLaw} {n:Nat} (hn:l.most=some n) {P:Params} {h:Heap} {args:List WData} {vals:List Value}
  (hpre:l.row.toRowW.claim.pre args=true) (hwl:WellAll P h vals args):
  ∃a vs ns,vals=[Value.ref a]∧args=[WData.list (ns.map WData.int)]∧h.get? a=some {cls:=.type "list",data:=.seq vs.toArray}∧IntsAre vs ns∧ns.length≤n:=by
 have hsh:WShape.hasAll [] args [.list .int]=true:=(pre_splitW hpre).1
 have hc:l.pre.holds [] {args:=args}=true:=(pre_splitW hpre).2
 obtain ⟨d,r,rfl,h1,h2⟩:=hasAllW_cons hsh
 obtain rfl:=hasAllW_nil h2
 obtain ⟨xs,rfl,h3⟩:=hasW_list h1
 obtain ⟨ns,rfl⟩:=items_int h3
 have hlen:ns.length≤n:=by
  unfold OpenLaw.pre at hc
  have h4:(WTm.not (.lt (.lit (.int (n:Int))) (.len (.arg 0)))).holds [] {args:=[.list (ns.map .int)]}=true:=by
   have h4:=(holds_andW hc).1
   rw [hn] at h4
   exact h4
  have h5:=condW_of h4 (w_not (w_lt w_lit (w_len_list (w_arg rfl))))
  rw [Qc] at h5
  refine Nat.le_of_not_lt fun q=>?_
  have q':(n:Int) < ((ns.length:Nat):Int):=by omega
  first
   | (rw [decide_eq_true q'] at h5;exact absurd h5 ‹dc›)
   | (simp at h5;omega)
 cases hwl with
 | cons w1 w2=>
  cases w2
  cases w1 with
  | list ho hall=>exact ⟨_,_,ns,rfl,rfl,ho,a2p ns _ hall,hlen⟩
theorem a7L (l:OpenLaw) (args:List WData):l.row.toRowW.claim.post args (.bool true) args=true:=
 postW_of (r:=l.row.toRowW) (X:=(true == true))
  (show WShape.has [] (.bool true) .bool=true by first | rfl | decide | simp [WShape.has,WShape.arms,WShape.armsAll])
  (show (WTm.eq .res (.lit (.bool true))).value [] {args:=args,res:=some (.bool true),after:=args}=some (.bool (true == true)) from w_eq_bool (w_res rfl) w_lit) rfl
theorem attach_call {l:OpenLaw} {n:Nat} {q:Program} {loose:List Str} {XP:(Str→Option Value)→Heap→Prop} {YP:World→Heap→Prop} {d:DefRec}
  (hn:l.most=some n) (hdf:d.params.defaults=[])
  (call:∀(w:World) (s₀ s₁:Shared) (mg mb:Str→Option Value) (fa:Addr) (o:Obj) (pm cd doc:Value) (a:Addr) (vs:List Value) (ns:List Int),
   Ground q loose [] XP w s₀ mg mb s₁.heap→YP w s₁.heap→
   s₁.heap.get? fa=some o→o.data=.func (docDef d.name d.params d.body d.scope pm cd doc)→s₁.heap.CodeRec cd d.name→mg d.name=some (.ref fa)→
   s₁.heap.get? a=some {cls:=.type "list",data:=.seq vs.toArray}→IntsAre vs ns→ns.length≤n→s₁.gens=#[]→
   codeAny (model l.prog w) callerA (.call (.ref fa) ⟨[.ref a],[]⟩) (fun r s'=>r=.ok (.ret (.bool true))∧OldK s₁.heap s'.heap∧s'.os=s₁.os∧AllBare s'.gens) s₁):
  WalkO q loose XP YP l.row.toRowW d [] (fun f vs=>PySem.call f vs):=by
 intro w s₀ s₁ mg mb G Y fa o pm cd doc dV kV ho hd hcd hD hmg hg args vals as hpre hlay hrd hwl hlo
 obtain rfl:dV=.none:=Dflts.none hD hdf
 obtain rfl:kV=.none:=Dflts.noKw hD
 obtain ⟨a,vs,ns,rfl,rfl,hobj,hints,hlen⟩:=a6Z hn hpre hwl
 refine enter_call (codeAny_mono (call w s₀ s₁ mg mb fa o pm cd doc a vs ns G Y ho (fd_plain hd) hcd hmg hobj hints hlen hg) fun r s' hq=>?_)
 obtain ⟨rfl,h2,h3,h4⟩:=hq
 exact ⟨.inl ⟨.bool true,.bool true,[],rfl,fun _=>rfl,.bool true,a7L l _,fun _=>⟨List.Pairwise.nil,fun _ hm=>(nomatch hm)⟩⟩,h2,h3,h4⟩
end Att
namespace L2
open PySem PySem.Spec PyProof.Rows
theorem a3E:∀{vs:List Value} {ns:List Int},IntsAre vs ns→a0r (ns.map V.int) vs
 | _,_,.nil=>.nil
 | _,_,.cons n t h=>.cons ⟨t,rfl⟩ (a3E h)
def b0U (H:Hp):Prop:=∀b,H b=none∨∃o xs,H b=some (.frz o (.lst xs))
theorem a8h {P:Program} {w:World} {K:Qa} {mg mb:Str→Option Value} {CX:CXT} {k:Nat} {fa a:Addr} {fd:FuncData} {x:Str} {sp:Sp} {s₁:Shared} {vs:List Value} {ns:List Int}
  (KX:K.In s₁.heap) (hns:s₁.heap.Ns mainGlobals mg) (hb:s₁.heap.Ns builtinsNs mb) (hbb:∀x:Str,x≠"__name__"→mb x=bootBuiltins x) (hlim:s₁.heap.NoLimit) (hg:s₁.gens=#[])
  (ha:s₁.heap.get? a=some {cls:=.type "list",data:=.seq vs.toArray}) (hi:IntsAre vs ns) (hl:ns.length≤sizeLine) (hr:a1M k callerA)
  (F:∀base:Heap,K.In base→base.Ns mainGlobals mg→a1r P w K mg base CX k fa fd [x] sp) (hbind:∀(s:Shared) (u:Value),BindsTo s fd ⟨[u],[]⟩ [(x,u)])
  (hsp:∀H:Hp,b0U H→SqL K H a (ns.map V.int)→sp [.ref a] H (fun v _=>v=.bl true) fun _ _ _=>False)
  (hCX:∀H e s',CX [] H s₁ (fun _ _ _=>False) e s'→False):
  codeAny (model P w) callerA (.call (.ref fa) ⟨[.ref a],[]⟩) (fun r s'=>r=.ok (.ret (.bool true))∧OldK s₁.heap s'.heap∧s'.os=s₁.os∧AllBare s'.gens) s₁:=by
 have rv:=a3E hi
 have lenV:=hi.length
 have core:∀H:Hp,b0U H→SqL K H a (ns.map V.int)→HOk P w H s₁.heap→(∀b,H b≠none→b=a)→(H a≠none→K.lookup a=none)→
   codeAny (model P w) callerA (.call (.ref fa) ⟨[.ref a],[]⟩) (fun r s'=>r=.ok (.ret (.bool true))∧OldK s₁.heap s'.heap∧s'.os=s₁.os∧AllBare s'.gens) s₁:=by
  intro H hO hS hok hA hK
  have base_of:∀{b:Addr} {o:Obj},s₁.heap.get? b=some o→H b=none→(a8r s₁.heap H).get? b=some o:=fun e n=>a8A e n
  have noA:∀{b:Addr} {o:Obj} {es:Array DictEntry} {ep:Nat},s₁.heap.get? b=some o→o.data=.dict es ep→H b=none:=fun {b o es ep} e d=>by
   cases q:H b with
   | none=>rfl
   | some u=>
    have e':b=a:=hA b (by rw [q];simp)
    subst e'
    rw [ha] at e;cases e
    have d':Data.seq vs.toArray _=Data.dict es ep:=d
    cases d'
  have nsK:∀{b:Addr} {m:Str→Option Value},s₁.heap.Ns b m→(a8r s₁.heap H).Ns b m:=fun {b m} ⟨o,es,ep,e,d,r⟩=>⟨o,es,ep,base_of e (noA e d),d,r⟩
  have hKb:K.In (a8r s₁.heap H):=fun b o e=>base_of (KX b o e) (by
   cases q:H b with
   | none=>rfl
   | some u=>
    have e':b=a:=hA b (by rw [q];simp)
    subst e'
    rw [hK (by rw [q];simp)] at e;cases e)
  have hM:Mod K mg (a8r s₁.heap H):=⟨hKb,nsK hns,⟨mb,nsK hb,hbb⟩,let ⟨mc,h1,h2⟩:=hlim;⟨mc,nsK h1,h2⟩⟩
  have e0:b0v P w K mg (a8r s₁.heap H) callerA [] s₁ H:=⟨rfl,hM,fun b o e=>b0f e,Ui (a7H _ _),trivial,fun b hb=>absurd (show b∈([]:List Addr) from hb) (by simp),hok,.of_eq hg⟩
  refine codeAny_mono ((F _ hKb (nsK hns)).run callerA [] s₁ H ⟨[.ref a],[]⟩ [.ref a] [.ref a] _ _ hr e0 (hbind s₁ (.ref a)) (.cons rfl .nil) (hsp H hO hS)) fun r s' h=>?_
  cases r with
  | error e=>exact (hCX H e s' h).elim
  | ok fl=>
   cases fl with
   | next=>exact False.elim h
   | brk=>exact False.elim h
   | cont=>exact False.elim h
   | ret u=>
    obtain ⟨v,H',os,bare,un,hok',r',q⟩:=h
    have q':v=.bl true:=q
    subst q'
    obtain rfl:u=Value.bool true:=r'
    refine ⟨rfl,OldK.of_keep fun b o e=>?_,os,bare⟩
    cases q:H b with
    | none=>exact un.keep b o e q (by intro z;exact absurd (show b∈([]:List Addr) from z) (by simp)) (by simp)
    | some u=>
     rcases hO b with z | ⟨ob,xs,z⟩
     ·rw [q] at z;cases z
     ·have z2:=un.frzs b ob _ z
      obtain ⟨e1,_⟩:=hok b _ z
      obtain ⟨e2,_⟩:=hok' b _ z2
      rw [e] at e1;cases e1
      exact e2
 cases hk:K.lookup a with
 | some o=>
  have e:=KX a o hk
  rw [ha] at e
  cases e
  refine core (fun _=>none) (fun _=>.inl rfl) (.inr ⟨_,vs.toArray,_,hk,rfl,rfl,rfl,by rw [Qh,lenV];exact hl,by simpa using rv⟩) (fun b u z=>by have z':(none:Option HO)=some u:=z;cases z') (fun b z=>absurd rfl z) fun z=>absurd rfl z
 | none=>
  refine core (fun b=>if b=a then some (.frz {cls:=.type "list",data:=.seq vs.toArray} (.lst (ns.map V.int))) else none) (fun b=>?_) (.inl (.inr ⟨{cls:=.type "list",data:=.seq vs.toArray},if_pos rfl⟩)) (fun b u z=>?_) (fun b z=>?_) fun _=>hk
  ·by_cases hb:b=a
   ·exact .inr ⟨_,_,if_pos hb⟩
   ·exact .inl (if_neg hb)
  ·by_cases hb:b=a
   ·have z':=(if_pos hb).symm.trans z
    cases z'
    subst hb
    exact ⟨ha,by rw [Qc];exact hl,vs,_,rv,ha⟩
   ·have z':=(if_neg hb).symm.trans z
    cases z'
  ·by_cases hb:b=a
   ·exact hb
   ·exact absurd (if_neg hb) z
abbrev KOf {K:Qa} {h:Heap} (_:K.In h):Qa:=K
theorem a9I {l:Wh} {n k:Nat} {q:Program} {loose:List Str} {XP:(Str→Option Value)→Heap→Prop} {YP:World→Heap→Prop} {d:DefRec} {K:Params→Qa} {CX:World→CXT} {sp:World→Sp} {x:Str}
  (hn:l.most=some n) (hn2:n≤sizeLine) (hdf:d.params.defaults=[]) (hr:a1M k callerA)
  (hY:∀(w:World) (h:Heap),YP w h→(K w.params).In h)
  (F:∀(w:World) (mg:Str→Option Value) (fa:Addr) (h:Heap),(K w.params).In h→h.Ns mainGlobals mg→mg d.name=some (.ref fa)→
   ∃fd:FuncData,(∀(s:Shared) (u:Value),BindsTo s fd ⟨[u],[]⟩ [(x,u)])∧
    ∀base:Heap,(K w.params).In base→base.Ns mainGlobals mg→a1r l.prog w (K w.params) mg base (CX w) k fa fd [x] (sp w))
  (hsp:∀(w:World) (H:Hp) (a:Addr) (ns:List Int),ns.length≤n→b0U H→SqL (K w.params) H a (ns.map V.int)→sp w [.ref a] H (fun v _=>v=.bl true) fun _ _ _=>False)
  (hCX:∀(w:World) (H:Hp) (s:Shared) (e:Value) (s':Shared),CX w [] H s (fun _ _ _=>False) e s'→False):
  PySem.W.WalkO q loose XP YP l.row.toRowW d [] (fun f vs=>PySem.call f vs):=by
 refine Att.attach_call hn hdf fun w s₀ s₁ mg mb fa o pm cd doc a vs ns G Y ho hd hcd hmg hobj hints hlen hg=>?_
 have KX:=hY w _ Y
 obtain ⟨fd,hb,hF⟩:=F w mg fa _ KX G.T.g hmg
 exact a8h KX G.T.g G.T.b G.T.builtins G.T.nolimit hg hobj hints (Qs hlen hn2) hr hF hb (fun H hO hS=>hsp w H a ns hlen hO hS) fun H e s'=>hCX w H s₁ e s'
theorem a8m {l:Wh} {n k:Nat} {q:Program} {loose:List Str} {XP:(Str→Option Value)→Heap→Prop} {YP:World→Heap→Prop} {d:DefRec} {K:Params→Qa} {CX:CXT} {sp:Qa→Sp} {x:Str}
  (hn:l.most=some n) (hn2:n≤sizeLine) (hdf:d.params.defaults=[]) (hr:a1M k callerA)
  (hY:∀(w:World) (h:Heap),YP w h→(K w.params).In h)
  (F:∀(w:World) (mg:Str→Option Value) (fa:Addr) (h:Heap),(K w.params).In h→h.Ns mainGlobals mg→mg d.name=some (.ref fa)→
   ∃fd:FuncData,(∀(s:Shared) (u:Value),BindsTo s fd ⟨[u],[]⟩ [(x,u)])∧
    ∀base:Heap,(K w.params).In base→base.Ns mainGlobals mg→a1r l.prog w (K w.params) mg base CX k fa fd [x] (sp (K w.params)))
  (hsp:∀(K:Qa) (H:Hp) (a:Addr) (ns:List Int),ns.length≤n→b0U H→SqL K H a (ns.map V.int)→sp K [.ref a] H (fun v _=>v=.bl true) fun _ _ _=>False)
  (hCX:∀(H:Hp) (s:Shared) (e:Value) (s':Shared),CX [] H s (fun _ _ _=>False) e s'→False):
  PySem.W.WalkO q loose XP YP l.row.toRowW d [] (fun f vs=>PySem.call f vs):=
 a9I (K:=K) (CX:=fun _=>CX) (sp:=fun w=>sp (K w.params)) hn hn2 hdf hr hY F (fun w H a ns h1 h2 h3=>hsp (K w.params) H a ns h1 h2 h3) fun _ H s e s'=>hCX H s e s'












abbrev CX0:CXT:=fun _ _ _ _ _ _=>False
abbrev E0:XK:=fun _ _ _=>False
theorem a8t {X:Cx}:a2c CX0 X E0:=fun _ _ _ _ _ _ _ h=>h.elim
structure Fun (K:Qa) (x qual:Str) (st:Stmt) (f:Addr) (fd:FuncData):Prop where
 ex:∃(oc:Value) (od:Option Addr) (kV doc pm:Value) (an:Option Addr) (cdv ct:Value) (osl:Array (Option Value)),
  fd=Zv x qual (a2d st) (a1I st) (a0e st) .none kV doc pm an cdv ct∧K.lookup f=some ⟨oc,od,.func fd,osl⟩∧Jy K cdv qual=true
 kp:Zb K (.ref f)=true
section
variable {P:Program} {w:World} {K:Qa} {mg:Str→Option Value} {base:Heap}
theorem Fun.ok {x qual:Str} {st:Stmt} {f:Addr} {fd:FuncData} {N ps:List Str} {k:Nat} {sp:Sp} (F:Fun K x qual st f fd) (S:a0j N ps (a0e st)) (len:∀vs H Q E,sp vs H Q E→vs.length=ps.length)
  (hbody:∀(cdv:Value) (A:Around) (outer:List Env) (s:Shared) (H:Hp) (vs:List V) (Q:VK) (E:XK),a1M k (A.deeper (envOfC qual (a0e st) s.heap.objs.size f cdv))→sp vs H Q E→
   ∃t,PSs (b0I CX0 P w K mg base N qual (a0e st) f cdv A outer s H E).nox (a1I st) t∧t {nx:=fun _ H'=>Q .non H',rt:=Q} (start N vs) H):a1r P w K mg base CX0 (k+1) f fd ps sp:=by
 obtain ⟨oc,od,kV,doc,pm,an,cdv,ct,osl,rfl,lk,hcd⟩:=F.ex
 refine b3D lk hcd S len fun A outer s H vs Q E hr hsp=>?_
 obtain ⟨t,h,q⟩:=hbody cdv A outer s H vs Q E hr hsp
 exact ⟨t,h.nox,q⟩
theorem b3a {x qual:Str} {st:Stmt} {f:Addr} {oc:Value} {od an:Option Addr} {osl:Array (Option Value)} {kV doc pm cdv ct:Value} (l:K.lookup f=some ⟨oc,od,.func (Zv x qual (a2d st) (a1I st) (a0e st) .none kV doc pm an cdv ct),osl⟩)
  (c:Jy K cdv qual=true) (k:Zb K (.ref f)=true):Fun K x qual st f (Zv x qual (a2d st) (a1I st) (a0e st) .none kV doc pm an cdv ct):=⟨⟨oc,od,kV,doc,pm,an,cdv,ct,osl,rfl,l,c⟩,k⟩
end
theorem a9N {A:Around} {k:Nat} (hr:a1M k A):A.units+1 < cLine:=Xq (Nat.add_le_add_left (by decide:1≤64) _) hr.units
section
variable {X:Cx}
theorem pv (i:Nat) {x:Str} {pos:Pos} (hN:X.N[i]?=some x:=by rfl) (hv:Vis X.env.scope x:=by first | exact Or.inl rfl | exact Or.inr (Or.inl rfl) | exact Or.inr (Or.inr rfl)) (hd:(x == ("__debug__":Str))=false:=by decide)
  (hcd:(x == ("__classdict__":Str))=false:=by decide):PE X (.Name x pos) (a0C i):=b1Q hN hv hd hcd
end
theorem a4y {c A B:Prop} [Decidable c] (h1:c→A) (h2:¬c→B):if c then A else B:=by
 by_cases h:c
 ·rw [if_pos h]
  exact h1 h
 ·rw [if_neg h]
  exact h2 h
def a0m (H H':Hp):Prop:=∀b o,H b=some o→H' b=some o
theorem a0m.refl (H:Hp):a0m H H:=fun _ _ h=>h
theorem a0m.trans {H H1 H2:Hp} (a:a0m H H1) (b:a0m H1 H2):a0m H H2:=fun c o h=>b c o (a c o h)
theorem a0m.free {H H':Hp} (e:a0m H H') {l:Addr} (h:H' l=Option.none):H l=Option.none:=by
 cases q:H l with
 | none=>rfl
 | some o=>
  rw [e l o q] at h
  cases h
theorem a0m.seq {K:Qa} {H H':Hp} {a:Addr} {xs:List V} (e:a0m H H') (h:SqL K H a xs):SqL K H' a xs:=by
 rcases h with (h | ⟨o,h⟩) | h
 ·exact .inl (.inl (e _ _ h))
 ·exact .inl (.inr ⟨o,e _ _ h⟩)
 ·exact .inr h
section
variable {X:Cx}
theorem a7e:a0N X (.builtin "len") (fun xs H Q=>∃a kvs,xs=[V.ref a]∧H a=some (.dK kvs)∧Q (.int kvs.length) H):=by
 intro pins s σ H xs us Q I r h
 obtain ⟨a,kvs,rfl,ha,q⟩:=h
 obtain ⟨u,rfl,ru⟩:=a1N r
 cases ru
 exact b3P I (.inl ha) fun t s' I'=>⟨.int kvs.length,H,I',⟨t,rfl⟩,q⟩
end
end L2
namespace Tx
open PySem PySem.Builtin PySem.Builtin.Str PySem.StrLaws PyProof.Rows
abbrev mk (l:List Nat):Str:=⟨l.toArray⟩
theorem b1c (x:Str):mk x.cps.toList=x:=by obtain ⟨⟨l⟩⟩:=x;rfl
theorem a1h (l:List Nat):(mk l).length=l.length:=by show l.toArray.size=_;simp
theorem a7J (a b:List Nat):mk a++mk b=mk (a++b):=by
 show (⟨a.toArray++b.toArray⟩:Str)=_
 simp
theorem a5P (l:List Nat) (c i:Nat):subAt (mk l) (mk [c]) i=decide (l[i]?=some c):=by
 rw [subAt_eq]
 show ((l.drop i).take 1 == [c])=_
 cases e:l[i]? with
 | none=>
  have:l.drop i=[]:=List.drop_eq_nil_of_le (by simpa using e)
  rw [this];simp
 | some d=>
  have hi:=(Xa.mp e)
  obtain ⟨h1,h2⟩:=hi
  rw [List.drop_eq_getElem_cons h1,h2]
  show (d == c && true)=decide (some d=some c)
  by_cases z:d=c
  ·subst z;simp
  ·simp [z]
theorem b2r (l:List Nat) (i j:Nat):strSub (mk l) i j=mk ((l.drop i).take (j - i)):=by
 rw [←b1c (strSub (mk l) i j),strSub_toList]
theorem a5b (c:Nat) (l:List Nat):Zo (mk l) (mk [c])=decide (l[0]?=some c):=by
 unfold Zo
 rw [a5P,a1h,a1h]
 cases l with
 | nil=>rfl
 | cons d r=>simp
theorem a4X (l:List Nat) {i:Int} (h0:0≤i) (h1:i≤l.length):Jo (mk l) (some i) none=mk (l.drop i.toNat):=by
 have:=slice_closes_fromL (x:=mk l) (b:=l.length) h0 (by rw [a1h];exact h1) (by rw [a1h])
 have e:=eq_of_beq this
 rw [e]
 simp
 rw [Je]
 rw [Jm];omega
end Tx
namespace L2
open PySem PySem.Spec PyProof.Rows
abbrev NoE:Value→Shared→Prop:=fun _ _=>False
section
variable {prog:Program} {w:World} {A:Around} {R:Result→Shared→Prop} {s:Shared}
theorem a3I {elt target iter:Expr} {ifs:List Expr} {scope:Scope} {pos:Pos} {it acc:Value} {env:Env} (I:Nat→Shared→Prop)
  (turn:∀n s,I n s→wpAny (model prog w) A (pyNext it) (fun r s₁=>match r with
   | none=>R (.ok .next) s₁
   | some v=>wpAny (model prog w) A (letOwnedTupleGo target it v) (fun _ s₂=>wpAny (model prog w) A (assign target env v) (fun _ s₃=>
     wpAny (model prog w) A (forIn ifs true fun c r=>if r=true then do let ok ←isTrue c env (eval c env);pure (ForInStep.yield ok) else pure (ForInStep.yield r)) (fun ok s₄=>
      if ok=true then wpAny (model prog w) A (eval elt env) (fun x s₅=>wpAny (model prog w) A (call (.builtin "list.append") [acc,x]) (fun _ s₆=>∃m,m < n∧I m s₆) NoE s₅) NoE s₄
      else ∃m,m < n∧I m s₄) NoE s₃) NoE s₂) NoE s₁) NoE s)
  (n:Nat) (h:I n s):codeAny (model prog w) A (.compLoop (.ListComp elt [⟨target,iter,ifs,0⟩] scope pos) 0 it acc env) R s:=by
 refine codeAny_loop rfl I (fun n s hI=>?_) n h
 show wpAny _ A ((compTurn (.ListComp elt [⟨target,iter,ifs,0⟩] scope pos) 0 it acc env).onRaise (fun x=>do noteFrame x env;theTreesLotGoes x)) _ _ s
 refine wpAny_noted ?_
 rw [compTurn_list]
 refine wpAny_noRaise ?_
 refine wpAny_bind (wpAny_standAt (wpAny_bind (wpAny_mono (turn n s hI) (fun r s₁ h₁=>?_) fun _ _ h'=>h')))
 cases r with
 | none=>exact wpAny_pure h₁
 | some v=>
  refine wpAny_bind (wpAny_mono h₁ (fun _ s₂ h₂=>wpAny_bind (wpAny_mono h₂ (fun _ s₃ h₃=>wpAny_bind (wpAny_mono h₃ (fun ok s₄ h₄=>?_) fun _ _ h'=>h')) fun _ _ h'=>h')) fun _ _ h'=>h')
  cases ok with
  | false=>exact wpAny_pure ⟨rfl,h₄⟩
  | true=>exact wpAny_bind (wpAny_bind (wpAny_mono h₄ (fun x s₅ h₅=>wpAny_bind (wpAny_mono h₅ (fun _ s₆ h₆=>wpAny_pure (wpAny_pure ⟨rfl,h₆⟩)) fun _ _ h'=>h')) fun _ _ h'=>h'))
end
def a1Q (env:Env):List (Str×NameKind)→List (Str×Addr)→List (Str×Addr)
 | [],cs=>cs
 | (n,k)::r,cs=>a1Q env r (if (k == NameKind.free)=true then (n,(env.cells.lookup n).getD 0)::cs else cs)
theorem a2e {scope:Scope} {env:Env} (h:∀y∈scope.names,y.2=NameKind.free→∃c,env.cells.lookup y.1=some c):closureFor scope env=pure (a1Q env scope.names []):=by
 have all:∀(l:List (Str×NameKind)) (cs:List (Str×Addr)),(∀y∈l,y.2=NameKind.free→∃c,env.cells.lookup y.1=some c)→
   (forIn l cs fun (x:Str×NameKind) (cs:List (Str×Addr))=>(if (x.2 == NameKind.free)=true then do let a ←cellOf env x.1;pure (ForInStep.yield ((x.1,a)::cs)) else pure (ForInStep.yield cs):Sem (ForInStep (List (Str×Addr)))))=pure (a1Q env l cs):=by
  intro l
  induction l with
  | nil=>intro cs _;rfl
  | cons y l ih=>
   intro cs hy
   obtain ⟨n,k⟩:=y
   rw [List.forIn_cons]
   by_cases hk:(k == NameKind.free)=true
   ·obtain ⟨c,hc⟩:=hy (n,k) Qj (by simpa using hk)
    have e1:cellOf env n=pure c:=by unfold cellOf;rw [hc]
    have e2:a1Q env ((n,k)::l) cs=a1Q env l ((n,c)::cs):=by
     show a1Q env l (if (k == NameKind.free)=true then (n,(env.cells.lookup n).getD 0)::cs else cs)=_
     rw [if_pos hk,hc];rfl
    rw [e2,←ih ((n,c)::cs) fun z hz=>hy z (Qk _ hz)]
    simp only [hk,if_true,e1,pure_bind]
   ·have e2:a1Q env ((n,k)::l) cs=a1Q env l cs:=by
     show a1Q env l (if (k == NameKind.free)=true then (n,(env.cells.lookup n).getD 0)::cs else cs)=_
     rw [if_neg hk]
    rw [e2,←ih cs fun z hz=>hy z (Qk _ hz)]
    have hk':(k == NameKind.free)=false:=by simpa using hk
    simp only [hk',Yw,if_false,pure_bind]
 have e:=all scope.names [] h
 unfold closureFor
 first
  | (rw [show (pure (a1Q env scope.names []):Sem (List (Str×Addr)))=(pure (a1Q env scope.names []) >>= fun cs=>pure cs) from rfl,←e];rfl)
  | (simp only [bind_pure];exact e)
  | (simpa using e)
theorem a3M {env:Env} {x:Str} {c:Addr}:∀{l:List (Str×NameKind)} {cs:List (Str×Addr)},(∀y∈l,y.2=NameKind.free→∃c,env.cells.lookup y.1=some c)→
  (∀y d,cs.lookup y=some d→env.cells.lookup y=some d)→(a1Q env l cs).lookup x=some c→env.cells.lookup x=some c
 | [],_,_,hc,h=>hc x c h
 | (n,k)::r,cs,hy,hc,h=>by
  refine a3M (l:=r) (cs:=if (k == NameKind.free)=true then (n,(env.cells.lookup n).getD 0)::cs else cs) (fun z hz=>hy z (Qk _ hz)) (fun y d q=>?_) h
  by_cases hk:(k == NameKind.free)=true
  ·rw [if_pos hk] at q
   obtain ⟨c',hc'⟩:=hy (n,k) Qj (by simpa using hk)
   rw [hc',Yc] at q
   by_cases e:(y == n)=true
   ·rw [e] at q
    have e':y=n:=by simpa using e
    rw [e',hc'];exact q
   ·have e':(y == n)=false:=by simpa using e
    rw [e'] at q
    exact hc y d q
  ·rw [if_neg hk] at q
   exact hc y d q
theorem a3f {env:Env} {x:Str}:∀{l:List (Str×NameKind)} {cs:List (Str×Addr)},((x,NameKind.free)∈l∨∃c,cs.lookup x=some c)→∃c,(a1Q env l cs).lookup x=some c
 | [],_,h=>by
  rcases h with h | h
  ·cases h
  ·exact h
 | (n,k)::r,cs,h=>by
  refine a3f (l:=r) (cs:=if (k == NameKind.free)=true then (n,(env.cells.lookup n).getD 0)::cs else cs) ?_
  rcases h with h | ⟨c,h⟩
  ·rcases Qt.mp h with e | e
   ·cases e
    refine .inr ?_
    rw [if_pos (by rfl),Yc,beq_self_eq_true]
    exact ⟨_,rfl⟩
   ·exact .inl e
  ·refine .inr ?_
   by_cases hk:(k == NameKind.free)=true
   ·rw [if_pos hk,Yc]
    by_cases e:(x == n)=true
    ·rw [e];exact ⟨_,rfl⟩
    ·have e':(x == n)=false:=by simpa using e
     rw [e'];exact ⟨c,h⟩
   ·rw [if_neg hk];exact ⟨c,h⟩
theorem a0R {env:Env}:∀{names:List (Str×NameKind)} {x:Str},names.lookup x=some .free→
  (names.map fun (n,k)=>if (k == NameKind.free && env.scope.kind == .function && env.kindOf n == some .cell) then (n,NameKind.cell) else (n,k)).lookup x=some .cell∨
  (names.map fun (n,k)=>if (k == NameKind.free && env.scope.kind == .function && env.kindOf n == some .cell) then (n,NameKind.cell) else (n,k)).lookup x=some .free
 | [],_,h=>by simp at h
 | (n,k)::r,x,h=>by
  have ih:=@a0R env r x
  rw [Xp]
  show Za x ((if (k == NameKind.free && env.scope.kind == .function && env.kindOf n == some .cell)=true then (n,NameKind.cell) else (n,k))::_)=_∨Za x ((if (k == NameKind.free && env.scope.kind == .function && env.kindOf n == some .cell)=true then (n,NameKind.cell) else (n,k))::_)=_
  cases hx:x == n with
  | true=>
   simp only [Yc,hx] at h
   cases h
   by_cases hc:(NameKind.free == NameKind.free && env.scope.kind == .function && env.kindOf n == some .cell)=true
   ·rw [if_pos hc];exact .inl (by simp only [Yc,hx])
   ·rw [if_neg hc];exact .inr (by simp only [Yc,hx])
  | false=>
   simp only [Yc,hx] at h
   by_cases hc:(k == NameKind.free && env.scope.kind == .function && env.kindOf n == some .cell)=true
   ·rw [if_pos hc];simp only [Yc,hx];exact ih h
   ·rw [if_neg hc];simp only [Yc,hx];exact ih h
theorem a2L {env:Env}:∀{names:List (Str×NameKind)} {x:Str},(∀y∈names,y.2≠NameKind.cell)→
  ((names.map fun (n,k)=>if (k == NameKind.free && env.scope.kind == .function && env.kindOf n == some .cell) then (n,NameKind.cell) else (n,k)).lookup x=some .cell∨
  (names.map fun (n,k)=>if (k == NameKind.free && env.scope.kind == .function && env.kindOf n == some .cell) then (n,NameKind.cell) else (n,k)).lookup x=some .free)→(x,NameKind.free)∈names
 | [],_,_,h=>by rcases h with h | h<;>simp at h
 | (n,k)::r,x,hn,h=>by
  have ih:=@a2L env r x fun y hy=>hn y (Qk _ hy)
  have hk:=hn (n,k) Qj
  rw [Xp] at h
  by_cases hc:(k == NameKind.free && env.scope.kind == .function && env.kindOf n == some .cell)=true
  ·have hk1:k=NameKind.free:=by
    rw [Xe,Xe] at hc
    simpa using hc.1.1
   simp only [hc,if_true,Yc] at h
   cases hx:x == n with
   | true=>have e:x=n:=(by simpa using hx);rw [e,hk1];exact Qj
   | false=>rw [hx] at h;exact Qk _ (ih h)
  ·have hc':(k == NameKind.free && env.scope.kind == .function && env.kindOf n == some .cell)=false:=by simpa using hc
   simp only [hc',Yw,if_false,Yc] at h
   cases hx:x == n with
   | true=>
    rw [hx] at h
    have e:x=n:=by simpa using hx
    rcases h with h | h
    ·exact absurd (Option.some.inj h) hk
    ·rw [e,Option.some.inj h];exact Qj
   | false=>rw [hx] at h;exact Qk _ (ih h)
def a0S (X:Cx) (Nc:List Str) (scope:Scope) (cl:List (Str×Addr)) (C:Addr) (s:Shared) (H:Hp) (ex:List Addr):Cx where
 prog:=X.prog
 w:=X.w
 K:=X.K
 mg:=X.mg
 base:=X.base
 A:=X.A
 N:=Nc
 s₀:=s
 H₀:=H
 env:=compEnvC scope cl C X.env
 outer:=X.stack
 stack:=X.stack
 ex:=ex
 fn:=fun _=>false
 calm:=X.calm
 pn:=[]
 xe:=NoE
def a2o (js:List (Option Nat)) (σ:St):St:=js.map fun o=>match o with
 | none=>none
 | some j=>(σ[j]?).getD none
structure a7t (X:Cx) (Nc:List Str) (js:List (Option Nat)) (scope:Scope):Prop where
 kind:scope.kind=.function
 nocell:∀y∈scope.names,y.2≠NameKind.cell
 names:∀y∈scope.names,y.2=NameKind.local→scope.names.lookup y.1=some NameKind.local
 free:∀y∈scope.names,y.2=NameKind.free→X.env.kindOf y.1=some NameKind.cell∨X.env.kindOf y.1=some NameKind.free
 len:js.length=Nc.length
 map:∀(i:Nat) (y:Str) (j:Nat),Nc[i]?=some y→js[i]?=some (some j)→X.N[j]?=some y∧scope.names.lookup y=some NameKind.free
def b2p (sc:Scope) (N Nc:List Str) (js:List (Option Nat)) (scope:Scope):Bool:=
 scope.kind == .function && scope.names.all (fun y=>y.2 != NameKind.cell) && scope.names.all (fun y=>y.2 != NameKind.local || scope.names.lookup y.1 == some NameKind.local) &&
 scope.names.all (fun y=>y.2 != NameKind.free || sc.names.lookup y.1 == some NameKind.cell || sc.names.lookup y.1 == some NameKind.free) && js.length == Nc.length &&
 (Nc.zip js).all (fun p=>match p.2 with | none=>true | some j=>N[j]? == some p.1 && scope.names.lookup p.1 == some NameKind.free)
theorem a7z {X:Cx} {sc:Scope} {N Nc:List Str} {js:List (Option Nat)} {scope:Scope} (hsc:X.env.scope=sc) (hN:X.N=N) (h:b2p sc N Nc js scope=true):a7t X Nc js scope:=by
 unfold b2p at h
 rw [Xe,Xe,Xe,Xe,Xe] at h
 obtain ⟨⟨⟨⟨⟨h1,h2⟩,h3⟩,h4⟩,h5⟩,h6⟩:=h
 rw [List.all_eq_true] at h2 h3 h4 h6
 have h5':js.length=Nc.length:=by simpa using h5
 refine ⟨by simpa using h1,fun y hy=>by simpa using h2 y hy,fun y hy e=>?_,fun y hy e=>?_,h5',fun i y j e1 e2=>?_⟩
 ·have q:=h3 y hy
  rw [e] at q
  simpa using q
 ·have q:=h4 y hy
  rw [e] at q
  show X.env.scope.names.lookup y.1=_∨X.env.scope.names.lookup y.1=_
  rw [hsc]
  simpa using q
 ·have hm:(y,some j)∈Nc.zip js:=by
   refine Jp (i:=i) ?_
   rw [List.getElem?_zip_eq_some]
   exact ⟨e1,e2⟩
  have q:=h6 _ hm
  simp only [Xe,beq_iff_eq] at q
  rw [hN]
  exact q
def PTs (X:Cx) (ifs:List Expr) (t:TT):Prop:=
 ∀(pins:List (Addr×Obj)) (s:Shared) (σ:St) (H:Hp) (Q:Bool→Hp→Prop),Inv X pins σ H s→t σ H Q→
  wpAny (model X.prog X.w) X.A (forIn ifs true fun c r=>if r=true then do let ok ←isTrue c X.env (eval c X.env);pure (ForInStep.yield ok) else pure (ForInStep.yield r)) (TP X pins σ Q) X.xe s
def b3J:TT:=fun _ H Q=>Q true H
theorem a9E {X:Cx}:PTs X [] b3J:=fun pins s σ H Q I h=>wpAny_tests_nil ⟨H,I,h⟩
def b2F (js:List (Option Nat)) (wi:TI) (g:TG) (tt:TT) (te:TE):TE:=fun σ H Q=>wi σ H fun J H1=>∀D,H1 D=none→∃W:Nat→Nat→St→Hp→List V→Prop,(∃m,W 0 m (a2o js σ) (upd H1 D (.lst [])) [])∧
 ∀i m σ' H' ys,W i m σ' H' ys→H' D=some (.lst ys)∧((J.stop i H'∧Q (.ref D) H')∨(J.go i H'∧ys.length < sizeLine∧∀x H2,J.yld i H' x H2→g x σ' H2 fun σ2 H3=>tt σ2 H3 fun b H4=>
  if b=true then te σ2 H4 fun v H5=>H5 D=some (.lst ys)∧∃m',m' < m∧W (i+1) m' σ2 (upd H5 D (.lst (ys++[v]))) (ys++[v]) else ∃m',m' < m∧W (i+1) m' σ2 H4 ys))
section
variable {X:Cx} {elt target iter:Expr} {ifs:List Expr} {scope:Scope} {pos:Pos} {Nc:List Str} {js:List (Option Nat)} {wi:TI} {g:TG} {tt:TT} {te:TE}
theorem a5x {pins:List (Addr×Obj)} {σ:St} {H2:Hp} {s₂:Shared} {E:Value→Shared→Prop} {it:Addr} {fp:List Addr} {tn:Nat→Heap→Prop} {J:It} {Q:VK} {RR:Value→Addr→Result→Shared→Prop} (ok:a7t X Nc js scope) (hc:X.calm=true)
  (hg:∀C cl s H ex,PG (a0S X Nc scope cl C s H ex) target g) (ht:∀C cl s H ex,PTs (a0S X Nc scope cl C s H ex) ifs tt) (he:∀C cl s H ex,PE (a0S X Nc scope cl C s H ex) elt te)
  (I2:Inv X pins σ H2 s₂) (T:b0M X.prog X.w X.K target J fp it tn) (st2:tn 0 s₂.heap) (f2:∀b∈fp,a8R X pins H2 b)
  (h:∀D,H2 D=none→∃W:Nat→Nat→St→Hp→List V→Prop,(∃m,W 0 m (a2o js σ) (upd H2 D (.lst [])) [])∧
   ∀i m σ' H' ys,W i m σ' H' ys→H' D=some (.lst ys)∧((J.stop i H'∧Q (.ref D) H')∨(J.go i H'∧ys.length < sizeLine∧∀x H2,J.yld i H' x H2→g x σ' H2 fun σ2 H3=>tt σ2 H3 fun b H4=>
    if b=true then te σ2 H4 fun v H5=>H5 D=some (.lst ys)∧∃m',m' < m∧W (i+1) m' σ2 (upd H5 D (.lst (ys++[v]))) (ys++[v]) else ∃m',m' < m∧W (i+1) m' σ2 H4 ys)))
  (hRR:∀(D C:Addr) (s':Shared) (H':Hp) (m:Str→Option Value),Inv X pins σ H' s'→s'.heap.Ns C m→a8R X pins H' C→Q (.ref D) H'→RR (.ref D) C (.ok .next) s'):
  wpAny (model X.prog X.w) X.A (newList []) (fun acc s₃=>wpAny (model X.prog X.w) X.A (newFunctionEnv scope X.env.globals (a1Q X.env scope.names []) [] X.env.qual none .none (some X.env)) (fun cenv s₄=>
   codeAny (model X.prog X.w) X.A (.compStart (.ListComp elt [⟨target,iter,ifs,0⟩] scope pos) 0 (.ref it) acc {cenv with scope:=relabel scope X.env}) (RR acc cenv.locals) s₄) E s₃) E s₂:=by
 have hfr:∀y∈scope.names,y.2=NameKind.free→∃c,X.env.cells.lookup y.1=some c:=fun y hy e=>I2.ok.has y.1 (ok.free y hy e)
 refine wpAny_newObj_type (wpAny_newFunctionEnv ok.nocell (by intro y hy;simp at hy) (fun h₁ hns₁ hsb₁=>?_) ok.kind)
 dsimp only at hns₁ hsb₁ ⊢
 generalize hHL:s₂.heap.push {cls:=.type "list",dict:=none,data:=.seq ([]:List Value).toArray}=HL at hns₁ hsb₁ ⊢
 have hC:HL.objs.size=s₂.heap.objs.size+1:=by rw [←hHL,Zc]
 have hCle:s₂.heap.objs.size≤HL.objs.size:=by rw [hC];exact Zl _
 have hDC:s₂.heap.objs.size≠HL.objs.size:=by rw [hC];exact Qw (Yb _)
 have old:∀b o,s₂.heap.get? b=some o→h₁.get? b=some o:=fun b o e=>hsb₁.extBut b o (Qw (Xb (Qq e) hCle)) (Qe _ (hHL ▸ Qe _ e))
 have hacc:h₁.get? s₂.heap.objs.size=some {cls:=.type "list",dict:=none,data:=.seq ([]:List Value).toArray}:=hsb₁.extBut _ _ hDC (Qe _ (hHL ▸ Qp _ rfl))
 have hD0:H2 s₂.heap.objs.size=none:=I2.hok.fresh (Qg _)
 have hC0:H2 HL.objs.size=none:=I2.hok.fresh hCle
 obtain ⟨W,⟨m0,w0⟩,turn⟩:=h _ hD0
 have hlook:∀x c,(a1Q X.env scope.names []).lookup x=some c→X.env.cells.lookup x=some c:=fun x c e=>a3M hfr (fun y d q=>by simp at q) e
 have hlt:∀b∈fp,b < s₂.heap.objs.size:=fun b hb=>let ⟨o,e,_⟩:=T.obj 0 _ st2 b hb;Qq e
 have okc:(a0S X Nc scope (a1Q X.env scope.names []) HL.objs.size s₂ H2 fp).Ok:=by
  refine ⟨I2.ok.mod,by show scope.kind=_;exact ok.kind,I2.ok.glob,I2.ok.blt,hCle,fun x y c e1 e2=>I2.ok.inj x y c (hlook x c e1) (hlook y c e2),fun x hx=>?_,fun x c z _=>absurd z Qr,I2.ok.hd,I2.ok.frames,.inl rfl,fun b hb=>⟨?_,fun x c e=>(f2 b hb).2.2.2.2.1 x c (hlook x c e)⟩,
   I2.bs,Qs I2.ok.bsz I2.sz,fun b o e hb=>?_,fun b hb z=>?_,I2.stack,I2.stkFree⟩
  ·exact a3f (.inl (a2L ok.nocell hx))
  ·exact Qw (Xb (hlt b hb) hCle)
  ·rcases (f2 b hb).2.2.2.1 with z | z
   ·exact I2.ok.noex b o e z
   ·exact absurd (Xb (Qq e) (Qs I2.ok.bsz z)) (Zr _)
  ·rcases Qt.mp (I2.stkSub b z) with e | e
   ·exact (f2 b hb).2.1 e
   ·exact (f2 b hb).2.2.1 e
 have fpc:∀{H':Hp},(∀b∈fp,H' b=none)→∀b∈fp,a8R (a0S X Nc scope (a1Q X.env scope.names []) HL.objs.size s₂ H2 fp) [] H' b:=fun {H'} hn b hb=>
  ⟨hn b hb,(okc.exf b hb).1,okc.exfs b hb,.inl hb,(okc.exf b hb).2,fun p hp=>absurd (show p∈([]:List (Addr×Obj)) from hp) (by simp)⟩
 have Ic:Inv (a0S X Nc scope (a1Q X.env scope.names []) HL.objs.size s₂ H2 fp) [] (a2o js σ) (upd H2 s₂.heap.objs.size (.lst [])) {s₂ with heap:=h₁,toks:=s₂.toks+([]:List (Str×Value)).length}:=by
  refine ⟨okc,rfl,I2.bare,Un.laid old (Qg _) hD0,⟨_,hns₁,fun i x v e1 e2 e3=>?_⟩,fun x c e=>?_,?_,fun x c e=>?_,fun p hp=>absurd (show p∈([]:List (Addr×Obj)) from hp) (by simp),?_,?_⟩
  ·have e1':Nc[i]?=some x:=e1
   unfold a2o at e2
   rw [Xr] at e2
   cases ej:js[i]? with
   | none=>rw [ej] at e2;simp at e2
   | some oj=>
    rw [ej] at e2
    cases oj with
    | none=>simp at e2
    | some j=>
     have e2':(σ[j]?).getD none=some v:=by simpa using e2
     have e2'':σ[j]?=some (some v):=by
      cases q:σ[j]? with
      | none=>rw [q] at e2';simp at e2'
      | some z=>rw [q] at e2';simp at e2';rw [e2']
     obtain ⟨hN,hF⟩:=ok.map i x j e1' ej
     have hmem:(x,NameKind.free)∈scope.names:=PySem.mem_of_lookup hF
     have hkX:=ok.free _ hmem rfl
     obtain ⟨m,hn,hl⟩:=I2.loc
     have hvis:Vis X.env.scope x:=by
      rcases hkX with z | z
      ·exact .inr (.inl z)
      ·exact .inr (.inr z)
     obtain ⟨u,ru,lk⟩:=hl j x v hN e2'' hvis
     refine ⟨u,ru,.inr ?_⟩
     rcases lk with ⟨k1,_⟩ | ⟨_,c,ec,ic⟩
     ·have k1':X.env.kindOf x=some NameKind.local:=k1
      rcases hkX with z | z
      ·rw [z] at k1';cases k1'
      ·rw [z] at k1';cases k1'
     ·obtain ⟨c',hc'⟩:=a3f (env:=X.env) (l:=scope.names) (cs:=[]) (x:=x) (.inl hmem)
      have e':=hlook x c' hc'
      rw [ec] at e'
      cases e'
      exact ⟨a0R hF,c,hc',ic.keeps old⟩
  ·obtain ⟨v,q⟩:=I2.cell x c (hlook x c e)
   exact ⟨v,q.keeps old⟩
  ·show upd H2 s₂.heap.objs.size (.lst []) HL.objs.size=none
   rw [a0a (Ne.symm hDC)];exact hC0
  ·obtain ⟨v,q⟩:=I2.cell x c (hlook x c e)
   rw [a0a (Qw q.lt)]
   exact I2.freeC x c (hlook x c e)
  ·exact I2.hok.laid old (Qg _) ⟨Xl _,[],_,.nil,hacc⟩
  ·show (a2o js σ).length=Nc.length
   unfold a2o
   rw [Qc];exact ok.len
 have back:∀{σ':St} {H':Hp} {s':Shared},Inv (a0S X Nc scope (a1Q X.env scope.names []) HL.objs.size s₂ H2 fp) [] σ' H' s'→Inv X pins σ H' s':=fun {σ' H' s'} I4=>
  I2.call' (ch:=fp) I4.os I4.base I4.hok I4.bare fun b hb=>⟨(f2 b hb).2.2.2.1,(f2 b hb).2.1,(f2 b hb).2.2.2.2.1,(f2 b hb).2.2.2.2.2⟩
 have st1:tn 0 h₁:=T.keep 0 _ _ st2 fun b _ o e=>old b o e
 have loop:∀s₃:Shared,s₃={s₂ with heap:=h₁,toks:=s₂.toks+([]:List (Str×Value)).length}→
   codeAny (model X.prog X.w) X.A (.compLoop (.ListComp elt [⟨target,iter,ifs,0⟩] scope pos) 0 (.ref it) (.ref s₂.heap.objs.size) (compEnvC scope (a1Q X.env scope.names []) HL.objs.size X.env))
    (RR (.ref s₂.heap.objs.size) HL.objs.size) s₃:=by
  rintro s₃ rfl
  refine a3I (fun n s'=>∃i σ' H' ys,Inv (a0S X Nc scope (a1Q X.env scope.names []) HL.objs.size s₂ H2 fp) [] σ' H' s'∧tn i s'.heap∧(∀b∈fp,H' b=none)∧W i n σ' H' ys) ?_ m0
   ⟨0,a2o js σ,_,[],Ic,st1,fun b hb=>by rw [a0a (Qw (hlt b hb))];exact (f2 b hb).1,w0⟩
  rintro n s3 ⟨i,σ3,H3,ys,I3,st3,fr3,w3⟩
  obtain ⟨hD3,tn3⟩:=turn i n σ3 H3 ys w3
  rcases tn3 with ⟨stop,q⟩ | ⟨go,hys,step⟩
  ·refine thn (T.done (a0S X Nc scope (a1Q X.env scope.names []) HL.objs.size s₂ H2 fp) rfl rfl rfl hc i [] s3 σ3 H3 NoE I3 (fpc fr3) st3 stop) fun r s4 ⟨hr,I4⟩=>?_
   subst hr
   obtain ⟨m4,n4,_⟩:=I4.loc
   exact hRR _ _ s4 H3 m4 (back I4) n4 (I2.fpOk hCle I4.free) q
  ·refine thn (T.item (a0S X Nc scope (a1Q X.env scope.names []) HL.objs.size s₂ H2 fp) rfl rfl rfl hc i [] s3 σ3 H3 NoE I3 (fpc fr3) st3 go) fun r s4 ⟨u,hr,h4⟩=>?_
   subst hr
   refine thn h4 fun _ s5 ⟨x,H5,I5,r5,y5,st5,fr5⟩=>?_
   have I5':=I5.pinned (fpc fr5) (T.obj _ _ st5)
   have fin:∀{σ7:St} {H7:Hp} {s7:Shared} {zs:List V} {m':Nat},Inv (a0S X Nc scope (a1Q X.env scope.names []) HL.objs.size s₂ H2 fp) ([]++a3w fp s5.heap) σ7 H7 s7→m' < n→W (i+1) m' σ7 H7 zs→
     ∃m,m < n∧∃i σ' H' ys,Inv (a0S X Nc scope (a1Q X.env scope.names []) HL.objs.size s₂ H2 fp) [] σ' H' s7∧tn i s7.heap∧(∀b∈fp,H' b=none)∧W i m σ' H' ys:=fun {σ7 H7 s7 zs m'} I7 hm w7=>by
    refine ⟨m',hm,i+1,σ7,H7,zs,I7.unpinned,T.keep _ _ _ st5 fun b hb o e=>(I7.pin (b,o) (Qx _ (Qx _ (a1o hb e)))).1,fun b hb=>?_,w7⟩
    obtain ⟨o,e,d⟩:=T.obj _ _ st5 b hb
    exact (I7.pin (b,o) (Qx _ (Qx _ (a1o hb e)))).2.1
   refine thn (hg _ _ _ _ _ _ s5 σ3 H5 x u _ I5' r5 (step x H5 y5)) fun _ s6 ⟨σ6,H6,I6,q6⟩=>?_
   refine thn (ht _ _ _ _ _ _ s6 σ6 H6 _ I6 q6) fun b s7 ⟨H7,I7,q7⟩=>?_
   cases b with
   | false=>
    obtain ⟨m',hm,w7⟩:=q7
    exact fin I7 hm w7
   | true=>
    refine thn (he _ _ _ _ _ _ s7 σ6 H7 _ I7 q7) fun v s8 ⟨y,H8,I8,r8,hD8,m',hm,w8⟩=>?_
    refine thn (a0t _ s8 σ6 H8 (.ref s₂.heap.objs.size) [y] (.ref s₂.heap.objs.size) [v] (fun _ H9=>H9=upd H8 s₂.heap.objs.size (.lst (ys++[y]))) I8 rfl (.cons r8 .nil) ⟨_,ys,y,rfl,rfl,hD8,hys,rfl⟩) fun v9 s9 ⟨_,H9,I9,_,e9⟩=>?_
    subst e9
    exact fin I9 hm w8
 exact codeAny_compStart_list (loop _ rfl) (T.self X.A 0 _ _ _ st1 (loop _ rfl))
theorem a5q {i:Nat} {y:Str} {py spos:Pos} (ok:a7t X Nc js scope) (hc:X.calm=true) (hi:PI X target iter wi)
  (hg:∀C cl s H ex,PG (a0S X Nc scope cl C s H ex) target g) (ht:∀C cl s H ex,PTs (a0S X Nc scope cl C s H ex) ifs tt) (he:∀C cl s H ex,PE (a0S X Nc scope cl C s H ex) elt te)
  (hN:X.N.Nodup) (hy:X.N[i]?=some y) (hx:Loc X.env.scope y) (hsw:swapsWith (.ListComp elt [⟨target,iter,ifs,0⟩] scope pos) (some (.Name y py)) spos.line X.env=pure true)
  (hs:∀x,foldedSetIterable iter X.env x=pure x:=by intro _;rfl) (hf:X.fn y=true∨X.env.scope.names.lookup y=some .local:=by first | exact .inl rfl | exact .inr rfl | assumption):
  PS X (.Assign [.Name y py] (.ListComp elt [⟨target,iter,ifs,0⟩] scope pos) spos) (fun D σ H=>b2F js wi g tt te σ H fun v H'=>D.nx (σ.set i (some v)) H'):=by
 intro pins s σ H D I h
 have hfr:∀y∈scope.names,y.2=NameKind.free→∃c,X.env.cells.lookup y.1=some c:=fun y hy e=>I.ok.has y.1 (ok.free y hy e)
 rw [exec_Assign_Name_used _ _ _ _ hsw]
 refine wpAny_bind (wpAny_standAt (wpAny_bind ?_))
 show wpAny _ X.A (do let _ ←comprehension (.ListComp elt [⟨target,iter,ifs,0⟩] scope pos) scope X.env _ (newList []) false (eval iter X.env) (some (assign (.Name y py) X.env))) _ _ s
 refine wpAny_bind (thn (wpAny_comprehension_free (use:=some (assign (.Name y py) X.env)) (Q:=fun _ s'=>SP X pins D .next s') rfl hs (a2e hfr) ok.kind ok.names
  (thn (hi pins s σ H _ I h) fun v s1 h1=>thn h1 fun itv s2 h2=>?_)) fun _ s' hq=>wpAny_pure (wpAny_pure hq))
 obtain ⟨it,fp,tn,J,H2,e,I2,T,st2,f2,h⟩:=h2
 subst e
 refine a5x (RR:=fun acc C=>compPost (model X.prog X.w) X.A X.xe (some (assign (.Name y py) X.env)) (fun _ s'=>SP X pins D .next s') acc C) (Q:=fun v H'=>D.nx (σ.set i (some v)) H') ok hc hg ht he I2 T st2 f2 h ?_
 intro Da C s' H' m I' n' fC q
 show wpAny _ X.A (assign (.Name y py) X.env (.ref Da)) _ _ _
 refine wpAny_assign_Name (a3r I' hN hy hx (show a0s (.ref Da) (.ref Da) from rfl) (fun s'' I'' hsb=>?_) hf)
 obtain ⟨a,sb,ha⟩:=hsb
 have hCa:C≠a:=by
  rcases ha with e | e
  ·rw [e];exact fC.2.1
  ·exact fun z=>fC.2.2.2.2.1 y a e z.symm
 refine ⟨m,n'.sameBut sb hCa,fun h' sb'=>⟨σ.set i (some (.ref Da)),H',?_,q⟩⟩
 exact I''.turned (t':=s''.toks) (fun b o hb e=>(sb'.2 b hb).trans e) fC.1 fC.2.1 fC.2.2.2.1 fC.2.2.2.2.1 fC.2.2.2.2.2
end
section
variable {js:List (Option Nat)} {g:TG} {tt:TT} {te:TE} {σ:St} {H:Hp} {Q:VK}
def a8p (J:It) (js:List (Option Nat)) (g:TG) (tt:TT) (te:TE) (σ:St) (H:Hp) (Q:VK):Prop:=
 ∀D,H D=none→∃W:Nat→Nat→St→Hp→List V→Prop,(∃m,W 0 m (a2o js σ) (upd H D (.lst [])) [])∧
 ∀i m σ' H' ys,W i m σ' H' ys→H' D=some (.lst ys)∧((J.stop i H'∧Q (.ref D) H')∨(J.go i H'∧ys.length < sizeLine∧∀x H2,J.yld i H' x H2→g x σ' H2 fun σ2 H3=>tt σ2 H3 fun b H4=>
  if b=true then te σ2 H4 fun v H5=>H5 D=some (.lst ys)∧∃m',m' < m∧W (i+1) m' σ2 (upd H5 D (.lst (ys++[v]))) (ys++[v]) else ∃m',m' < m∧W (i+1) m' σ2 H4 ys))
structure Src (J:It) (n:Nat) (f:Nat→V) (Ok:Hp→Prop):Prop where
 go:∀i H,i < n→Ok H→J.go i H
 yld:∀i H x H',i < n→Ok H→J.yld i H x H'→H'=H∧x=f i
 stop:∀H,Ok H→J.stop n H
theorem a8g {K:Qa} {a:Addr} {xs:List V}:Src (Itl K a) xs.length (fun i=>(xs[i]?).getD .non) (fun H=>SqL K H a xs):=
 ⟨fun i H hi h=>⟨xs,xs[i],h,by simp [hi]⟩,fun i H x H' hi h y=>⟨y.1,by rw [y.2 xs h];rfl⟩,fun H h=>⟨xs,h,Qg _⟩⟩
theorem a2l {lo:Int} {n:Nat}:Src (Itr lo n) n (fun i=>.int (lo+i)) (fun _=>True):=
 ⟨fun i H hi _=>hi,fun i H x H' hi _ y=>y,fun H _=>Qg _⟩
theorem a7P {J:It} {n:Nat} {f:Nat→V} {Ok:Hp→Prop} (S:Src J n f Ok) (hn:n≤sizeLine) (Pv:Addr→Nat→St→Hp→List V→Prop) (h0:∀D,H D=none→Pv D 0 (a2o js σ) (upd H D (.lst [])) [])
  (hk:∀D i σ' H' ys,H D=none→i≤n→Pv D i σ' H' ys→Ok H'∧H' D=some (.lst ys)∧ys.length≤i)
  (hs:∀D i σ' H' ys (R:St→Hp→List V→Prop),H D=none→i < n→Pv D i σ' H' ys→(∀a b c,Pv D (i+1) a b c→R a b c)→g (f i) σ' H' fun σ2 H3=>tt σ2 H3 fun b H4=>
   if b=true then te σ2 H4 fun v H5=>H5 D=some (.lst ys)∧R σ2 (upd H5 D (.lst (ys++[v]))) (ys++[v]) else R σ2 H4 ys)
  (hd:∀D σ' H' ys,H D=none→Pv D n σ' H' ys→Q (.ref D) H'):a8p J js g tt te σ H Q:=by
 intro D hD
 refine ⟨fun i m σ' H' ys=>m=n - i∧i≤n∧Pv D i σ' H' ys,⟨n,by simp,Xl _,h0 D hD⟩,?_⟩
 rintro i m σ' H' ys ⟨rfl,hi,p⟩
 obtain ⟨q1,q2,q3⟩:=hk D i σ' H' ys hD hi p
 refine ⟨q2,?_⟩
 by_cases hlt:i < n
 ·refine .inr ⟨S.go i H' hlt q1,by omega,fun x H2 y=>?_⟩
  obtain ⟨rfl,rfl⟩:=S.yld i H' x H2 hlt q1 y
  exact hs D i σ' _ ys (fun σ2 H3 ys'=>∃m',m' < n - i∧(m'=n - (i+1)∧i+1≤n∧Pv D (i+1) σ2 H3 ys')) hD hlt p fun a b c r=>⟨n - (i+1),by omega,rfl,hlt,r⟩
 ·have e:i=n:=by omega
  subst e
  exact .inl ⟨S.stop H' q1,hd D σ' H' ys hD p⟩
end
section
variable {X:Cx}
def b6y:V→Option Value
 | .ty n=>some (.type n)
 | .ref a=>some (.ref a)
 | _=>none
theorem a7U {c:V} {u v:Value} (h:b6y c=some u) (r:a0s c v):v=u:=by
 cases c with
 | ty n=>cases h;exact r
 | ref a=>cases h;exact r
 | _=>cases h
def b6z (K:Qa):List V→Hp→VK→Prop:=fun xs H Q=>∃x c u t b,xs=[x,c]∧b6y c=some u∧a5j K H x t∧Xv K t u=some b∧Q (.bl b) H
theorem a2h:a0N X (.builtin "isinstance") (b6z X.K):=by
 intro pins s σ H xs us Q I r h
 obtain ⟨x,c,u,t,b,rfl,hu,ty,e,q⟩:=h
 obtain ⟨v,u',rfl,rv,ru'⟩:=b1I r
 cases a7U hu ru'
 exact a5X I rv ty e fun tk=>⟨.bl b,H,I.tok _,rfl,q⟩
def b6s:V→Option Int→Option Int→Hp→VK→Prop:=fun x lo hi H Q=>∃z,x=.str z∧z.length≤sizeLine∧Q (.str (Jo z lo hi)) H
theorem b1j:SlR X b6s:=by
 intro pins s σ H x v vl vu lo hi sl Q I rx hs pl pu h
 obtain ⟨z,rfl,hz,q⟩:=h
 obtain ⟨t,rfl⟩:=rx
 obtain ⟨o,ho,hc,hd⟩:=hs
 refine ⟨"str",_,PySem.F.slot_str_getitem.lookup,typeIs_str _ _ _,?_⟩
 have fin:∀(l u:Option Int) (t':Tok) (k:Nat),Q (.str (Jo z l u)) H→EP X pins σ Q (.str (Jo z l u) t') {s with toks:=k}:=fun l u t' k q=>⟨.str _,H,I.tok _,⟨_,rfl⟩,q⟩
 cases pl with
 | none=>
  cases pu with
  | none=>exact wpAny_getItem_str_slice (l:=none) (u:=none) (st:=none) ⟨o,ho,hc,hd⟩ rfl (post_val_or_str ⟨Qs (Uo z _ _) hz,fun t' k=>fin _ _ t' k q⟩)
  | int j uj=>exact wpAny_getItem_str_slice (l:=none) (u:=some (j,uj)) (st:=none) ⟨o,ho,hc,hd⟩ rfl (post_val_or_str ⟨Qs (Uo z _ _) hz,fun t' k=>fin _ _ t' k q⟩)
 | int i ui=>
  cases pu with
  | none=>exact wpAny_getItem_str_slice (l:=some (i,ui)) (u:=none) (st:=none) ⟨o,ho,hc,hd⟩ rfl (post_val_or_str ⟨Qs (Uo z _ _) hz,fun t' k=>fin _ _ t' k q⟩)
  | int j uj=>exact wpAny_getItem_str_slice (l:=some (i,ui)) (u:=some (j,uj)) (st:=none) ⟨o,ho,hc,hd⟩ rfl (post_val_or_str ⟨Qs (Uo z _ _) hz,fun t' k=>fin _ _ t' k q⟩)
theorem a3d:MtR X "str.startswith" (fun x xs H Q=>∃a b,x=.str a∧xs=[.str b]∧Q (.bl (Zo a b)) H):=by
 intro pins s σ H x xs v us Q I rx rs h
 obtain ⟨a,b,rfl,rfl,q⟩:=h
 obtain ⟨t,rfl⟩:=rx
 obtain ⟨u,rfl,t',rfl⟩:=a1N rs
 exact SC.startswith ⟨.bl _,H,I,rfl,q⟩
end
theorem a1d:bootBuiltins "len"=some (.builtin "len"):=by decide+kernel
theorem a1i:bootBuiltins "isinstance"=some (.builtin "isinstance"):=by decide+kernel
theorem a2r:bootBuiltins "str"=some (.type "str"):=by decide+kernel
theorem a0Q:bootBuiltins "list"=some (.type "list"):=by decide+kernel
theorem a2a:bootBuiltins "tuple"=some (.type "tuple"):=by decide+kernel
section
variable {X:Cx}
def b3v:R2:=fun x y H Q=>∃i j,x=.str i∧y=.str j∧i.length+j.length≤sizeLine∧Q (.str (i++j)) H
def b3u:R2:=rI0 fun i j=>.int (i+j)
def a3x (K:Qa):R2:=fun x y H Q=>b3u x y H Q∨b3v x y H Q∨b4k x y H Q∨b1G K x y H Q
theorem a0g:OpR X (binaryOp .Add) (a3x X.K):=b2J.or (a5p.or (b2N.or b0C))
theorem a0B {K:Qa} {i j:Int} {H:Hp} {Q:VK}:a3x K (.int i) (.int j) H Q↔Q (.int (i+j)) H:=by
 constructor
 ·rintro (⟨a,b,e1,e2,q⟩ | ⟨a,b,e1,_⟩ | ⟨a,b,_,_,e1,_⟩ | ⟨a,b,_,_,e1,_⟩)
  ·cases e1;cases e2;exact q
  ·cases e1
  ·cases e1
  ·cases e1
 ·exact fun q=>.inl ⟨i,j,rfl,rfl,q⟩
theorem a1b {K:Qa} {i j:Str} {H:Hp} {Q:VK}:a3x K (.str i) (.str j) H Q↔(i.length+j.length≤sizeLine∧Q (.str (i++j)) H):=by
 constructor
 ·rintro (⟨a,b,e1,_⟩ | ⟨a,b,e1,e2,q⟩ | ⟨a,b,_,_,e1,_⟩ | ⟨a,b,_,_,e1,_⟩)
  ·cases e1
  ·cases e1;cases e2;exact q
  ·cases e1
  ·cases e1
 ·exact fun q=>.inr (.inl ⟨i,j,rfl,rfl,q⟩)
theorem a6T {i j:Int} {H:Hp} {Q:VK}:rEq (.int i) (.int j) H Q↔Q (.bl (decide (i=j))) H:=by
 unfold rEq
 have e:decide (V.int i=V.int j)=decide (i=j):=by
  by_cases h:i=j
  ·subst h;simp
  ·simp [h]
 rw [e]
 exact ⟨fun h=>h.2,fun h=>⟨rfl,h⟩⟩
theorem a6W {i j:Str} {H:Hp} {Q:VK}:rEq (.str i) (.str j) H Q↔Q (.bl (decide (i=j))) H:=by
 unfold rEq
 have e:decide (V.str i=V.str j)=decide (i=j):=by
  by_cases h:i=j
  ·subst h;simp
  ·simp [h]
 rw [e]
 exact ⟨fun h=>h.2,fun h=>⟨rfl,h⟩⟩
def inS (c s:Str):Bool:=!(Builtin.Str.occurrences s c 0 s.length 1).isEmpty
def b4a:R2:=fun x y H Q=>∃i j,x=.str i∧y=.str j∧Q (.bl (inS i j)) H
def b6B (K:Qa):R2:=fun x y H Q=>b4a x y H Q∨rIn K false x y H Q
theorem b1s:OpR X (compareOp .In) b4a:=a6C
theorem b1D:OpR X (compareOp .In) (b6B X.K):=b1s.or a6r
def b2l (K:Qa):List V→Hp→VK→Prop:=fun xs H Q=>(∃x n,xs=[x]∧b4q K x H n∧Q (.int n) H)∨∃a kvs,xs=[V.ref a]∧H a=some (.dK kvs)∧Q (.int kvs.length) H
theorem a1e:a0N X (.builtin "len") (b2l X.K):=a8o.or a7e
theorem a1a {K:Qa} {a:Addr} {xs:List V} {H:Hp} {Q:VK} (h:SqL K H a xs) (q:Q (.int xs.length) H):b2l K [.ref a] H Q:=.inl ⟨.ref a,xs.length,rfl,.inl ⟨xs,h,rfl⟩,q⟩
def b5z (K:Qa):V→Option Int→Option Int→Hp→VK→Prop:=fun x lo hi H Q=>b6s x lo hi H Q∨b5n K x lo hi H Q∨b5B K x lo hi H Q
theorem b0W:SlR X (b5z X.K):=b1j.or (b0h.or b1i)
theorem a4C {K:Qa} {z:Str} {lo hi:Option Int} {H:Hp} {Q:VK}:b5z K (.str z) lo hi H Q↔(z.length≤sizeLine∧Q (.str (Jo z lo hi)) H):=by
 constructor
 ·rintro (⟨x,e1,q⟩ | ⟨a,xs,e1,_⟩ | ⟨a,xs,e1,_⟩)
  ·cases e1;exact q
  ·cases e1
  ·cases e1
 ·exact fun q=>.inl ⟨z,rfl,q⟩
theorem a4i {K:Qa} {z:Str} {i:Int} {H:Hp} {Q:VK}:rIx K (.str z) (.int i) H Q↔(z.length≤sizeLine∧∃c,atI z.cps.toList i=some c∧Q (.str ⟨#[c]⟩) H):=by
 constructor
 ·rintro (⟨p,xs,j,v,e1,_⟩ | ⟨p,xs,j,v,e1,_⟩ | ⟨y,j,c,e1,e2,h1,h2,q⟩)
  ·cases e1
  ·cases e1
  ·cases e1;cases e2;exact ⟨h1,c,h2,q⟩
 ·rintro ⟨h1,c,h2,q⟩
  exact .inr (.inr ⟨z,i,c,rfl,rfl,h1,h2,q⟩)
theorem a0D {K:Qa} {a:Addr} {xs:List V} {i:Int} {v:V} {H:Hp} {Q:VK} (h:SqL K H a xs) (e:atI xs i=some v) (q:Q v H):rIx K (.ref a) (.int i) H Q:=.inl ⟨a,xs,i,v,rfl,rfl,h,e,q⟩
theorem a5Q {K:Qa} {a:Addr} {xs:List V} {i:Int} {v:V} {H:Hp} {Q:VK} (h:SqT K H a xs) (e:atI xs i=some v) (q:Q v H):rIx K (.ref a) (.int i) H Q:=.inr (.inl ⟨a,xs,i,v,rfl,rfl,h,e,q⟩)
theorem a1c {C:Int→Int→Prop} {g:Int→Int→V} {i j:Int} {H:Hp} {Q:VK}:rI C g (.int i) (.int j) H Q↔(C i j∧Q (g i j) H):=by
 constructor
 ·rintro ⟨a,b,e1,e2,q⟩;cases e1;cases e2;exact q
 ·exact fun q=>⟨i,j,rfl,rfl,q⟩
theorem a6d {g:Int→Int→V} {i j:Int} {H:Hp} {Q:VK}:rI0 g (.int i) (.int j) H Q↔Q (g i j) H:=by
 constructor
 ·rintro ⟨a,b,e1,e2,q⟩;cases e1;cases e2;exact q
 ·exact fun q=>⟨i,j,rfl,rfl,q⟩
theorem a4d {k:Bool} {P:Bool→Prop}:(∃c,V.bl k=V.bl c∧P c)↔P k:=by
 constructor
 ·rintro ⟨c,e,q⟩;cases e;exact q
 ·exact fun q=>⟨k,rfl,q⟩
theorem a4m {k:Int} {P:Int→Prop}:(∃c,V.int k=V.int c∧P c)↔P k:=by
 constructor
 ·rintro ⟨c,e,q⟩;cases e;exact q
 ·exact fun q=>⟨k,rfl,q⟩
theorem a0f {v:V} {P:V→Prop}:(∃x,some (some v)=some (some x)∧P x)↔P v:=by
 constructor
 ·rintro ⟨c,e,q⟩;cases e;exact q
 ·exact fun q=>⟨v,rfl,q⟩
end
theorem a0m.upd {H:Hp} {a:Addr} {o:HO} (h:H a=none):a0m H (upd H a o):=fun b u e=>by rw [a0a (a0b e h)];exact e
theorem a0m.tup {K:Qa} {H H':Hp} {a:Addr} {xs:List V} (e:a0m H H') (h:SqT K H a xs):SqT K H' a xs:=by
 rcases h with (h | ⟨o,h⟩) | h
 ·exact .inl (.inl (e _ _ h))
 ·exact .inl (.inr ⟨o,e _ _ h⟩)
 ·exact .inr h
section
variable {X:Cx} {st:Stmt} {a3h:List Stmt} {t u:TS}
def b8c (t u:TS):TS:=fun D σ H=>∃M:St→Hp→Prop,t {D with nx:=M} σ H∧∀σ' H',M σ' H'→u D σ' H'
theorem b0t (h1:PS X st t) (h2:PSs X a3h u):PSs X (st::a3h) (b8c t u):=by
 intro pins s σ H D I h
 obtain ⟨M,q1,q2⟩:=h
 refine wpAny_execs_cons (thn (h1 pins s σ H {D with nx:=M} I q1) fun f s1 q=>?_)
 cases f with
 | next=>
  obtain ⟨σ',H',I',q⟩:=q
  exact h2 pins s1 σ' H' D I' (q2 σ' H' q)
 | ret v=>exact q
 | brk=>exact q
 | cont=>exact q
end
theorem a1w {k:Addr} {P:Addr→Prop}:(∃c,V.ref k=V.ref c∧P c)↔P k:=by
 constructor
 ·rintro ⟨c,e,q⟩;cases e;exact q
 ·exact fun q=>⟨k,rfl,q⟩
theorem a2C {α:Type} {xs:List α} {i:Int} (h0:0≤i) (h1:i < xs.length):∃v,atI xs i=some v∧v∈xs∧xs[i.toNat]?=some v:=by
 have hk:i.toNat < xs.length:=by omega
 refine ⟨xs[i.toNat],?_,Xi hk,Qf hk⟩
 unfold atI ixN
 rw [if_pos h0,if_pos h1]
 exact Qf hk
theorem a0U {i j:Int} (h:0 < j):0≤i % j∧i % j < j:=⟨Int.emod_nonneg _ ‹om›,Int.emod_lt_of_pos _ h⟩
theorem b2D {A B:Prop}:(if false=true then A else B)=B:=if_neg Qr
theorem a9q {A B:Prop}:(if true=false then A else B)=B:=if_neg ‹dc›
theorem a0T {H:Hp} {p:Addr} (hp:H p=none) (o:HO):∃H',upd H p o=H'∧a0m H H'∧H' p=some o:=⟨_,rfl,a0m.upd hp,a0d⟩
def b7i (J:It) (g:TG) (tb:TS) (D:a6L) (σ:St) (H:Hp):Prop:=∃W:Nat→Nat→St→Hp→Prop,(∃m,W 0 m σ H)∧∀i m σ H,W i m σ H→
 (J.stop i H∧D.nx σ H)∨(J.go i H∧∃N:St→Hp→Prop,(∀σ' H',N σ' H'→∃m',m' < m∧W (i+1) m' σ' H')∧∀x H',J.yld i H x H'→g x σ H' fun σ2 H2=>tb {D with nx:=N,ct:=N,bk:=D.nx} σ2 H2)
theorem a0J {wi:TI} {g:TG} {tb:TS} {D:a6L} {σ:St} {H:Hp}:b4D wi g tb D σ H=wi σ H fun J H1=>b7i J g tb D σ H1:=rfl
theorem a2S {js:List (Option Nat)} {wi:TI} {g:TG} {tt:TT} {te:TE} {σ:St} {H:Hp} {Q:VK}:b2F js wi g tt te σ H Q=wi σ H fun J H1=>a8p J js g tt te σ H1 Q:=rfl
theorem a7B {J:It} {n:Nat} {f:Nat→V} {Ok:Hp→Prop} {js:List (Option Nat)} {te:TE} {σ:St} {H:Hp} {Q:VK} (S:Src J n f Ok) (hn:n≤sizeLine) (σr:St) (hσ:a2o js σ=none::σr) (Pr:Nat→V→Prop)
  (hOk:∀H',a0m H H'→Ok H') (hs:∀i H' (R:V→Hp→Prop),i < n→a0m H H'→(∀v H'',a0m H' H''→Pr i v→R v H'')→te (some (f i)::σr) H' R)
  (hd:∀D H' ys,H D=none→a0m H H'→H' D=some (.lst ys)→ys.length=n→(∀i v,ys[i]?=some v→Pr i v)→Q (.ref D) H'):a8p J js (a0u 0) b3J te σ H Q:=by
 refine a7P S hn (fun D i σ' H' ys=>(∃a,σ'=a::σr)∧a0m H H'∧H' D=some (.lst ys)∧ys.length=i∧∀j v,ys[j]?=some v→Pr j v) ?_ ?_ ?_ ?_
 ·intro D hD
  exact ⟨⟨none,hσ⟩,a0m.upd hD,a0d,rfl,fun j v e=>by simp at e⟩
 ·rintro D i σ' H' ys hD hi ⟨_,s,h,hl,_⟩
  exact ⟨hOk _ s,h,Ui hl⟩
 ·rintro D i σ' H' ys R hD hi ⟨⟨a,rfl⟩,s,h,hl,hp⟩ hR
  show te (some (f i)::σr) H' _
  refine hs i H' _ hi s fun v H'' s2 pv=>⟨s2 _ _ h,hR _ _ _ ⟨⟨_,rfl⟩,?_,a0d,by simp [hl],fun j v' e=>?_⟩⟩
  ·intro b o e
   rw [a0a (a0b e hD)]
   exact s2 b o (s b o e)
  ·rw [Vk] at e
   split at e
   ·exact hp j v' e
   ·rename_i hj
    have e1:j=ys.length:=by
     have:=(Xa.mp e).1
     simp at this;omega
    subst e1
    simp at e
    subst e
    rw [hl];exact pv
 ·rintro D σ' H' ys hD ⟨_,s,h,hl,hp⟩
  exact hd D H' ys hD s h hl hp
theorem a3g {K:Qa}:Xv K (.type "list") (.type "list")=some true:=by kernel_rfl
section
variable {K:Qa} {H:Hp} {Q:VK}
def a6c:V→List V→Hp→VK→Prop:=fun x xs H Q=>∃a b,x=.str a∧xs=[.str b]∧Q (.bl (Zo a b)) H
def b1T (K:Qa):V→List V→Hp→VK→Prop:=fun x xs H Q=>∃z p ys,x=.str z∧xs=[.ref p]∧(SqL K H p (ys.map V.str)∨SqT K H p (ys.map V.str))∧(ys.map (·.length)).sum+ys.length * z.length≤16777216∧Q (.str (Txt.join z ys)) H
theorem a5G {a b:Str}:a6c (.str a) [.str b] H Q↔Q (.bl (Zo a b)) H:=⟨by rintro ⟨_,_,e1,e2,q⟩;cases e1;cases e2;exact q,fun q=>⟨_,_,rfl,rfl,q⟩⟩
theorem a4r {z:Str} {p:Addr} {ys:List Str} (h:SqL K H p (ys.map V.str)∨SqT K H p (ys.map V.str)) (hl:(ys.map (·.length)).sum+ys.length * z.length≤16777216) (q:Q (.str (Txt.join z ys)) H):b1T K (.str z) [.ref p] H Q:=⟨z,p,ys,rfl,rfl,h,hl,q⟩
theorem a7M {z:Str} {P:Prop}:(tyV K "str" (.str z) H∧P)↔P:=⟨fun h=>h.2,fun h=>⟨rfl,h⟩⟩
def b1f (K:Qa):List V→Hp→VK→Prop:=fun xs H Q=>∃p ys,xs=[.ref p]∧((SqL K H p ys∧∀l,H l=none→Q (.ref l) (upd H l (.tup ys)))∨SqT K H p ys∧Q (.ref p) H)
def b0o (K:Qa):List V→Hp→VK→Prop:=fun xs H Q=>∃p ys,xs=[.ref p]∧(SqL K H p ys∨SqT K H p ys)∧∀l,H l=none→Q (.ref l) (upd H l (.lst ys))
end
mutual
inductive Den (K:Qa) (H:Hp):V→PyData→Prop
 | non:Den K H .non .none
 | bl (b:Bool):Den K H (.bl b) (.bool b)
 | int (i:Int):Den K H (.int i) (.int i)
 | str (x:Str):Den K H (.str x) (.str x)
 | lst {a:Addr} {xs:List V} {ds:List PyData}:SqL K H a xs→DenAll K H xs ds→Den K H (.ref a) (.list ds)
 | tup {a:Addr} {xs:List V} {ds:List PyData}:SqT K H a xs→DenAll K H xs ds→Den K H (.ref a) (.tuple ds)
inductive DenAll (K:Qa) (H:Hp):List V→List PyData→Prop
 | nil:DenAll K H [] []
 | cons {x:V} {xs:List V} {d:PyData} {ds:List PyData}:Den K H x d→DenAll K H xs ds→DenAll K H (x::xs) (d::ds)
end
theorem a1X {K:Qa} {H:Hp}:∀ys:List Str,DenAll K H (ys.map V.str) (ys.map Yi)
 | []=>.nil
 | y::ys=>.cons (.str y) (a1X ys)
def b4v (K:Qa):R2:=fun x y H Q=>∃d e,Den K H x d∧Den K H y e∧Zw d=true∧Zw e=true∧Q (.bl (Yv d e)) H
def b4B (K:Qa):R2:=fun x y H Q=>∃d e,Den K H x d∧Den K H y e∧Zw d=true∧Zw e=true∧Q (.bl (!PyData.eqv d e)) H
def b3o (K:Qa):R2:=fun x y H Q=>rEq x y H Q∨b4v K x y H Q
def b4U (K:Qa):R2:=fun x y H Q=>rNe x y H Q∨b4B K x y H Q
section
variable {K:Qa} {H:Hp} {Q:VK}
theorem a4F {i j:Str}:b3o K (.str i) (.str j) H Q↔Q (.bl (decide (i=j))) H:=by
 constructor
 ·rintro (h | ⟨d,e,h1,h2,_,_,q⟩)
  ·exact a6W.mp h
  ·cases h1;cases h2
   rw [show decide (i=j)=Yv (.str i) (.str j) from by simp only [Yv];by_cases z:i=j<;>simp [z]];exact q
 ·exact fun q=>.inl (a6W.mpr q)
theorem a1q {i j:Int}:b3o K (.int i) (.int j) H Q↔Q (.bl (decide (i=j))) H:=by
 constructor
 ·rintro (h | ⟨d,e,h1,h2,_,_,q⟩)
  ·exact a6T.mp h
  ·cases h1;cases h2
   rw [show decide (i=j)=Yv (.int i) (.int j) from by simp only [Yv];by_cases z:i=j<;>simp [z]];exact q
 ·exact fun q=>.inl (a6T.mpr q)
theorem a4p {a:Addr} {xs:List V} (h:H a=some (.lst xs)) (q:Q (.bl true) H):b6z K [.ref a,.ty "list"] H Q:=⟨_,_,_,_,_,rfl,rfl,.lst h,a3g,q⟩
end
section
variable {X:Cx}
theorem a7c:MtR X "str.startswith" a6c:=a3d
theorem a2O:∀{ys:List Str} {us:List Value},a0r (ys.map V.str) us→StrsAre us ys
 | [],_,r=>by rw [Ul] at r;cases r;exact .nil
 | y::ys,_,r=>by
  rw [Xp] at r
  cases r with
  | cons h t=>obtain ⟨tk,rfl⟩:=h;exact .cons y tk (a2O t)
theorem a6x:MtR X "str.join" (b1T X.K):=by
 intro pins s σ H x xs v us Q I rx rs h
 obtain ⟨z,p,ys,rfl,rfl,hq,hl,q⟩:=h
 obtain ⟨t,rfl⟩:=rx
 obtain ⟨u,rfl,ru⟩:=a1N rs
 cases ru
 rcases hq with hq | hq
 ·obtain ⟨its,r,pl,_⟩:=I.list hq
  exact join_list pl.isList (by simpa using a2O r) hl fun t' k=>⟨.str _,H,I.tok _,⟨_,rfl⟩,q⟩
 ·obtain ⟨its,r,pl,_⟩:=I.tuple hq
  exact join_tuple pl (by simpa using a2O r) hl fun t' k=>⟨.str _,H,I.tok _,⟨_,rfl⟩,q⟩
theorem a2F:a0N X (.type "tuple") (b1f X.K):=by
 intro pins s σ H xs us Q I r h
 obtain ⟨p,ys,e,h⟩:=h
 exact a2V pins s σ H xs us Q I r ⟨p,ys,e,h⟩
theorem a0V:a0N X (.type "list") (b0o X.K):=a3o
mutual
theorem Den.reads {pins:List (Addr×Obj)} {σ:St} {H:Hp} {s:Shared} (I:Inv X pins σ H s):∀{x:V} {d:PyData} {u:Value},Den X.K H x d→a0s x u→∃as,Reads s.heap u d as
 | _,_,_,.non,r=>by cases r;exact ⟨_,.none⟩
 | _,_,_,.bl b,r=>by cases r;exact ⟨_,.bool b⟩
 | _,_,_,.int i,r=>by obtain ⟨t,rfl⟩:=r;exact ⟨_,.int i t⟩
 | _,_,_,.str x,r=>by obtain ⟨t,rfl⟩:=r;exact ⟨_,.str x t⟩
 | _,_,_,.lst h hs,r=>by
  cases r
  obtain ⟨its,rv,pl,_⟩:=I.list h
  obtain ⟨o,ho,hc,n,hd⟩:=pl.isList
  obtain ⟨as,ra⟩:=DenAll.reads I hs rv
  exact ⟨_,.list ho hc hd (by simpa using ra)⟩
 | _,_,_,.tup h hs,r=>by
  cases r
  obtain ⟨its,rv,pl,_⟩:=I.tuple h
  obtain ⟨o,ho,hc,n,hd⟩:=pl
  obtain ⟨as,ra⟩:=DenAll.reads I hs rv
  exact ⟨_,.tuple ho hc hd (by simpa using ra)⟩
theorem DenAll.reads {pins:List (Addr×Obj)} {σ:St} {H:Hp} {s:Shared} (I:Inv X pins σ H s):∀{xs:List V} {ds:List PyData} {us:List Value},DenAll X.K H xs ds→a0r xs us→∃as,ReadsAll s.heap us ds as
 | _,_,_,.nil,r=>by cases r;exact ⟨_,.nil⟩
 | _,_,_,.cons h hs,r=>by
  cases r with
  | cons r1 r2=>
   obtain ⟨as,ra⟩:=Den.reads I h r1
   obtain ⟨bs,rb⟩:=DenAll.reads I hs r2
   exact ⟨_,.cons ra rb⟩
end
theorem b2C (hu:X.A.units+64 < cLine):OpR X (compareOp .Eq) (b4v X.K):=by
 intro pins s σ H x y v u Q I rx ry h
 obtain ⟨d,e,h1,h2,s1,s2,q⟩:=h
 obtain ⟨as,ra⟩:=h1.reads I rx
 obtain ⟨bs,rb⟩:=h2.reads I ry
 exact eq_dataH ra rb s1 s2 hu ⟨.bl _,H,I,rfl,q⟩
theorem b2u (hu:X.A.units+64 < cLine):OpR X (compareOp .NotEq) (b4B X.K):=by
 intro pins s σ H x y v u Q I rx ry h
 obtain ⟨d,e,h1,h2,s1,s2,q⟩:=h
 obtain ⟨as,ra⟩:=h1.reads I rx
 obtain ⟨bs,rb⟩:=h2.reads I ry
 exact ne_dataH ra rb s1 s2 hu ⟨.bl _,H,I,rfl,q⟩
theorem a1F (hu:X.A.units+64 < cLine):OpR X (compareOp .Eq) (b3o X.K):=b3x.or (b2C hu)
theorem a4G (hu:X.A.units+64 < cLine):OpR X (compareOp .NotEq) (b4U X.K):=b3B.or (b2u hu)
variable {K:Qa}
theorem a1Y (h:X.K=K):OpR X (binaryOp .Add) (a3x K):=h ▸ a0g
theorem a6N (h:X.K=K):IxR X (rIx K):=h ▸ a0l
end
end L2
namespace L2
open PySem PySem.Spec PyProof.Rows PySem.W
end L2
namespace L2
open PySem PySem.Spec PyProof.Rows
theorem a7a {J:It} {n:Nat} {f:Nat→V} {Ok:Hp→Prop} {js:List (Option Nat)} {te:TE} {σ:St} {H:Hp} {Q:VK} (S:Src J n f Ok) (hn:n≤sizeLine) (σr:St) (hσ:a2o js σ=none::σr) (Pr:Addr→Nat→V→Hp→Prop)
  (mono:∀D i v (H1 H2:Hp),(∀b o,b≠D→H1 b=some o→H2 b=some o)→Pr D i v H1→Pr D i v H2)
  (hOk:∀H',a0m H H'→Ok H') (hs:∀D i H' (R:V→Hp→Prop),i < n→H D=none→a0m H H'→(∃ys,H' D=some (.lst ys))→(∀v H'',a0m H' H''→Pr D i v H''→R v H'')→te (some (f i)::σr) H' R)
  (hd:∀D H' ys,H D=none→a0m H H'→H' D=some (.lst ys)→ys.length=n→(∀i v,ys[i]?=some v→Pr D i v H')→Q (.ref D) H'):a8p J js (a0u 0) b3J te σ H Q:=by
 refine a7P S hn (fun D i σ' H' ys=>(∃a,σ'=a::σr)∧a0m H H'∧H' D=some (.lst ys)∧ys.length=i∧∀j v,ys[j]?=some v→Pr D j v H') ?_ ?_ ?_ ?_
 ·intro D hD
  exact ⟨⟨none,hσ⟩,a0m.upd hD,a0d,rfl,fun j v e=>by simp at e⟩
 ·rintro D i σ' H' ys hD hi ⟨_,s,h,hl,_⟩
  exact ⟨hOk _ s,h,Ui hl⟩
 ·rintro D i σ' H' ys R hD hi ⟨⟨a,rfl⟩,s,h,hl,hp⟩ hR
  show te (some (f i)::σr) H' _
  refine hs D i H' _ hi hD s ⟨_,h⟩ fun v H'' s2 pv=>⟨s2 _ _ h,hR _ _ _ ⟨⟨_,rfl⟩,?_,a0d,by simp [hl],fun j v' e=>?_⟩⟩
  ·intro b o e
   rw [a0a (a0b e hD)]
   exact s2 b o (s b o e)
  ·have up:∀b o,b≠D→H'' b=some o→upd H'' D (.lst (ys++[v])) b=some o:=fun b o hb e=>by rw [a0a hb];exact e
   rw [Vk] at e
   split at e
   ·exact mono _ _ _ _ _ (fun b o hb e=>up b o hb (s2 b o e)) (hp j v' e)
   ·have e1:j=ys.length:=by
     have:=(Xa.mp e).1
     simp at this;omega
    subst e1
    simp at e
    subst e
    rw [hl];exact mono _ _ _ _ _ up pv
 ·rintro D σ' H' ys hD ⟨_,s,h,hl,hp⟩
  exact hd D H' ys hD s h hl hp
structure b1p (K:Qa) (C:Addr) (m:Str) (f:Addr):Prop where
 ga:Ug K (.ref C) "__getattribute__"=some (some (.builtin "type.__getattribute__"))
 rd:PySem.W.readsIn K C (.type "type")=true
 at_:PySem.W.findCls K (.ref C) (.type "type") m=some (.val (.ref f))
 kp:Zb K (.ref f)=true
structure TyI (K:Qa) (C:Addr):Prop where
 ha:Yd K (.ref C) "__class__"=some (some (.builtin "object.__class__"))
 hn:Ug K (.builtin "object.__class__") "__get__"=some (some (.builtin "getset_descriptor.__get__"))
 htk:Wg K (.builtin "object.__class__")=some true
 hm:PySem.W.mroIn K C (.type "object")=some true
theorem b1n {K:Qa} {C D:Addr} {cd:ClassData} {b:Bool} (hc:PySem.W.clsIn K D=some cd) (ht:Vd K (.ref D)=some (.type "type")) (hs:Vo K (.ref C) (.ref D)=some b) (ho:Vo K (.ref C) (.ref C)=some true):
  Xv K (.ref C) (.ref D)=some b:=by
 unfold Xv
 by_cases e:(Value.ref C == Value.ref D)=true
 ·rw [if_pos e]
  have e':C=D:=by
   have:=eq_of_beq e
   injection this
  rw [←e',ho] at hs
  exact hs
 ·rw [if_neg e]
  show (if ((PySem.W.clsIn K D).isSome && Vd K (.ref D) == some (.type "type"))=true then Vo K (.ref C) (.ref D) else none)=_
  rw [hc,ht,if_pos (by simp),hs]
section
variable {X:Cx}
def b7K:R2:=fun x y H Q=>∃i j,x=.str i∧y=.str j∧Q (.bl (decide (i.cps.toList < j.cps.toList))) H
def b5a:R2:=fun x y H Q=>rI0 (fun i j=>.bl (decide (i < j))) x y H Q∨b7K x y H Q
theorem a8S:OpR X (compareOp .Lt) b5a:=b3Q.or a6Q
theorem a4S {i j:Int} {H:Hp} {Q:VK}:b5a (.int i) (.int j) H Q↔Q (.bl (decide (i < j))) H:=by
 constructor
 ·rintro (⟨a,b,e1,e2,q⟩ | ⟨a,b,e1,_⟩)
  ·cases e1;cases e2;exact q
  ·cases e1
 ·exact fun q=>.inl ⟨i,j,rfl,rfl,q⟩
end
section
variable {X:Cx} {o e:Expr} {es:List Expr} {apos pos:Pos} {m:Str} {C f:Addr} {fd:FuncData} {ps:List Str} {sp:Sp} {CX:CXT} {k:Nat} {E:XK} {dvs:List V} {ds:List Value} {ta:TE} {t:TA}
def a9k (C:Addr) (sp:Sp) (dvs:List V) (E:XK) (ta:TE) (t:TA):TE:=fun σ H Q=>ta σ H fun x H1=>x=.ref C∧t σ H1 fun vs H2=>sp (vs++dvs) H2 Q E
theorem a8s {pl:Sem Bool} (he:PE X o ta) (hm:b1p X.K C m f) (F:a1r X.prog X.w X.K X.mg X.base CX k f fd ps sp) (hr:a1M k X.A) (hb:a0z X.K fd ps ds) (hd:a0r dvs ds) (hx:a2c CX X E) (ha:PA X (e::es) t)
  (hst:starEach (e::es) X.env=(false,eval e X.env)::starEach es X.env:=by rfl) (hpl:(backTo pos (starEach es X.env)).any (·.1)=false:=by rfl)
  (ht:eval (.Call (.Attribute o m apos) (e::es) [] pos) X.env=(do
   let ov ←eval o X.env
   standAt apos.atName
   let (f,first) ←holding [ov] (getMethod ov m pl)
   callWith pos f first (backTo pos (starEach (e::es) X.env)) (backToKw pos (keywordEach [] X.env))):=by rfl):
  PE X (.Call (.Attribute o m apos) (e::es) [] pos) (a9k C sp dvs E ta t):=by
 intro pins s σ H Q I h
 refine Ve (pl:=pl) (thn (he pins s σ H _ I h) fun u s1 ⟨x,H1,I1,rx,ex,q⟩=>?_) ht
 subst ex
 obtain rfl:u=Value.ref C:=rx
 refine PySem.W.method_cls I1.kIn hm.ga (PySem.W.cls_value I1.kIn hm.rd hm.at_ rfl ?_)
 refine Ua (first:=[]) (h₀:=X.base) I.ok.mod.kin hm.kp (thn (ha pos pins _ σ H1 _ (I1.tok _) q) fun us s2 ⟨vs,H2,I2,r,q2⟩=>⟨I2.kIn,?_⟩) hst hpl
 exact a7b (us:=us) (vs:=vs) F hr hb hd hx I2 r q2
end
theorem a5T {c:TT} {tb:TS} {D:a6L} {σ:St} {H:Hp} (W:Nat→St→Hp→Prop) (m0:Nat) (h0:W m0 σ H)
  (hs:∀m σ H,W m σ H→c σ H fun b H1=>if b=true then ∃N:St→Hp→Prop,(∀σ' H',N σ' H'→∃m',m' < m∧W m' σ' H')∧tb {D with nx:=N,ct:=N,bk:=D.nx} σ H1 else D.nx σ H1):a9i c tb D σ H:=⟨W,⟨m0,h0⟩,hs⟩
theorem b0b (z:Str) (r:List Str):inV (.str z) (r.map V.str)=decide (z∈r):=by
 unfold inV
 rw [Zt,List.any_eq_true,decide_eq_true_eq]
 constructor
 ·rintro ⟨v,hv,e⟩
  obtain ⟨l,hl,rfl⟩:=Xm.mp hv
  have e':(l == z)=true:=e
  rw [←eq_of_beq e'];exact hl
 ·intro h
  exact ⟨.str z,Xm.mpr ⟨z,h,rfl⟩,(beq_self_eq_true z:(z == z)=true)⟩
theorem a7x (qs:List Str):(qs.map V.str).all a2T=true:=by
 rw [List.all_eq_true];intro v hv
 obtain ⟨l,_,rfl⟩:=Xm.mp hv;rfl
theorem none_of {H H':Hp} (s:a0m H H') {p:Addr} (h:H' p=none):H p=none:=by
 cases e:H p with
 | none=>rfl
 | some o=>rw [s _ _ e] at h;cases h
end L2
namespace L2
open PySem PySem.Spec PyProof.Rows PySem.W
section
variable {X:Cx} {pins:List (Addr×Obj)} {σ:St} {H:Hp} {s:Shared} {a:Addr} {kvs:List (Key×V)} {k:Key} {u:Value} {A:Around} {E:Value→Shared→Prop}
theorem b1l {z:V} {r:Value} {Q:Value→Shared→Prop} (I:Inv X pins σ H s) (e:H a=some (.dK kvs)) (ry:a0s (kV k) u) (rz:a0s z r) (hz:kvs.length < sizeLine)
  (h1:∀v w' s',a0E kvs k=some v→Inv X pins σ H s'→a0s v w'→Q w' s') (h2:a0E kvs k=none→∀s',Inv X pins σ (upd H a (.dK (a1J kvs k z))) s'→Q r s'):
  wpAny (model X.prog X.w) A (call (.builtin "dict.setdefault") [.ref a,u,r]) Q E s:=by
 obtain ⟨z0,hd,vs,rel,dd⟩:=b1Y I.hok e
 refine call_meetsIn Jz dd.typeIs PySem.F.entry_dict_setdefault (PySem.F.args_dict_setdefault_3 _ _ _) (kt_meets_setdefault (a0p X.prog X.w) a (a7G ry) hd r) ⟨vs,dd,by rw [←rel.length];exact z0,fun v hv=>?_,fun hn h' dd' hs=>?_⟩
 ·cases l:a0E kvs k with
  | none=>
   have:=a3b.none_of (o:=valueAt vs k) (by rw [←l];exact rel.val k)
   rw [this] at hv;cases hv
  | some x=>
   obtain ⟨w',hw,rw'⟩:=a3b.some_of (v:=x) (o:=valueAt vs k) (by rw [←l];exact rel.val k)
   rw [hw] at hv;cases hv
   exact h1 x _ _ l (I.tok _) rw'
 ·have l:a0E kvs k=none:=by
   cases l:a0E kvs k with
   | none=>rfl
   | some x=>
    obtain ⟨w',hw,_⟩:=a3b.some_of (v:=x) (o:=valueAt vs k) (by rw [←l];exact rel.val k)
    rw [hw] at hn;cases hn
  refine h2 l _ ?_
  have he:∃q,h'.get? a=some q:=let ⟨q,_,_,hq,_⟩:=dd';⟨q,hq⟩
  exact a3W I (by rw [e];exact True.intro) hs he (a9s (by have:=a0x kvs k z;omega) hd (rel.put k rz) dd')
end
def a4v (td ty tx:TE):TE:=fun σ H Q=>td σ H fun x H1=>∃a,x=.ref a∧IsD H1 a∧ty σ H1 fun y H2=>tx σ H2 fun z H3=>∃kvs k,H3 a=some (.dK kvs)∧y=kV k∧kvs.length < sizeLine∧
 (∀v,a0E kvs k=some v→Q v H3)∧(a0E kvs k=none→Q z (upd H3 a (.dK (a1J kvs k z))))
section
variable {X:Cx} {o e f:Expr} {apos cpos:Pos} {td ty tx:TE}
theorem a8K (ho:PE X o td) (he:PE X e ty) (hf:PE X f tx) (m:M2 X o "setdefault" apos e f cpos):PE X (.Call (.Attribute o "setdefault" apos) [e,f] [] cpos) (a4v td ty tx):=by
 intro pins s σ H Q I h
 refine wpAny_Call_method m.base m.few m.line Ut Jz PySem.F.type_dict_setdefault (thn (ho pins s σ H _ I h) fun u s1 ⟨x,H1,I1,rx,a,ex,d,q1⟩=>?_)
 subst ex
 obtain rfl:u=Value.ref a:=rx
 obtain ⟨t1,t2,_⟩:=a9g I1 d
 refine ⟨t1,t2,?_⟩
 rw [m.trees]
 refine Calls.callWith_builtin rfl (Calls.evalArgs_plain (Calls.spliced_cons (thn (he pins s1 σ H1 _ I1 q1) fun iv s2 ⟨y,H2,I2,ry,q2⟩=>
  Calls.spliced_cons (thn (hf pins s2 σ H2 _ I2 q2) fun fv s3 ⟨z,H3,I3,rz,kvs,k,hH,ey,hz,q3,q4⟩=>Calls.spliced_nil ?_))))
 subst ey
 exact b1l I3 hH ry rz hz (fun v w' s' l I' r'=>⟨v,H3,I',r',q3 v l⟩) (fun l s' I'=>⟨z,_,I',rz,q4 l⟩)
end
section
variable {α β:Type}
def TOk (n:Nat) (P:α→Prop):KasT α→Prop
 | .ret a=>P a
 | .ask i j k=>i < n∧j < n∧∀b,TOk n P (k b)
def b0d (lt:Nat→Nat→Bool):KasT α→α
 | .ret a=>a
 | .ask i j k=>b0d lt (k (lt i j))
theorem TOk.run {n:Nat} {P:α→Prop} {lt:Nat→Nat→Bool}:∀{t:KasT α},TOk n P t→P (b0d lt t)
 | .ret _,h=>h
 | .ask i j k,h=>show P (b0d lt (k (lt i j))) from TOk.run (h.2.2 (lt i j))
theorem TOk.wp {n:Nat} {P:α→Prop} {lt:Nat→Nat→Bool} {cmp:Nat→Nat→(Bool→Shared→Prop)→Shared→Prop} {Q:α→Shared→Prop} {s:Shared} (hc:∀i j C,i < n→j < n→C (lt i j) s→cmp i j C s):∀{t:KasT α},TOk n P t→Q (b0d lt t) s→t.kasWp cmp Q s
 | .ret _,_,q=>q
 | .ask i j k,h,q=>hc i j _ h.1 h.2.1 (TOk.wp hc (h.2.2 _) q)
theorem TOk.bind {n:Nat} {P:α→Prop} {R:β→Prop} {f:α→KasT β} (hf:∀a,P a→TOk n R (f a)):∀{t:KasT α},TOk n P t→TOk n R (t.bind f)
 | .ret _,h=>hf _ h
 | .ask i j k,h=>⟨h.1,h.2.1,fun b=>TOk.bind hf (h.2.2 b)⟩
end
def a0y (n:Nat) (p:Array Nat):Prop:=p.Perm (Zg (Yo n))
theorem a0y.list {n:Nat} {p:Array Nat} (h:a0y n p):p.toList.Perm (Yo n):=Array.perm_iff_toList_perm.mp h
theorem a0y.lt {n:Nat} {p:Array Nat} (h:a0y n p) (hn:0 < n) (i:Nat):p.getD i 0 < n:=by
 by_cases hi:i < p.size
 ·have h1:p[i]∈Yo n:=h.list.mem_iff.mp (by simp)
  have e:p.getD i 0=p[i]:=by simp [Jr,hi]
  rw [e];exact Jw.mp h1
 ·have e:p.getD i 0=0:=by simp [Jr,hi]
  rw [e];exact hn
theorem a0y.rev {n:Nat} {p:Array Nat} (h:a0y n p) (i j:Nat):a0y n (kas_rev p i j):=(mirror_perm _ _ _ _).trans h
theorem a0y.bub {n:Nat} {p:Array Nat} (h:a0y n p) (i j:Nat):a0y n (bubble p i j):=(bubble_perm _ _ _).trans h
section
variable {n:Nat} (hn:0 < n)
include hn
theorem a7g {p:Array Nat} (hp:a0y n p):∀f m,TOk n (fun _=>True) (kas_asc p f m)
 | 0,m=>trivial
 | f+1,m=>⟨hp.lt hn _,hp.lt hn _,fun b=>by
   show TOk n _ (if b=true then _ else _)
   split
   ·exact trivial
   ·exact a7g hp f (m+1)⟩
theorem a2U:∀f (p:Array Nat) m q,a0y n p→TOk n (fun r=>a0y n r.1) (kas_desc f p m q)
 | 0,p,m,q,hp=>hp
 | f+1,p,m,q,hp=>⟨hp.lt hn _,hp.lt hn _,fun b=>by
   show TOk n _ (if b=true then _ else _)
   split
   ·split
    ·exact a2U f _ _ _ (hp.rev _ _)
    ·exact a2U f _ _ _ hp
   ·refine ⟨hp.lt hn _,hp.lt hn _,fun d=>?_⟩
    show TOk n _ (if d=true then _ else _)
    split
    ·exact hp
    ·exact a2U f _ _ _ hp⟩
theorem a4U {p:Array Nat} (hp:a0y n p) (m r:Nat):TOk n (fun r=>a0y n r.2) (kas_tail3 m r p):=by
 unfold kas_tail3
 refine TOk.bind (P:=fun _=>True) (fun k _=>?_) (a7g hn (hp.rev _ _) _ _)
 exact hp.rev 0 m
theorem a2b {p:Array Nat} (hp:a0y n p) (m r:Nat):TOk n (fun r=>a0y n r.2) (kas_descPart m r p):=TOk.bind (fun a ha=>by
 split
 ·exact a4U hn (a0y.rev ha _ _) _ _
 ·exact a4U hn ha _ _) (a2U hn _ _ _ _ hp)
theorem a8J {p:Array Nat} (hp:a0y n p) (r:Nat):TOk n (fun r=>a0y n r.2) (kas_count r p):=TOk.bind (fun a _=>by
 split
 ·exact hp
 ·split
  ·refine ⟨hp.lt hn _,hp.lt hn _,fun b=>?_⟩
   show TOk n _ (if b=true then _ else _)
   split
   ·exact hp
   ·exact a2b hn (hp.rev _ _) _ _
  ·exact a2b hn hp _ _) (a7g hn hp _ _)
theorem a2X {p:Array Nat} (hp:a0y n p) (k:Nat):∀f l r,TOk n (fun _=>True) (kas_place p k f l r)
 | 0,l,r=>trivial
 | f+1,l,r=>by
  show TOk n _ (if l≥r then _ else _)
  split
  ·exact trivial
  ·refine ⟨hp.lt hn _,hp.lt hn _,fun b=>?_⟩
   show TOk n _ (if b=true then _ else _)
   split
   ·exact a2X hp k f _ _
   ·exact a2X hp k f _ _
theorem a9p:∀f (p:Array Nat) k,a0y n p→TOk n (a0y n) (kas_bin f p k)
 | 0,p,k,hp=>hp
 | f+1,p,k,hp=>TOk.bind (fun l _=>a9p f _ _ (hp.bub _ _)) (a2X hn hp k _ _ _)
theorem b0H:TOk n (a0y n) (kas_sort n):=TOk.bind (fun r hr=>by
 split
 ·exact a9p hn _ _ _ hr
 ·exact hr) (a8J hn (Wi.refl _) n)
end
theorem a5h (vs:List Value):(Yo vs.length).map (fun i=>vs.getD i Value.none)=vs:=by
 refine Zq (by simp) fun i h1 h2=>?_
 simp [h2]
section
variable {prog:Program} {w:World} {A:Around} {E:Value→Shared→Prop} {s:Shared}
theorem a2f {a:Addr} {vs:List Value} {n:Nat} {P:PySem.Fin→Shared→Prop} (ho:s.heap.get? a=some (seqObj "list" vs.toArray n)) (h64:vs.length < 64) (lt:Nat→Nat→Bool) (κ:SortKind)
  (hk:2≤vs.length→∀h',(∀b o,b≠a→s.heap.get? b=some o→h'.get? b=some o)→∀Q:SortKind→Shared→Prop,Q κ {s with heap:=h'}→wpAny (model prog w) A (keyKind' vs.toArray) Q (fun _ _=>False) {s with heap:=h'})
  (hask:∀h',(∀b o,b≠a→s.heap.get? b=some o→h'.get? b=some o)→∀i j C,i < vs.length→j < vs.length→C (lt i j) {s with heap:=h'}→kas_ask prog w A κ vs i j C {s with heap:=h'})
  (h:∀p:Array Nat,a0y vs.length p→(2≤vs.length→p=b0d lt (kas_sort vs.length))→P (.done (.ret .none)) {s with heap:=sortedHeap s.heap a vs (Zg (p.toList.map fun i=>vs.getD i Value.none))}):
  wpAny (model prog w) A (Builtin.«list.sort» ⟨[.ref a],[]⟩) P E s:=by
 rw [list_sort_plain]
 have ha:a < s.heap.objs.size:=Qq ho
 refine wpAny_bind (listItems_at ho rfl ?_)
 refine wpAny_bind (listUpdate_at ho rfl ?_ (by rw [Qh,sizeLine_eq];omega) (Xl _))
 obtain ⟨e1,ho1⟩:∃e1,(s.heap.update a (Obj.mapSeq fun _=>#[])).get? a=some (seqObj "list" #[] e1):=⟨_,get?_update_seq ho (fun _=>#[])⟩
 refine wpAny_bind (seqEpoch_at ho1 rfl ?_)
 refine wpAny_bind (wpAny_newTuple ?_ (by show vs.length≤_;rw [sizeLine_eq];omega))
 refine wpAny_bind (wpAny_newList ?_ (Xl _))
 refine wpAny_holding ?_
 have ho6:(((s.heap.update a (Obj.mapSeq fun _=>#[])).push (seqObj "tuple" vs.toArray 0)).push (seqObj "list" #[] 0)).get? a=some (seqObj "list" #[] e1):=by
  rw [Jd _ _ _ (by rw [size_push',Up];exact Qw (Xx ha)),Jd _ _ _ (by rw [Up];exact Qw ha)]
  exact ho1
 have keep:∀b o,b≠a→s.heap.get? b=some o→(((s.heap.update a (Obj.mapSeq fun _=>(#[]:Array Value))).push (seqObj "tuple" vs.toArray 0)).push (seqObj "list" #[] 0)).get? b=some o:=fun b o hb e=>by
  refine Qe _ (Qe _ ?_)
  rw [Vp _ _ _ _ hb];exact e
 show wpAny (model prog w) A _ P E {s with heap:=((s.heap.update a (Obj.mapSeq fun _=>(#[]:Array Value))).push (seqObj "tuple" vs.toArray 0)).push (seqObj "list" #[] 0)}
 dsimp only
 by_cases h2:vs.toArray.size < 2
 ·rw [if_pos h2,if_pos h2]
  refine wpAny_bind (wpAny_pure ?_)
  rw [StateT.run_pure]
  refine wpAny_bind (wpAny_pure ?_)
  dsimp only
  refine wpAny_bind (seqEpoch_at ho6 rfl ?_)
  have hz:((arrOf (SortSt.mk' general' (vs.toArray.zip vs.toArray) #[] 7 none)).map (·.2))=Zg ((Zg (Yo vs.length)).toList.map fun i=>vs.getD i Value.none):=by
   have e:=a5h vs
   show ((vs.toArray.zip vs.toArray).map (·.2))=Zg ((Yo vs.length).map fun i=>vs.getD i Value.none)
   rw [e]
   apply Array.toList_inj.mp
   simp
   exact List.map_snd_zip (Qg _)
  rw [hz]
  refine wpAny_bind (listUpdate_at ho6 rfl ?_ (Xl _) (by simp only [Qh,Qc,Yz];rw [sizeLine_eq];omega))
  simp only [bne_self_eq_false,Yw,if_false]
  exact wpAny_pure (h (Zg (Yo vs.length)) (Wi.refl _) (fun z=>by rw [Qh] at h2;omega))
 ·rw [if_neg h2,if_neg h2]
  rw [Qh] at h2
  have h2':2≤vs.length:=by omega
  refine wpAny_bind (wpAny_mono (hk h2' _ keep (fun κ' s0=>κ'=κ∧s0={s with heap:=((s.heap.update a (Obj.mapSeq fun _=>(#[]:Array Value))).push (seqObj "tuple" vs.toArray 0)).push (seqObj "list" #[] 0)}) ⟨rfl,rfl⟩) (fun κ' s0 hk'=>?_) fun _ _ x=>x.elim)
  obtain ⟨rfl,rfl⟩:=hk'
  have hok:=b0H (n:=vs.length) ‹om›
  refine wpAny_bind (wpAny_mono (kat_run (Q:=fun st' s'=>∃p:Array Nat,p.size=vs.length∧arrOf st'=p.map (kas_item (vs.toArray.zip vs.toArray))∧failedOf st'=none∧p=b0d lt (kas_sort vs.length)∧s'={s with heap:=((s.heap.update a (Obj.mapSeq fun _=>(#[]:Array Value))).push (seqObj "tuple" vs.toArray 0)).push (seqObj "list" #[] 0)})
   (G:=fun p s'=>p=b0d lt (kas_sort vs.length)∧s'={s with heap:=((s.heap.update a (Obj.mapSeq fun _=>(#[]:Array Value))).push (seqObj "tuple" vs.toArray 0)).push (seqObj "list" #[] 0)})
   rfl h2' h64 (fun p' st' s' a1 a2 a3 a4=>⟨p',a1,a2,a3,a4.1,a4.2⟩) (TOk.wp (lt:=lt) (fun i j C hi hj hC=>hask _ keep i j C hi hj hC) hok ⟨rfl,rfl⟩)) ?_ fun _ _ e=>e)
  rintro ⟨⟨⟩,st'⟩ s' ⟨p,hp,har,hf,hpe,rfl⟩
  dsimp only
  have hP:a0y vs.length p:=by rw [hpe];exact hok.run
  refine wpAny_bind (seqEpoch_at ho6 rfl ?_)
  rw [kat_snds rfl har]
  refine wpAny_bind (listUpdate_at ho6 rfl ?_ (Xl _) (by simp only [Qh,Qc,Qu];rw [sizeLine_eq];omega))
  rw [hf]
  simp only [bne_self_eq_false,Yw,if_false]
  exact wpAny_pure (h p hP fun _=>hpe)
end
def a9o (K:Qa):List V→Hp→VK→Prop:=fun xs H Q=>∃(p:Addr) (ss:List Str),xs=[.ref p]∧SqL K H p (ss.map V.str)∧ss.length < 64∧∀l ss',H l=none→ss'.Perm ss→sortedS ss'=true→Q (.ref l) (upd H l (.lst (ss'.map V.str)))
def a9u:List V→Hp→VK→Prop:=fun xs H Q=>∃(p:Addr) (kvs:List (Key×V)) (ss:List Str),xs=[.ref p]∧Rd H p (.dK kvs)∧kvs.map (·.1)=ss.map Sum.inr∧ss.length < 64∧∀l ss',H l=none→ss'.Perm ss→sortedS ss'=true→Q (.ref l) (upd H l (.lst (ss'.map V.str)))
def a8Y (K:Qa):List V→Hp→VK→Prop:=fun xs H Q=>∃(p:Addr) (ys:List V),xs=[.ref p]∧SqL K H p ys∧ys.length < 64∧(∀v∈ys,∃a i z,v=.ref a∧H a=some (.tup [.int i,.str z]))∧∀l ys',H l=none→ys'.Perm ys→Q (.ref l) (upd H l (.lst ys'))
def b3A (K:Qa):List V→Hp→VK→Prop:=fun xs H Q=>a9o K xs H Q∨(a9u xs H Q∨a8Y K xs H Q)
theorem a2K:∀{ss:List Str} {its:List Value},a0r (ss.map V.str) its→StrsAre its ss
 | [],_,r=>by cases r;exact .nil
 | x::ss,_,r=>by
  cases r with
  | cons h t=>obtain ⟨t0,rfl⟩:=h;exact .cons _ _ (a2K t)
theorem a2i {ss:List Str} {its:List Value} (h:StrsAre its ss):a0r (ss.map V.str) its:=by
 induction h with
 | nil=>exact .nil
 | cons x t h ih=>exact .cons ⟨t,rfl⟩ ih
section
variable {X:Cx}
theorem a5z:a0N X (.builtin "sorted") (a9o X.K):=by
 intro pins s σ H xs us Q I r h
 obtain ⟨p,ss,rfl,hq,h64,q⟩:=h
 obtain ⟨u,rfl,ru⟩:=a1N r
 cases ru
 obtain ⟨its,rv,pl,hz⟩:=I.list hq
 have hn:=rv.length
 rw [Qc] at hn
 refine sorted_strs pl.isList (a2K rv) ‹om› fun out ss' a1 a2 a3=>?_
 obtain ⟨e,he⟩:=sortedAll_at s.heap its out
 have hl:ss'.length < 64:=by rw [a2.length_eq];exact h64
 have I1:=I.laid (a:=s.heap.objs.size+1) (o:=.lst (ss'.map V.str)) (h':=sortedAll s.heap its out) (t':=s.toks) (fun _ _ q=>sortedAll_old q) (Zl _) ⟨by rw [Qc,sizeLine_eq];omega,out.toList,e,a2i a1,he⟩
 exact ⟨.ref (s.heap.objs.size+1),_,I1,rfl,q _ _ (I.hok.fresh (Zl _)) a2 a3⟩
theorem a4c {P:Program} {w:World} {z:Str} {v:Value} (h:(a0p P w).is (Sum.inr z) v=true):∃t,v=.str z t:=Value.isStrOf_shape h
theorem a2G:∀{its:List Value} {ss:List Str},its.length=ss.length→(∀(j:Nat) v,its[j]?=some v→∃z t,ss[j]?=some z∧v=.str z t)→StrsAre its ss
 | [],[],_,_=>.nil
 | [],_::_,h,_=>by simp at h
 | _::_,[],h,_=>by simp at h
 | v::its,z::ss,h,hv=>by
  obtain ⟨z',t,e1,e2⟩:=hv 0 v rfl
  cases e1
  rw [e2]
  exact .cons _ _ (a2G (by simpa using h) fun j u e=>by
   obtain ⟨a,b,c,d⟩:=hv (j+1) u (by simpa using e)
   exact ⟨a,b,by simpa using c,d⟩)
theorem b1E:∀{r:List (Key×V)} {rs:List (Key×Value)},KV r rs→∀{i:Nat} {k:Key} {x:Value},rs[i]?=some (k,x)→∃y,r[i]?=some (k,y)∧a0s y x:=by
 intro r rs h
 unfold KV at h
 induction h with
 | nil=>intro i k x e;simp at e
 | @cons p q ps qs h t ih=>
  intro i k x e
  cases i with
  | zero=>
   simp only [Qb,Option.some.injEq] at e
   subst e
   exact ⟨p.2,by simp only [Qb];rw [show (k,p.2)=p from by rw [←show p.1=k from h.1]],h.2⟩
  | succ i=>exact ih (by simpa using e)
theorem a5J (hc:X.calm=true):a0N X (.builtin "sorted") a9u:=by
 intro pins s σ H xs us Q I r h
 obtain ⟨p,kvs,ss,rfl,hq,hks,h64,q⟩:=h
 obtain ⟨u,rfl,ru⟩:=a1N r
 cases ru
 obtain ⟨z,hd,vs,rel,dd⟩:=a4W I.hok hq
 obtain ⟨ep,hat⟩:=dd.dictAt
 have hn:vs.length=ss.length:=by rw [←rel.length];have:=congrArg List.length hks;simpa using this
 refine Calls.call_function_entry kind_sorted plain_sorted entry_sorted (args_sorted1 _) ?_
 unfold Builtin.«sorted»
 refine wpAny_bind (m:=checkCount "sorted" 1 1 _) (wpAny_pure ?_)
 refine wpAny_bind (kdu_collect (A:=X.A.in1) (kdl_dict (knd:=a0p X.prog X.w) (kvs:=vs) (ep:=ep) hd) (I.ok.hd hc) hat (by rw [sizeLine_eq];omega) fun h' tk acc hk hacc=>?_)
 have hal:acc.toList.length=ss.length:=by rw [Qu];exact hacc.1.trans hn
 have hS:StrsAre acc.toList ss:=a2G hal fun j v e=>by
  obtain ⟨k,x,hx,hkv⟩:=hacc.2 j v (by rw [←Ym];exact e)
  obtain ⟨y,hy,_⟩:=b1E rel hx
  have h1:(kvs.map (·.1))[j]?=some k:=by rw [Xr,hy];rfl
  rw [hks,Xr] at h1
  cases e2:ss[j]? with
  | none=>rw [e2] at h1;cases h1
  | some z'=>
   rw [e2] at h1
   cases h1
   obtain ⟨t,ht⟩:=a4c hkv
   exact ⟨z',t,rfl,ht⟩
 refine wpAny_bind (wpAny_newList ?_ (by rw [hal,sizeLine_eq];omega))
 have hoL:(h'.push (seqObj "list" acc.toList.toArray 0)).get? h'.objs.size=some (seqObj "list" acc.toList.toArray 0):=Qp _ rfl
 refine wpAny_bind (wpAny_holding (wpAny_call_entry slot_list_sort ⟨_,hoL,rfl⟩ entry_list_sort (list_sort_treeK (s:={s with heap:=h'.push (seqObj "list" acc.toList.toArray 0),toks:=tk}) (vs:=acc.toList) strKind_oneLt hoL hS.keysOf (fun v₁ v₂ a3h e=>keyKind_strs (by rw [←e];exact hS)) ‹om› fun st' a1 a2=>⟨_,rfl,?_⟩) (args_list_sort _)))
 refine wpAny_pure ⟨_,rfl,?_⟩
 obtain ⟨ss',b1,b2,b3⟩:=sorted_out_str hS a1 a2
 generalize (arrOf st').map (·.2)=out at b1 ⊢
 obtain ⟨e,he⟩:=sortedHeap_at (out:=out) hoL
 have hl:ss'.length < 64:=by rw [b2.length_eq];exact h64
 have I1:=I.kept (t':=tk) hk
 have I2:=I1.laid (a:=h'.objs.size) (o:=.lst (ss'.map V.str)) (h':=sortedHeap (h'.push (seqObj "list" acc.toList.toArray 0)) h'.objs.size acc.toList out) (t':=tk) (fun b o e=>by
  have hb:b < h'.objs.size:=Qq e
  rw [sortedHeap_old (Qw hb) (by rw [size_push'];exact Xx hb)]
  exact Qe _ e) (Qg _) ⟨by rw [Qc,sizeLine_eq];omega,out.toList,e,a2i b1,he⟩
 exact ⟨.ref h'.objs.size,_,I2,rfl,q _ _ (I1.hok.fresh (Qg _)) b2 b3⟩
def a1A (H:Hp):V→Int×Str
 | .ref a=>match H a with
  | some (.tup [.int i,.str z])=>(i,z)
  | _=>(0,"")
 | _=>(0,"")
def ltP (x y:Int×Str):Bool:=if x.1=y.1 then (if x.2=y.2 then false else decide (x.2.cps.toList < y.2.cps.toList)) else decide (x.1 < y.1)
theorem a9e {P:Program} {w:World} {H:Hp} {h:Heap} {a:Addr} {i:Int} {z:Str} (ok:a0A P w H h a (.tup [.int i,.str z])):∃o n t t',h.get? a=some o∧o.cls=.type "tuple"∧o.data=.seq #[.int i t,.str z t'] n:=by
 obtain ⟨_,its,rv,o,ho,hc,n,hd⟩:=ok
 cases rv with
 | cons h1 r=>
  cases r with
  | cons h2 r=>
   cases r
   obtain ⟨t,rfl⟩:=h1
   obtain ⟨t',rfl⟩:=h2
   exact ⟨o,n,t,t',ho,hc,hd⟩
theorem a6H {P:Program} {w:World} {H:Hp} {h h':Heap} (hok:∀a o,H a=some o→a0A P w H h a o) (hk:∀b o,h.get? b=some o→h'.get? b=some o):∀{ys:List V} {its:List Value},a0r ys its→(∀v∈ys,∃a i z,v=.ref a∧H a=some (.tup [.int i,.str z]))→
  ∃fs,KatTups h' its fs∧fs.length=its.length∧∀v∈fs,∃i t,v=.int i t
 | [],_,r,_=>by cases r;exact ⟨[],trivial,rfl,by simp⟩
 | y::ys,_,r,hT=>by
  cases r with
  | cons h1 r=>
   obtain ⟨fs,g1,g2,g3⟩:=a6H hok hk r fun v hv=>hT v (Qk _ hv)
   obtain ⟨a,i,z,rfl,ha⟩:=hT y Qj
   cases h1
   obtain ⟨o,n,t,t',e1,e2,e3⟩:=a9e (hok _ _ ha)
   refine ⟨.int i t::fs,KatTups.cons (hk _ _ e1) e2 e3 rfl g1,by simp [g2],fun v hv=>?_⟩
   rcases Qt.mp hv with e | e
   ·exact ⟨i,t,e⟩
   ·exact g3 v e
theorem a3i {ys:List V} {its:List Value} (r:a0r ys its):∀(l:List Nat),(∀i∈l,i < ys.length)→a0r (l.map fun i=>ys.getD i .non) (l.map fun i=>its.getD i Value.none)
 | [],_=>.nil
 | i::l,h=>by
  have hi:=h i Qj
  obtain ⟨u,hu,ru⟩:=r.get (Qf hi)
  refine .cons ?_ (a3i r l fun j hj=>h j (Qk _ hj))
  show a0s (ys.getD i .non) (its.getD i Value.none)
  rw [Yy,Qf hi,Yy,hu]
  exact ru
theorem a5H (vs:List V):(Yo vs.length).map (fun i=>vs.getD i .non)=vs:=by
 refine Zq (by simp) fun i h1 h2=>?_
 simp [h2]
theorem a4Y:a0N X (.builtin "sorted") (a8Y X.K):=by
 intro pins s σ H xs us Q I r h
 obtain ⟨p,ys,rfl,hq,h64,hT,q⟩:=h
 obtain ⟨u,rfl,ru⟩:=a1N r
 cases ru
 obtain ⟨its,rv,pl,hz⟩:=I.list hq
 have hn:=rv.length
 have hat:∀i,i < its.length→∃a o n t t',its.getD i Value.none=.ref a∧s.heap.get? a=some o∧o.data=.seq #[.int (a1A H (ys.getD i .non)).1 t,.str (a1A H (ys.getD i .non)).2 t'] n:=fun i hi=>by
  have hi':i < ys.length:=by omega
  obtain ⟨u,hu,ru⟩:=rv.get (Qf hi')
  obtain ⟨a,m,z,e,ha⟩:=hT _ (Xi hi')
  rw [e] at ru
  cases ru
  obtain ⟨o,n,t,t',e1,e2,e3⟩:=a9e (I.hok _ _ ha)
  have ep:a1A H (ys.getD i .non)=(m,z):=by
   rw [Yy,Qf hi',Option.getD_some,e]
   show (match H a with | some (.tup [.int i,.str z])=>(i,z) | _=>(0,""))=(m,z)
   rw [ha]
  rw [ep]
  exact ⟨a,o,n,t,t',by rw [Yy,hu];rfl,e1,e3⟩
 refine Calls.call_function_entry kind_sorted plain_sorted entry_sorted (args_sorted1 _) ?_
 unfold Builtin.«sorted»
 refine wpAny_bind (m:=checkCount "sorted" 1 1 _) (wpAny_pure ?_)
 refine wpAny_bind (collect_list pl.isList ?_ (by rw [sizeLine_eq];omega))
 refine wpAny_bind (wpAny_newList ?_ (by rw [sizeLine_eq];omega))
 have hsz:((s.heap.push (seqObj "list" #[] 0)).update s.heap.objs.size (Obj.mapSeq (·++its.toArray))).objs.size=s.heap.objs.size+1:=by
  rw [Up,size_push']
 have hoL:(((s.heap.push (seqObj "list" #[] 0)).update s.heap.objs.size (Obj.mapSeq (·++its.toArray))).push (seqObj "list" its.toArray 0)).get? (s.heap.objs.size+1)=some (seqObj "list" its.toArray 0):=by
  rw [←hsz];exact Qp _ rfl
 have keep:∀b o,s.heap.get? b=some o→(((s.heap.push (seqObj "list" #[] 0)).update s.heap.objs.size (Obj.mapSeq (·++its.toArray))).push (seqObj "list" its.toArray 0)).get? b=some o:=fun b o q=>by
  have hlt:b < s.heap.objs.size:=Qq q
  rw [Jd _ _ _ (by rw [hsz];exact Qw (Xx hlt)),Vp _ _ _ _ (Qw hlt),Jd _ _ _ (Qw hlt)]
  exact q
 show wpAny _ _ _ _ _ {s with heap:=((s.heap.push (seqObj "list" #[] 0)).update s.heap.objs.size (Obj.mapSeq (·++its.toArray))).push (seqObj "list" its.toArray 0)}
 rw [hsz]
 have keep2:∀h':Heap,(∀b o,b≠s.heap.objs.size+1→(((s.heap.push (seqObj "list" #[] 0)).update s.heap.objs.size (Obj.mapSeq (·++its.toArray))).push (seqObj "list" its.toArray 0)).get? b=some o→h'.get? b=some o)→∀b o,s.heap.get? b=some o→h'.get? b=some o:=fun h' hk b o e=>hk b o (Qw (Xx (Qq e))) (keep b o e)
 refine wpAny_bind (wpAny_holding (wpAny_call_entry slot_list_sort ⟨_,hoL,rfl⟩ entry_list_sort (a2f (s:={s with heap:=((s.heap.push (seqObj "list" #[] 0)).update s.heap.objs.size (Obj.mapSeq (·++its.toArray))).push (seqObj "list" its.toArray 0)}) hoL ‹om›
  (fun i j=>ltP (a1A H (ys.getD i .non)) (a1A H (ys.getD j .non))) (tuples' true) ?hk ?hask fun pp hp _=>⟨_,rfl,?fin⟩) (args_list_sort _)))
 case hk=>
  intro h2 h' hkp Q' hQ'
  obtain ⟨fs,g1,g2,g3⟩:=a6H (h':=h') (fun a o e=>I.hok a o e) (keep2 h' hkp) rv hT
  refine kat_kind (T:=.type "int") g1 ‹om› (fun v hv=>?_) ‹dc› hQ'
  obtain ⟨i,t,rfl⟩:=g3 v hv
  exact .now
 case hask=>
  intro h' hkp i j C hi hj hC
  obtain ⟨a,oa,na,ta,ta',ea,ha,da⟩:=hat i hi
  obtain ⟨b,ob,nb,tb,tb',eb,hb,db⟩:=hat j hj
  unfold kas_ask
  rw [ea,eb]
  refine kat_lt (keep2 h' hkp _ _ ha) da (keep2 h' hkp _ _ hb) db ?_
  have hC':C (ltP (a1A H (ys.getD i .non)) (a1A H (ys.getD j .non))) {s with heap:=h'}:=hC
  generalize a1A H (ys.getD i .non)=x at hC' ⊢
  generalize a1A H (ys.getD j .non)=y at hC' ⊢
  unfold ltP at hC'
  show KatLex _ _ _ _ _ _ [(.int x.1 ta,.int y.1 tb),(.str x.2 ta',.str y.2 tb')] 0 _
  refine kat_cons (wpAny_eqBool_int ?_)
  by_cases h1:x.1=y.1
  ·rw [show (x.1 == y.1)=true from by rw [h1];exact beq_self_eq_true _]
   rw [if_pos h1] at hC'
   refine kat_yes (kat_cons (wpAny_eqBool_str ?_))
   by_cases h2:x.2=y.2
   ·rw [decide_eq_true h2]
    rw [if_pos h2] at hC'
    exact kat_yes (kat_nil (by simpa using hC'))
   ·rw [decide_eq_false h2]
    rw [if_neg h2] at hC'
    refine kat_no ?_
    show wpAny _ _ (oneLt' (true && (0+1) == 0) _ _) _ _ _
    rw [show (true && (0+1) == 0)=false from rfl]
    exact kat_one _ _ (PySem.P.lt_str hC')
  ·rw [show (x.1 == y.1)=false from beq_eq_false_iff_ne.mpr h1]
   rw [if_neg h1] at hC'
   refine kat_no ?_
   exact oneLt_int hC'
 case fin=>
  refine wpAny_pure ⟨_,rfl,?_⟩
  obtain ⟨e,he⟩:=sortedHeap_at (out:=Zg (pp.toList.map fun i=>its.getD i Value.none)) hoL
  have hpl:∀i∈pp.toList,i < ys.length:=fun i hi=>by
   have:=hp.list.mem_iff.mp hi
   rw [Jw] at this;omega
  have hplen:pp.toList.length=its.length:=by rw [hp.list.length_eq,Yz]
  have I2:=I.laid (a:=s.heap.objs.size+1) (o:=.lst (pp.toList.map fun i=>ys.getD i .non)) (h':=sortedHeap (((s.heap.push (seqObj "list" #[] 0)).update s.heap.objs.size (Obj.mapSeq (·++its.toArray))).push (seqObj "list" its.toArray 0)) (s.heap.objs.size+1) its (Zg (pp.toList.map fun i=>its.getD i Value.none))) (t':=s.toks) (fun b o e=>by
   have hb:b < s.heap.objs.size:=Qq e
   rw [sortedHeap_old (Qw (Xx hb)) (by rw [size_push',hsz];exact Xx (Xx hb))]
   exact keep b o e) (Zl _) ⟨by rw [Qc,sizeLine_eq];omega,pp.toList.map fun i=>its.getD i Value.none,e,a3i rv _ hpl,he⟩
  refine ⟨.ref (s.heap.objs.size+1),_,I2,rfl,q _ _ (I.hok.fresh (Zl _)) ?_⟩
  have h1:=hp.list.map fun i=>ys.getD i .non
  rw [←hn,a5H] at h1
  exact h1
theorem a7o (hc:X.calm=true):a0N X (.builtin "sorted") (b3A X.K):=a0N.or a5z (a0N.or (a5J hc) a4Y)
theorem a0W:bootBuiltins "sorted"=some (.builtin "sorted"):=by decide+kernel
end
def a2q (H:Hp) (xs:List V) (pl:List (Str×Str)):Prop:=∃as:List Addr,xs=as.map V.ref∧as.length=pl.length∧∀(i:Nat) (a:Addr) (p:Str×Str),as[i]?=some a→pl[i]?=some p→H a=some (.tup [.str p.1,.str p.2])
end L2
namespace L2
open PySem PySem.Spec PySem.W PyProof.Rows
theorem a0y.size {n:Nat} {p:Array Nat} (h:a0y n p):p.size=n:=by
 have:=Wi.size_eq h;simpa using this
theorem a0y.inj {n:Nat} {p:Array Nat} (h:a0y n p) {i j:Nat} (hi:i < n) (hj:j < n) (e:i≠j):p.getD i 0≠p.getD j 0:=by
 have nd:p.toList.Nodup:=(h.list.nodup_iff).mpr List.nodup_range
 have hs:=h.size
 rw [List.nodup_iff_pairwise_ne,List.pairwise_iff_getElem] at nd
 have e1:p.getD i 0=p[i]'‹om›:=by simp [Jr,show i < p.size by omega]
 have e2:p.getD j 0=p[j]'‹om›:=by simp [Jr,show j < p.size by omega]
 rw [e1,e2]
 rcases Nat.lt_or_gt_of_ne e with q | q
 ·exact nd i j (by simpa using (by omega:i < p.size)) (by simpa using (by omega:j < p.size)) q
 ·exact Ne.symm (nd j i (by simpa using (by omega:j < p.size)) (by simpa using (by omega:i < p.size)) q)
end L2
namespace L2
open PySem PySem.Spec PySem.W PyProof.Rows PySem.Builtin PySem.Builtin.ObjectAttr
def a9t:List Value→Bool
 | .ref _::r=>a9t r
 | [.type a,.type b,.type c,.type d]=>a == "ValueError" && b == "Exception" && c == "BaseException" && d == "object"
 | _=>false
def b0V (K:Qa) (C:Addr):Bool:=(clsIn K C).any fun cd=>a9t cd.mro
end L2
namespace L2
open PySem PySem.Spec PySem.W PySem.Calls PyProof.Rows PySem.Builtin PySem.Builtin.ObjectAttr
abbrev bmV:List Value:=[.type "ValueError",.type "Exception",.type "BaseException",.type "object"]
def b6M (K:Qa) (C:Addr):Bool:=match K.lookup C with
 | some ⟨.type "type",_,.cls cd,sl⟩=>(match cd.mro,sl.toList with
  | .ref C'::bm,[_,_,_,_,some (.builtin n),_]=>C' == C && n == "ValueError.__new__" && !cd.hasDel && !cd.abstract && tailIn K bmV bm && specialIn K (.ref C) "__call__" == some (some (.builtin "type.__call__")) && instIn K (.ref C) (.type "type") == some true
  | _,_=>false)
 | _=>false
structure b7R (K:Qa) (C:Addr):Prop where
 ga:findIn K (.ref C) "__getattribute__"=some (some (.builtin "BaseException.__getattribute__"))
 gt:findIn K (.ref C) "__getattr__"=some none
 bx:mroIn K C (.type "BaseException")=some true
 hd:hasDictIn K C=true
 cc:findIn K (.ref C) "__class__"=some (some (.builtin "object.__class__"))
 cg:specialIn K (.builtin "object.__class__") "__get__"=some (some (.builtin "getset_descriptor.__get__"))
 ct:takesIn K (.builtin "object.__class__")=some true
 mo:mroIn K C (.type "object")=some true
 sa:findIn K (.ref C) "__setattr__"=some (some (.builtin "object.__setattr__"))
 ov:b0V K C=true
 xc:b6M K C=true
end L2
namespace L2
open PySem PySem.Spec PySem.W PyProof.Rows
def b6G (x C:Addr) (od:Option Addr):HO:=.ext fun h=>∃vs sl,h.get? x=some ⟨.ref C,od,.fields vs,sl⟩∧vs[1]?=some Value.none
def b6k (x C:Addr) (od:Option Addr) (T:Addr):HO:=.ext fun h=>∃vs sl,h.get? x=some ⟨.ref C,od,.fields vs,sl⟩∧vs[1]?=some (Value.ref T)
def IsX (H:Hp) (x C:Addr) (od:Option Addr):Prop:=H x=some (b6G x C od)∨∃T,H x=some (b6k x C od T)
end L2
namespace L2
open PySem PySem.Spec PySem.W PySem.Calls PyProof.Rows
def b7V (H:Hp) (x C:Addr) (m:Str) (v:V):Prop:=∃d,IsX H x C (some d)∧H d=some (.xd [(m,v)])
def b6n (H:Hp) (x C:Addr):Option (Str×V)→Prop
 | some (m,v)=>b7V H x C m v
 | none=>IsX H x C none
def b0J (H:Hp):List Addr→List (Addr×Option (Str×V))→Prop
 | [],[]=>True
 | x::xs,e::es=>b6n H x e.1 e.2∧b0J H xs es
 | _,_=>False
theorem b0J.len {H:Hp}:∀{xs:List Addr} {es:List (Addr×Option (Str×V))},b0J H xs es→xs.length=es.length
 | [],[],_=>rfl
 | _::_,_::_,⟨_,b⟩=>congrArg (·+1) b.len
 | [],_::_,h=>h.elim
 | _::_,[],h=>h.elim
theorem b0J.get {H:Hp}:∀{xs:List Addr} {es:List (Addr×Option (Str×V))} {i:Nat} {e:Addr×Option (Str×V)},b0J H xs es→es[i]?=some e→∃x,xs[i]?=some x∧b6n H x e.1 e.2
 | _::_,_::_,0,_,⟨a,_⟩,h=>by cases h;exact ⟨_,rfl,a⟩
 | _::_,_::_,i+1,_,⟨_,b⟩,h=>b0J.get (i:=i) b (by simpa using h)
 | [],_::_,_,_,h,_=>h.elim
 | _::_,[],_,_,h,_=>h.elim
def TbO (T:Addr) (fl:Value):HO:=.ext fun h=>∃ob ts,h.get? T=some ob∧ob.data=.fields ts∧ts[3]?=some fl
def Fl (H:Hp) (x C:Addr) (od:Option Addr) (fl:Value) (T:Addr):Prop:=T≠x∧H x=some (b6k x C od T)∧H T=some (TbO T fl)
def Arr (H:Hp) (x C:Addr) (od oT:Option Addr):Prop:=(oT=none∧H x=some (b6G x C od))∨∃T,oT=some T∧Fl H x C od .none T
section
variable {X:Cx} {pins:List (Addr×Obj)} {σ:St} {H:Hp} {s:Shared}
abbrev XW:=St→Addr→Addr→Hp→Prop
def XP (X:Cx) (pins:List (Addr×Obj)) (W:XW) (e:Value) (s':Shared):Prop:=∃σ H x C od oT,e=.ref x∧Inv X pins σ H s'∧Arr H x C od oT∧b7R X.K C∧W σ x C H
end
section
variable {κ:Type} [DecidableEq κ]
def a0Y (val:Nat→κ):Nat→List κ
 | 0=>[]
 | i+1=>if val i∈a0Y val i then a0Y val i else a0Y val i++[val i]
theorem a7A (val:Nat→κ):∀i,(a0Y val i).length≤i
 | 0=>Qg _
 | i+1=>by
  have:=a7A val i
  unfold a0Y
  split
  ·omega
  ·simp;omega
theorem a4u (val:Nat→κ) (i:Nat) (k:κ):decide (k∈a0Y val (i+1))=(decide (k∈a0Y val i) || decide (k=val i)):=by
 show decide (k∈if val i∈a0Y val i then a0Y val i else a0Y val i++[val i])=_
 by_cases h:val i∈a0Y val i
 ·rw [if_pos h]
  by_cases e:k=val i
  ·subst e;simp [h]
  ·simp [e]
 ·rw [if_neg h];simp
theorem a8Q (val:Nat→κ) (i:Nat):(a0Y val (i+1)).length=if decide (val i∈a0Y val i)=true then (a0Y val i).length else (a0Y val i).length+1:=by
 show (if val i∈a0Y val i then a0Y val i else a0Y val i++[val i]).length=_
 by_cases h:val i∈a0Y val i
 ·rw [if_pos h,if_pos (by simpa using h)]
 ·rw [if_neg h,if_neg (by simpa using h)];simp
end
section
variable {prog:Program} {w:World} {A:Around} {κ:Type} [DecidableEq κ] {knd:PySem.KeyKind prog w κ}
abbrev a5o (led:Bool):Obj:={cls:=.type "set",dict:=none,data:=.set #[] 0 (.fresh 0 0 led)}
end
theorem a2x:bootBuiltins "set"=some (.type "set"):=by decide+kernel
end L2
namespace Tx
open PySem PySem.Builtin PySem.Builtin.Str PySem.StrLaws PyProof.Rows
theorem a1k (l:List Nat) (i j:Nat):(strSub (mk l) i j).length≤l.length:=by
 rw [b2r,a1h]
 exact Qs (List.length_take_le' _ _) (by rw [Jm];omega)
end Tx
namespace L2
open PySem PySem.Spec PySem.W PySem.Calls PyProof.Rows
end L2
namespace L2
open PySem PySem.Spec PyProof.Rows PySem.W
end L2
namespace L2
open PySem PySem.Spec PyProof.Rows
def b3H (lo c:Int) (n:Nat):It:=⟨fun i _=>i < n,fun i H x H'=>H'=H∧x=.int (lo+i * c),fun i _=>n≤i⟩
theorem a5L {lo c:Int} {n:Nat}:Src (b3H lo c n) n (fun i=>.int (lo+i * c)) (fun _=>True):=
 ⟨fun i H hi _=>hi,fun i H x H' hi _ y=>y,fun H _=>Qg _⟩
theorem a3V {P:Program} {w:World} {K:Qa} {tg:Expr} (it:Addr) (lo c:Int) (n:Nat):b0M P w K tg (b3H lo c n) [it] it (fun i h=>IsRangeIter h it (lo+(i:Nat) * c) ((n:Int) - (i:Nat)) c) where
 mem:=by simp
 obj:=fun i h st b hb=>by
  have e:b=it:=by simpa using hb
  subst e
  exact ⟨_,st,fun v z=>by
   have z':Data.fields _=Data.cell v:=z
   cases z'⟩
 keep:=fun i h h' st k=>k it (by simp) _ st
 item:=by
  intro X hP hw hK hc i pins s σ H E I hf st hg
  subst hP hw hK
  obtain ⟨f0,f1,f2,f3,f4,f5⟩:=hf it (by simp)
  have W:=Walks.range (prog:=X.prog) (w:=X.w) (I.ok.hd hc) it lo c n
  refine W.item i s _ _ hg st fun v h' tk hv st' kk=>?_
  obtain ⟨t,rfl⟩:=hv
  have I1:Inv X pins σ H {s with heap:=h',toks:=tk}:=I.turned (fun b o hb e=>kk b o (by simpa using hb) e) f0 f1 f3 f4 f5
  exact ⟨_,rfl,a7Z (s:={s with heap:=h',toks:=tk}) (n:="range_iterator") st' rfl rfl ‹dc› ⟨.int (lo+i * c),H,I1,⟨t,rfl⟩,⟨rfl,rfl⟩,st',fun b hb=>(hf b hb).1⟩⟩
 done:=by
  intro X hP hw hK hc i pins s σ H E I hf st hg
  subst hP hw hK
  obtain ⟨f0,f1,f2,f3,f4,f5⟩:=hf it (by simp)
  exact wpAny_pyNext_range_end (I.ok.hd hc) st (by have:n≤i:=hg;omega) fun h' eb=>⟨rfl,I.turned (t':=s.toks) (fun b o hb e=>eb b o hb e) f0 f1 f3 f4 f5⟩
 self:=fun _ _ _ _ _ st h=>wpAny_pyIter_rangeiter st h
section
variable {X:Cx} {tg:Expr}
def b1N (ta:TA):TI:=fun σ H R=>ta σ H fun vs H1=>∃i j c:Int,vs=[.int i,.int j,.int c]∧(0≤i∧i≤1000000∧0≤j∧j≤1000000∧0 < c∧c≤1000000)∧∀n:Nat,(n:Int)=Builtin.Range.rangeSize i j c→R (b3H i c n) H1
theorem a7O {a b c:Expr} {ta:TA} {p pos:Pos} (hg:Gl X "range") (hm:X.mg "range"=none) (ha:PA X [a,b,c] ta) (hs:starEach [a,b,c] X.env=[(false,eval a X.env),(false,eval b X.env),(false,eval c X.env)]:=by rfl) (hs2:starEach [b,c] X.env=[(false,eval b X.env),(false,eval c X.env)]:=by rfl):
  PI X tg (.Call (.Name "range" p) [a,b,c] [] pos) (b1N ta):=by
 intro pins s σ H R I h
 refine Call_ (a3v I hg hm boot_range (PyProof.Rows.callWith_type1 (thn (ha pos pins s σ H _ I h) fun us s1 ⟨vs,H1,I1,r1,q1⟩=>?_) (by rw [hs,hs2]) (by rw [hs2];rfl)))
 obtain ⟨i,j,k,e,⟨q1,q2,q3,q4,q5,q6⟩,q⟩:=q1
 subst e
 cases r1 with
 | cons r rr=>
  cases rr with
  | cons r' rr=>
   cases rr with
   | cons r'' rr=>
    cases rr
    obtain ⟨t,rfl⟩:=r
    obtain ⟨t',rfl⟩:=r'
    obtain ⟨t'',rfl⟩:=r''
    refine call_range_3 ‹om› ?_ (.inl (PyProof.noPylong_small ‹om›))
    have hsz:0≤Builtin.Range.rangeSize i j k:=by
     unfold Builtin.Range.rangeSize
     rw [if_pos q5]
     split
     ·have:=Int.ediv_nonneg (a:=j - i - 1) (b:=k) ‹om› ‹om›;omega
     ·omega
    obtain ⟨n,en⟩:∃n:Nat,(n:Int)=Builtin.Range.rangeSize i j k:=⟨(Builtin.Range.rangeSize i j k).toNat,by omega⟩
    refine wpAny_pyIter_range (IsRange.new ..) ?_ ?_
    ·have hub:Builtin.Range.rangeSize i j k≤1000001:=by
      unfold Builtin.Range.rangeSize
      rw [if_pos q5]
      split
      ·have:=Int.ediv_le_self (a:=j - i - 1) k ‹om›;omega
      ·omega
     unfold Builtin.Range.small
     generalize Builtin.Range.rangeSize i j k=z at hsz hub
     have hm:0≤z * k∧z * k≤1000001 * 1000000:=⟨Int.mul_nonneg hsz ‹om›,Int.mul_le_mul hub q6 ‹om› ‹om›⟩
     simp only [Builtin.Range.rangeFitsLong,Xe,Ux,decide_eq_true_eq,beq_iff_eq,q5,if_true]
     omega
    ·have I2:Inv X pins σ H1 {s1 with heap:=s1.heap.push {cls:=.type "range",data:=.fields #[.int i t,.int j t',.int k t'']}}:=I1.kept (t':=s1.toks) fun b o e=>Qe _ e
     refine ⟨_,[_],_,_,H1,rfl,I2.kept (t':=s1.toks) fun b o e=>Qe _ e,a3V _ i k n,?_,fun b hb=>?_,q n en⟩
     ·have e1:i+((0:Nat):Int) * k=i:=by simp
      have e2:(n:Int) - ((0:Nat):Int)=Builtin.Range.rangeSize i j k:=by omega
      show IsRangeIter _ _ (i+((0:Nat):Int) * k) ((n:Int) - ((0:Nat):Int)) k
      rw [e1,e2]
      exact Qp _ rfl
     ·have e:=Qz.mp hb
      subst e
      exact I2.fpOk (Qg _) (I2.hok.fresh (Qg _))
end
def b3X (K:Qa):V→List V→Hp→VK→Prop:=fun x vs H Q=>∃l b xs zs,x=.ref l∧vs=[.ref b]∧H l=some (.lst xs)∧SqT K H b zs∧xs.length+zs.length≤sizeLine∧Q .non (upd H l (.lst (xs++zs)))
section
variable {X:Cx}
theorem a7p:MtM X "list.extend" (b3X X.K):=by
 intro pins s σ H x vs v us Q I rx rv h
 obtain ⟨l,b,xs,zs,rfl,rfl,hH,hB,hz,q⟩:=h
 cases rx
 obtain ⟨u,rfl,ru⟩:=rv.one
 cases ru
 obtain ⟨z,its,n,r,hl,e⟩:=I.lstM hH
 obtain ⟨its2,r2,⟨o2,e2,hc2,n2,d2⟩,z2⟩:=I.tuple hB
 have hl2:=r2.length
 have hsz:its.toArray.size+its2.toArray.size≤sizeLine:=by rw [Qh,Qh];omega
 have hlong:¬(!its.toArray.isEmpty && Builtin.List.listTooLong (its.toArray.size+its2.toArray.size))=true:=by
  rw [a4N hsz,Bool.and_false]
  exact Qr
 refine wpAny_call_entry F.slot_list_extend ⟨_,e,rfl⟩ F.entry_list_extend ?_ (F.args_list_extend_2 _ _)
 unfold Builtin.«list.extend»
 refine wpAny_bind (wpAny_pure ?_)
 dsimp only
 unfold Builtin.List.listExtendWith
 refine wpAny_bind (wpAny_typeOf ⟨o2,e2,hc2⟩ ?_)
 have h1:(Builtin.List.listSameRef (.ref l) (.ref b) || Value.type "tuple" == Value.type "list" || Value.type "tuple" == Value.type "tuple")=true:=by simp
 simp only [h1,if_true]
 refine wpAny_bind ?_
 unfold Builtin.List.listItems
 refine wpAny_bind (wpAny_seqItems e2 d2 (wpAny_pure ?_))
 refine wpAny_bind ?_
 refine wpAny_bind (wpAny_seqItems e rfl (wpAny_pure ?_))
 rw [if_neg hlong]
 show wpAny _ _ (updateSeq l (·++its2.toArray) >>= fun _=>ret Value.none) _ _ s
 refine wpAny_bind (wpAny_updateSeq e rfl ?_ (hz:=by rw [Qh];omega) (_hz':=by rw [Wb];omega))
 refine wpAny_pure ⟨_,rfl,.non,_,I.lset (its':=its++its2) hH e (by simp) (r.append r2) ?_,rfl,q⟩
 rw [Ql]
 omega
end
end L2
namespace L2
open PySem PySem.Spec PySem.W PySem.Calls PyProof.Rows
def Wk (w:World) (t:SetTable) (n:Nat):Prop:=(w.params.followText "set-order"=false→t.led=true)∧(n≠0→t.plain=false)
theorem a9X (t:SetTable) (es:Array (Int×Value)) (h:Int) (x:Value):(layNew t es h x).2.1.led=t.led:=by
 unfold layNew
 split
 ·rename_i slot wd _
  show (SetTable.orStandIn (t.put slot).1 _).led=_
  unfold SetTable.orStandIn
  split<;>rfl
 ·rfl
theorem a6w (t:SetTable) (es:Array (Int×Value)) (n:Nat):(relayAll t es n).2.1.led=t.led∧(t.plain=false→(relayAll t es n).2.1.plain=false):=by
 unfold relayAll
 split
 ·rename_i t' order e
  unfold SetTable.relaid SetTable.laid at e
  simp only [Option.bind_eq_bind,Option.bind_eq_some_iff,Option.pure_def,Option.some.injEq,Prod.mk.injEq] at e
  obtain ⟨o,_,e1,_⟩:=e
  subst e1
  dsimp only
  split
  ·exact ⟨rfl,fun h=>h⟩
  ·exact ⟨rfl,fun _=>rfl⟩
 ·exact ⟨rfl,fun _=>rfl⟩
section
variable {prog:Program} {w:World} {κ:Type} [DecidableEq κ] {knd:PySem.KeyKind prog w κ} {A:Around} {E:Value→Shared→Prop} {s:Shared}
def a4l (knd:PySem.KeyKind prog w κ) (h:Heap) (a:Addr) (S:κ→Bool) (n:Nat):Prop:=
 ∃o es ep t,h.get? a=some o∧o.ExactSet∧o.data=.set es ep t∧ElemsOf knd es.toList∧(∀k,S k=true↔∃e∈es.toList,knd.is k e.2=true)∧es.size < scanBound∧t.fits es.size=true∧es.size=n∧Wk w t n
theorem a5e {h:Heap} {a:Addr} {S S':κ→Bool} {n n':Nat} (x:a4l knd h a S n) (e:∀k,S k=S' k) (en:n=n'):a4l knd h a S' n':=by
 subst en
 obtain ⟨o,es,ep,t,a1,a2,a3,a4,a5,a6,a7,a8,a9⟩:=x
 exact ⟨o,es,ep,t,a1,a2,a3,a4,fun k=>by rw [←e];exact a5 k,a6,a7,a8,a9⟩
theorem a2I {h:Heap} {a:Addr} {o:Obj} {es:Array (Int×Value)} {ep:Nat} {t:SetTable} (ho:h.get? a=some o) (hex:o.ExactSet) (hd:o.data=.set es ep t) {es1:Array (Int×Value)} {t1:SetTable} {S':κ→Bool}
  (hel1:ElemsOf knd es1.toList) (hmem1:∀k,S' k=true↔∃e∈es1.toList,knd.is k e.2=true) (hb1:es1.size < scanBound) (hf1:t1.fits es1.size=true) (hw:Wk w t1 es1.size):
  (h.update a (Obj.putSet es1 t1)).get? a=some {o with data:=.set es1 (ep+1) t1}∧a4l knd (h.update a (Obj.putSet es1 t1)) a S' es1.size:=by
 obtain ⟨ho1,_⟩:=SetOf_store (knd:=knd) ho hex hd hel1 hmem1 hb1 hf1
 refine ⟨ho1,?_⟩
 exact ⟨_,es1,_,t1,ho1,hex,rfl,hel1,hmem1,hb1,hf1,rfl,hw⟩
theorem a4B {g:Bool→Sem Unit} (hg:∀(b:Bool) (s₁:Shared) (Q':Unit→Shared→Prop),Q' () s₁→wpAny (model prog w) A (g b) Q' E s₁)
  {a:Addr} {o:Obj} {es es1:Array (Int×Value)} {ep:Nat} {t t2:SetTable} {S':κ→Bool} (ho:s.heap.get? a=some o) (hex:o.ExactSet) (hd:o.data=.set es ep t) (hel1:ElemsOf knd es1.toList) (hmem1:∀k',S' k'=true↔∃e∈es1.toList,knd.is k' e.2=true)
  (hb1:es1.size < scanBound) (hf2:t2.fits es1.size=true) (hw:Wk w t2 es1.size) {wasDummy:Bool} {R:Option Bool→Shared→Prop}
  (h:∀h',Xs a s.heap h'→a4l knd h' a S' es1.size→R (some true) {s with heap:=h'}):
  wpAny (model prog w) A (do
    storeSet a es1 t2
    if (!wasDummy && t2.tooFull)=true then do
      g (relayAll t2 es1 (SetTable.grown es1.size)).2.2
      storeSet a (relayAll t2 es1 (SetTable.grown es1.size)).1 (relayAll t2 es1 (SetTable.grown es1.size)).2.1
      pure (some true)
     else pure (some true)) R E s:=by
 refine wpAny_bind (wpAny_storeSet_of ho hd ?_ (fits_of_scanBound hb1))
 obtain ⟨ho1,hS1⟩:=a2I (knd:=knd) ho hex hd hel1 hmem1 hb1 hf2 hw
 have hsb1:=Xs.update s.heap a (Obj.putSet es1 t2)
 split
 ·have hp:=relayAll_perm t2 es1 (SetTable.grown es1.size)
  have hfr:=relayAll_fits t2 es1 (SetTable.grown es1.size)
  have hrl:=a6w t2 es1 (SetTable.grown es1.size)
  generalize hRl:relayAll t2 es1 (SetTable.grown es1.size)=Rl at hp hfr hrl ⊢
  obtain ⟨es2,t3,gave2⟩:=Rl
  dsimp only at hp hfr hrl ⊢
  have hel2:ElemsOf knd es2.toList:=hel1.perm hp
  have hmem2:∀k',S' k'=true↔∃e∈es2.toList,knd.is k' e.2=true:=fun k'=>(hmem1 k').trans ⟨fun ⟨e,he,q⟩=>⟨e,hp.mem_iff.mpr he,q⟩,fun ⟨e,he,q⟩=>⟨e,hp.mem_iff.mp he,q⟩⟩
  have hsz:es2.size=es1.size:=by rw [←Qu,hp.length_eq,Qu]
  have hb2:es2.size < scanBound:=by rw [hsz];exact hb1
  refine wpAny_bind (hg _ _ _ ?_)
  refine wpAny_bind (wpAny_storeSet_of ho1 rfl ?_ (fits_of_scanBound hb2))
  obtain ⟨_,hS2⟩:=a2I (knd:=knd) ho1 hex rfl hel2 hmem2 hb2 hfr (by rw [hsz];exact ⟨fun z=>by rw [hrl.1];exact hw.1 z,fun z=>hrl.2 (hw.2 z)⟩)
  rw [hsz] at hS2
  exact wpAny_pure (h _ (hsb1.trans (Xs.update _ a _)) hS2)
 ·exact wpAny_pure (h _ hsb1 hS1)
theorem b8w {a:Addr} {S:κ→Bool} {n:Nat} {k:κ} {x:Value} {Q:Bool→Shared→Prop} (hkey:knd.is k x=true) (hsc:x.scannable=true) (hpl:plainKind x=false) (hS:a4l knd s.heap a S n)
  (hroom:n+1 < scanBound)
  (h:∀h',Xs a s.heap h'→a4l knd h' a (fun k'=>S k' || decide (k'=k)) (if S k then n else n+1)→Q (!S k) {s with heap:=h'}):
  wpAny (model prog w) A (setAddHashed a x (knd.hash k)) Q E s:=by
 obtain ⟨o,es,ep,t,ho,hex,hd,hel,hmem,hb,hf,hn,hw⟩:=hS
 have hb1:es.size+1 < scanBound:=by rw [hn];exact hroom
 unfold setAddHashed setAddHashedIn
 refine wpAny_holding (wpAny_bind (wpAny_setState_of ho hd hf ?_))
 dsimp only
 rw [byScan_of hsc hb hel]
 simp only [↓reduceIte]
 unfold setAddByScan
 refine wpAny_bind ?_
 refine wpAny_bind (wpAny_rule ?_)
 refine wpAny_bind (wpAny_setScan_of hkey ho hd hf hel ?_)
 cases hr:List.findIdx? (fun e=>knd.is k e.2) es.toList with
 | some j=>
  dsimp only
  obtain ⟨hj,hpj,_⟩:=List.findIdx?_eq_some_iff_getElem.mp hr
  have hSk:S k=true:=(hmem k).mpr ⟨es.toList[j],Xi hj,hpj⟩
  refine wpAny_pure (wpAny_pure ?_)
  have e:s={s with heap:=s.heap}:=by cases s;rfl
  have:=h s.heap (Xs.refl a s.heap) ⟨o,es,ep,t,ho,hex,hd,hel,fun k'=>by
   rw [Ux,decide_eq_true_eq,←hmem k']
   exact ⟨fun hk=>hk.elim id (fun e=>e ▸ hSk),.inl⟩,hb,hf,by rw [hSk];exact hn,by rw [hSk];exact hw⟩
  rw [hSk] at this;rw [e];exact this
 | none=>
  dsimp only
  have hSk:S k=false:=by
   cases hk:S k with
   | false=>rfl
   | true=>obtain ⟨e,he,hp⟩:=(hmem k).mp hk;have:=List.findIdx?_eq_none_iff.mp hr e he;rw [hp] at this;exact Bool.noConfusion this
  have hgw:∀(b:Bool) {s₁:Shared} {Q':Unit→Shared→Prop},Q' () s₁→wpAny (model prog w) A (match b with | true=>rule "set.scan.the-table-gave-way" | false=>pure ()) Q' E s₁:=
   fun b s₁ Q' hq=>by cases b<;>first | exact wpAny_pure hq | exact wpAny_rule hq
  have hperm:=layNew_perm t es (knd.hash k) x
  have hfits:=layNew_fits t es (knd.hash k) x
  have hled:=a9X t es (knd.hash k) x
  generalize hL:layNew t es (knd.hash k) x=L at hperm hfits hled ⊢
  obtain ⟨es1,t1,wasDummy,gave⟩:=L
  dsimp only at hperm hfits hled ⊢
  rw [Wc] at hperm
  have hel1:ElemsOf knd es1.toList:=(hel.push hkey hsc).perm hperm
  have hmem1:∀k',(S k' || decide (k'=k))=true↔∃e∈es1.toList,knd.is k' e.2=true:=mem_push_iff hkey hmem hperm
  have hb1':es1.size < scanBound:=by rw [←Qu,hperm.length_eq,Ql,Qu];simpa using hb1
  refine wpAny_bind (hgw _ ?_)
  have hsz1:es1.size=n+1:=by rw [←Qu,hperm.length_eq,Ql,Qu,hn];rfl
  have hend:∀h',Xs a s.heap h'→a4l knd h' a (fun k'=>S k' || decide (k'=k)) es1.size→Q true {s with heap:=h'}:=by
   intro h' hsb hS';have:=h h' hsb;rw [hSk] at this;rw [hsz1] at hS';exact this hS'
  have hled':w.params.followText "set-order"=false→t1.led=true:=fun z=>by rw [hled];exact hw.1 z
  split
  ·refine wpAny_bind ?_
   rw [hashByValue_scannable 8 hsc]
   refine wpAny_pure ?_
   rw [hpl]
   simp only [Yw,↓reduceIte]
   refine a4B ?_ ho hex hd hel1 hmem1 hb1' (SetTable.fits_plain_off hfits) ⟨hled',fun _=>rfl⟩ ?_
   ·intro b s₁ Q' hq;cases b<;>first | exact wpAny_pure hq | exact wpAny_rule hq
   ·intro h' hsb hS';dsimp only;exact wpAny_pure (hend h' hsb hS')
  ·rename_i hnp
   refine wpAny_bind (wpAny_pure ?_)
   simp only [↓reduceIte]
   refine a4B ?_ ho hex hd hel1 hmem1 hb1' hfits ⟨hled',fun _=>by simpa using hnp⟩ ?_
   ·intro b s₁ Q' hq;cases b<;>first | exact wpAny_pure hq | exact wpAny_rule hq
   ·intro h' hsb hS';dsimp only;exact wpAny_pure (hend h' hsb hS')
end
section
variable {prog:Program} {w:World} {A:Around} {E:Value→Shared→Prop} {s:Shared}
theorem a8i (a:Value) {Q₁:Value→Shared→Prop}
  (h:Q₁ (.ref s.heap.objs.size) {s with heap:=s.heap.push (a5o (!w.params.followText "set-order"))}):
  codeAny (model prog w) A (.call (.builtin "set.__new__") ⟨[.type "set",a],[]⟩) (wants Q₁ E) s:=by
 refine codeAny_of_tree ?_
 show wpAny _ A.in1 (do checkBuiltinCall "set.__new__" ⟨[.type "set",a],[]⟩;again (.builtin "set.__new__" ⟨[.type "set",a],[]⟩)) _ _ s
 refine wpAny_bind (wpAny_of_eq (F.newCall_set_1 a) (wpAny_pure ⟨plainId_quiet F.plain_set_new _,codeAny_builtin F.entry_set_new ?_⟩))
 rw [Around.under_plainId F.plain_set_new _]
 unfold Builtin.«set.__new__» Builtin.Frozenset.newClass
 have hsub:=sub_set_self
 obtain ⟨hp,g,d,tk,os⟩:=s
 dsimp only
 wp_walk
 refine wpAny_askSetting (wpAny_pure ?_)
 dsimp only
 simp only [newObj]
 refine wpAny_bind (wpAny_alloc (wpAny_pure ?_))
 exact wpAny_pure h
end
section
variable {prog:Program} {w:World} {A:Around} {κ:Type} [DecidableEq κ] {knd:PySem.KeyKind prog w κ}
theorem b1R {h:Heap} {a:Addr} {val:Nat→κ} (e:h.get? a=some (a5o (!w.params.followText "set-order"))):a4l knd h a (fun k=>decide (k∈a0Y val 0)) (a0Y val 0).length:=
 ⟨_,#[],0,_,e,⟨rfl,rfl,rfl⟩,rfl,fun e he=>by simp at he,fun k=>by simp [a0Y],by decide,by rfl,rfl,fun z=>by show (!w.params.followText "set-order")=true;rw [z];rfl,fun z=>absurd rfl z⟩
theorem a3Q {R:Result→Shared→Prop} {J:Addr} {fp wr:List Addr} {G:Array GenState→Array GenState→Prop} {n:Nat} {Pv:Nat→Value→Prop} {St:Nat→Shared→Prop} (W:WalksS prog w A.in1 J fp wr G n Pv St) (S:Addr) (hSf:S∉fp)
  (val:Nat→κ) (hval:∀i v,Pv i v→knd.is (val i) v=true∧v.scannable=true∧plainKind v=false) (hb:n+1 < scanBound):
  ∀(m i:Nat) (s:Shared),n - i=m→i≤n→St i s→a4l knd s.heap S (fun k=>decide (k∈a0Y val i)) (a0Y val i).length→
   (∀s',Moved (S::wr) G s s'→a4l knd s'.heap S (fun k=>decide (k∈a0Y val n)) (a0Y val n).length→R (.ok (.ret .none)) s')→
   codeAny (model prog w) A (.builtin "set.update.loop" ⟨[.ref S,.ref J],[]⟩) R s
 | 0,i,s,hm,hi,hst,hS,hR=>by
  obtain rfl:i=n:=by omega
  have hSw:S∉wr:=fun z=>hSf (W.sub _ z)
  refine codeAny_builtin F.entry_set_update_loop ?_
  rw [Around.under_plainId F.plain_set_update_loop _]
  refine wpAny_bind (W.done s _ _ hst fun s1 mv=>?_)
  refine wpAny_pure (hR s1 (mv.mono fun b z=>Qk _ z) ?_)
  obtain ⟨o,es,ep,tb,ho,more⟩:=hS
  exact ⟨o,es,ep,tb,mv.heap S _ hSw ho,more⟩
 | m+1,i,s,hm,hi,hst,hS,hR=>by
  have hSw:S∉wr:=fun z=>hSf (W.sub _ z)
  have hlt:i < n:=by omega
  refine codeAny_builtin F.entry_set_update_loop ?_
  rw [Around.under_plainId F.plain_set_update_loop _]
  refine wpAny_bind (W.item i s _ _ hlt hst fun v s1 hP hst1 mv=>?_)
  obtain ⟨hk,hsc,hpl⟩:=hval i v hP
  have hS1:a4l knd s1.heap S (fun k=>decide (k∈a0Y val i)) (a0Y val i).length:=by
   obtain ⟨o,es,ep,tb,ho,more⟩:=hS
   exact ⟨o,es,ep,tb,mv.heap S _ hSw ho,more⟩
  have room:(a0Y val i).length+1 < scanBound:=by have:=a7A val i;omega
  refine wpAny_bind (m:=holding [v] (setAdd S v)) (wpAny_holding ?_)
  unfold setAdd
  refine wpAny_holding (wpAny_bind (knd.pyHash hk ?_))
  refine b8w (knd:=knd) (s:={s1 with toks:=s1.toks+1}) hk hsc hpl hS1 room fun h' sb hS2=>?_
  have hS3:a4l knd h' S (fun k=>decide (k∈a0Y val (i+1))) (a0Y val (i+1)).length:=a5e hS2 (fun k=>(a4u val i k).symm) (a8Q val i).symm
  refine wpAny_pure ⟨plainId_quiet F.plain_set_update_loop _,a3Q W S hSf val hval hb m (i+1) _ ‹om› hlt (W.frame _ s1 _ _ hst1 (Zl _) fun b z o e=>?_) hS3 fun s2 mv2 hS4=>?_⟩
  ·rw [sb.2 b fun (z2:b=S)=>hSf (by rw [←z2];exact z)];exact e
  ·refine hR s2 (Moved.trans W.gtrans ((mv.mono fun b z=>Qk _ z).then_heap (Zl _) fun b o z e=>?_) mv2) hS4
   rw [sb.2 b fun (z2:b=S)=>z (by rw [z2];exact Qj)];exact e
theorem a6h {E:Value→Shared→Prop} {s:Shared} {l:Addr} {items:Array Value} {val:Nat→κ} {Q:Value→Shared→Prop} (hh:A.handled=none) (hl:s.heap.IsList l items)
  (hv:∀(i:Nat) v,items[i]?=some v→knd.is (val i) v=true∧v.scannable=true∧plainKind v=false) (hb:items.size+1 < scanBound)
  (h:∀h' tk,a4l knd h' s.heap.objs.size (fun k=>decide (k∈a0Y val items.size)) (a0Y val items.size).length→(∀b o,s.heap.get? b=some o→h'.get? b=some o)→Q .none {s with heap:=h',toks:=tk}):
  codeAny (model prog w) A (.call (.builtin "set.__init__") ⟨[.ref s.heap.objs.size,.ref l],[]⟩) (wants Q E) {s with heap:=s.heap.push (a5o (!w.params.followText "set-order"))}:=by
 have hS:(s.heap.push (a5o (!w.params.followText "set-order"))).get? s.heap.objs.size=some (a5o (!w.params.followText "set-order")):=Qp _ rfl
 have hT:Shared.TypeIs {s with heap:=s.heap.push (a5o (!w.params.followText "set-order"))} (.ref s.heap.objs.size) "set":=⟨_,hS,rfl⟩
 refine codeAny_call_builtin F.called_set.init.plain F.entry_set_init (check_set_init_1 hT ?_)
 obtain ⟨⟨oc,od,odt,osl⟩,hol,hcl,nl,hdl⟩:=hl
 dsimp only at hcl hdl
 subst hcl hdl
 have hol':=Qe (a5o (!w.params.followText "set-order")) hol
 have hsls:=F.sub_list_set
 have hslf:=F.sub_list_frozenset
 have hne:(Value.type "list" == Value.type "dict")=false:=by decide
 have hl1:(s.heap.push (a5o (!w.params.followText "set-order"))).IsList l items:=⟨_,hol',rfl,nl,rfl⟩
 have hlt:l < s.heap.objs.size:=Qq hol
 unfold Builtin.«set.__init__» noKeywords Builtin.Frozenset.updateFrom
 generalize hPI:pyIter=PI
 wp_walk
 subst hPI
 refine wpAny_pyIter_list hl1 (wpAny_bind (wpAny_runValue ?_))
 have hz:(s.heap.push (a5o (!w.params.followText "set-order"))).objs.size=s.heap.objs.size+1:=Zc _ _
 refine a3Q (knd:=knd) (val:=val) ((Walks.list (by simp [hh]) _ l (by rw [hz];exact Qw (Xx hlt)) items).toS) s.heap.objs.size ?_ hv hb (items.size - 0) 0 _ rfl (Xl _) ⟨⟨_,Qp _ rfl,rfl,rfl⟩,(hl1.push _)⟩ ?_ ?_
 ·rw [hz]
  simp only [Qt,Xj,or_false,not_or]
  exact ⟨Qw (Yb _),Vr hlt⟩
 ·exact b1R (Qe _ hS)
 ·intro s1 mv hS1
  obtain ⟨h1,g1,d1,t1,o1⟩:=s1
  obtain rfl:g1=s.gens:=mv.gens
  obtain rfl:d1=s.drawn:=mv.drawn
  obtain rfl:o1=s.os:=mv.os
  show wpAny _ _ _ _ _ _
  refine wpAny_pure (wpAny_pure (h h1 t1 hS1 fun b o e=>?_))
  have hb:=Qq e
  exact mv.heap b o (by rw [hz];simp only [Qt,Xj,or_false,not_or];exact ⟨Qw hb,Qw (Xx hb)⟩) (Qe _ (Qe _ e))
theorem a5f {E:Value→Shared→Prop} {s:Shared} {l:Addr} {items:Array Value} {val:Nat→κ} {Q:Value→Shared→Prop} (hh:A.handled=none) (hl:s.heap.IsList l items)
  (hv:∀(i:Nat) v,items[i]?=some v→knd.is (val i) v=true∧v.scannable=true∧plainKind v=false) (hb:items.size+1 < scanBound)
  (h:∀h' tk,a4l knd h' s.heap.objs.size (fun k=>decide (k∈a0Y val items.size)) (a0Y val items.size).length→(∀b o,s.heap.get? b=some o→h'.get? b=some o)→Q (.ref s.heap.objs.size) {s with heap:=h',toks:=tk}):
  wpAny (model prog w) A (call (.type "set") [.ref l]) Q E s:=by
 obtain ⟨c,tl,hmro⟩:=F.called_set.mro
 have hmade:=F.called_set.made
 have hsub:=F.called_set.sub
 have h1:=F.called_set.notType
 have h2:=F.called_set.canCreate
 have hct:=F.typeCall_set_1 (.ref l)
 have hli:=F.called_set.init.lookup
 refine wpAny_call (codeAny_of_tree (wpAny_pure (a:=Fin.again (.builtin "type.__call__" ⟨[.type "set",.ref l],[]⟩)) ⟨Code.quiet_builtin _ ‹dk›,codeAny_builtin F.entry_type_call ?_⟩))
 rw [Around.under_plain (weight_type_call_type "set" [.ref l] []) rfl]
 repeat (any_goals (first | assumption | wp_step))
 refine codeAny_mono (a8i (.ref l) (E:=E) (Q₁:=fun v s₁=>v=.ref s.heap.objs.size∧s₁={s with heap:=s.heap.push (a5o (!w.params.followText "set-order"))}) ⟨rfl,rfl⟩) fun r s₁ hr=>?_
 match r,hr with
 | .error e,hr=>exact hr
 | .ok (.ret v),⟨e1,e2⟩=>
  subst e1 e2
  have hS:(s.heap.push (a5o (!w.params.followText "set-order"))).get? s.heap.objs.size=some (a5o (!w.params.followText "set-order")):=Qp _ rfl
  have hT:Shared.TypeIs {s with heap:=s.heap.push (a5o (!w.params.followText "set-order"))} (.ref s.heap.objs.size) "set":=⟨_,hS,rfl⟩
  have hbi:=F.called_set.init.bind (.ref s.heap.objs.size)
  repeat (any_goals (first | assumption | wp_step))
  refine codeAny_mono (a6h (knd:=knd) (val:=val) (E:=E) (Q:=fun v s₂=>v=.none∧∃h' tk,s₂={s with heap:=h',toks:=tk}∧a4l knd h' s.heap.objs.size (fun k=>decide (k∈a0Y val items.size)) (a0Y val items.size).length∧∀b o,s.heap.get? b=some o→h'.get? b=some o) (by simp [hh]) hl hv hb fun h' tk a b=>⟨rfl,h',tk,rfl,a,b⟩) fun r₂ s₂ hr₂=>?_
  match r₂,hr₂ with
  | .error e,hr₂=>exact hr₂
  | .ok (.ret v),⟨e1,h',tk,e2,a,b⟩=>
   subst e1 e2
   repeat (any_goals (first | assumption | wp_step))
   exact h _ _ a b
  | .ok .next,hr₂=>exact hr₂.elim
  | .ok .brk,hr₂=>exact hr₂.elim
  | .ok .cont,hr₂=>exact hr₂.elim
 | .ok .next,hr=>exact hr.elim
 | .ok .brk,hr=>exact hr.elim
 | .ok .cont,hr=>exact hr.elim
end
theorem a0i:Slot "set_iterator" "__next__" "set_iterator.__next__":=
 .of (owner:="set_iterator") (n:="__next__") (by rw [typeLookup_type,builtinLookup_eq_fast];kernel_rfl) ‹dk› ‹dk› ‹dk›
  (by first | exact .inl ‹dk› | exact .inr ‹dk›) (by rw [isSubtype_type];kernel_rfl)
theorem a1K:Slot "set_iterator" "__iter__" "set_iterator.__iter__":=
 .of (owner:="set_iterator") (n:="__iter__") (by rw [typeLookup_type,builtinLookup_eq_fast];kernel_rfl) ‹dk› ‹dk› ‹dk›
  (by first | exact .inl ‹dk› | exact .inr ‹dk›) (by rw [isSubtype_type];kernel_rfl)
theorem a0L:entryFor table "set_iterator.__next__"=some Builtin.«set_iterator.__next__»:=entryFor_of_tree (by kernel_rfl)
theorem a2Z:entryFor table "set_iterator.__iter__"=some Builtin.«dict_keyiterator.__iter__»:=
 entryFor_alias (id':="dict_keyiterator.__iter__") (by kernel_rfl) rfl ‹dk› (by kernel_rfl)
theorem a3P:entryFor table "set.__iter__"=some Builtin.«frozenset.__iter__»:=
 entryFor_alias (id':="frozenset.__iter__") (by kernel_rfl) rfl ‹dk› (by kernel_rfl)
theorem a4D:Manifest.owners.lookup (String.ofList ['r','o','t','a','r','e','t','i','_','t','e','s'].reverse)=some Manifest.sig_set_iterator:=by kernel_rfl
theorem a0Z (a:Value):argsOk "set_iterator.__next__" ⟨[a],[]⟩:=by
 unfold argsOk;rw [signature?_of (id:="set_iterator.__next__") (n:=['_','_','t','x','e','n','_','_']) (o:=['r','o','t','a','r','e','t','i','_','t','e','s']) (by kernel_rfl) a4D];kernel_rfl
theorem a3m (a:Value):argsOk "set_iterator.__iter__" ⟨[a],[]⟩:=by
 unfold argsOk;rw [signature?_of (id:="set_iterator.__iter__") (n:=['_','_','r','e','t','i','_','_']) (o:=['r','o','t','a','r','e','t','i','_','t','e','s']) (by kernel_rfl) a4D];kernel_rfl
theorem a1H {α:Type}:∀{l:List α} {i:Nat} (h:i < l.length),(l[i]::l.eraseIdx i).Perm l
 | x::l,0,_=>Ub.refl _
 | x::l,i+1,h=>(Ub.swap _ _ _).trans ((a1H (l:=l) (i:=i) (by simpa using h)).cons x)
section
variable {prog:Program} {w:World} {A:Around} {E:Value→Shared→Prop} {s:Shared}
theorem a3e {α:Type} {M:Model} {src:Source} {n:Nat} {Q:Nat→Shared→Prop} (hn:n≠0) (h:∀i d,i < n→Q i {s with drawn:=d}):wpAny M A (choose src n) Q E s:=fun Γ p _=>by
 show Sem.wp M Γ (.choose src n .pure) _ _ p s
 rw [Sem.wp_choose]
 exact ⟨hn,h _ _ (Nat.mod_lt _ (Nat.pos_of_ne_zero hn))⟩
theorem a3t {α:Type} {M:Model}:∀(n:Nat) (xs:List α) {s:Shared} {Q:List α→Shared→Prop},xs.length≤n→(∀ys d,ys.Perm xs→Q ys {s with drawn:=d})→wpAny M A (drawOrder n xs) Q E s
 | 0,xs,s,Q,hn,h=>by
  have:xs=[]:=Jc.mp ‹om›
  subst this
  unfold drawOrder
  exact wpAny_pure (h [] s.drawn (Ub.refl _))
 | n+1,[],s,Q,hn,h=>by
  unfold drawOrder
  exact wpAny_pure (h [] s.drawn (Ub.refl _))
 | n+1,x::xs,s,Q,hn,h=>by
  unfold drawOrder
  refine wpAny_bind (a3e (α:=Nat) (by simp) fun i d hi=>?_)
  rw [Qf hi]
  refine wpAny_bind (a3t n ((x::xs).eraseIdx i) (by rw [Uc hi];simp at hn ⊢;omega) fun ys d' hp=>wpAny_pure (h _ d' ?_))
  refine (hp.cons _).trans ?_
  exact a1H hi
theorem b0x {α:Type} (next:Nat→Nat):∀(fuel i:Nat) (xs:List α) (acc:Array α),xs.length≤fuel→(pickOrder.go next fuel i xs acc).toList.Perm (acc.toList++xs):=by
 intro fuel
 induction fuel with
 | zero=>
  intro i xs acc h
  have:xs=[]:=Jc.mp ‹om›
  subst this
  unfold pickOrder.go
  rw [Qi]
 | succ fuel ih=>
  intro i xs acc h
  unfold pickOrder.go
  cases xs with
  | nil=>rw [Qi];exact Ub.refl _
  | cons y ys=>
   have hi:next i % (y::ys).length < (y::ys).length:=Nat.mod_lt _ (by simp)
   rw [Qf hi]
   refine (ih (i+1) _ _ (by rw [Uc hi];simp at h ⊢;omega)).trans ?_
   rw [Wc,Yq]
   exact (a1H hi).append_left _
theorem a1C {α:Type} (next:Nat→Nat) (xs:Array α):(pickOrder next xs).toList.Perm xs.toList:=by
 have:=b0x next xs.size 0 xs.toList #[] (by simp)
 simpa [pickOrder] using this
end
def a3U (h:Heap) (J:Addr) (F:Value) (i:Nat) (S:Value) (n:Int) (ep:Nat):Prop:=∃o,h.get? J=some o∧o.cls=.type "set_iterator"∧o.data=.fields #[F,rawInt i,S,rawInt n,rawInt ep]
theorem a3U.typeIs {s:Shared} {J:Addr} {F:Value} {i:Nat} {S:Value} {n:Int} {ep:Nat} (x:a3U s.heap J F i S n ep):s.TypeIs (.ref J) "set_iterator":=let ⟨o,ho,hc,_⟩:=x;⟨o,ho,hc⟩
section
variable {prog:Program} {w:World} {A:Around} {E:Value→Shared→Prop} {s:Shared}
theorem a8U {J S:Addr} {i n ep slot nxt:Nat} {x:Value} {o:Obj} {es:Array (Int×Value)} {t:SetTable} {Q:Option Value→Shared→Prop} (hit:a3U s.heap J (rawInt slot) i (.ref S) n ep) (ho:s.heap.get? S=some o) (hd:o.data=.set es ep t) (hf:t.fits es.size=true) (hn:es.size=n)
  (hx:∀{A':Around} {E':Value→Shared→Prop} {Q':Option (Value×Nat)→Shared→Prop},Q' (some (x,nxt)) s→wpAny (model prog w) A' (setNext S slot i ep) Q' E' s)
  (hQ:∀h',a3U h' J (rawInt nxt) (i+1) (.ref S) n ep→Xs J s.heap h'→Q (some x) {s with heap:=h'}):wpAny (model prog w) A (pyNext (.ref J)) Q E s:=by
 obtain ⟨oj,hoj,hcj,hdj⟩:=id hit
 unfold pyNext
 refine wpAny_bind (wpAny_attempt (wpAny_callSpecial?_slot (name:=Qv "__next__") hit.typeIs a0i (wpAny_call_entry a0i hit.typeIs a0L ?_ (a0Z _))))
 unfold Builtin.«set_iterator.__next__»
 refine wpAny_bind (wpAny_pure ?_)
 dsimp only
 refine wpAny_bind (wpAny_fieldsOf hoj hdj ?_)
 simp only [rawInt]
 refine wpAny_bind (wpAny_setEntries_of ho hd hf ?_)
 rw [if_neg (by rw [hn];simp)]
 refine wpAny_bind ?_
 simp only [Yu]
 refine hx ?_
 dsimp only
 refine wpAny_bind (wpAny_setField hoj hdj (by simp) ?_)
 have f1:∀v,(s.heap.update J (Obj.mapFields (·.setIfInBounds 0 v))).get? J=some (Obj.mapFields (·.setIfInBounds 0 v) oj):=fun v=>Yl _ hoj (Obj.isFreed_of_fields (Obj.data_mapFields hdj _))
 have d1:∀v,(Obj.mapFields (·.setIfInBounds 0 v) oj).data=.fields #[v,rawInt i,.ref S,rawInt n,rawInt ep]:=fun v=>by rw [Obj.data_mapFields hdj];simp
 refine wpAny_bind (wpAny_setField (f1 _) (d1 _) (by simp) ?_)
 refine wpAny_pure ⟨_,rfl,wpAny_pure (hQ _ ⟨_,Yl _ (f1 _) (Obj.isFreed_of_fields (Obj.data_mapFields (d1 _) _)),?_,?_⟩ ((Xs.update ..).trans (Xs.update ..)))⟩
 ·rw [Obj.cls_mapFields,Obj.cls_mapFields];exact hcj
 ·rw [Obj.data_mapFields (d1 _)];simp [rawInt]
theorem b2b {J S P:Addr} {i n ep pl:Nat} {x:Value} {h0:Int} {o:Obj} {es:Array (Int×Value)} {t:SetTable} {places:Array Value} {Q:Option Value→Shared→Prop} (hit:a3U s.heap J (.ref P) i (.ref S) n ep) (ho:s.heap.get? S=some o) (hd:o.data=.set es ep t) (hf:t.fits es.size=true) (hn:es.size=n)
  (hP:s.heap.IsTuple P places) (hp:places[i]?=some (rawInt pl)) (hx:es[pl]?=some (h0,x))
  (hQ:∀h',a3U h' J (.ref P) (i+1) (.ref S) n ep→Xs J s.heap h'→Q (some x) {s with heap:=h'}):wpAny (model prog w) A (pyNext (.ref J)) Q E s:=by
 obtain ⟨oj,hoj,hcj,hdj⟩:=id hit
 unfold pyNext
 refine wpAny_bind (wpAny_attempt (wpAny_callSpecial?_slot (name:=Qv "__next__") hit.typeIs a0i (wpAny_call_entry a0i hit.typeIs a0L ?_ (a0Z _))))
 unfold Builtin.«set_iterator.__next__»
 refine wpAny_bind (wpAny_pure ?_)
 dsimp only
 refine wpAny_bind (wpAny_fieldsOf hoj hdj ?_)
 simp only [rawInt]
 refine wpAny_bind (wpAny_setEntries_of ho hd hf ?_)
 rw [if_neg (by rw [hn];simp)]
 obtain ⟨oP,hoP,hcP,nP,hdP⟩:=hP
 refine wpAny_bind (wpAny_seqItems hoP hdP ?_)
 simp only [Yu]
 rw [hp]
 simp only [rawInt,Yu]
 unfold setNextDrawn
 refine wpAny_bind (wpAny_bind (wpAny_setState_of ho hd hf ?_))
 dsimp only
 rw [if_neg (by simp),hx]
 refine wpAny_pure ?_
 refine wpAny_bind (wpAny_setField hoj hdj (by simp) ?_)
 refine wpAny_pure ⟨_,rfl,wpAny_pure (hQ _ ⟨_,Yl _ hoj (Obj.isFreed_of_fields (Obj.data_mapFields hdj _)),?_,?_⟩ (Xs.update ..))⟩
 ·rw [Obj.cls_mapFields];exact hcj
 ·rw [Obj.data_mapFields hdj];simp [rawInt]
theorem a2J {J S:Addr} {i n ep slot:Nat} {o:Obj} {es:Array (Int×Value)} {t:SetTable} {Q:Option Value→Shared→Prop} (hh:A.handled=none) (hit:a3U s.heap J (rawInt slot) i (.ref S) n ep) (ho:s.heap.get? S=some o) (hd:o.data=.set es ep t) (hf:t.fits es.size=true) (hn:es.size=n)
  (hx:∀{A':Around} {E':Value→Shared→Prop} {Q':Option (Value×Nat)→Shared→Prop},Q' none s→wpAny (model prog w) A' (setNext S slot i ep) Q' E' s)
  (hQ:∀h',Heap.ExtBut J s.heap h'→Q none {s with heap:=h'}):wpAny (model prog w) A (pyNext (.ref J)) Q E s:=by
 obtain ⟨oj,hoj,hcj,hdj⟩:=id hit
 unfold pyNext
 refine wpAny_bind (wpAny_attempt (wpAny_callSpecial?_slot (name:=Qv "__next__") hit.typeIs a0i (wpAny_call_entry a0i hit.typeIs a0L ?_ (a0Z _))))
 unfold Builtin.«set_iterator.__next__»
 refine wpAny_bind (wpAny_pure ?_)
 dsimp only
 refine wpAny_bind (wpAny_fieldsOf hoj hdj ?_)
 simp only [rawInt]
 refine wpAny_bind (wpAny_setEntries_of ho hd hf ?_)
 rw [if_neg (by rw [hn];simp)]
 refine wpAny_bind ?_
 simp only [Yu]
 refine hx ?_
 dsimp only
 refine wpAny_bind (wpAny_setField hoj hdj (by simp) ?_)
 show wpAny _ _ (newExc (.type "StopIteration") [] >>= _) _ _ _
 refine wpAny_bind ?_
 simp only [newExc,newTuple]
 refine wpAny_bind (wpAny_newObj_type ?_ (by size_fits))
 refine wpAny_bind (m:=firstArgMember _ _) (wpAny_of_eq (a:=Value.none) (by first | rfl | (simp only [firstArgMember];rfl)) ?_)
 refine wpAny_newObj_type ?_ (by size_fits)
 simp only [raiseNew]
 refine wpAny_bind (wpAny_handled ?_)
 rw [show A.in1.handled=none from hh]
 refine wpAny_bind (wpAny_pure (wpAny_throw ?_))
 refine wpAny_bind (wpAny_isInstance (T:="StopIteration") (b:=true) ⟨_,Qp _ rfl,rfl⟩ isSubtype_stop ?_)
 exact wpAny_pure (hQ _ (((Xs.update ..).extBut.push _).push _))
theorem a5K {J S P:Addr} {i n ep:Nat} {o:Obj} {es:Array (Int×Value)} {t:SetTable} {places:Array Value} {Q:Option Value→Shared→Prop} (hh:A.handled=none) (hit:a3U s.heap J (.ref P) i (.ref S) n ep) (ho:s.heap.get? S=some o) (hd:o.data=.set es ep t) (hf:t.fits es.size=true) (hn:es.size=n)
  (hP:s.heap.IsTuple P places) (hp:places[i]?=none)
  (hQ:∀h',Heap.ExtBut J s.heap h'→Q none {s with heap:=h'}):wpAny (model prog w) A (pyNext (.ref J)) Q E s:=by
 obtain ⟨oj,hoj,hcj,hdj⟩:=id hit
 unfold pyNext
 refine wpAny_bind (wpAny_attempt (wpAny_callSpecial?_slot (name:=Qv "__next__") hit.typeIs a0i (wpAny_call_entry a0i hit.typeIs a0L ?_ (a0Z _))))
 unfold Builtin.«set_iterator.__next__»
 refine wpAny_bind (wpAny_pure ?_)
 dsimp only
 refine wpAny_bind (wpAny_fieldsOf hoj hdj ?_)
 simp only [rawInt]
 refine wpAny_bind (wpAny_setEntries_of ho hd hf ?_)
 rw [if_neg (by rw [hn];simp)]
 obtain ⟨oP,hoP,hcP,nP,hdP⟩:=hP
 refine wpAny_bind (wpAny_seqItems hoP hdP ?_)
 simp only [Yu]
 rw [hp]
 dsimp only
 refine wpAny_bind (wpAny_setField hoj hdj (by simp) ?_)
 have f1:∀v,(s.heap.update J (Obj.mapFields (·.setIfInBounds 0 v))).get? J=some (Obj.mapFields (·.setIfInBounds 0 v) oj):=fun v=>Yl _ hoj (Obj.isFreed_of_fields (Obj.data_mapFields hdj _))
 have d1:∀v,(Obj.mapFields (·.setIfInBounds 0 v) oj).data=.fields #[v,rawInt i,.ref S,rawInt n,rawInt ep]:=fun v=>by rw [Obj.data_mapFields hdj];simp
 refine wpAny_bind (wpAny_setField (f1 _) (d1 _) (by simp) ?_)
 show wpAny _ _ (newExc (.type "StopIteration") [] >>= _) _ _ _
 refine wpAny_bind ?_
 simp only [newExc,newTuple]
 refine wpAny_bind (wpAny_newObj_type ?_ (by size_fits))
 refine wpAny_bind (m:=firstArgMember _ _) (wpAny_of_eq (a:=Value.none) (by first | rfl | (simp only [firstArgMember];rfl)) ?_)
 refine wpAny_newObj_type ?_ (by size_fits)
 simp only [raiseNew]
 refine wpAny_bind (wpAny_handled ?_)
 rw [show A.in1.handled=none from hh]
 refine wpAny_bind (wpAny_pure (wpAny_throw ?_))
 refine wpAny_bind (wpAny_isInstance (T:="StopIteration") (b:=true) ⟨_,Qp _ rfl,rfl⟩ isSubtype_stop ?_)
 exact wpAny_pure (hQ _ ((((Xs.update ..).trans (Xs.update ..)).extBut.push _).push _))
theorem a3q {S:Addr} {slot i ep:Nat} {o:Obj} {es:Array (Int×Value)} {t:SetTable} {Q:Option (Value×Nat)→Shared→Prop} (hw:w.params.followText "set-order"=true) (ho:s.heap.get? S=some o) (hd:o.data=.set es ep t) (hf:t.fits es.size=true)
  (h:Q (((pickOrder (w.params.setOrder S ep) es)[i]?).map fun e=>(e.2,slot)) s):wpAny (model prog w) A (setNext S slot i ep) Q E s:=by
 unfold setNext
 refine wpAny_bind (wpAny_setState_of ho hd hf ?_)
 dsimp only
 unfold setsByText
 refine wpAny_bind (wpAny_bind (wpAny_askSetting (wpAny_pure ?_)))
 rw [if_pos (show (model prog w).w.params.followText "set-order"=true from hw),if_neg (by simp)]
 unfold setWalk
 refine wpAny_bind (wpAny_bind (wpAny_setState_of ho hd hf ?_))
 dsimp only
 unfold setsByText
 refine wpAny_bind (wpAny_bind (wpAny_askSetting (wpAny_pure ?_)))
 rw [if_pos (show (model prog w).w.params.followText "set-order"=true from hw)]
 refine wpAny_bind (wpAny_askSetting (wpAny_pure ?_))
 exact wpAny_pure h
theorem a4E {S:Addr} {slot i ep:Nat} {o:Obj} {es:Array (Int×Value)} {t:SetTable} {Q:Option (Value×Nat)→Shared→Prop} (hw:w.params.followText "set-order"=false) (ho:s.heap.get? S=some o) (hd:o.data=.set es ep t) (hf:t.fits es.size=true) (hl:t.led=true) (h1:es.size≤1)
  (h:Q (match es[SetTable.below t.place slot]?,t.place[SetTable.below t.place slot]? with | some (_,x),some j=>some (x,j+1) | _,_=>none) s):wpAny (model prog w) A (setNext S slot i ep) Q E s:=by
 unfold setNext
 refine wpAny_bind (wpAny_setState_of ho hd hf ?_)
 dsimp only
 unfold setsByText
 refine wpAny_bind (wpAny_bind (wpAny_askSetting (wpAny_pure ?_)))
 rw [if_neg (show ¬(model prog w).w.params.followText "set-order"=true by rw [show (model prog w).w.params.followText "set-order"=false from hw];exact Qr)]
 refine wpAny_ite_split (fun hab=>?_) (fun _=>?_)
 ·have hab':(!t.plain && decide (es.size > 1))=true:=hab
  rw [Xe,decide_eq_true_eq] at hab'
  omega
 ·have e:(if (!t.led && !es.isEmpty)=true then (unsupported "set:maker-not-led":Sem PUnit) else pure PUnit.unit)=pure PUnit.unit:=by rw [hl];rfl
  exact wpAny_bind (wpAny_of_eq (a:=PUnit.unit) e (wpAny_pure h))
theorem a9w {p:Array Nat} (h:p.size=0) (j:Nat):SetTable.below p j=0:=by
 unfold SetTable.below
 rw [h];rfl
theorem a5O (k j:Nat):SetTable.below #[k] j=if k < j then 1 else 0:=by
 unfold SetTable.below
 show SetTable.below.go #[k] j 1 0 1=_
 unfold SetTable.below.go
 rw [if_pos ‹dc›]
 show (if k < j then SetTable.below.go #[k] j 0 1 1 else SetTable.below.go #[k] j 0 0 0)=_
 split<;>rfl
theorem b0G {h h':Heap} {J:Addr} {F:Value} {i:Nat} {S:Value} {n:Int} {ep:Nat} (x:a3U h J F i S n ep) (e:∀o,h.get? J=some o→h'.get? J=some o):a3U h' J F i S n ep:=let ⟨o,ho,r⟩:=x;⟨o,e _ ho,r⟩
theorem a4g {J:Addr} {F:Value} {i:Nat} {S:Value} {n:Int} {ep:Nat} {Q:Value→Shared→Prop} (hit:a3U s.heap J F i S n ep) (h:Q (.ref J) s):wpAny (model prog w) A (pyIter (.ref J)) Q E s:=by
 refine wpAny_pyIter_slot hit.typeIs a1K (wpAny_call_entry a1K hit.typeIs a2Z ?_ (a3m _))
 show wpAny _ _ (ret (.ref J)) _ _ s
 exact wpAny_pure ⟨_,rfl,"set_iterator",_,hit.typeIs,a0i.lookup,h⟩
theorem a6y {J S:Addr} {n ep:Nat} {o:Obj} {es:Array (Int×Value)} {t:SetTable} (hh:A.handled=none) (hw:w.params.followText "set-order"=true) (hne:S≠J) (hd:o.data=.set es ep t) (hf:t.fits es.size=true) (hn:es.size=n):
  Walks prog w A J [J,S] [J] n (fun i v=>∃e,(pickOrder (w.params.setOrder S ep) es).toList[i]?=some e∧v=e.2) (fun i h=>a3U h J (rawInt (0:Nat)) i (.ref S) n ep∧h.get? S=some o) where
 sub:=fun b hb=>by simp at hb;simp [hb]
 frame:=fun _ _ _ st hk=>⟨b0G st.1 fun o e=>hk J (by simp) o e,hk S (by simp) _ st.2⟩
 item:=fun i s Q E hi st hQ=>by
  have hl:(pickOrder (w.params.setOrder S ep) es).size=n:=by rw [←hn,←Qu,(a1C _ es).length_eq,Qu]
  have hi':i < (pickOrder (w.params.setOrder S ep) es).size:=by omega
  refine a8U (nxt:=0) (x:=((pickOrder (w.params.setOrder S ep) es)[i]).2) st.1 st.2 hd hf hn (fun h=>a3q hw st.2 hd hf (by rw [Yk hi'];exact h)) fun h' hit' hs'=>?_
  refine hQ _ h' s.toks ⟨(pickOrder (w.params.setOrder S ep) es)[i],by rw [Ym,Yk hi'],rfl⟩ ⟨hit',(hs'.extBut S _ hne st.2)⟩ fun b o hb e=>hs'.extBut b o (fun h=>hb (by simp [h])) e
 done:=fun s Q E st hQ=>by
  have hl:(pickOrder (w.params.setOrder S ep) es).size=n:=by rw [←hn,←Qu,(a1C _ es).length_eq,Qu]
  exact a2J hh st.1 st.2 hd hf hn (fun h=>a3q hw st.2 hd hf (by rw [Jf ‹om›];exact h)) fun h' he'=>hQ h' s.toks fun b o hb e=>he' b o (fun h=>hb (by simp [h])) e
 self:=fun _ _ _ _ st hQ=>a4g st.1 hQ
theorem a8j {J S:Addr} {n ep:Nat} {o:Obj} {es:Array (Int×Value)} {t:SetTable} (hh:A.handled=none) (hw:w.params.followText "set-order"=false) (hne:S≠J) (hd:o.data=.set es ep t) (hf:t.fits es.size=true) (hn:es.size=n) (hl:t.led=true) (h1:es.size≤1):
  Walks prog w A J [J,S] [J] n (fun i v=>∃e,es.toList[i]?=some e∧v=e.2) (fun i h=>a3U h J (rawInt ((if i=0 then 0 else t.place.getD 0 0+1:Nat))) i (.ref S) n ep∧h.get? S=some o) where
 sub:=fun b hb=>by simp at hb;simp [hb]
 frame:=fun _ _ _ st hk=>⟨b0G st.1 fun o e=>hk J (by simp) o e,hk S (by simp) _ st.2⟩
 item:=fun i s Q E hi st hQ=>by
  have hi0:i=0:=by omega
  subst hi0
  have hsz:t.place.size=1:=by
   simp only [SetTable.fits,Xe,beq_iff_eq] at hf
   omega
  have hpl:t.place=#[t.place.getD 0 0]:=by
   apply Array.ext
   ·simp [hsz]
   ·intro i h1 h2
    have:i=0:=by omega
    subst this
    simp [Jr,hsz]
  have hz:0 < es.size:=by omega
  have st1:a3U s.heap J (rawInt (0:Nat)) 0 (.ref S) n ep:=st.1
  refine a8U (nxt:=t.place.getD 0 0+1) (x:=es[0].2) st1 st.2 hd hf hn (fun h=>a4E hw st.2 hd hf hl h1 (by rw [hpl,a5O,if_neg ‹om›,Yk hz];exact h)) fun h' hit' hs'=>?_
  refine hQ _ h' s.toks ⟨es[0],by rw [Ym,Yk hz],rfl⟩ ⟨hit',(hs'.extBut S _ hne st.2)⟩ fun b o hb e=>hs'.extBut b o (fun h=>hb (by simp [h])) e
 done:=fun s Q E st hQ=>by
  have hsz:t.place.size=n:=by
   simp only [SetTable.fits,Xe,beq_iff_eq] at hf
   omega
  refine a2J hh st.1 st.2 hd hf hn (fun h=>a4E hw st.2 hd hf hl h1 ?_) fun h' he'=>hQ h' s.toks fun b o hb e=>he' b o (fun h=>hb (by simp [h])) e
  by_cases h0:n=0
  ·rw [a9w ‹om›,Jf ‹om›];exact h
  ·have hpl:t.place=#[t.place.getD 0 0]:=by
    apply Array.ext
    ·simp;omega
    ·intro i h1 h2
     have:i=0:=by simp at h2;omega
     subst this
     simp [Jr,h1]
   rw [if_neg h0]
   generalize t.place.getD 0 0=k at hpl ⊢
   rw [hpl,a5O,if_pos ‹om›,Jf ‹om›];exact h
 self:=fun _ _ _ _ st hQ=>a4g st.1 hQ
theorem a6B {J S P:Addr} {n ep:Nat} {o:Obj} {es:Array (Int×Value)} {t:SetTable} {pl:List Nat} (hh:A.handled=none) (hne:S≠J) (hnp:P≠J) (hd:o.data=.set es ep t) (hf:t.fits es.size=true) (hn:es.size=n) (hp:pl.Perm (Yo n)):
  Walks prog w A J [J,S,P] [J] n (fun i v=>∃k e,pl[i]?=some k∧es.toList[k]?=some e∧v=e.2) (fun i h=>a3U h J (.ref P) i (.ref S) n ep∧h.get? S=some o∧h.IsTuple P (pl.map fun i=>rawInt (i:Nat)).toArray) where
 sub:=fun b hb=>by simp at hb;simp [hb]
 frame:=fun _ _ _ st hk=>⟨b0G st.1 fun o e=>hk J (by simp) o e,hk S (by simp) _ st.2.1,let ⟨o,a,b⟩:=st.2.2;⟨o,hk P (by simp) _ a,b⟩⟩
 item:=fun i s Q E hi st hQ=>by
  have hl:pl.length=n:=by rw [hp.length_eq,Yz]
  have hi':i < pl.length:=by omega
  have hk:pl[i] < es.size:=by
   have:=hp.mem_iff.mp (Xi hi')
   rw [Jw] at this;omega
  refine b2b (pl:=pl[i]) (x:=es[pl[i]].2) (h0:=es[pl[i]].1) st.1 st.2.1 hd hf hn st.2.2 (by simp [hi']) (by rw [Yk hk]) fun h' hit' hs'=>?_
  refine hQ _ h' s.toks ⟨pl[i],es[pl[i]],Qf hi',by rw [Ym,Yk hk],rfl⟩ ⟨hit',hs'.extBut S _ hne st.2.1,let ⟨o,a,b⟩:=st.2.2;⟨o,hs'.extBut P _ hnp a,b⟩⟩ fun b o hb e=>hs'.extBut b o (fun h=>hb (by simp [h])) e
 done:=fun s Q E st hQ=>by
  have hl:pl.length=n:=by rw [hp.length_eq,Yz]
  exact a5K hh st.1 st.2.1 hd hf hn st.2.2 (by simp;omega) fun h' he'=>hQ h' s.toks fun b o hb e=>he' b o (fun h=>hb (by simp [h])) e
 self:=fun _ _ _ _ st hQ=>a4g st.1 hQ
end
theorem a3C {α:Type} {L:List (Int×Value)} {n:Nat} {acc:Array Value} (hl:L.length=n) (h:ItemsOf (fun i v=>∃e,L[i]?=some e∧v=e.2) acc n):acc.toList=L.map (·.2):=by
 refine Zq (by rw [Qu,Qc,hl];exact h.1) fun i h1 h2=>?_
 obtain ⟨e,e1,e2⟩:=h.2 i acc.toList[i] (by rw [←Ym,Qf h1])
 rw [Zh,e2]
 have hi:i < L.length:=by rwa [Qc] at h2
 rw [Qf hi] at e1
 cases e1;rfl
theorem a5i {L:List (Int×Value)} {n:Nat} {pl:List Nat} {acc:Array Value} (hl:L.length=n) (hp:pl.Perm (Yo n)) (h:ItemsOf (fun i v=>∃k e,pl[i]?=some k∧L[k]?=some e∧v=e.2) acc n):acc.toList.Perm (L.map (·.2)):=by
 let f:Nat→Value:=fun k=>((L[k]?).map (·.2)).getD .none
 have e1:acc.toList=pl.map f:=by
  have hpl:pl.length=n:=by rw [hp.length_eq,Yz]
  refine Zq (by rw [Qu,Qc,hpl];exact h.1) fun i h1 h2=>?_
  obtain ⟨k,e,a1,a2,a3⟩:=h.2 i acc.toList[i] (by rw [←Ym,Qf h1])
  have hi:i < pl.length:=by rwa [Qc] at h2
  rw [Qf hi] at a1
  rw [Zh,a3,Option.some.inj a1]
  show e.2=((L[k]?).map (·.2)).getD .none
  rw [a2];rfl
 have e2:(Yo n).map f=L.map (·.2):=by
  refine Zq (by simp [hl]) fun i h1 h2=>?_
  rw [Zh,List.getElem_range,Zh]
  show ((L[i]?).map (·.2)).getD .none=_
  rw [Qf (by rwa [Qc] at h2)];rfl
 rw [e1,←e2]
 exact hp.map f
section
variable {prog:Program} {w:World} {A:Around} {E:Value→Shared→Prop} {s:Shared}
theorem a8u {S:Addr} {n ep:Nat} {o:Obj} {es:Array (Int×Value)} {t:SetTable} {Q:Value→Shared→Prop} (ho:s.heap.get? S=some o) (hc:o.cls=.type "set") (hd:o.data=.set es ep t) (hf:t.fits es.size=true) (hn:es.size=n) (hW:Wk w t n) (hz:n≤1000)
  (hQ:∀(J:Addr) (fp:List Addr) (P:Nat→Value→Prop) (St:Nat→Heap→Prop) (h1:Heap) (d:Drawn),(∀b o,s.heap.get? b=some o→h1.get? b=some o)→(∀b∈fp,b=S∨s.heap.objs.size≤b)→(∀b∈fp,b < h1.objs.size)→J∈fp→s.heap.objs.size≤J→
   (∀A':Around,A'.handled=none→Walks prog w A' J fp [J] n P St)→St 0 h1→(∀acc:Array Value,ItemsOf P acc n→acc.toList.Perm (es.toList.map (·.2)))→Q (.ref J) {s with heap:=h1,drawn:=d}):
  wpAny (model prog w) A (pyIter (.ref S)) Q E s:=by
 have hT:s.TypeIs (.ref S) "set":=⟨o,ho,hc⟩
 refine wpAny_pyIter_slot hT F.slot_set_iter (wpAny_call_entry F.slot_set_iter hT a3P ?_ (F.args_set_iter_1 _))
 unfold Builtin.«frozenset.__iter__»
 refine wpAny_bind (wpAny_bind (wpAny_pure (wpAny_pure ?_)))
 unfold Builtin.Frozenset.sizeOf
 refine wpAny_bind (wpAny_bind (wpAny_setEntries_of ho hd hf (wpAny_pure ?_)))
 unfold setDrawn
 refine wpAny_bind (wpAny_bind (wpAny_setState_of ho hd hf ?_))
 dsimp only
 unfold setsByText
 refine wpAny_bind (wpAny_bind (wpAny_askSetting (wpAny_pure (wpAny_pure ?_))))
 have lS:S < s.heap.objs.size:=Qq ho
 refine wpAny_ite_split (fun hab=>?_) (fun hab=>?_)
 ·have hab':(!w.params.followText "set-order" && (!t.plain && decide (es.size > 1)))=true:=hab
  refine wpAny_bind (a3t _ _ (by simp) fun pl d hp=>?_)
  refine wpAny_bind (wpAny_newObj_type ?_ (by
   show (pl.map fun i=>rawInt (i:Nat)).toArray.size≤sizeLine
   rw [sizeLine_eq,Qh,Qc,hp.length_eq,Yz];omega))
  have ho1:=Qe {cls:=Value.type "tuple",data:=Data.seq (pl.map fun i=>rawInt (i:Nat)).toArray} ho
  refine wpAny_bind (wpAny_setEpoch_of ho1 hd hf ?_)
  refine wpAny_bind (wpAny_newObj_type ?_)
  rw [hn] at hp ⊢
  have z1:(s.heap.push {cls:=Value.type "tuple",data:=Data.seq (pl.map fun i=>rawInt (i:Nat)).toArray}).objs.size=s.heap.objs.size+1:=Zc _ _
  refine wpAny_pure ⟨_,rfl,"set_iterator",_,⟨_,Qp _ rfl,rfl⟩,a0i.lookup,hQ _ [_,S,s.heap.objs.size] _ _ _ d (fun b o e=>Qe _ (Qe _ e)) ?_ ?_ Qj (by rw [z1];omega) (fun A' hA'=>a6B hA' ?_ ?_ hd hf hn hp) ⟨⟨_,Qp _ rfl,rfl,rfl⟩,Qe _ ho1,⟨_,Qe _ (Qp _ rfl),rfl,_,rfl⟩⟩ (fun acc ha=>a5i (by rw [Qu];exact hn) hp ha)⟩
  ·intro b hb
   simp only [Qt,Xj,or_false] at hb
   rcases hb with rfl | rfl | rfl
   ·exact .inr (by rw [z1];omega)
   ·exact .inl rfl
   ·exact .inr (Qg _)
  ·intro b hb
   rw [Zc,z1]
   simp only [Qt,Xj,or_false] at hb
   rcases hb with rfl | rfl | rfl
   ·rw [z1];exact Yb _
   ·exact Um lS (Um (Yb _) (Yb _))
   ·exact Um (Yb _) (Yb _)
  ·rw [z1];exact Qw (Xx lS)
  ·rw [z1];exact Qw (Yb _)
 ·have hab':¬(!w.params.followText "set-order" && (!t.plain && decide (es.size > 1)))=true:=hab
  refine wpAny_bind (wpAny_pure ?_)
  refine wpAny_bind (wpAny_setEpoch_of ho hd hf ?_)
  refine wpAny_bind (wpAny_newObj_type ?_)
  rw [hn]
  have go:∀(P:Nat→Value→Prop) (St:Nat→Heap→Prop),(∀A':Around,A'.handled=none→Walks prog w A' s.heap.objs.size [s.heap.objs.size,S] [s.heap.objs.size] n P St)→St 0 (s.heap.push {cls:=Value.type "set_iterator",data:=Data.fields [rawInt 0,rawInt 0,Value.ref S,rawInt ↑n,rawInt ↑ep].toArray})→(∀acc:Array Value,ItemsOf P acc n→acc.toList.Perm (es.toList.map (·.2)))→Q (.ref s.heap.objs.size) {s with heap:=s.heap.push {cls:=Value.type "set_iterator",data:=Data.fields [rawInt 0,rawInt 0,Value.ref S,rawInt ↑n,rawInt ↑ep].toArray}}:=fun P St hw st ha=>by
   refine hQ _ [_,S] P St _ s.drawn (fun b o e=>Qe _ e) ?_ ?_ Qj (Qg _) hw st ha
   ·intro b hb
    simp only [Qt,Xj,or_false] at hb
    rcases hb with rfl | rfl
    ·exact .inr (Qg _)
    ·exact .inl rfl
   ·intro b hb
    rw [Zc]
    simp only [Qt,Xj,or_false] at hb
    rcases hb with rfl | rfl
    ·exact Yb _
    ·exact Xx lS
  have hne:S≠s.heap.objs.size:=Qw lS
  have st:a3U (s.heap.push {cls:=Value.type "set_iterator",data:=Data.fields [rawInt 0,rawInt 0,Value.ref S,rawInt ↑n,rawInt ↑ep].toArray}) s.heap.objs.size (rawInt (0:Nat)) 0 (.ref S) n ep:=⟨_,Qp _ rfl,rfl,rfl⟩
  refine wpAny_pure ⟨_,rfl,"set_iterator",_,⟨_,Qp _ rfl,rfl⟩,a0i.lookup,?_⟩
  by_cases hw:w.params.followText "set-order"=true
  ·refine go _ _ (fun A' hA'=>a6y hA' hw hne hd hf hn) ⟨st,Qe _ ho⟩ fun acc ha=>?_
   have e:=a3C (α:=Nat) (by rw [(a1C _ es).length_eq,Qu];exact hn) ha
   rw [e];exact (a1C _ es).map _
  ·have hw':w.params.followText "set-order"=false:=by simpa using hw
   have h1:es.size≤1:=by
    rw [hw'] at hab'
    by_cases h0:n=0
    ·omega
    ·rw [hW.2 h0] at hab'
     simp at hab'
     omega
   refine go _ _ (fun A' hA'=>a8j hA' hw' hne hd hf hn (hW.1 hw') h1) ⟨st,Qe _ ho⟩ fun acc ha=>?_
   rw [a3C (α:=Nat) (by rw [Qu];exact hn) ha]
end
section
variable {prog:Program} {w:World} {A:Around} {E:Value→Shared→Prop} {s:Shared}
theorem a8x {r:Addr} {Q:Bool→Shared→Prop} (hT:s.TypeIs (.ref r) "set") (h:Q false s):wpAny (model prog w) A (Builtin.List.listLengthHint (.ref r)) Q E s:=by
 unfold Builtin.List.listLengthHint
 refine wpAny_bind (wpAny_specialOf hT PySem.F.slot_set_len.lookup ?_)
 generalize hid:("set.__len__":String)=id0
 wp_delta
 rw [show splitId id0=some ("set","__len__") from by subst hid;decide+kernel]
 subst hid
 refine wpAny_bind (wpAny_isInstance (T:="set") (b:=true) hT (by rw [isSubtype_type];kernel_rfl) ?_)
 refine wpAny_ite_split (fun hab=>absurd hab ‹dc›) (fun _=>?_)
 refine wpAny_ite_split (fun _=>?_) (fun hab=>absurd ‹dk› hab)
 refine wpAny_bind (wpAny_typeOf hT ?_)
 exact wpAny_pure h
theorem a5D {S:Addr} {n ep:Nat} {o:Obj} {es:Array (Int×Value)} {t:SetTable} {R:Result→Shared→Prop} (hh:A.handled=none) (ho:s.heap.get? S=some o) (hc:o.cls=.type "set") (hd:o.data=.set es ep t) (hf:t.fits es.size=true) (hn:es.size=n) (hW:Wk w t n) (hz:n≤1000)
  (L:Addr) (hLS:L≠S) (res:Value) (c₀:Nat) (hL:s.heap.get? L=some {cls:=.type "list",data:=.seq #[] c₀})
  (hR:∀h' tk d acc' c',(∀b o,b≠L→s.heap.get? b=some o→h'.get? b=some o)→h'.get? L=some {cls:=.type "list",dict:=none,data:=.seq acc' c',slots:=#[]}→acc'.toList.Perm (es.toList.map (·.2))→R (.ok (.ret res)) {s with heap:=h',toks:=tk,drawn:=d}):
  wpAny (model prog w) A.in1 (Builtin.List.listExtendWith (.ref L) (.ref S) res)
   (fun fin s'=>match fin with | .done f=>R (.ok f) s' | .again c'=>c'.quiet=true∧codeAny (model prog w) A c' R s') (fun e s'=>R (.error e) s') s:=by
 have hT:s.TypeIs (.ref S) "set":=⟨o,ho,hc⟩
 unfold Builtin.List.listExtendWith
 refine wpAny_bind (wpAny_typeOf (T:="set") hT ?_)
 have h1:Builtin.List.listSameRef (.ref L) (.ref S)=false:=by simp [Builtin.List.listSameRef,hLS]
 simp only [h1,show (Value.type "set" == Value.type "list")=false by decide,show (Value.type "set" == Value.type "tuple")=false by decide,Bool.or_false,Yw,if_false]
 refine wpAny_bind (a8u ho hc hd hf hn hW hz fun J fp P St h1 d hk hfp hlt hJ hJge W st hperm=>?_)
 have hLf:L∉fp:=fun z=>(hfp L z).elim hLS fun q=>absurd (Qq hL) (Nat.not_lt.mpr q)
 have hL1:=hk _ _ hL
 have hnz:n≤sizeLine:=by rw [sizeLine_eq];omega
 have key:∀(h:Heap) (c₁ tk:Nat),St 0 h→(∀b o,b≠L→s.heap.get? b=some o→h.get? b=some o)→
   h.get? L=some {cls:=.type "list",data:=.seq #[] c₁}→codeAny (model prog w) A (.builtin "list.extend.loop" ⟨[.ref L,.ref J,res],[]⟩) R {s with heap:=h,toks:=tk,drawn:=d}:=by
  intro h c₁ tk hst hk' hS₁
  refine codeAny_extend_loopS (W A.in1 hh).toS hnz L hLf res n 0 _ #[] c₁ rfl (Xl _) hst hS₁ (ItemsOf.nil _) fun s' acc' c' hm hS' hacc=>?_
  rw [Moved.eq_with hm]
  refine hR s'.heap s'.toks d acc' c' (fun b o hb e=>hm.heap b o (fun hmem=>?_) (hk' b o hb e)) hS' (hperm acc' hacc)
  rcases Qt.mp hmem with e' | hmem
  ·exact hb e'
  ·rw [Qz.mp hmem] at e
   exact absurd (Qq e) (Nat.not_lt.mpr hJge)
 refine wpAny_bind (wpAny_holding (a8x ⟨o,hk _ _ ho,hc⟩ ?_))
 refine wpAny_ite_split (fun _=>?_) (fun _=>wpAny_pure ⟨plainId_quiet Uh _,key _ c₀ _ st (fun b o _ e=>hk b o e) hL1⟩)
 refine wpAny_bind (wpAny_rule ?_)
 refine wpAny_bind ?_
 show wpAny _ _ (updateSeq L (·.push .none) >>= fun _=>updateSeq L (·.pop)) _ _ _
 refine wpAny_bind (wpAny_updateSeq hL1 rfl ?_)
 have hS₂:=Yl (Obj.mapSeq (·.push Value.none)) hL1 rfl
 refine wpAny_updateSeq (hz:=by seq_fits) hS₂ rfl ?_
 have hS₃:=Yl (Obj.mapSeq (·.pop)) hS₂ rfl
 refine wpAny_pure ⟨plainId_quiet Uh _,key _ _ _ ?_ (fun b o hb e=>?_) hS₃⟩
 ·refine (W A.in1 hh).frame 0 _ _ st fun b hb o e=>?_
  have hbS:b≠L:=fun h=>hLf (h ▸ hb)
  exact (Yr _ _ (Ne.symm hbS)).trans ((Yr _ _ (Ne.symm hbS)).trans e)
 ·exact (Yr _ _ (Ne.symm hb)).trans ((Yr _ _ (Ne.symm hb)).trans (hk _ _ e))
theorem a3X {S:Addr} {n ep:Nat} {o:Obj} {es:Array (Int×Value)} {t:SetTable} {R:List Value→Shared→Prop} (hh:A.handled=none) (ho:s.heap.get? S=some o) (hc:o.cls=.type "set") (hd:o.data=.set es ep t) (hf:t.fits es.size=true) (hn:es.size=n) (hW:Wk w t n) (hz:n≤1000)
  (h:∀(h':Heap) (tk:Nat) (d:Drawn) (acc:Array Value),(∀b o,s.heap.get? b=some o→h'.get? b=some o)→acc.toList.Perm (es.toList.map (·.2))→R acc.toList {s with heap:=h',toks:=tk,drawn:=d}):
  wpAny (model prog w) A (collect (.ref S)) R E s:=by
 have lS:=Qq ho
 unfold collect
 refine wpAny_bind (wpAny_runValue (codeAny_builtin entry_proto_collect' ?_))
 rw [Around.under_plainId PySem.F.plain_proto_collect _]
 show wpAny _ A.in1 (newList [] >>= fun l=>again (.builtin "list.__iadd__" ⟨[l,.ref S],[]⟩)) _ _ s
 refine wpAny_bind (wpAny_newObj_type ?_)
 refine wpAny_pure ⟨plainId_quiet Uu _,codeAny_builtin entry_list_iadd' ?_⟩
 rw [Around.under_plainId Uu _]
 have hS₁:(s.heap.push {cls:=.type "list",data:=.seq ([]:List Value).toArray}).get? s.heap.objs.size=some {cls:=.type "list",data:=.seq #[]}:=Qp _ rfl
 show wpAny _ A.in1 (Builtin.List.listExtendWith (.ref s.heap.objs.size) (.ref S) (.ref s.heap.objs.size)) _ _ _
 have key:=a5D (prog:=prog) (A:=A) (s:={s with heap:=s.heap.push {cls:=.type "list",data:=.seq ([]:List Value).toArray}})
  (R:=fun (q:Result) (s':Shared)=>∃(h':Heap) (tk:Nat) (d:Drawn) (acc':Array Value) (c':Nat),q=.ok (.ret (.ref s.heap.objs.size))∧s'={s with heap:=h',toks:=tk,drawn:=d}∧
   (∀b o,s.heap.get? b=some o→h'.get? b=some o)∧h'.get? s.heap.objs.size=some {cls:=.type "list",dict:=none,data:=.seq acc' c',slots:=#[]}∧acc'.toList.Perm (es.toList.map (·.2)))
  hh (Qe _ ho) hc hd hf hn hW hz s.heap.objs.size (Vr lS) (.ref s.heap.objs.size) 0 hS₁
  (fun h' tk d acc' c' hk hS' hacc=>⟨h',tk,d,acc',c',rfl,rfl,fun b o e=>hk b o (Qw (Qq e)) (Qe _ e),hS',hacc⟩)
 refine wpAny_mono key (fun fin s' x=>?_) fun e s' x=>?_
 ·cases fin with
  | done f=>
   obtain ⟨h',tk,d,acc',c',e,rfl,hk,hS',hacc⟩:=x
   cases e
   show wpAny _ A (load s.heap.objs.size >>= _) _ _ _
   refine wpAny_bind (wpAny_load hS' ?_)
   exact wpAny_pure (h h' tk d acc' hk hacc)
  | again c₁=>
   refine ⟨x.1,codeAny_mono x.2 fun q s₂ y=>?_⟩
   obtain ⟨h',tk,d,acc',c',rfl,rfl,hk,hS',hacc⟩:=y
   show wpAny _ A (load s.heap.objs.size >>= _) _ _ _
   refine wpAny_bind (wpAny_load hS' ?_)
   exact wpAny_pure (h h' tk d acc' hk hacc)
 ·obtain ⟨_,_,_,_,_,e',_⟩:=x
  cases e'
end
theorem a2M {κ:Type} [DecidableEq κ] (val:Nat→κ):∀i,(a0Y val i).Nodup
 | 0=>Zd
 | i+1=>by
  have:=a2M val i
  unfold a0Y
  split
  ·exact this
  ·rename_i h
   exact List.nodup_append.mpr ⟨this,Yh.mpr ⟨Xj,Zd⟩,fun a ha b hb e=>h (by rw [←Qz.mp hb,←e];exact ha)⟩
theorem a1V {κ:Type} [DecidableEq κ] (val:Nat→κ) (k:κ):∀i,k∈a0Y val i↔∃j,j < i∧val j=k
 | 0=>⟨fun h=>(by cases h),fun ⟨_,h,_⟩=>‹om›⟩
 | i+1=>by
  have:=a4u val i k
  have e:k∈a0Y val (i+1)↔(k∈a0Y val i∨k=val i):=by
   have h2:=congrArg (·=true) this
   simp only [decide_eq_true_eq,Ux] at h2
   exact Iff.of_eq h2
  rw [e,a1V val k i]
  constructor
  ·rintro (⟨j,h,e⟩ | e)
   ·exact ⟨j,by omega,e⟩
   ·exact ⟨i,by omega,e.symm⟩
  ·rintro ⟨j,h,e⟩
   by_cases hj:j=i
   ·exact .inr (by rw [←e,hj])
   ·exact .inl ⟨j,by omega,e⟩
theorem b0k {κ:Type} [DecidableEq κ] {val:Nat→κ} {k:κ} {n:Nat} (h:decide (k∈a0Y val n)=true):∃j,j < n∧val j=k:=(a1V val k n).mp (of_decide_eq_true h)
theorem b0m {κ:Type} [DecidableEq κ] {val:Nat→κ} {k:κ} {n:Nat} (h:∃j,j < n∧val j=k):decide (k∈a0Y val n)=true:=decide_eq_true ((a1V val k n).mpr h)
theorem a1t {α:Type} [DecidableEq α]:∀{l m:List α},m.Nodup→(∀x∈m,x∈l)→l.length≤m.length→l.Nodup
 | [],_,_,_,_=>Zd
 | x::l,m,hm,hs,hl=>by
  have hmem:∀y∈m.erase x,y∈l:=fun y hy=>by
   have h1:=(Jb.mem_erase_iff hm).mp hy
   rcases Qt.mp (hs y h1.2) with e | e
   ·exact absurd e h1.1
   ·exact e
  have key:∀{l m:List α},m.Nodup→(∀x∈m,x∈l)→m.length≤l.length:=by
   intro l m
   induction m generalizing l with
   | nil=>intro _ _;exact Xl _
   | cons z m ih=>
    intro hn hs
    rw [Yh] at hn
    have hz:=hs z Qj
    have:=ih (l:=l.erase z) hn.2 fun y hy=>(Vl (fun e=>hn.1 (by rw [←e];exact hy))).mpr (hs y (Qk _ hy))
    have h3:=Zx hz
    have h4:=Jg hz
    simp only [Qm];omega
  have h5:=key (hm.erase x) hmem
  simp only [Qm] at hl
  have hx:x∈m:=Decidable.byContradiction fun hx=>by
   rw [List.erase_of_not_mem hx] at h5;omega
  have h6:=Zx hx
  have h7:=Jg hx
  refine Yh.mpr ⟨fun hxl=>?_,a1t (hm.erase x) hmem ‹om›⟩
  have h8:=key (l:=l) hm fun y hy=>by
   rcases Qt.mp (hs y hy) with e | e
   ·rw [e];exact hxl
   ·exact e
  omega
def a9a:Value→Str
 | .str z _=>z
 | _=>Vu
def b3n (w:World) (p:Addr) (ss:List Str):HO:=.ext fun h=>∃o es ep t,h.get? p=some o∧o.ExactSet∧o.data=.set es ep t∧t.fits es.size=true∧es.size=ss.length∧Wk w t es.size∧StrsAre (es.toList.map (·.2)) ss
def a9R (w:World) (K:Qa):List V→Hp→VK→Prop:=fun xs H Q=>∃(a:Addr) (zs:List Str),xs=[.ref a]∧SqL K H a (zs.map V.str)∧zs.length≤4000∧∀p ss,H p=none→ss.Nodup→(∀z,z∈ss↔z∈zs)→Q (.ref p) (upd H p (b3n w p ss))
def a3c (w:World):List V→Hp→VK→Prop:=fun xs H Q=>∃(p:Addr) (ss:List Str),xs=[.ref p]∧H p=some (b3n w p ss)∧ss.length < 64∧∀l ss',H l=none→ss'.Perm ss→sortedS ss'=true→Q (.ref l) (upd H l (.lst (ss'.map V.str)))
section
variable {X:Cx}
theorem a2u (hc:X.calm=true):a0N X (.type "set") (a9R X.w X.K):=by
 intro pins s σ H xs us Q I r h
 obtain ⟨a,zs,rfl,ha,hl,q⟩:=h
 obtain ⟨u,rfl,ru⟩:=a1N r
 cases ru
 obtain ⟨its,rv,p,hz⟩:=I.list ha
 have hsz:its.toArray.size=zs.length:=by have:=rv.length;simp at this ⊢;omega
 refine a5f (knd:=a0p X.prog X.w) (val:=fun i=>Sum.inr ((zs[i]?).getD Vu)) (I.ok.hd hc) p.isList (fun i v e=>?_) ?_ fun h' tk hS hk=>?_
 ·have e':its[i]?=some v:=by simpa using e
  have hi:=(Xa.mp e').1
  have hi2:i < zs.length:=by rw [←hsz];simpa using hi
  obtain ⟨u,eu,ru⟩:=rv.get (i:=i) (x:=V.str zs[i]) (by rw [Xr,Qf hi2];rfl)
  rw [e'] at eu
  cases eu
  obtain ⟨t,rfl⟩:=ru
  rw [Qf hi2]
  exact ⟨a2g _ _ _ _,rfl,rfl⟩
 ·rw [hsz];unfold scanBound;omega
 ·rw [hsz] at hS
  obtain ⟨o,es,ep,t,ho,hex,hd,hel,hmem,_,hf,hn,hw⟩:=hS
  have inz:∀e∈es.toList,∃z tk,e.2=.str z tk∧z∈zs:=fun e he=>by
   obtain ⟨⟨k,hk,_⟩,_⟩:=hel e he
   have hS:=(hmem k).mpr ⟨e,he,hk⟩
   obtain ⟨j,hj,rfl⟩:=b0k hS
   rw [Qf hj] at hk
   obtain ⟨tk,et⟩:=a4c hk
   exact ⟨_,tk,et,Xi hj⟩
  have hSt:∀l:List (Int×Value),(∀e∈l,∃z tk,e.2=.str z tk∧z∈zs)→StrsAre (l.map (·.2)) (l.map fun e=>a9a e.2):=fun l=>by
   induction l with
   | nil=>exact fun _=>.nil
   | cons e l ih=>
    intro h
    obtain ⟨z,tk,et,_⟩:=h e Qj
    have:=ih fun e he=>h e (Qk _ he)
    rw [Xp,Xp,et]
    exact .cons _ _ this
  have hmm:∀z,z∈es.toList.map (fun e=>a9a e.2)↔z∈zs:=fun z=>by
   constructor
   ·intro hzz
    obtain ⟨e,he,rfl⟩:=Xm.mp hzz
    obtain ⟨z,tk,et,hm⟩:=inz e he
    rw [et];exact hm
   ·intro hzz
    obtain ⟨j,hj,rfl⟩:=List.getElem_of_mem hzz
    obtain ⟨e,he,hk⟩:=(hmem (Sum.inr zs[j])).mp (b0m ⟨j,hj,by rw [Qf hj];rfl⟩)
    obtain ⟨tk,et⟩:=a4c hk
    exact Xm.mpr ⟨e,he,by rw [et];rfl⟩
  have hnd:(es.toList.map (fun e=>a9a e.2)).Nodup:=by
   have h1:((es.toList.map (fun e=>a9a e.2)).map (Sum.inr:Str→Key)).Nodup:=a1t (a2M (fun i=>(Sum.inr ((zs[i]?).getD Vu):Key)) zs.length) (fun k hk=>by
    obtain ⟨j,hj,rfl⟩:=(a1V _ _ _).mp hk
    refine Xm.mpr ⟨zs[j],(hmm _).mpr (Xi hj),?_⟩
    rw [Qf hj];rfl) (by rw [Qc,Qc,Qu,hn];exact Qg _)
   exact (List.pairwise_map.mp h1).imp fun h e=>h (congrArg _ e)
  have I2:=I.laid (t':=tk) (a:=s.heap.objs.size) (o:=b3n X.w s.heap.objs.size (es.toList.map fun e=>a9a e.2)) (h':=h') hk (Qg _)
   ⟨⟨o,es,ep,t,ho,hex,hd,hf,by rw [Qc,Qu],by rw [hn];exact hw,hSt _ inz⟩,⟨_,ho⟩,fun h1 h2 z k=>let ⟨o,es,ep,t,ho,r⟩:=z;⟨o,es,ep,t,k _ ho,r⟩⟩
  exact ⟨.ref _,_,I2,rfl,q _ _ (I.hok.fresh (Qg _)) hnd hmm⟩
theorem Inv.drew {pins:List (Addr×Obj)} {σ:St} {H:Hp} {s:Shared} (I:Inv X pins σ H s) (d:Drawn):Inv X pins σ H {s with drawn:=d}:=⟨I.ok,I.os,I.bare,I.base,I.loc,I.cell,I.free,I.freeC,I.pin,I.hok,I.len⟩
theorem a6A {vs us:List Value} {ss:List Str} (h:StrsAre vs ss) (p:us.Perm vs):∃ss',StrsAre us ss'∧ss'.Perm ss:=by
 have get:∀{vs:List Value} {ss:List Str},StrsAre vs ss→ss=vs.map a9a∧∀v∈vs,∃z t,v=.str z t:=by
  intro vs ss h
  induction h with
  | nil=>exact ⟨rfl,fun v hv=>by cases hv⟩
  | cons z t h ih=>
   refine ⟨by rw [ih.1];rfl,fun v hv=>?_⟩
   rcases Qt.mp hv with e | e
   ·exact ⟨_,_,e⟩
   ·exact ih.2 v e
 obtain ⟨e,hv⟩:=get h
 have mk:∀us:List Value,(∀v∈us,∃z t,v=.str z t)→StrsAre us (us.map a9a):=fun us=>by
  induction us with
  | nil=>exact fun _=>.nil
  | cons u us ih=>
   intro hu
   obtain ⟨z,t,rfl⟩:=hu u Qj
   exact .cons _ _ (ih fun v hv=>hu v (Qk _ hv))
 exact ⟨us.map a9a,mk us fun v hv'=>hv v (p.mem_iff.mp hv'),by rw [e];exact p.map _⟩
theorem a1l (hc:X.calm=true):a0N X (.builtin "sorted") (a3c X.w):=by
 intro pins s σ H xs us Q I r h
 obtain ⟨p,ss0,rfl,hq,h64,q⟩:=h
 obtain ⟨u,rfl,ru⟩:=a1N r
 cases ru
 obtain ⟨o,es,ep,t,ho,hex,hd,hf,hn,hw,hSt⟩:=(I.hok p _ hq).1
 refine Calls.call_function_entry kind_sorted plain_sorted entry_sorted (args_sorted1 _) ?_
 unfold Builtin.«sorted»
 refine wpAny_bind (m:=checkCount "sorted" 1 1 _) (wpAny_pure ?_)
 refine wpAny_bind (a3X (A:=X.A.in1) (I.ok.hd hc) ho hex.1 hd hf rfl hw ‹om› fun h' tk d acc hk hacc=>?_)
 obtain ⟨ss,hS,hps⟩:=a6A hSt hacc
 have hal:acc.toList.length=ss.length:=by
  have h1:=hacc.length_eq
  have h2:=hps.length_eq
  simp only [Qc,Qu] at h1 ⊢
  omega
 have h64':ss.length < 64:=by rw [hps.length_eq];exact h64
 refine wpAny_bind (wpAny_newList ?_ (by rw [hal,sizeLine_eq];omega))
 have hoL:(h'.push (seqObj "list" acc.toList.toArray 0)).get? h'.objs.size=some (seqObj "list" acc.toList.toArray 0):=Qp _ rfl
 refine wpAny_bind (wpAny_holding (wpAny_call_entry slot_list_sort ⟨_,hoL,rfl⟩ entry_list_sort (list_sort_treeK (s:={s with heap:=h'.push (seqObj "list" acc.toList.toArray 0),toks:=tk,drawn:=d}) (vs:=acc.toList) strKind_oneLt hoL hS.keysOf (fun v₁ v₂ a3h e=>keyKind_strs (by rw [←e];exact hS)) ‹om› fun st' a1 a2=>⟨_,rfl,?_⟩) (args_list_sort _)))
 refine wpAny_pure ⟨_,rfl,?_⟩
 obtain ⟨ss',b1,b2,b3⟩:=sorted_out_str hS a1 a2
 generalize (arrOf st').map (·.2)=out at b1 ⊢
 obtain ⟨e,he⟩:=sortedHeap_at (out:=out) hoL
 have hl:ss'.length < 64:=by rw [b2.length_eq];exact h64'
 have I1:=(I.drew d).kept (t':=tk) hk
 have I2:=I1.laid (a:=h'.objs.size) (o:=.lst (ss'.map V.str)) (h':=sortedHeap (h'.push (seqObj "list" acc.toList.toArray 0)) h'.objs.size acc.toList out) (t':=tk) (fun b o e=>by
  have hb:b < h'.objs.size:=Qq e
  rw [sortedHeap_old (Qw hb) (by rw [size_push'];exact Xx hb)]
  exact Qe _ e) (Qg _) ⟨by rw [Qc,sizeLine_eq];omega,out.toList,e,a2i b1,he⟩
 exact ⟨.ref h'.objs.size,_,I2,rfl,q _ _ (I1.hok.fresh (Qg _)) (b2.trans hps) b3⟩
end
end L2
namespace L2
open PySem
theorem b7z {a b c:Prop} (h:a):a∨b∨c:=Or.inl h
theorem b8k {a b c:Prop} (h:b):a∨b∨c:=Or.inr (Or.inl h)
theorem b8L {a b c:Prop} (h:c):a∨b∨c:=Or.inr (Or.inr h)
end L2
namespace K27
open PySem L2 Tx
abbrev b2M:List Str:=["statement"]
theorem b2O:a0j b2M ["statement"] (a0e a6I):=‹sk›
abbrev b2A:List Str:=["starts","steps","told","waiting","statement"]
theorem a4w:a0j b2A ["starts","steps"] (a0e a7r):=‹sk›
abbrev b1r:List Str:=["ground","heads","rule","premise"]
theorem a4V:a0j b1r ["ground"] (a0e a6G):=‹sk›
abbrev b1v:List Str:=["ground","statement","premises","rule"]
theorem a5R:a0j b1v ["ground","statement"] (a0e a7k):=‹sk›
abbrev b2k:List Str:=["ground","some"]
theorem b2Z:a0j b2k ["ground","some"] (a0e a5Z):=‹sk›
abbrev b2s:List Str:=["self","label","head","body"]
theorem b1g:a0j b2s ["self","label","head","body"] (a0e a6R):=‹sk›
abbrev b1X:List Str:=["self","head"]
theorem b2z:a0j b1X ["self","head"] (a0e a6K):=‹sk›
abbrev b0N:List Str:=["self","rules","pairs","rule","pair"]
theorem a7f:a0j b0N ["self","rules","pairs"] (a0e a7u):=‹sk›
abbrev b1d:List Str:=["self"]
theorem b0O:a0j b1d ["self"] (a0e a6s):=‹sk›
abbrev b1u:List Str:=["_law_script","_law_k"]
theorem b2a:a0j b1u ["_law_script","_law_k"] (a0e a6i):=‹sk›
abbrev b2G:List Str:=["_law_cell","_law_k","_law_number"]
theorem a4L:a0j b2G ["_law_cell","_law_k"] (a0e a7m):=‹sk›
abbrev b0l:List Str:=["_law_cell","_law_many","_law_signs","_law_base","_law_size","_law_at","_law_found","_law_k","_law_other"]
theorem a1L:a0j b0l ["_law_cell","_law_many"] (a0e a5B):=‹sk›
abbrev b2V:List Str:=["_law_text"]
theorem b2c:a0j b2V ["_law_text"] (a0e a7n):=‹sk›
abbrev b3i:List Str:=["_law_script","_law_names","_law_things","_law_some"]
theorem a2N:a0j b3i ["_law_script"] (a0e a6J):=‹sk›
abbrev b1x:List Str:=["_law_pool_here","_law_number","_law_text"]
theorem a9c:a0j b1x ["_law_pool_here","_law_number"] (a0e a7d):=‹sk›
abbrev b2R:List Str:=["_law_cell","_law_many","_law_size","_law_plain","_law_found","_law_rest","_law_j"]
theorem a3N:a0j b2R ["_law_cell","_law_many","_law_size","_law_plain"] (a0e a6m):=‹sk›
abbrev b0z:List Str:=["_law_pool_here","_law_cell","_law_k","_law_plain","_law_many","_law_texts","_law_way","_law_label"]
theorem a3A:a0j b0z ["_law_pool_here","_law_cell","_law_k","_law_plain"] (a0e a5k):=‹sk›
abbrev b1q:List Str:=["_law_rules","_law_some","_law_found","_law_text","_law_rule_here"]
theorem a4s:a0j b1q ["_law_rules","_law_some"] (a0e a6b):=‹sk›
abbrev b2P:List Str:=["_law_rules","_law_some","_law_found","_law_text","_law_rule_here"]
theorem a4R:a0j b2P ["_law_rules","_law_some"] (a0e a5Y):=‹sk›
abbrev b2n:List Str:=["_law_rules","_law_some","_law_way","_law_there","_law_last"]
theorem a2B:a0j b2n ["_law_rules","_law_some","_law_way"] (a0e a6q):=‹sk›
abbrev b2w:List Str:=["_law_ground","_law_rules","_law_some","_law_text","_law_found","_law_handed","_law_told"]
theorem a3l:a0j b2w ["_law_ground","_law_rules","_law_some"] (a0e a7K):=‹sk›
abbrev a2s:List Str:=["_law_script","_law_pool_here","_law_cells","_law_plain","_law_rules","_law_pairs","_law_handed","_law_ground","_law_first","_law_some"]
theorem a0H:a0j a2s ["_law_script"] (a0e a1j):=‹sk›
set_option genInjectivity false in
set_option genSizeOf false in
structure Adr where
 f_z0v:Addr
 fd_z0v:FuncData
 f_z10:Addr
 fd_z10:FuncData
 f_z01:Addr
 fd_z01:FuncData
 f_z0w:Addr
 fd_z0w:FuncData
 f_z11:Addr
 fd_z11:FuncData
 f_z0m:Addr
 fd_z0m:FuncData
 f_z0o:Addr
 fd_z0o:FuncData
 f_z0f:Addr
 fd_z0f:FuncData
 f_z0a:Addr
 fd_z0a:FuncData
 f_z0s:Addr
 fd_z0s:FuncData
 f_z1a:Addr
 fd_z1a:FuncData
 f_z12:Addr
 fd_z12:FuncData
 f_z0t:Addr
 fd_z0t:FuncData
 f_z16:Addr
 fd_z16:FuncData
 f_z13:Addr
 fd_z13:FuncData
 f_z0u:Addr
 fd_z0u:FuncData
 f_z17:Addr
 fd_z17:FuncData
 f_z14:Addr
 fd_z14:FuncData
 f_z15:Addr
 fd_z15:FuncData
 f_z0z:Addr
 fd_z0z:FuncData
 f_z18:Addr
 fd_z18:FuncData
 f_d_law:Addr
 fd_d_law:FuncData
 C_Rule:Addr
 C_Fact:Addr
 C_Sure:Addr
 C_Most:Addr
 C_Block:Addr
 C_Ground:Addr
structure Txt (K:Qa) (mg:Str→Option Value) (t:Adr):Prop where
 F_z0v:Fun K "opposite" "opposite" a6I t.f_z0v t.fd_z0v
 b_z0v:a0z K t.fd_z0v ["statement"] []
 g_z0v:mg "opposite"=some (.ref t.f_z0v)
 F_z10:Fun K "reached" "reached" a7r t.f_z10 t.fd_z10
 b_z10:a0z K t.fd_z10 ["starts","steps"] []
 g_z10:mg "reached"=some (.ref t.f_z10)
 F_z01:Fun K "heads_by_premise" "heads_by_premise" a6G t.f_z01 t.fd_z01
 b_z01:a0z K t.fd_z01 ["ground"] []
 g_z01:mg "heads_by_premise"=some (.ref t.f_z01)
 F_z0w:Fun K "leans_on" "leans_on" a7k t.f_z0w t.fd_z0w
 b_z0w:a0z K t.fd_z0w ["ground","statement"] []
 g_z0w:mg "leans_on"=some (.ref t.f_z0w)
 F_z11:Fun K "leaners" "leaners" a5Z t.f_z11 t.fd_z11
 b_z11:a0z K t.fd_z11 ["ground","some"] []
 g_z11:mg "leaners"=some (.ref t.f_z11)
 F_z0m:Fun K "__init__" "Rule.__init__" a6R t.f_z0m t.fd_z0m
 b_z0m:a0z K t.fd_z0m ["self","label","head","body"] []
 F_z0o:Fun K "__init__" "Fact.__init__" a6K t.f_z0o t.fd_z0o
 b_z0o:a0z K t.fd_z0o ["self","head"] []
 F_z0f:Fun K "__init__" "Ground.__init__" a7u t.f_z0f t.fd_z0f
 b_z0f:a0z K t.fd_z0f ["self","rules","pairs"] []
 F_z0a:Fun K "rules" "Ground.rules" a6s t.f_z0a t.fd_z0a
 b_z0a:a0z K t.fd_z0a ["self"] []
 F_z0s:Fun K "_law_cell_at" "_law_cell_at" a6i t.f_z0s t.fd_z0s
 b_z0s:a0z K t.fd_z0s ["_law_script","_law_k"] []
 g_z0s:mg "_law_cell_at"=some (.ref t.f_z0s)
 F_z1a:Fun K "_law_mix" "_law_mix" a7m t.f_z1a t.fd_z1a
 b_z1a:a0z K t.fd_z1a ["_law_cell","_law_k"] []
 g_z1a:mg "_law_mix"=some (.ref t.f_z1a)
 F_z12:Fun K "_law_words" "_law_words" a5B t.f_z12 t.fd_z12
 b_z12:a0z K t.fd_z12 ["_law_cell","_law_many"] []
 g_z12:mg "_law_words"=some (.ref t.f_z12)
 F_z0t:Fun K "_law_opposed" "_law_opposed" a7n t.f_z0t t.fd_z0t
 b_z0t:a0z K t.fd_z0t ["_law_text"] []
 g_z0t:mg "_law_opposed"=some (.ref t.f_z0t)
 F_z16:Fun K "_law_pool" "_law_pool" a6J t.f_z16 t.fd_z16
 b_z16:a0z K t.fd_z16 ["_law_script"] []
 g_z16:mg "_law_pool"=some (.ref t.f_z16)
 F_z13:Fun K "_law_drawn" "_law_drawn" a7d t.f_z13 t.fd_z13
 b_z13:a0z K t.fd_z13 ["_law_pool_here","_law_number"] []
 g_z13:mg "_law_drawn"=some (.ref t.f_z13)
 F_z0u:Fun K "_law_numbers" "_law_numbers" a6m t.f_z0u t.fd_z0u
 b_z0u:a0z K t.fd_z0u ["_law_cell","_law_many","_law_size","_law_plain"] []
 g_z0u:mg "_law_numbers"=some (.ref t.f_z0u)
 F_z17:Fun K "_law_rule" "_law_rule" a5k t.f_z17 t.fd_z17
 b_z17:a0z K t.fd_z17 ["_law_pool_here","_law_cell","_law_k","_law_plain"] []
 g_z17:mg "_law_rule"=some (.ref t.f_z17)
 F_z14:Fun K "_law_below" "_law_below" a6b t.f_z14 t.fd_z14
 b_z14:a0z K t.fd_z14 ["_law_rules","_law_some"] []
 g_z14:mg "_law_below"=some (.ref t.f_z14)
 F_z15:Fun K "_law_above" "_law_above" a5Y t.f_z15 t.fd_z15
 b_z15:a0z K t.fd_z15 ["_law_rules","_law_some"] []
 g_z15:mg "_law_above"=some (.ref t.f_z15)
 F_z0z:Fun K "_law_closed" "_law_closed" a6q t.f_z0z t.fd_z0z
 b_z0z:a0z K t.fd_z0z ["_law_rules","_law_some","_law_way"] []
 g_z0z:mg "_law_closed"=some (.ref t.f_z0z)
 F_z18:Fun K "_law_good" "_law_good" a7K t.f_z18 t.fd_z18
 b_z18:a0z K t.fd_z18 ["_law_ground","_law_rules","_law_some"] []
 g_z18:mg "_law_good"=some (.ref t.f_z18)
 F_d_law:Fun K "law" "law" a1j t.f_d_law t.fd_d_law
 b_d_law:a0z K t.fd_d_law ["_law_script"] []
 g_d_law:mg "law"=some (.ref t.f_d_law)
 g_Rule:mg "Rule"=some (.ref t.C_Rule)
 g_Fact:mg "Fact"=some (.ref t.C_Fact)
 g_Sure:mg "Sure"=some (.ref t.C_Sure)
 g_Most:mg "Most"=some (.ref t.C_Most)
 g_Block:mg "Block"=some (.ref t.C_Block)
 g_Ground:mg "Ground"=some (.ref t.C_Ground)
 z_isinstance:mg "isinstance"=none
 z_len:mg "len"=none
 z_list:mg "list"=none
 z_max:mg "max"=none
 z_range:mg "range"=none
 z_set:mg "set"=none
 z_sorted:mg "sorted"=none
 z_str:mg "str"=none
 z_tuple:mg "tuple"=none
 cm_Rule:b1p K t.C_Rule "__init__" t.f_z0m
 cl_Fact:Cls K t.C_Fact
 ty_Fact:TyI K t.C_Fact
 nf_Fact_label:a0o K t.C_Fact "label"
 nf_Fact_head:a0o K t.C_Fact "head"
 nf_Fact_body:a0o K t.C_Fact "body"
 mk_Fact:Mk K t.C_Fact t.f_z0o
 ki_Fact_Rule:Xv K (.ref t.C_Fact) (.ref t.C_Rule)=some true
 ki_Fact_Fact:Xv K (.ref t.C_Fact) (.ref t.C_Fact)=some true
 cl_Sure:Cls K t.C_Sure
 ty_Sure:TyI K t.C_Sure
 nf_Sure_label:a0o K t.C_Sure "label"
 nf_Sure_head:a0o K t.C_Sure "head"
 nf_Sure_body:a0o K t.C_Sure "body"
 mk_Sure:Mk K t.C_Sure t.f_z0m
 ki_Sure_Rule:Xv K (.ref t.C_Sure) (.ref t.C_Rule)=some true
 ki_Sure_Sure:Xv K (.ref t.C_Sure) (.ref t.C_Sure)=some true
 cl_Most:Cls K t.C_Most
 ty_Most:TyI K t.C_Most
 nf_Most_label:a0o K t.C_Most "label"
 nf_Most_head:a0o K t.C_Most "head"
 nf_Most_body:a0o K t.C_Most "body"
 mk_Most:Mk K t.C_Most t.f_z0m
 ki_Most_Rule:Xv K (.ref t.C_Most) (.ref t.C_Rule)=some true
 ki_Most_Most:Xv K (.ref t.C_Most) (.ref t.C_Most)=some true
 cl_Block:Cls K t.C_Block
 ty_Block:TyI K t.C_Block
 nf_Block_label:a0o K t.C_Block "label"
 nf_Block_head:a0o K t.C_Block "head"
 nf_Block_body:a0o K t.C_Block "body"
 mk_Block:Mk K t.C_Block t.f_z0m
 ki_Block_Rule:Xv K (.ref t.C_Block) (.ref t.C_Rule)=some true
 ki_Block_Block:Xv K (.ref t.C_Block) (.ref t.C_Block)=some true
 cl_Ground:Cls K t.C_Ground
 ty_Ground:TyI K t.C_Ground
 nf_Ground_in_order:a0o K t.C_Ground "in_order"
 nf_Ground_by_head:a0o K t.C_Ground "by_head"
 nf_Ground_pairs:a0o K t.C_Ground "pairs"
 mk_Ground:Mk K t.C_Ground t.f_z0f
 me_Ground_rules:b3E K t.C_Ground "rules" t.f_z0a
 ki_Ground_Ground:Xv K (.ref t.C_Ground) (.ref t.C_Ground)=some true
def a5d:List Nat:=[97,98,99,100,101,102,103,104,105,106,107,108,109,110,111,112,113,114,115,116,117,118,119,120,121,122]
abbrev sv (l:List Nat):V:=.str (mk l)
theorem b2m:("abcdefghijklmnopqrstuvwxyz":Str)=mk a5d:=by decide+kernel
theorem b1C {c:Nat} (h:c∈a5d):c < 128:=by revert c;decide
theorem a1E {n:Nat} (h:n≤100000):n≤sizeLine:=Qs h ‹dc›
theorem a7T {l:List Nat} (h:∀c∈l,c < 1114112):Xu (mk l)=true:=by
 unfold Xu;simpa using h
def OkS (z:Str):Prop:=Xu z=true∧z.length≤40
theorem OkS.of {l:List Nat} (h:∀c∈l,c < 128) (hl:l.length≤40):OkS (mk l):=⟨a7T fun c hc=>by have:=h c hc;omega,by rw [a1h];exact hl⟩
abbrev Rw:=Nat×Str×Str×List Str
def a4f (r:Rw):Prop:=r.1 < 4∧(r.1=0→r.2.2.2=[]∧r.2.1="")∧OkS r.2.1∧OkS r.2.2.1∧(∀q∈r.2.2.2,OkS q)∧r.2.2.2.length≤4
def b2g (K:Qa):Sp:=fun vs H Q _=>∃(a:Addr) (ns:List Int) (k:Int),vs=[.ref a,.int k]∧SqL K H a (ns.map V.int)∧ns.length≤63∧0≤k∧k≤1000∧∀i,Q (.int i) H
def b2e:Sp:=fun vs H Q _=>∃(c k:Int),vs=[.int c,.int k]∧∀r:Int,0≤r→Q (.int r) H
theorem a1p {c k:Int} {H:Hp} {Q:VK} {E:XK}:b2e [.int c,.int k] H Q E↔∀r:Int,0≤r→Q (.int r) H:=⟨by rintro ⟨_,_,e,q⟩;cases e;exact q,fun q=>⟨_,_,rfl,q⟩⟩
def IsW (l:List Nat):Prop:=1≤l.length∧l.length≤8∧∀c∈l,c∈a5d
abbrev pv' (ps:List (List Nat)):List V:=ps.map fun l=>V.str (mk l)
def a9V (c:List Nat):List (List Nat)→List Nat
 | []=>[]
 | a::r=>a++r.flatMap fun b=>c++b
theorem a4Z (c:List Nat):∀(r:List (List Nat)) (a:Array Nat),(r.map mk).foldl (fun acc p=>acc++(mk c).cps++p.cps) a=a++(r.flatMap fun b=>c++b).toArray:=by
 intro r
 induction r with
 | nil=>intro a;simp
 | cons b r ih=>
  intro a
  rw [Xp,List.foldl_cons,ih]
  show a++c.toArray++b.toArray++_=_
  simp
theorem a6E (c:List Nat) (xs:List (List Nat)):Txt.join (mk c) (xs.map mk)=mk (a9V c xs):=by
 cases xs with
 | nil=>rfl
 | cons a r=>
  show (⟨(r.map mk).foldl (fun acc p=>acc++(mk c).cps++p.cps) a.toArray⟩:Str)=_
  rw [a4Z]
  simp [a9V,mk]
def a9W:Sp:=fun vs H Q _=>∃(c m:Int),vs=[.int c,.int m]∧(0≤m∧m≤8)∧∀(D:Addr) (ws:List (List Nat)) (H':Hp),a0m H H'→H D=none→H' D=some (.lst (pv' ws))→ws.length=m.toNat→(∀w∈ws,IsW w)→Q (.ref D) H'
theorem a1U (xs:List V) {n:Int} (h:0≤n):a4j xs none (some n)=xs.take n.toNat:=by
 unfold a4j HT.sIx
 simp only [Nat.sub_zero,List.drop_zero]
 rw [if_neg ‹om›]
 by_cases c:n.toNat≤xs.length
 ·rw [Nat.min_eq_left c]
 ·rw [Nat.min_eq_right ‹om›,Je (Qg _),Je ‹om›]
def sgl (cs:List Nat):List (List Nat):=cs.map fun c=>[c]
theorem a4z (cs:List Nat):a9V [] (sgl cs)=cs:=by
 have h:∀r:List Nat,((sgl r).flatMap fun b=>[]++b)=r:=by
  intro r
  induction r with
  | nil=>rfl
  | cons c r ih=>
   have e:sgl (c::r)=[c]::sgl r:=rfl
   rw [e,Zm,ih];rfl
 cases cs with
 | nil=>rfl
 | cons c r=>
  show [c]++((sgl r).flatMap fun b=>[]++b)=_
  rw [h];rfl
theorem a6l:∀cs:List Nat,(((sgl cs).map mk).map (·.length)).sum=cs.length
 | []=>rfl
 | c::cs=>by
  have e:sgl (c::cs)=[c]::sgl cs:=rfl
  rw [e,Xp,Xp,List.sum_cons,a6l cs,a1h]
  simp;omega
theorem a6F (cs:List Nat):(sgl cs).length=cs.length:=Qc _
theorem a8Z:∀{ys:List V},(∀(i:Nat) v,ys[i]?=some v→∃c,v=sv [c]∧c∈a5d)→∃cs:List Nat,ys=pv' (sgl cs)∧∀c∈cs,c∈a5d
 | [],_=>⟨[],rfl,by simp⟩
 | y::ys,h=>by
  obtain ⟨cs,rfl,hc⟩:=a8Z (ys:=ys) fun i v e=>h (i+1) v e
  obtain ⟨c,rfl,h0⟩:=h 0 y rfl
  refine ⟨c::cs,rfl,fun d hd=>?_⟩
  rcases Qt.mp hd with z | z
  ·rw [z];exact h0
  ·exact hc d z
theorem a6v (ws:List (List Nat)) (n:Nat):(pv' ws).take n=pv' (ws.take n):=(Jj).symm
theorem a4O (cs:List Nat) (n:Nat):(sgl cs).take n=sgl (cs.take n):=(Jj).symm
theorem b0j (cs:List Nat) (j d:Nat):(pv' (sgl cs)).set j (sv [d])=pv' (sgl (cs.set j d)):=by
 unfold sgl
 rw [List.map_set]
 exact (List.map_set (f:=fun l=>V.str (mk l))).symm
theorem a8X {cs:List Nat} {k:Nat} (hl:cs.length=8) (hc:∀c∈cs,c∈a5d) (h1:1≤k) (h8:k≤8):IsW (cs.take k):=by
 refine ⟨by rw [Xh];omega,by rw [Xh];omega,fun c h=>hc c (Yp h)⟩
theorem a7W {p:Addr} {xs:List V} {k:Int} {v:V} {H:Hp} {Q:Hp→Prop} (h:H p=some (.lst xs)) (h0:0≤k) (h1:k < xs.length) (q:Q (upd H p (.lst (xs.set k.toNat v)))):b0Y (.ref p) (.int k) v H Q:=
 ⟨p,xs,k,k.toNat,rfl,rfl,h,by unfold ixN;rw [if_pos h0,if_pos h1],q⟩
theorem b2v (ws:List (List Nat)) (w:List Nat):pv' ws++[sv w]=pv' (ws++[w]):=(Xk (f:=fun l=>V.str (mk l)) (l₁:=ws) (l₂:=[w])).symm
theorem a2m {α:Type} (d:α) (r:List α):atI (d::r) 0=some d:=by
 unfold atI ixN;rw [if_pos ‹dc›,if_pos (by simp only [Qm];omega)];rfl
def a8W (lb hd:V) (t:Addr):List (Str×V):=a0O "body" (.ref t) (a0O "head" hd (a0O "label" lb []))
theorem a0I (lb hd:V) (t:Addr):(a8W lb hd t).lookup ("head":Str)=some hd:=by
 unfold a8W;rw [a0h,if_neg ‹dk›,a0h,if_pos rfl]
theorem a1n (lb hd:V) (t:Addr):(a8W lb hd t).lookup ("body":Str)=some (.ref t):=by
 unfold a8W;rw [a0h,if_pos rfl]
def a1s (H:Hp) (r C:Addr) (lb hd:V) (bs:List V):Prop:=∃dx t,H r=some (.ins C dx (a8W lb hd t))∧H t=some (.tup bs)
theorem a1s.same {H H':Hp} {r C:Addr} {lb hd:V} {bs:List V} (s:a0m H H') (h:a1s H r C lb hd bs):a1s H' r C lb hd bs:=let ⟨d,t,a,b⟩:=h;⟨d,t,s _ _ a,s _ _ b⟩
def b3k (K:Qa):Sp:=fun vs H Q _=>∃x C dx lb hd b bs,vs=[.ref x,lb,hd,.ref b]∧H x=some (.ins C dx [])∧(Cls K C∧a0o K C "label"∧a0o K C "head"∧a0o K C "body")∧(SqL K H b bs∨SqT K H b bs∧H b=some (.tup bs))∧
 ∀H',(∀c o,H c=some o→c≠x→H' c=some o)→a1s H' x C lb hd bs→Q .non H'
def a9Q (K:Qa) (C:Addr):Sp:=fun vs H Q _=>∃x dx hd,vs=[.ref x,hd]∧H x=some (.ins C dx [])∧
 ∀H',(∀c o,H c=some o→c≠x→H' c=some o)→a1s H' x C (.str "") hd []→Q .non H'
def a5N (t:Adr):Nat→Addr
 | 0=>t.C_Fact
 | 1=>t.C_Sure
 | 2=>t.C_Most
 | _=>t.C_Block
structure b7r (K:Qa) (t:Adr) (C:Addr):Prop where
 cl:Cls K C
 ty:TyI K C
 nl:a0o K C "label"
 nh:a0o K C "head"
 nb:a0o K C "body"
 kr:Xv K (.ref C) (.ref t.C_Rule)=some true
theorem b2H {K:Qa} {mg:Str→Option Value} {t:Adr} (T:Txt K mg t) {kind:Nat} (h:kind < 4):b7r K t (a5N t kind):=by
 match kind,h with
 | 0,_=>exact ⟨T.cl_Fact,T.ty_Fact,T.nf_Fact_label,T.nf_Fact_head,T.nf_Fact_body,T.ki_Fact_Rule⟩
 | 1,_=>exact ⟨T.cl_Sure,T.ty_Sure,T.nf_Sure_label,T.nf_Sure_head,T.nf_Sure_body,T.ki_Sure_Rule⟩
 | 2,_=>exact ⟨T.cl_Most,T.ty_Most,T.nf_Most_label,T.nf_Most_head,T.nf_Most_body,T.ki_Most_Rule⟩
 | 3,_=>exact ⟨T.cl_Block,T.ty_Block,T.nf_Block_label,T.nf_Block_head,T.nf_Block_body,T.ki_Block_Rule⟩
theorem b4f:∀zs:List Str,(∀z∈zs,Xu z=true)→PyData.canLayAll0 (zs.map Yi)=true∧PyData.depthAll (zs.map Yi)=0
 | [],_=>⟨rfl,rfl⟩
 | z::zs,h=>by
  obtain ⟨a,b⟩:=b4f zs fun p hp=>h p (Qk _ hp)
  refine ⟨?_,?_⟩
  ·show (PyData.canLay0 (.str z) && _)=true
   rw [a,Bool.and_true];exact h z Qj
  ·show max (PyData.depth (.str z)) _=0
   rw [b];rfl
theorem a2R {zs:List Str} (h:∀z∈zs,Xu z=true):Zw (.list (zs.map Yi))=true:=by
 obtain ⟨a,b⟩:=b4f zs h
 unfold Zw
 simp only [PyData.canLay0,PyData.depth,a,b]
 decide
def b0L (t:Adr) (H:Hp) (v:V) (r:Rw):Prop:=∃p,v=.ref p∧a1s H p (a5N t r.1) (.str r.2.1) (.str r.2.2.1) (r.2.2.2.map V.str)
theorem b0L.same {t:Adr} {H H':Hp} {v:V} {r:Rw} (s:a0m H H') (h:b0L t H v r):b0L t H' v r:=let ⟨p,a,b⟩:=h;⟨p,a,b.same s⟩
structure a1v (t:Adr) (H:Hp) (xs:List V) (rs:List Rw):Prop where
 len:xs.length=rs.length
 get:∀(i:Nat) (r:Rw),rs[i]?=some r→∃x,xs[i]?=some x∧b0L t H x r
theorem a1v.same {t:Adr} {H H':Hp} {xs:List V} {rs:List Rw} (s:a0m H H') (h:a1v t H xs rs):a1v t H' xs rs:=⟨h.len,fun i r e=>let ⟨x,a,b⟩:=h.get i r e;⟨x,a,b.same s⟩⟩
theorem a1v.at {t:Adr} {H:Hp} {xs:List V} {rs:List Rw} (h:a1v t H xs rs) {i:Nat} (hi:i < xs.length):∃(hi':i < rs.length) (p:Addr),xs[i]=.ref p∧a1s H p (a5N t rs[i].1) (.str rs[i].2.1) (.str rs[i].2.2.1) (rs[i].2.2.2.map V.str):=by
 have hi':i < rs.length:=by rw [←h.len];exact hi
 obtain ⟨x,e,p,rfl,hp⟩:=h.get i rs[i] (Qf hi')
 rw [Qf hi] at e
 exact ⟨hi',p,Option.some.inj e,hp⟩
abbrev VR:=V×Rw
def b3c (t:Adr) (H:Hp) (ws:List VR):Prop:=∀p∈ws,b0L t H p.1 p.2∧a4f p.2
theorem b3c.same {t:Adr} {H H':Hp} {ws:List VR} (s:a0m H H') (h:b3c t H ws):b3c t H' ws:=fun p hp=>⟨(h p hp).1.same s,(h p hp).2⟩
def RuD (t:Adr) (D:Addr) (v:V) (r:Rw) (H:Hp):Prop:=∃p dx t0,v=.ref p∧p≠D∧t0≠D∧H p=some (.ins (a5N t r.1) dx (a8W (.str r.2.1) (.str r.2.2.1) t0))∧H t0=some (.tup (r.2.2.2.map V.str))
def gfl (io bh pr:Addr):List (Str×V):=a0O "pairs" (.ref pr) (a0O "by_head" (.ref bh) (a0O "in_order" (.ref io) []))
theorem b1h (io bh pr:Addr):(gfl io bh pr).lookup ("in_order":Str)=some (.ref io):=by
 unfold gfl;rw [a0h,if_neg ‹dk›,a0h,if_neg ‹dk›,a0h,if_pos rfl]
theorem a9h (io bh pr:Addr) {m:Str} (h1:¬m="pairs") (h2:¬m="by_head") (h3:¬m="in_order"):(gfl io bh pr).lookup m=none:=by
 unfold gfl;rw [a0h,if_neg h1,a0h,if_neg h2,a0h,if_neg h3];rfl
def hdF (rs:List Rw) (h:Str):List Rw:=rs.filter fun r=>decide (r.2.2.1=h)
def b8O (t:Adr) (H:Hp) (kvs:List (Key×V)) (rs:List Rw):Prop:=∀h:Str,(a0E kvs (Sum.inr h:Key)=none∧hdF rs h=[])∨∃L ys,a0E kvs (Sum.inr h:Key)=some (.ref L)∧H L=some (.lst ys)∧a1v t H ys (hdF rs h)
def b3S (kvs:List (List Key×V)) (pl:List (Str×Str)):Prop:=∀a b:Str,a0E kvs [Sum.inr a,Sum.inr b]=if (a,b)∈pl then some (V.bl true) else none
def b3m (t:Adr) (H:Hp) (g:Addr) (rs:List Rw) (pl:List (Str×Str)):Prop:=∃dx io bh pr xs kvs kps,H g=some (.ins t.C_Ground dx (gfl io bh pr))∧H io=some (.tup xs)∧a1v t H xs rs∧H bh=some (.dK kvs)∧b8O t H kvs rs∧H pr=some (.dT kps)∧b3S kps pl
theorem a1v.refs {t:Adr} {H H':Hp} {xs:List V} {rs:List Rw} (h:a1v t H xs rs) {x dx:Addr} {C:Addr} (hx:H x=some (.ins C dx [])) (k:∀c o,H c=some o→c≠x→H' c=some o):a1v t H' xs rs:=⟨h.len,fun i r e=>by
 obtain ⟨v,a,p,rfl,dx',t0,h1,h2⟩:=h.get i r e
 have hp:p≠x:=fun z=>by
  rw [z,hx] at h1
  injection h1 with h1
  injection h1 with _ _ h3
  have:=a0I (.str r.2.1) (.str r.2.2.1) t0
  rw [←h3] at this;cases this
 have ht:t0≠x:=a0G h2 hx ‹iz›
 exact ⟨_,a,p,rfl,dx',t0,k _ _ h1 hp,k _ _ h2 ht⟩⟩
theorem b1O (io bh pr:Addr):(gfl io bh pr).lookup ("pairs":Str)=some (.ref pr):=by
 unfold gfl;rw [a0h,if_pos rfl]
theorem a2q.same {H H':Hp} {xs:List V} {pl:List (Str×Str)} (s:a0m H H') (h:a2q H xs pl):a2q H' xs pl:=let ⟨as,a,b,c⟩:=h;⟨as,a,b,fun i x p e1 e2=>s _ _ (c i x p e1 e2)⟩
def b3U (t:Adr):Sp:=fun vs H Q _=>∃(x dx b pb:Addr) (xs:List V) (rs:List Rw) (ps:List V) (pl:List (Str×Str)),vs=[.ref x,.ref b,.ref pb]∧H x=some (.ins t.C_Ground dx [])∧H b=some (.lst xs)∧a1v t H xs rs∧(∀r∈rs,a4f r)∧rs.length≤63∧H pb=some (.lst ps)∧a2q H ps pl∧pl.length≤200∧
 ∀H',(∀c o,H c=some o→c≠x→H' c=some o)→b3m t H' x rs pl→Q .non H'
theorem a2W {K:Qa} {H:Hp} {Q:VK} {a b:Addr} {l m:List Str} (ha:H a=some (.lst (l.map V.str))) (hb:H b=some (.lst (m.map V.str))) (hl:l.length+m.length≤1000) (q:∀p,H p=none→Q (.ref p) (upd H p (.lst ((l++m).map V.str)))):a3x K (.ref a) (.ref b) H Q:=by
 refine .inr (.inr (.inl ⟨a,b,_,_,rfl,rfl,ha,hb,Qs (show _≤1000 by simp only [Qc];exact hl) ‹dc›,fun p hp=>?_⟩))
 rw [←Xk];exact q p hp
def a1f (z:Str):Str:=if Zo z "-"=true then Jo z (some 1) none else "-"++z
def b3I:Sp:=fun vs H Q _=>∃z:Str,vs=[.str z]∧z.length≤100∧Q (.str (a1f z)) H
theorem a4I {H:Hp} {S:Addr} {d:List (Key×V)} (h:H S=some (.dK d)):IsD H S:=.inl ⟨_,.inl h⟩
def b7x (pl:List (Str×Str)):Prop:=∀p∈pl,Xu p.1=true∧Xu p.2=true
def TxN (n:Nat) (z:Str):Prop:=∃c r,z=mk (c::r)∧(c::r).length≤n∧∀x∈c::r,x < 128
theorem TxN.ok {n:Nat} {z:Str} (h:TxN n z) (hn:n≤40):OkS z:=by
 obtain ⟨c,r,rfl,h1,h2⟩:=h
 exact OkS.of h2 ‹om›
theorem TxN.len {n:Nat} {z:Str} (h:TxN n z):z.length≤n:=by
 obtain ⟨c,r,rfl,h1,h2⟩:=h
 rw [a1h];exact h1
theorem TxN.of {n:Nat} {l:List Nat} (h0:l≠[]) (h1:l.length≤n) (h2:∀x∈l,x < 128):TxN n (mk l):=by
 cases l with
 | nil=>exact absurd rfl h0
 | cons c r=>exact ⟨c,r,rfl,h1,h2⟩
theorem TxN.up {n m:Nat} {z:Str} (h:TxN n z) (hm:n≤m):TxN m z:=by
 obtain ⟨c,r,e,h1,h2⟩:=h
 exact ⟨c,r,e,by omega,h2⟩
theorem TxN.neg {n:Nat} {z:Str} (h:TxN n z):TxN (n+1) ("-"++z):=by
 obtain ⟨c,r,rfl,h1,h2⟩:=h
 rw [show ("-":Str)=mk [45] by decide+kernel,a7J]
 refine ⟨45,c::r,rfl,by simp at h1 ⊢;omega,fun x hx=>?_⟩
 rcases Qt.mp hx with e | e
 ·omega
 ·exact h2 x e
def a6a:Sp:=fun vs H Q _=>∃(n:Nat) (z:Str),vs=[.str z]∧TxN n z∧n≤100∧Q (.str (a1f z)) H
theorem a6X {c:Nat} {r:List Nat}:a1f (mk (c::r))=if c=45 then Jo (mk (c::r)) (some 1) none else "-"++mk (c::r):=by
 unfold a1f
 rw [show ("-":Str)=mk [45] by decide+kernel,a5b]
 by_cases h:c=45
 ·rw [if_pos h,if_pos (by rw [h];rfl)]
 ·rw [if_neg h,if_neg (by simpa using h)]
def NoD (z:Str):Prop:=∃c r,z=mk (c::r)∧45∉c::r
def a8l (K:Qa):Sp:=fun vs H Q _=>∃(a:Addr) (ns:List Int),vs=[.ref a]∧SqL K H a (ns.map V.int)∧ns.length≤63∧∀(D:Addr) (pl:List Str) H',a0m H H'→H D=none→H' D=some (.lst (pl.map V.str))→1≤pl.length→pl.length≤9→(∀z∈pl,TxN 30 z)→(∀z∈pl,NoD z)→Q (.ref D) H'
def a2z (pl:List Str):List Str:=pl.flatMap fun x=>[x,"-"++x]
theorem b1Z {pl:List Str} {z:Str} (h:z∈pl):z∈a2z pl:=Ys.mpr ⟨z,h,Qj⟩
theorem b2t {pl:List Str} {z:Str} (h:z∈pl):"-"++z∈a2z pl:=Ys.mpr ⟨z,h,Qk _ Qj⟩
def RwE (ev:List Str) (r:Rw):Prop:=r.2.2.1∈ev∧∀q∈r.2.2.2,q∈ev
def a9F:Sp:=fun vs H Q _=>∃(P:Addr) (n:Int) (pl:List Str),vs=[.ref P,.int n]∧H P=some (.lst (pl.map V.str))∧1≤pl.length∧pl.length≤9∧(∀z∈pl,TxN 30 z)∧∀z,TxN 31 z→z∈a2z pl→Q (.str z) H
def a6U:Sp:=fun vs H Q _=>∃(c m sz:Int) (p:Bool),vs=[.int c,.int m,.int sz,.bl p]∧(0≤m∧m≤10)∧(0 < sz∧sz≤1000)∧∀(D:Addr) (is:List Int) H',a0m H H'→H D=none→H' D=some (.lst (is.map V.int))→is.length=m.toNat→Q (.ref D) H'
def RwT (r:Rw):Prop:=a4f r∧TxN 31 r.2.2.1∧∀q∈r.2.2.2,TxN 31 q
def a8O (t:Adr):Sp:=fun vs H Q _=>∃(P:Addr) (c k:Int) (p:Bool) (pl:List Str),vs=[.ref P,.int c,.int k,.bl p]∧H P=some (.lst (pl.map V.str))∧1≤pl.length∧pl.length≤9∧(∀z∈pl,TxN 30 z)∧(0≤k∧k < 40)∧∀x r H',a0m H H'→RwT r→RwE (a2z pl) r→a1s H' x (a5N t r.1) (.str r.2.1) (.str r.2.2.1) (r.2.2.2.map V.str)→Q (.ref x) H'
theorem a7D:∀k:Nat,k < 40→OkS (Qv "r"++Qv (toString (k:Int))):=by
 intro k hk
 have h1:Xu (Qv "r"++Qv (toString (k:Int)))=true:=by
  revert k;decide+kernel
 have h2:(Qv "r"++Qv (toString (k:Int))).length≤40:=by
  revert k;decide+kernel
 exact ⟨h1,h2⟩
theorem a6z {K:Qa} {l m:List Nat} {H:Hp} {Q:VK} (h:l.length+m.length≤1000) (q:Q (sv (l++m)) H):a3x K (sv l) (sv m) H Q:=by
 rw [a1b,a7J]
 exact ⟨by rw [a1h,a1h];exact Qs h ‹dc›,q⟩
theorem a9b {P:Str→Prop} {ys:List V} (h:∀(i:Nat) (v:V),ys[i]?=some v→∃z,v=V.str z∧P z):∃zs:List Str,ys=zs.map V.str∧∀z∈zs,P z:=by
 induction ys with
 | nil=>exact ⟨[],rfl,by simp⟩
 | cons y ys ih=>
  obtain ⟨zs,e,ho⟩:=ih fun i v e=>h (i+1) v e
  obtain ⟨z,ez,hz⟩:=h 0 y rfl
  refine ⟨z::zs,by rw [e,ez];rfl,fun x hx=>?_⟩
  rcases Qt.mp hx with w | w
  ·rw [w];exact hz
  ·exact ho x w
theorem b0D (x:V) (xs:List V):a4j (x::xs) (some 1) none=xs:=by
 unfold a4j HT.sIx
 simp
theorem b2y {H0:Hp} {x dx:Addr} {C:Addr} (h1:H0 x=none) (h2:H0 dx=none):(a0m H0 (upd (upd H0 dx (.own x)) x (.ins C dx [])))∧(upd (upd H0 dx (.own x)) x (.ins C dx [])) x=some (.ins C dx []):=
 ⟨fun c o e=>by rw [a0a (a0b e h1),a0a (a0b e h2)];exact e,a0d⟩
def a1z (t:Adr) (H:Hp) (a:Addr) (zr:List VR):Prop:=H a=some (.lst (zr.map (·.1)))∧b3c t H zr∧zr.length≤40∧∀p∈zr,RwT p.2
theorem a1z.same {t:Adr} {H H':Hp} {a:Addr} {zr:List VR} (s:a0m H H') (h:a1z t H a zr):a1z t H' a zr:=⟨s _ _ h.1,h.2.1.same s,h.2.2⟩
theorem a1z.at {t:Adr} {H:Hp} {a:Addr} {zr:List VR} (h:a1z t H a zr) {i:Nat} (hi:i < zr.length):∃x,atI (zr.map (·.1)) (i:Int)=some (.ref x)∧a1s H x (a5N t zr[i].2.1) (.str zr[i].2.2.1) (.str zr[i].2.2.2.1) (zr[i].2.2.2.2.map V.str)∧RwT zr[i].2:=by
 obtain ⟨h1,h2,h3,h4⟩:=h
 obtain ⟨⟨x,ex,hx⟩,ho⟩:=h2 _ (Xi hi)
 refine ⟨x,?_,hx,h4 _ (Xi hi)⟩
 unfold atI ixN
 rw [if_pos ‹om›,if_pos (by rw [Qc];omega)]
 show (zr.map (·.1))[((i:Int)).toNat]?=_
 rw [Yu,Xr,Qf hi,←ex];rfl
theorem a4q (a b:Str):(a++b).length=a.length+b.length:=by
 show (a.cps++b.cps).size=_
 exact Wb
theorem a3R {α:Type} {f:α→V} {l:List α} {i:Nat} {v:V} (h:(l.map f)[i]?=some v):∃hi:i < l.length,v=f l[i]:=by
 rw [Xr] at h
 obtain ⟨y,e,rfl⟩:=Vc.mp h
 obtain ⟨hi,rfl⟩:=Xa.mp e
 exact ⟨hi,rfl⟩
theorem a2q.at {H:Hp} {ps:List V} {rl:List (Str×Str)} (h:a2q H ps rl) {i:Nat} (hi:i < rl.length):∃x,ps[i]?=some (.ref x)∧H x=some (.tup [.str rl[i].1,.str rl[i].2]):=by
 obtain ⟨as,rfl,hl,hat⟩:=h
 have hi':i < as.length:=by omega
 exact ⟨as[i],by rw [Xr,Qf hi'];rfl,hat i _ _ (Qf hi') (Qf hi)⟩
theorem a2q.len {H:Hp} {ps:List V} {rl:List (Str×Str)} (h:a2q H ps rl):ps.length=rl.length:=by
 obtain ⟨as,rfl,hl,_⟩:=h
 rw [Qc];exact hl
theorem b2f {t:Adr} {D:Addr} {H:Hp} {ev:List Str}:∀{ys:List V},(∀(i:Nat) v,ys[i]?=some v→∃r,(RwT r∧RwE ev r)∧RuD t D v r H)→∃zr:List VR,zr.map (·.1)=ys∧b3c t H zr∧∀p∈zr,RwT p.2∧RwE ev p.2
 | [],_=>⟨[],rfl,fun p hp=>absurd hp Xj,fun p hp=>absurd hp Xj⟩
 | y::ys,h=>by
  obtain ⟨zr,e,hw,hr⟩:=b2f (ys:=ys) fun i v e=>h (i+1) v e
  obtain ⟨r,hrt,p,dx,t0,ev,_,_,h1,h2⟩:=h 0 y rfl
  refine ⟨(y,r)::zr,by rw [Xp,e],fun q hq=>?_,fun q hq=>?_⟩
  ·rcases Qt.mp hq with z | z
   ·rw [z];exact ⟨⟨p,ev,dx,t0,h1,h2⟩,hrt.1.1⟩
   ·exact hw q z
  ·rcases Qt.mp hq with z | z
   ·rw [z];exact hrt
   ·exact hr q z
/-! ### sure sets,as in k33 -/
section
variable {α:Type} [DecidableEq α]
def b3p (l:List α) (x:α):List α:=if x∈l then l else l++[x]
end
def bv (S:List Str):List (Key×V):=S.map fun x=>(Sum.inr x,V.bl true)
theorem a4n (x:Str):∀S:List Str,a0E (bv S) (Sum.inr x:Key)=if x∈S then some (V.bl true) else none
 | []=>rfl
 | y::r=>by
  have ih:=a4n x r
  by_cases e:y=x
  ·rw [show bv (y::r)=(Sum.inr y,V.bl true)::bv r from rfl,a0v (by rw [e]),if_pos (by rw [e];exact Qj)]
  ·rw [show bv (y::r)=(Sum.inr y,V.bl true)::bv r from rfl,a0w (fun z=>e (Sum.inr.inj z)),ih]
   by_cases h:x∈r
   ·rw [if_pos h,if_pos (Qk _ h)]
   ·rw [if_neg h,if_neg (by simp [h];exact fun z=>e z.symm)]
theorem b1U (S:List Str) (x:Str):a1J (bv S) (Sum.inr x:Key) (V.bl true)=bv (b3p S x):=by
 unfold a1J b3p
 rw [a1D,a4n]
 by_cases h:x∈S
 ·rw [if_pos h,if_pos (by rfl),if_pos h]
  unfold bv
  rw [Uq]
  refine List.map_congr_left fun y _=>?_
  simp only [Function.comp]
  split<;>rfl
 ·rw [if_neg h,if_neg (by simp),if_neg h]
  unfold bv;rw [Xk];rfl
theorem b7f {H:Hp} {D:Addr} {S:List Str} (h:H D=some (.dK (bv S))) (x:Str):a7h H D (.str x) (if x∈S then some (V.bl true) else none):=by
 have:=a7h.k (k:=(Sum.inr x:Key)) h
 rw [a4n] at this;exact this
theorem b8m {H:Hp} {D:Addr} {S:List Str} (h:H D=some (.dK (bv S))) (hl:S.length≤100000) (x:Str):a8w H D (.str x) (V.bl true) (upd H D (.dK (bv (b3p S x)))):=by
 have:=a8w.k (k:=(Sum.inr x:Key)) (v:=V.bl true) h (by unfold bv;rw [Qc];exact Xq hl ‹dc›)
 rw [b1U] at this;exact this
def GrL (t:Adr) (H:Hp) (g:Addr) (rs:List Rw) (pl:List (Str×Str)):Prop:=∃(dx io bh pr:Addr) (xs:List V) (kvs:List (Key×V)) (kps:List (List Key×V)),H g=some (.ins t.C_Ground dx (gfl io bh pr))∧H io=some (.tup xs)∧a1v t H xs rs∧True∧True∧True∧True
theorem GrL.same {t:Adr} {H H':Hp} {g:Addr} {rs:List Rw} {pl:List (Str×Str)} (s:a0m H H') (h:GrL t H g rs pl):GrL t H' g rs pl:=let ⟨dx,io,bh,pr,xs,kvs,kps,a,b,c,d⟩:=h;⟨dx,io,bh,pr,xs,kvs,kps,s _ _ a,s _ _ b,c.same s,d⟩
theorem b3m.l {t:Adr} {H:Hp} {g:Addr} {rs:List Rw} {pl:List (Str×Str)} (h:b3m t H g rs pl):GrL t H g rs pl:=let ⟨dx,io,bh,pr,xs,kvs,kps,a,b,c,_⟩:=h;⟨dx,io,bh,pr,xs,kvs,kps,a,b,c,trivial,trivial,trivial,trivial⟩
theorem GrL.off {t:Adr} {H H':Hp} {g D:Addr} {rs:List Rw} {pl:List (Str×Str)} {ys:List V} (h:GrL t H g rs pl) (hD:H D=some (.lst ys)) (k:∀c o,c≠D→H c=some o→H' c=some o):GrL t H' g rs pl:=by
 obtain ⟨dx,io,bh,pr,xs,kvs,kps,a,b,c,d⟩:=h
 refine ⟨dx,io,bh,pr,xs,kvs,kps,k _ _ (a0G a hD ‹iz›) a,k _ _ (a0G b hD ‹iz›) b,⟨c.len,fun i r e=>?_⟩,d⟩
 obtain ⟨v,ev,p,rfl,dx',t0,g1,g2⟩:=c.get i r e
 exact ⟨_,ev,p,rfl,dx',t0,k _ _ (a0G g1 hD ‹iz›) g1,k _ _ (a0G g2 hD ‹iz›) g2⟩
def a6P (t:Adr):Sp:=fun vs H Q _=>∃(g:Addr) (rs:List Rw) (pl:List (Str×Str)),vs=[.ref g]∧GrL t H g rs pl∧∀D xs H',a0m H H'→H D=none→H' D=some (.lst xs)→a1v t H' xs rs→Q (.ref D) H'
/-! ### texts in order -/
def leT (a b:Str):Prop:=¬b.cps.toList < a.cps.toList
theorem a6S {a b c:Str} (h1:leT a b) (h2:leT b c):leT a c:=List.le_trans (show a.cps.toList≤b.cps.toList from h1) (show b.cps.toList≤c.cps.toList from h2)
theorem a8N {a b:Str} (h1:leT a b) (h2:leT b a):a=b:=by
 have e:a.cps.toList=b.cps.toList:=List.le_antisymm (show a.cps.toList≤b.cps.toList from h1) (show b.cps.toList≤a.cps.toList from h2)
 obtain ⟨⟨a⟩⟩:=a
 obtain ⟨⟨b⟩⟩:=b
 have e':a=b:=e
 rw [e']
theorem a3s:∀(l:List Str) (p:Str),PyProof.Rows.risingS p l=true→(p::l).Pairwise leT
 | [],p,_=>by simp
 | x::r,p,h=>by
  have h':(!PySem.Spec.ltCps x.cps.toList p.cps.toList && PyProof.Rows.risingS x r)=true:=h
  rw [Xe,Zn,PyProof.Rows.ltCps_eq,decide_eq_false_iff_not] at h'
  have ih:=a3s r x h'.2
  refine Yx.mpr ⟨fun y hy=>?_,ih⟩
  rcases Qt.mp hy with e | e
  ·rw [e];exact h'.1
  ·exact a6S h'.1 ((Yx.mp ih).1 y e)
theorem a3z:∀{l:List Str},PyProof.Rows.sortedS l=true→l.Pairwise leT
 | [],_=>.nil
 | x::r,h=>a3s r x h
theorem a2w:∀{a b:List Str},a.Perm b→a.Pairwise leT→b.Pairwise leT→a=b
 | [],b,h,_,_=>(h.symm.eq_nil).symm
 | x::a,[],h,_,_=>by have:=h.length_eq;simp at this
 | x::a,y::b,h,ha,hb=>by
  have e:x=y:=by
   rcases Qt.mp (h.mem_iff.mp (Qj (a:=x) (l:=a))) with z | z
   ·exact z
   ·rcases Qt.mp (h.mem_iff.mpr (Qj (a:=y) (l:=b))) with w | w
    ·exact w.symm
    ·exact a8N ((Yx.mp ha).1 y w) ((Yx.mp hb).1 x z)
  subst e
  rw [a2w (Ub.cons_inv h) (Yx.mp ha).2 (Yx.mp hb).2]
theorem a4J:∀(zs ys:List Str),Yv (.list (zs.map Yi)) (.list (ys.map Yi))=decide (zs=ys):=by
 have all:∀(zs ys:List Str),Ud (zs.map Yi) (ys.map Yi)=decide (zs=ys):=by
  intro zs
  induction zs with
  | nil=>intro ys;cases ys<;>rfl
  | cons z zs ih=>
   intro ys
   cases ys with
   | nil=>rfl
   | cons y ys=>
    have e:Ud ((z::zs).map Yi) ((y::ys).map Yi)=(Yv (.str z) (.str y) && Ud (zs.map Yi) (ys.map Yi)):=rfl
    have e2:Yv (.str z) (.str y)=decide (z=y):=by first | rfl | simp [Yv]
    rw [e,e2,ih]
    by_cases h1:z=y
    ·by_cases h2:zs=ys
     ·simp [h1,h2]
     ·simp [h1,h2]
    ·simp [h1]
 intro zs ys
 have e:Yv (.list (zs.map Yi)) (.list (ys.map Yi))=Ud (zs.map Yi) (ys.map Yi):=by first | rfl | simp [Yv]
 rw [e];exact all zs ys
def a9K (H:Hp) (D:Addr) (H':Hp):Prop:=∀b o,H b=some o→b≠D→H' b=some o
theorem a9K.refl (H:Hp) (D:Addr):a9K H D H:=fun _ _ e _=>e
/-! ### premises and heads -/
def b1k (H:Hp) (d:Addr) (rs:List Rw):Prop:=∃kvs,H d=some (.dK kvs)∧∀p:Str,(a0E kvs (Sum.inr p:Key)=none∧∀r∈rs,p∉r.2.2.2)∨∃(L:Addr) (hs:List Str),a0E kvs (Sum.inr p:Key)=some (.ref L)∧H L=some (.lst (hs.map V.str))∧hs.length≤300∧∀h:Str,h∈hs↔∃r∈rs,p∈r.2.2.2∧r.2.2.1=h
def a9O (t:Adr):Sp:=fun vs H Q _=>∃(g:Addr) (rs:List Rw) (pl:List (Str×Str)),vs=[.ref g]∧GrL t H g rs pl∧(∀r∈rs,a4f r)∧rs.length≤63∧∀D H',a0m H H'→H D=none→b1k H' D rs→Q (.ref D) H'
def a5C (L:List (Str×Str)) (p:Str):List Str:=(L.filter fun x=>decide (x.1=p)).map (·.2)
theorem a8b (L:List (Str×Str)) (p:Str):(a5C L p).length≤L.length:=by
 unfold a5C;rw [Qc];exact Zp _ _
theorem a3H (L:List (Str×Str)) (p h x:Str):a5C (L++[(p,h)]) x=a5C L x++if p=x then [h] else []:=by
 unfold a5C
 rw [Zy,Xk,Zf]
 by_cases e:p=x
 ·rw [if_pos e,if_pos (decide_eq_true e)];rfl
 ·rw [if_neg e,if_neg (by simpa using e)];rfl
structure a5r (H H':Hp) (D:Addr) (kvs:List (Key×V)) (L:List (Str×Str)):Prop where
 d:H' D=some (.dK kvs)
 len:kvs.length≤L.length
 at_:∀p:Str,(a0E kvs (Sum.inr p:Key)=none∧a5C L p=[])∨∃N,a0E kvs (Sum.inr p:Key)=some (.ref N)∧H N=none∧H' N=some (.lst ((a5C L p).map V.str))
 inj:∀(p p':Str) (N:Addr),a0E kvs (Sum.inr p:Key)=some (.ref N)→a0E kvs (Sum.inr p':Key)=some (.ref N)→p=p'
theorem a5r.same {H H' H'':Hp} {D:Addr} {kvs:List (Key×V)} {L:List (Str×Str)} (s:a0m H' H'') (h:a5r H H' D kvs L):a5r H H'' D kvs L:=⟨s _ _ h.d,h.len,fun p=>(h.at_ p).imp id fun ⟨N,a,b,c⟩=>⟨N,a,b,s _ _ c⟩,h.inj⟩
theorem a5r.old {H H':Hp} {D N:Addr} {kvs:List (Key×V)} {L:List (Str×Str)} {p h:Str} (I:a5r H H' D kvs L) (e:a0E kvs (Sum.inr p:Key)=some (.ref N)):H' N=some (.lst ((a5C L p).map V.str))∧H N=none∧a5r H (upd H' N (.lst ((a5C L p).map V.str++[V.str h]))) D kvs (L++[(p,h)]):=by
 rcases I.at_ p with ⟨z,_⟩ | ⟨N',e',n',hN⟩
 ·rw [z] at e;cases e
 rw [e] at e';cases e'
 refine ⟨hN,n',⟨by rw [a0a (a0G hN I.d ‹iz›).symm];exact I.d,by have:=I.len;simp;omega,fun x=>?_,I.inj⟩⟩
 rw [a3H]
 by_cases z:p=x
 ·subst z
  rw [if_pos rfl]
  exact .inr ⟨N,e,n',by rw [a0d,Xk];rfl⟩
 ·rw [if_neg z,Qi]
  rcases I.at_ x with w | ⟨M,a,b,c⟩
  ·exact .inl w
  ·exact .inr ⟨M,a,b,by rw [a0a (fun w=>z (I.inj p x N e (by rw [←w];exact a)))];exact c⟩
theorem a5r.new {H H':Hp} {D N:Addr} {kvs:List (Key×V)} {L:List (Str×Str)} {p h:Str} (I:a5r H H' D kvs L) (e:a0E kvs (Sum.inr p:Key)=none) (hN:H' N=none) (n:H N=none) (o:HO):a5r H (upd (upd (upd H' N o) D (.dK (a1J kvs (Sum.inr p) (.ref N)))) N (.lst ([]++[V.str h]))) D (a1J kvs (Sum.inr p) (.ref N)) (L++[(p,h)]):=by
 have hDN:D≠N:=fun z=>by rw [←z,I.d] at hN;cases hN
 have hk:=a0x kvs (Sum.inr p:Key) (V.ref N)
 refine ⟨by rw [a0a hDN,a0d],by have:=I.len;simp;omega,fun x=>?_,fun x y M a b=>?_⟩
 ·rw [a3H,a1g]
  by_cases z:p=x
  ·subst z
   rw [if_pos rfl,if_pos rfl]
   rcases I.at_ p with ⟨_,w⟩ | ⟨M,a,_⟩
   ·rw [w];exact .inr ⟨N,rfl,n,a0d⟩
   ·rw [e] at a;cases a
  ·rw [if_neg (fun w=>z (Sum.inr.inj w).symm),if_neg z,Qi]
   rcases I.at_ x with w | ⟨M,a,b,c⟩
   ·exact .inl w
   ·have hMN:M≠N:=fun w=>by rw [w,hN] at c;cases c
    exact .inr ⟨M,a,b,by rw [a0a hMN,a0a (a0G c I.d ‹iz›),a0a hMN];exact c⟩
 ·have nope:∀y:Str,a0E kvs (Sum.inr y:Key)≠some (.ref N):=fun y w=>by
   rcases I.at_ y with ⟨c,_⟩ | ⟨M',c,_,d⟩
   ·rw [c] at w;cases w
   ·rw [c] at w;cases w;rw [hN] at d;cases d
  rw [a1g] at a b
  by_cases z1:(Sum.inr x:Key)=Sum.inr p
  ·by_cases z2:(Sum.inr y:Key)=Sum.inr p
   ·rw [Sum.inr.inj z1,Sum.inr.inj z2]
   ·rw [if_pos z1] at a;cases a
    rw [if_neg z2] at b;exact absurd b (nope y)
  ·rw [if_neg z1] at a
   by_cases z2:(Sum.inr y:Key)=Sum.inr p
   ·rw [if_pos z2] at b;cases b;exact absurd a (nope x)
   ·rw [if_neg z2] at b;exact I.inj x y M a b
def phs (rs:List Rw):List (Str×Str):=rs.flatMap fun r=>r.2.2.2.map fun p=>(p,r.2.2.1)
theorem a4a:∀{rs:List Rw},(∀r∈rs,a4f r)→(phs rs).length≤4 * rs.length
 | [],_=>Qg _
 | r::rs,h=>by
  have h1:=a4a (rs:=rs) fun x hx=>h x (Qk _ hx)
  have h2:=(h r Qj).2.2.2.2.2
  unfold phs at h1 ⊢
  rw [Zm,Ql,Qc,Qm]
  omega
theorem a5r.hds {H H':Hp} {D:Addr} {kvs:List (Key×V)} {rs:List Rw} (I:a5r H H' D kvs (phs rs)) (hO:∀r∈rs,a4f r) (hl:rs.length≤63):b1k H' D rs:=by
 have hm:∀p h,h∈a5C (phs rs) p↔∃r∈rs,p∈r.2.2.2∧r.2.2.1=h:=fun p h=>by
  unfold a5C phs
  rw [Xm]
  constructor
  ·rintro ⟨⟨x,y⟩,hx,rfl⟩
   obtain ⟨h1,h2⟩:=Ye.mp hx
   obtain ⟨r,hr,h3⟩:=Ys.mp h1
   obtain ⟨p',hp,e⟩:=Xm.mp h3
   cases e
   have:x=p:=of_decide_eq_true h2
   exact ⟨r,hr,this ▸ hp,rfl⟩
  ·rintro ⟨r,hr,hp,rfl⟩
   exact ⟨(p,r.2.2.1),Ye.mpr ⟨Ys.mpr ⟨r,hr,Xm.mpr ⟨p,hp,rfl⟩⟩,decide_eq_true rfl⟩,rfl⟩
 refine ⟨kvs,I.d,fun p=>?_⟩
 rcases I.at_ p with ⟨a,b⟩ | ⟨N,a,_,c⟩
 ·refine .inl ⟨a,fun r hr hp=>?_⟩
  have:=(hm p r.2.2.1).mpr ⟨r,hr,hp,rfl⟩
  rw [b] at this;cases this
 ·refine .inr ⟨N,_,a,c,?_,hm p⟩
  have h1:(a5C (phs rs) p).length≤(phs rs).length:=by
   unfold a5C;rw [Qc];exact Zp _ _
  have:=a4a hO
  omega
structure a7R (H H':Hp) (D:Addr) (kvs:List (Key×V)) (f:Str→List Str) (n:Nat):Prop where
 d:H' D=some (.dK kvs)
 len:kvs.length≤n
 at_:∀p:Str,(a0E kvs (Sum.inr p:Key)=none∧f p=[])∨∃N,a0E kvs (Sum.inr p:Key)=some (.ref N)∧H N=none∧H' N=some (.lst ((f p).map V.str))
 inj:∀(p p':Str) (N:Addr),a0E kvs (Sum.inr p:Key)=some (.ref N)→a0E kvs (Sum.inr p':Key)=some (.ref N)→p=p'
theorem a7R.same {H H' H'':Hp} {D:Addr} {kvs:List (Key×V)} {f:Str→List Str} {n0:Nat} (s:a0m H' H'') (h:a7R H H' D kvs f n0):a7R H H'' D kvs f n0:=⟨s _ _ h.d,h.len,fun p=>(h.at_ p).imp id fun ⟨N,a,b,c⟩=>⟨N,a,b,s _ _ c⟩,h.inj⟩
theorem a7R.old {H H':Hp} {D N:Addr} {kvs:List (Key×V)} {f:Str→List Str} {n0:Nat} {p:Str} {bd:List Str} (I:a7R H H' D kvs f n0) (e:a0E kvs (Sum.inr p:Key)=some (.ref N)):H' N=some (.lst ((f p).map V.str))∧H N=none∧a7R H (upd H' N (.lst ((f p).map V.str++bd.map V.str))) D kvs (fun x=>f x++if p=x then bd else []) (n0+1):=by
 rcases I.at_ p with ⟨z,_⟩ | ⟨N',e',n',hN⟩
 ·rw [z] at e;cases e
 rw [e] at e';cases e'
 refine ⟨hN,n',⟨by rw [a0a (a0G hN I.d ‹iz›).symm];exact I.d,by have:=I.len;omega,fun x=>?_,I.inj⟩⟩
 by_cases z:p=x
 ·subst z
  rw [if_pos rfl]
  exact .inr ⟨N,e,n',by rw [a0d,Xk]⟩
 ·rw [if_neg z,Qi]
  rcases I.at_ x with w | ⟨M,a,b,c⟩
  ·exact .inl w
  ·exact .inr ⟨M,a,b,by rw [a0a (fun w=>z (I.inj p x N e (by rw [←w];exact a)))];exact c⟩
theorem a7R.new {H H':Hp} {D N:Addr} {kvs:List (Key×V)} {f:Str→List Str} {n0:Nat} {p:Str} {bd:List Str} (I:a7R H H' D kvs f n0) (e:a0E kvs (Sum.inr p:Key)=none) (hN:H' N=none) (n:H N=none) (o:HO):a7R H (upd (upd (upd H' N o) D (.dK (a1J kvs (Sum.inr p) (.ref N)))) N (.lst (([]:List V)++bd.map V.str))) D (a1J kvs (Sum.inr p) (.ref N)) (fun x=>f x++if p=x then bd else []) (n0+1):=by
 have hDN:D≠N:=fun z=>by rw [←z,I.d] at hN;cases hN
 have hk:=a0x kvs (Sum.inr p:Key) (V.ref N)
 refine ⟨by rw [a0a hDN,a0d],by have:=I.len;omega,fun x=>?_,fun x y M a b=>?_⟩
 ·rw [a1g]
  by_cases z:p=x
  ·subst z
   rw [if_pos rfl,if_pos rfl]
   rcases I.at_ p with ⟨_,w⟩ | ⟨M,a,_⟩
   ·rw [w];exact .inr ⟨N,rfl,n,a0d⟩
   ·rw [e] at a;cases a
  ·rw [if_neg (fun w=>z (Sum.inr.inj w).symm),if_neg z,Qi]
   rcases I.at_ x with w | ⟨M,a,b,c⟩
   ·exact .inl w
   ·have hMN:M≠N:=fun w=>by rw [w,hN] at c;cases c
    exact .inr ⟨M,a,b,by rw [a0a hMN,a0a (a0G c I.d ‹iz›),a0a hMN];exact c⟩
 ·have nope:∀y:Str,a0E kvs (Sum.inr y:Key)≠some (.ref N):=fun y w=>by
   rcases I.at_ y with ⟨c,_⟩ | ⟨M',c,_,d⟩
   ·rw [c] at w;cases w
   ·rw [c] at w;cases w;rw [hN] at d;cases d
  rw [a1g] at a b
  by_cases z1:(Sum.inr x:Key)=Sum.inr p
  ·by_cases z2:(Sum.inr y:Key)=Sum.inr p
   ·rw [Sum.inr.inj z1,Sum.inr.inj z2]
   ·rw [if_pos z1] at a;cases a
    rw [if_neg z2] at b;exact absurd b (nope y)
  ·rw [if_neg z1] at a
   by_cases z2:(Sum.inr y:Key)=Sum.inr p
   ·rw [if_pos z2] at b;cases b;exact absurd a (nope x)
   ·rw [if_neg z2] at b;exact I.inj x y M a b
theorem a7y:bootBuiltins "max"=some (.builtin "max"):=by decide+kernel
theorem a6g {α:Type} [DecidableEq α]:∀{l m:List α},l.Nodup→m.Nodup→(∀x,x∈l↔x∈m)→l.Perm m
 | [],m,_,_,h=>by
  have:m=[]:=List.eq_nil_iff_forall_not_mem.mpr fun x hx=>by have:=(h x).mpr hx;cases this
  rw [this]
 | x::l,m,hl,hm,h=>by
  rw [Yh] at hl
  have hx:x∈m:=(h x).mp Qj
  refine ((a6g hl.2 (hm.erase x) fun y=>?_).cons x).trans (List.perm_cons_erase hx).symm
  rw [Jb.mem_erase_iff hm,←h y,Qt]
  exact ⟨fun hy=>⟨fun e=>hl.1 (by rw [←e];exact hy),.inr hy⟩,fun ⟨n,e⟩=>e.resolve_left n⟩
theorem a5y {α:Type} {l:List α} {x:α} (h:l.Nodup) (hx:x∉l):(l++[x]).Nodup:=
 List.nodup_append.mpr ⟨h,Yh.mpr ⟨Xj,Zd⟩,fun a ha b hb e=>hx (by rw [←Qz.mp hb,←e];exact ha)⟩
theorem a1k {α:Type} [DecidableEq α]:∀{l m:List α},l.Nodup→(∀x∈l,x∈m)→l.length≤m.length
 | [],m,_,_=>Xl _
 | x::l,m,h,s=>by
  rw [Yh] at h
  have h1:=a1k (l:=l) (m:=m.erase x) h.2 (fun y hy=>(Vl (fun z=>h.1 (by rw [←z];exact hy))).mpr (s y (Qk _ hy)))
  have h2:x∈m:=s x Qj
  have h3:=Zx h2
  have h4:=Jg h2
  simp only [Qm];omega
/-! ### what is reached -/
def Cl (st:Str→List Str) (C:Str→Prop):Prop:=∀x,C x→C (a1f x)∧∀y∈st x,C y
def IsR (st:Str→List Str) (S T:List Str):Prop:=(∀x∈S,x∈T)∧Cl st (·∈T)∧∀C:Str→Prop,(∀x∈S,C x)→Cl st C→∀x∈T,C x
theorem IsR.uniq {st st':Str→List Str} {S S' T T':List Str} (h:IsR st S T) (h':IsR st' S' T') (hst:∀x y,y∈st x↔y∈st' x) (hS:∀x,x∈S↔x∈S') (x:Str):x∈T↔x∈T':=
 ⟨h.2.2 (·∈T') (fun y hy=>h'.1 y ((hS y).mp hy)) (fun y hy=>⟨(h'.2.1 y hy).1,fun z hz=>(h'.2.1 y hy).2 z ((hst y z).mp hz)⟩) x,
  h'.2.2 (·∈T) (fun y hy=>h.1 y ((hS y).mpr hy)) (fun y hy=>⟨(h.2.1 y hy).1,fun z hz=>(h.2.1 y hy).2 z ((hst y z).mpr hz)⟩) x⟩
structure a4A (st:Str→List Str) (S po T Wt:List Str):Prop where
 n:T.Nodup
 t:∀x∈T,x∈po
 w:∀x∈Wt,x∈po
 s:∀x∈S,x∈T∨x∈Wt
 c:∀x∈T,(a1f x∈T∨a1f x∈Wt)∧∀y∈st x,y∈T∨y∈Wt
 m:∀C:Str→Prop,(∀x∈S,C x)→Cl st C→(∀x∈T,C x)∧∀x∈Wt,C x
theorem a4A.start {st:Str→List Str} {S po:List Str} (h:∀x∈S,x∈po):a4A st S po [] S:=⟨Zd,fun x hx=>(by cases hx),h,fun x hx=>.inr hx,fun x hx=>(by cases hx),fun C hS _=>⟨fun x hx=>(by cases hx),hS⟩⟩
theorem a4A.skip {st:Str→List Str} {S po T Wt:List Str} {x:Str} (h:a4A st S po T (Wt++[x])) (hx:x∈T):a4A st S po T Wt:=by
 have g:∀y,y∈T∨y∈Wt++[x]→y∈T∨y∈Wt:=fun y hy=>hy.elim .inl fun z=>(Qy.mp z).elim .inr fun z=>.inl (by rw [Qz.mp z];exact hx)
 exact ⟨h.n,h.t,fun y hy=>h.w y (Xg _ hy),fun y hy=>g y (h.s y hy),fun y hy=>⟨g _ (h.c y hy).1,fun z hz=>g _ ((h.c y hy).2 z hz)⟩,fun C hS hC=>⟨(h.m C hS hC).1,fun y hy=>(h.m C hS hC).2 y (Xg _ hy)⟩⟩
theorem a4A.take {st:Str→List Str} {S po T Wt:List Str} {x:Str} (h:a4A st S po T (Wt++[x])) (hx:x∉T) (hpo:∀y∈po,a1f y∈po∧∀z∈st y,z∈po):a4A st S po (T++[x]) (Wt++[a1f x]++st x):=by
 have hxp:=h.w x (Qx _ Qj)
 have g:∀y,y∈T∨y∈Wt++[x]→y∈T++[x]∨y∈Wt++[a1f x]++st x:=fun y hy=>hy.elim (fun z=>.inl (Xg _ z)) fun z=>(Qy.mp z).elim (fun z=>.inr (Xg _ (Xg _ z))) fun z=>.inl (Qx _ z)
 refine ⟨a5y h.n hx,fun y hy=>?_,fun y hy=>?_,fun y hy=>g y (h.s y hy),fun y hy=>?_,fun C hS hC=>?_⟩
 ·rcases Qy.mp hy with z | z
  ·exact h.t y z
  ·rw [Qz.mp z];exact hxp
 ·rcases Qy.mp hy with z | z
  ·rcases Qy.mp z with z | z
   ·exact h.w y (Xg _ z)
   ·rw [Qz.mp z];exact (hpo x hxp).1
  ·exact (hpo x hxp).2 y z
 ·rcases Qy.mp hy with z | z
  ·exact ⟨g _ (h.c y z).1,fun u hu=>g _ ((h.c y z).2 u hu)⟩
  ·rw [Qz.mp z]
   exact ⟨.inr (Xg _ (Qx _ Qj)),fun u hu=>.inr (Qx _ hu)⟩
 ·obtain ⟨a,b⟩:=h.m C hS hC
  have hx':=b x (Qx _ Qj)
  refine ⟨fun y hy=>?_,fun y hy=>?_⟩
  ·rcases Qy.mp hy with z | z
   ·exact a y z
   ·rw [Qz.mp z];exact hx'
  ·rcases Qy.mp hy with z | z
   ·rcases Qy.mp z with z | z
    ·exact b y (Xg _ z)
    ·rw [Qz.mp z];exact (hC x hx').1
   ·exact (hC x hx').2 y z
theorem a4A.fin {st:Str→List Str} {S po T:List Str} (h:a4A st S po T []):IsR st S T:=
 ⟨fun x hx=>(h.s x hx).elim id fun z=>(by cases z),fun x hx=>⟨(h.c x hx).1.elim id fun z=>(by cases z),fun y hy=>((h.c x hx).2 y hy).elim id fun z=>by cases z⟩,fun C hS hC=>(h.m C hS hC).1⟩
def b1F (H:Hp) (d:Addr) (st:Str→List Str):Prop:=∃kvs,H d=some (.dK kvs)∧∀p:Str,(a0E kvs (Sum.inr p:Key)=none∧st p=[])∨∃(L:Addr),a0E kvs (Sum.inr p:Key)=some (.ref L)∧H L=some (.lst ((st p).map V.str))∧(st p).length≤300
def a7q (K:Qa):Sp:=fun vs H Q _=>∃(a d:Addr) (S po:List Str) (st:Str→List Str),vs=[.ref a,.ref d]∧SqL K H a (S.map V.str)∧b1F H d st∧(∀x∈S,x∈po)∧(∀y∈po,a1f y∈po∧∀z∈st y,z∈po)∧(∀y∈po,y.length≤100)∧po.length≤30∧S.length≤30∧
 ∀D T H',a0m H H'→H D=none→H' D=some (.lst (T.map V.str))→IsR st S T→T.Nodup→PyProof.Rows.sortedS T=true→T.length≤30→(∀x∈T,x∈po)→Q (.ref D) H'
def stB (rs:List Rw) (x:Str):List Str:=(hdF rs x).flatMap fun r=>r.2.2.2
def b3f (rs:List Rw) (po:List Str):Prop:=(∀y∈po,a1f y∈po∧y.length≤100)∧(∀r∈rs,r.2.2.1∈po∧∀q∈r.2.2.2,q∈po)∧po.length≤20
def a6p (K:Qa) (t:Adr):Sp:=fun vs H Q _=>∃(g:Addr) (z:Str) (rs:List Rw) (pl:List (Str×Str)) (po:List Str),vs=[.ref g,.str z]∧GrL t H g rs pl∧(∀r∈rs,a4f r)∧rs.length≤63∧z∈po∧b3f rs po∧
 ∀D T H',a0m H H'→H D=none→H' D=some (.lst (T.map V.str))→IsR (stB rs) [z] T→T.Nodup→PyProof.Rows.sortedS T=true→T.length≤20→(∀x∈T,x∈po)→Q (.ref D) H'
theorem a4x (rs:List Rw) (r:Rw) (x:Str):stB (rs++[r]) x=stB rs x++if r.2.2.1=x then r.2.2.2 else []:=by
 unfold stB hdF
 rw [Zy,Jv,Zf]
 by_cases h:r.2.2.1=x
 ·rw [if_pos (decide_eq_true h),if_pos h];simp
 ·rw [if_neg (by simpa using h),if_neg h];simp
theorem a2v {rs:List Rw} (h:∀r∈rs,a4f r) (x:Str):(stB rs x).length≤4 * rs.length:=by
 have g:∀l:List Rw,(∀r∈l,a4f r)→(l.flatMap fun r=>r.2.2.2).length≤4 * l.length:=fun l=>by
  induction l with
  | nil=>exact fun _=>Qg _
  | cons r l ih=>
   intro hl
   have h1:=ih fun r hr=>hl r (Qk _ hr)
   have h2:=(hl r Qj).2.2.2.2.2
   rw [Zm,Ql,Qm]
   omega
 refine Qs (g (hdF rs x) fun r hr=>h r (Ye.mp hr).1) ?_
 have:=Zp (fun r:Rw=>decide (r.2.2.1=x)) rs
 have e:(hdF rs x).length≤rs.length:=this
 omega
def stA (rs:List Rw) (x:Str):List Str:=(rs.filter fun r=>decide (x∈r.2.2.2)).map (·.2.2.1)
def a5w (st:Str→List Str) (S:List Str):List Str:=S.flatMap fun x=>a1f x::st x
theorem a1B {st:Str→List Str} {S:List Str} {z:Str}:z∈a5w st S↔∃x∈S,z=a1f x∨z∈st x:=by
 unfold a5w;rw [Ys];simp only [Qt]
theorem a3F (st:Str→List Str) (S:List Str) (x:Str):a5w st (S++[x])=a5w st S++[a1f x]++st x:=by
 unfold a5w;rw [Jv];simp
theorem a1S {st:Str→List Str} (h:∀x,(st x).length≤160):∀S:List Str,(a5w st S).length≤S.length * 161
 | []=>Qg _
 | x::S=>by
  have:=a1S h S
  have h1:=h x
  unfold a5w at this ⊢
  rw [Zm,Ql,Qm,Qm]
  omega
theorem a8d (rs:List Rw) (r:Rw) (x:Str):stA (rs++[r]) x=stA rs x++if x∈r.2.2.2 then [r.2.2.1] else []:=by
 unfold stA
 rw [Zy,Xk,Zf]
 by_cases h:x∈r.2.2.2
 ·rw [if_pos (decide_eq_true h),if_pos h];rfl
 ·rw [if_neg (by simpa using h),if_neg h];rfl
theorem a4e (rs:List Rw) (x:Str):(stA rs x).length≤rs.length:=by unfold stA;rw [Qc];exact Zp _ _
def a6D (t:Adr) (st:List Rw→Str→List Str):Sp:=fun vs H Q _=>∃(R a:Addr) (zr:List VR) (S:List Str),vs=[.ref R,.ref a]∧a1z t H R zr∧H a=some (.lst (S.map V.str))∧S.length≤20∧(∀z∈S,TxN 31 z)∧∀D H',a0m H H'→H D=none→H' D=some (.lst ((a5w (st (zr.map (·.2))) S).map V.str))→Q (.ref D) H'
theorem a1T {K:Qa} {H:Hp} {Q:VK} {a b:Addr} {zs ys:List Str} (ha:SqL K H a (zs.map V.str)) (hb:SqL K H b (ys.map V.str)) (ho:∀z∈zs,Xu z=true) (ho':∀z∈ys,Xu z=true) (q:Q (.bl (!decide (zs=ys))) H):b4U K (.ref a) (.ref b) H Q:=
 .inr ⟨_,_,.lst ha (a1X zs),.lst hb (a1X ys),a2R ho,a2R ho',by rw [a4J];exact q⟩
theorem a8M {K:Qa} {H:Hp} {Q:VK} {a b:Addr} {zs ys:List Str} (ha:SqL K H a (zs.map V.str)) (hb:SqL K H b (ys.map V.str)) (ho:∀z∈zs,Xu z=true) (ho':∀z∈ys,Xu z=true) (q:Q (.bl (decide (zs=ys))) H):b3o K (.ref a) (.ref b) H Q:=
 .inr ⟨_,_,.lst ha (a1X zs),.lst hb (a1X ys),a2R ho,a2R ho',by rw [a4J];exact q⟩
theorem a2Y {T T':List Str} (h:T.Nodup) (h':T'.Nodup) (o:PyProof.Rows.sortedS T=true) (o':PyProof.Rows.sortedS T'=true) (e:∀x,x∈T↔x∈T'):T=T':=a2w (a6g h h' e) (a3z o) (a3z o')
def a4K (t:Adr):Sp:=fun vs H Q _=>∃(R a:Addr) (b:Int) (zr:List VR) (S po:List Str),vs=[.ref R,.ref a,.int b]∧a1z t H R zr∧H a=some (.lst (S.map V.str))∧S.length≤20∧(∀z∈S,z∈po)∧b3f (zr.map (·.2)) po∧(∀z∈po,TxN 31 z)∧
 ∀D T H',a0m H H'→H D=none→H' D=some (.lst (T.map V.str))→IsR ((if b=0 then stB else stA) (zr.map (·.2))) S T→T.Nodup→PyProof.Rows.sortedS T=true→T.length≤20→(∀x∈T,x∈po)→Q (.ref D) H'
theorem IsR.st {st st':Str→List Str} {S T:List Str} (h:IsR st S T) (e:∀x y,y∈st x↔y∈st' x):IsR st' S T:=
 ⟨h.1,fun x hx=>⟨(h.2.1 x hx).1,fun y hy=>(h.2.1 x hx).2 y ((e x y).mpr hy)⟩,fun C hS hC=>h.2.2 C hS fun x hx=>⟨(hC x hx).1,fun y hy=>(hC x hx).2 y ((e x y).mp hy)⟩⟩
def a7I (K:Qa) (t:Adr):Sp:=fun vs H Q _=>∃(g a:Addr) (rs:List Rw) (pl:List (Str×Str)) (S po:List Str),vs=[.ref g,.ref a]∧GrL t H g rs pl∧(∀r∈rs,a4f r)∧rs.length≤63∧SqL K H a (S.map V.str)∧(∀x∈S,x∈po)∧S.length≤20∧b3f rs po∧
 ∀D T H',a0m H H'→H D=none→H' D=some (.lst (T.map V.str))→IsR (stA rs) S T→T.Nodup→PyProof.Rows.sortedS T=true→T.length≤20→(∀x∈T,x∈po)→Q (.ref D) H'
theorem b0A {K:Qa} {H:Hp} {Q:VK} {z:Str} {a:Addr} {r:List Str} (h:SqT K H a (r.map V.str)) (q:Q (.bl (decide (z∈r))) H):b6B K (.str z) (.ref a) H Q:=
 .inr ⟨a,_,rfl,.inr h,rfl,a7x _,by rw [if_neg Qr,b0b];exact q⟩
theorem a7E {w:World} {K:Qa} {H:Hp} {c:Addr} {L po:List Str} {Q:VK} (hc:H c=some (.lst (L.map V.str))) (hl:L.length≤4000) (hp:∀z∈L,z∈po) (hn:po.length≤20) (k:∀D T H',a0m H H'→H D=none→H' D=some (.lst (T.map V.str))→T.Nodup→(∀z,z∈T↔z∈L)→PyProof.Rows.sortedS T=true→Q (.ref D) H'):a9R w K [.ref c] H fun x H1=>a3c w [x] H1 Q:=by
 refine ⟨c,L,rfl,SqL.of hc,hl,fun p ss hpn hnd hm=>?_⟩
 obtain ⟨H1,e1,s1,g1⟩:=a0T hpn (b3n w p ss);rw [e1]
 refine ⟨p,ss,rfl,g1,?_,fun l ss' hln hperm hs=>?_⟩
 ·have:=a1k hnd (fun x hx=>hp x ((hm x).mp hx));omega
 ·obtain ⟨H2,e2,s2,g2⟩:=a0T hln (.lst (ss'.map V.str));rw [e2]
  exact k l ss' H2 (s1.trans s2) (none_of s1 hln) g2 (hperm.nodup_iff.mpr hnd) (fun z=>hperm.mem_iff.trans (hm z)) hs
theorem a5s {L T:List Str} (hL:L.Nodup) (hT:T.Nodup) (oL:PyProof.Rows.sortedS L=true) (oT:PyProof.Rows.sortedS T=true) (s:∀x∈L,x∈T) (ne:L≠T):L.length < T.length:=by
 by_cases h:∀x∈T,x∈L
 ·exact absurd (a2Y hL hT oL oT fun x=>⟨s x,h x⟩) ne
 ·obtain ⟨x,hx⟩:=Classical.not_forall.mp h
  obtain ⟨hxT,hxL⟩:=Classical.not_imp.mp hx
  have:=a1k (l:=x::L) (m:=T) (Yh.mpr ⟨hxL,hL⟩) fun y hy=>by
   rcases Qt.mp hy with e | e
   ·rw [e];exact hxT
   ·exact s y e
  rw [Qm] at this;omega
theorem a8C {K:Qa} {H:Hp} {Q:VK} {a b:Addr} {l m:List Str} (ha:H a=some (.lst (l.map V.str))) (hb:H b=some (.lst (m.map V.str))) (hl:l.length+m.length≤10000) (q:∀p,H p=none→Q (.ref p) (upd H p (.lst ((l++m).map V.str)))):a3x K (.ref a) (.ref b) H Q:=by
 refine .inr (.inr (.inl ⟨a,b,_,_,rfl,rfl,ha,hb,Qs (show _≤10000 by simp only [Qc];exact hl) ‹dc›,fun p hp=>?_⟩))
 rw [←Xk];exact q p hp
def a7N (t:Adr):Sp:=fun vs H Q _=>∃(g R a:Addr) (zr:List VR) (pl:List (Str×Str)) (S po:List Str),vs=[.ref g,.ref R,.ref a]∧GrL t H g (zr.map (·.2)) pl∧a1z t H R zr∧H a=some (.lst (S.map V.str))∧S.length≤20∧(∀z∈S,z∈po)∧b3f (zr.map (·.2)) po∧(∀z∈po,TxN 31 z)∧∀H',a0m H H'→Q (.bl true) H'
theorem b1J (ns:List Int):∃cs:List Int,a4j (ns.map V.int) (some 3) (some 43)=cs.map V.int∧cs.length≤40:=by
 unfold a4j
 refine ⟨(ns.drop (HT.sIx (ns.map V.int).length 0 (some 3))).take (HT.sIx (ns.map V.int).length (ns.map V.int).length (some 43) - HT.sIx (ns.map V.int).length 0 (some 3)),by rw [Jj,List.map_drop],?_⟩
 rw [Xh]
 refine Qs (Nat.min_le_left _ _) ?_
 rw [show (some (43:Int))=some ((43:Nat):Int) from rfl,show (some (3:Int))=some ((3:Nat):Int) from rfl,HT.sIx_nat,HT.sIx_nat]
 omega
theorem a9m {H:Hp}:∀{ys:List V},(∀(i:Nat) v,ys[i]?=some v→∃(x:Addr) (p:Str×Str),v=.ref x∧H x=some (.tup [.str p.1,.str p.2])∧Xu p.1=true∧Xu p.2=true)→∃pl:List (Str×Str),a2q H ys pl∧b7x pl
 | [],_=>⟨[],⟨[],rfl,rfl,fun i a p e=>(by cases e)⟩,fun c hc=>(by cases hc)⟩
 | y::ys,h=>by
  obtain ⟨cl,⟨as,e,hl,hat⟩,hc⟩:=a9m (ys:=ys) fun i v e=>h (i+1) v e
  obtain ⟨x,c,ey,hx,he⟩:=h 0 y rfl
  refine ⟨c::cl,⟨x::as,by rw [ey,e];rfl,by rw [Qm,Qm,hl],fun i a p e1 e2=>?_⟩,fun d hd=>?_⟩
  ·cases i with
   | zero=>cases e1;cases e2;exact hx
   | succ i=>exact hat i a p e1 e2
  ·rcases Qt.mp hd with z | z
   ·rw [z];exact he
   ·exact hc d z
theorem a2D {B:List Str} {z:Str}:z∈a2z B↔∃x∈B,z=x∨z="-"++x:=by
 unfold a2z;rw [Ys];simp only [Qt,Xj,or_false]
theorem b3e {z:Str} (h:NoD z):a1f z="-"++z:=by
 obtain ⟨c,r,rfl,hn⟩:=h
 rw [a6X,if_neg fun e=>hn (by rw [e];exact Qj)]
theorem b0F {z:Str} (h:NoD z):a1f ("-"++z)=z:=by
 obtain ⟨c,r,rfl,hn⟩:=h
 rw [show ("-":Str)=mk [45] by decide+kernel,a7J]
 show a1f (mk (45::c::r))=_
 rw [a6X,if_pos rfl,a4X _ ‹dc› (by simp only [Qm];omega)]
 rfl
theorem a2E:NoD "nowhere"∧TxN 30 "nowhere":=by
 rw [show (Qv "nowhere")=mk [110,111,119,104,101,114,101] by decide+kernel]
 exact ⟨⟨110,[111,119,104,101,114,101],rfl,by decide⟩,TxN.of (by simp) ‹dc› ‹dc›⟩
theorem b0E {pool:List Str}:∀z∈a2z pool,z∈a2z (pool++[Qv "nowhere"]):=fun z hz=>by
 obtain ⟨x,hx,e⟩:=a2D.mp hz
 exact a2D.mpr ⟨x,Xg _ hx,e⟩
theorem b2B {pool:List Str} (hpo:∀z∈pool,TxN 30 z):∀z∈a2z (pool++[Qv "nowhere"]),TxN 31 z:=fun z hz=>by
 obtain ⟨x,hx,e⟩:=a2D.mp hz
 have hx':TxN 30 x:=by
  rcases Qy.mp hx with m | m
  ·exact hpo x m
  ·rw [Qz.mp m];exact a2E.2
 rcases e with e | e
 ·rw [e];exact hx'.up ‹dc›
 ·rw [e];exact hx'.neg
theorem b3C {pool:List Str} {rs:List Rw} (hpo:∀z∈pool,TxN 30 z) (hnd:∀z∈pool,NoD z) (hl:pool.length≤9) (hr:∀r∈rs,RwE (a2z pool) r):b3f rs (a2z (pool++[Qv "nowhere"])):=by
 refine ⟨fun y hy=>⟨?_,Qs (b2B hpo y hy).len ‹dc›⟩,fun r h=>⟨b0E _ (hr r h).1,fun q hq=>b0E _ ((hr r h).2 q hq)⟩,?_⟩
 ·obtain ⟨x,hx,e⟩:=a2D.mp hy
  have hx':NoD x:=by
   rcases Qy.mp hx with m | m
   ·exact hnd x m
   ·rw [Qz.mp m];exact a2E.1
  rcases e with e | e
  ·rw [e,b3e hx'];exact a2D.mpr ⟨x,hx,.inr rfl⟩
  ·rw [e,b0F hx'];exact a2D.mpr ⟨x,hx,.inl rfl⟩
 ·have:∀l:List Str,(a2z l).length=2 * l.length:=fun l=>by
   unfold a2z
   induction l with
   | nil=>rfl
   | cons x l ih=>rw [Zm,Ql,ih];simp;omega
  rw [this,Ql,Xw];omega
def b0B (K:Qa):Sp:=fun vs H Q _=>∃(a:Addr) (ns:List Int),vs=[.ref a]∧SqL K H a (ns.map V.int)∧ns.length≤63∧∀H',Q (.bl true) H'
theorem a8q {K:Qa} {H:Hp} {a:Addr} {ns:List Int} (hl:ns.length≤63) (_:b0U H) (hS:SqL K H a (ns.map V.int)):b0B K [.ref a] H (fun v _=>v=.bl true) fun _ _ _=>False:=⟨a,ns,rfl,hS,hl,fun _=>rfl⟩
end K27
namespace K27
open PySem L2 Tx
local macro_rules
 | `(‹$n:num›)=>`(@pv _ $n _ _ (by rfl) (by first | exact b7z rfl | exact b8k rfl | exact b8L rfl) ‹dc› ‹dc›)
local macro_rules | `(tactic| trivial)=>`(tactic| first | exact Or.inl rfl | exact Or.inr rfl | assumption)
set_option hygiene false
local macro_rules
 | `(‹($x)›)=>`(‹$x›)
 | `(‹A0 $a $b›)=>`(@a9P _ _ _ _ _ ‹$a› ‹$b› (by rfl))
 | `(‹A1›)=>`(@b1t _)
 | `(‹A2›)=>`(@b1P _ _ _ _)
 | `(‹A3 $a $b $c›)=>`(@b3G _ _ _ _ _ _ _ _ $a ‹$b› ‹$c›)
 | `(‹A4 $a $b›)=>`(@a8F _ _ _ _ _ ‹$a› ‹$b›)
 | `(‹A5 $a›)=>`(@a9L _ _ _ ‹$a›)
 | `(‹A6 $a $b $c›)=>`(@b1K _ _ $a _ _ _ _ $b rfl (by trivial) ‹$c› (by rfl) (by trivial))
 | `(‹A7 $a $b $c $d $e›)=>`(@a9U _ _ _ _ _ _ _ _ _ _ _ _ _ _ _ _ $a (hr.mono ‹dc›) rfl $b $c $d .nil a8t ‹$e› ‹dc› (by rfl) (by rfl))
 | `(‹A8 $a $b $c›)=>`(@b3W _ _ _ _ _ _ _ $a ‹$b› ‹$c› (fun _ _=>rfl))
 | `(‹A9 $a›)=>`(@b0T _ _ _ _ ‹$a›)
 | `(‹B0›)=>`(@b3j _ _ _ _)
 | `(‹B1 $a›)=>`(@b0e _ _ _ _ ‹$a› (by rfl))
 | `(‹B2 $a $b›)=>`(@a9z _ _ $a _ $b rfl (by trivial) (by trivial))
 | `(‹B3 $a›)=>`(@b1a _ _ _ _ ‹$a›)
 | `(‹B4 $a $b $c $d $e $f›)=>`(@b3R _ _ _ _ _ _ _ _ _ _ _ _ $a $b $c $d ‹$e› ‹$f› (by rfl) (by rfl) (by rfl) (by rfl) (by rfl))
 | `(‹B5 $a $b $c $d›)=>`(@b0r _ _ _ _ _ _ _ _ $a ‹$b› ‹$c› $d)
 | `(‹B6 $a $b $c›)=>`(@b3L _ _ _ _ _ _ _ _ ‹$a› ‹$b› ‹$c›)
 | `(‹B7 $a $b $c $d›)=>`(@a6t _ _ _ _ _ _ _ _ _ $a rfl $b $c ‹$d› ‹dc› ‹dc› (by rfl) (by rfl))
 | `(‹B8 $a›)=>`(@b1L _ _ _ _ _ ‹$a› rfl)
 | `(‹B9 $a $b $c $d›)=>`(@a8G _ _ _ _ _ _ _ _ _ $a rfl $b $c ‹$d› ‹dc› ‹dc› (by rfl) (by rfl))
 | `(‹C0 $a $b $c›)=>`(@b2T _ _ _ _ _ _ _ _ PassesOwn.never rfl ‹$a› ‹$b› ‹$c› (by intro _;rfl))
 | `(‹C1›)=>`(@b0g _)
 | `(‹C2 $a›)=>`(@b0a _ _ _ ‹$a›)
 | `(‹C3 $a $b $c›)=>`(@a7Y _ _ _ _ _ _ _ _ _ _ b0W ‹$a› ‹$b› ‹$c›)
 | `(‹C4 $a›)=>`(@b0c _ _ _ _ ‹$a›)
 | `(‹C5›)=>`(@b0w _)
 | `(‹C6 $a $b›)=>`(@b1M _ _ _ _ _ _ _ _ ‹$a› ‹$b› rfl)
 | `(‹C7 $a›)=>`(@b2Y _ _ _ ‹$a› (by intro _;rfl))
 | `(‹C8›)=>`(@b3Y _ _ _ _)
 | `(‹C9 $a $b $c $d›)=>`(@b2L _ _ _ _ _ _ _ _ _ Xc $a $b $c ‹$d› (by rfl) (by rfl))
 | `(‹D0 $a $b $c $d $e $f $g›)=>`(@a5q _ _ _ _ _ _ _ _ _ _ _ _ _ $a _ _ _ ‹$b› rfl $c (fun _ _ _ _ _=>‹$d›) (fun _ _ _ _ _=>‹$e›) (fun _ _ _ _ _=>‹$f›) $g rfl (by trivial) rfl (by intro _;rfl) (by trivial))
 | `(‹D1 $a $b $c $d›)=>`(@a7z _ $a $b $c $d _ rfl rfl ‹dk›)
 | `(‹D2 $a›)=>`(@a6e _ _ _ _ _ _ rfl T.z_range ‹$a› (by rfl))
 | `(‹D3›)=>`(@a9E _)
 | `(‹D4 $a $b $c $d $e›)=>`(@b0y _ _ _ _ _ _ _ _ _ _ _ _ _ _ _ _ _ $a $b (hr.mono ‹dc›) rfl $c $d .nil a8t ‹$e› ‹dc› (by rfl) (by rfl))
 | `(‹D5›)=>`(@a7V _ _)
 | `(‹D6 $a $b›)=>`(@b0t _ _ _ _ _ ‹$a› ‹$b›)
 | `(‹D7 $a›)=>`(@PW.pt _ _ _ ‹$a›)
 | `(‹D8 $a $b›)=>`(@b3T _ _ _ _ _ _ _ ‹$a› ‹$b›)
 | `(‹D9 $a›)=>`(@b1V _ _ _ _ ‹$a›)
 | `(‹E0 $a $b $c›)=>`(@a8K _ _ _ _ _ _ _ _ _ ‹$a› ‹$b› ‹$c› ⟨rfl,rfl,rfl,rfl⟩)
 | `(‹E1 $a›)=>`(@b1z _ _ _ _ _ ‹$a›)
 | `(‹E2 $a›)=>`(@b2S _ _ _ _ ‹$a›)
 | `(‹E3 $a›)=>`(@b0S _ _ _ _ ‹$a›)
 | `(‹E4 $a $b $c›)=>`(@a9Z _ _ _ _ _ _ _ _ _ (a9N hr) ‹$a› ‹$b› ‹$c› rfl)
 | `(‹E5 $a $b›)=>`(@a8L _ _ _ _ _ _ PassesOwn.never ‹$a› ‹$b›)
 | `(‹E6 $a›)=>`(@a8n _ _ _ _ _ _ _ _ _ _ _ _ _ _ _ _ _ ‹$a› T.cl_Ground T.me_Ground_rules (ok_z0a T) (hr.mono ‹dc›) T.b_z0a .nil a8t (by rfl))
 | `(‹E7›)=>`(@a9y _ _ (.ty "list") _ _ rfl T.z_list a0Q rfl ‹dc› ‹dc›)
 | `(‹E8 $a $b›)=>`(@a9T _ _ _ _ _ _ _ _ (a1F hr.units) ‹$a› ‹$b› (a0K _))
 | `(‹E9›)=>`(@a8I _ _)
 | `(‹F0 $a $b $c›)=>`(@a8H _ _ _ _ _ _ _ _ ‹$a› ‹$b› ‹$c›)
 | `(‹F1 $a›)=>`(@b2j _ _ _ _ _ _ ‹$a› (by with_unfolding_all rfl))
 | `(‹F2 $a $b $c›)=>`(@a6Y _ _ _ _ _ $a ‹$b› ‹$c›)
 | `(‹F3 $a $b $c $d $e›)=>`(@a8c _ _ _ _ _ _ _ _ _ $a ‹$b› ‹$c› ‹$d› $e)
 | `(‹F4 $a $b›)=>`(@b2Q _ _ _ _ _ _ ‹$a› ‹$b› (by rfl) (by rfl) (by rfl))
 | `(‹F5 $a $b $c›)=>`(@b1W _ _ _ _ _ _ _ ‹$a› ‹$b› $c (by intro _;rfl))
 | `(‹F6 $a $b $c $d $e $f $g $h›)=>`(@a8s _ _ _ _ _ _ _ _ _ _ _ _ _ _ _ _ _ _ _ _ ‹$a› $b $c $d $e $f $g ‹$h› (by rfl) (by rfl) (by rfl))
 | `(‹F7 $a $b $c $d›)=>`(@a9A _ _ $a _ _ $b $c $d ‹dc›)
 | `(‹F8 $a $b›)=>`(@b2i _ _ _ _ _ _ _ ‹$a› ‹$b›)
 | `(‹F9 $a›)=>`(@a9Y _ _ _ _ ‹$a›)

section
variable {P:Program} {w:World} {K:Qa} {mg:Str→Option Value} {base:Heap} {t:Adr}
theorem b3d (T:Txt K mg t):a1r P w K mg base CX0 1 t.f_z0f t.fd_z0f ["self","rules","pairs"] (b3U t):=by
 refine T.F_z0f.ok a7f (fun vs H Q E h=>?_) (fun cdv A outer s H vs Q E hr h=>?_)
 ·obtain ⟨x,dx,b,pb,xs,rs,ps,pl,rfl,hx,hb,hA,hO,hrl,hpb,hPr,hpll,q⟩:=h;rfl
 ·obtain ⟨x,dx,b,pb,xs,rs,ps,pl,rfl,hx,hb,hA,hO,hrl,hpb,hPr,hpll,q⟩:=h
  refine ⟨_,‹A4 (C6 0 (B7 a2F T.z_tuple a2a (A0 1 A1))) (A4 (C6 0 D5) (A4 (C0 (E3 (B8 0)) (B2 3 a7f.nd) (A5 (B1 (B4 Xc Xn Xo a0t (E0 (B8 0) (B8 3) (B3 A1)) (A0 3 A1))))) (A4 (C6 0 E9) (A5 (C0 (C4 2) (B2 4 a7f.nd) (A5 (E4 (B8 0) (E1 (A0 (A8 a0l 4 A2) (A0 (A8 a0l 4 A2) A1))) C8)))))))›,?_⟩
  rw [show start b0N [V.ref x,V.ref b,V.ref pb]=[some (V.ref x),some (V.ref b),some (V.ref pb),none,none] from rfl]
  have hxl:=hA.len
  simp only [a1y,b3r,tCB,a0n,a0C,Qd,Qb,a0P,a3J,a0J,b3w,a7Q,a0f]
  refine ⟨b,xs,rfl,.inl ⟨SqL.of hb,fun io hio=>?_⟩⟩
  obtain ⟨H1,e1,s1,h1⟩:=a0T hio (.tup xs);rw [e1]
  have hiox:io≠x:=fun z=>by rw [z,hx] at hio;cases hio
  refine ⟨x,t.C_Ground,dx,_,rfl,s1 _ _ hx,T.cl_Ground,T.nf_Ground_in_order,by show 0 < 1000;decide,?_⟩
  obtain ⟨H2,e2,k2,h2x,h2io⟩:∃H',upd H1 x (.ins t.C_Ground dx (a0O "in_order" (.ref io) []))=H'∧(∀c o,H c=some o→c≠x→H' c=some o)∧H' x=some (.ins t.C_Ground dx (a0O "in_order" (.ref io) []))∧H' io=some (.tup xs):=⟨_,rfl,fun c o e hc=>by rw [a0a hc];exact s1 _ _ e,a0d,by rw [a0a hiox];exact h1⟩
  rw [e2]
  intro bh hbh
  obtain ⟨H3,e3,s3,h3⟩:=a0T hbh (.dK []);rw [e3]
  have hbhx:bh≠x:=fun z=>by rw [z,h2x] at hbh;cases hbh
  have hbhn:H bh=none:=by
   cases e:H bh with
   | none=>rfl
   | some o=>rw [k2 _ _ e hbhx] at hbh;cases hbh
  refine ⟨x,t.C_Ground,dx,_,rfl,s3 _ _ h2x,T.cl_Ground,T.nf_Ground_by_head,by show 1 < 1000;decide,?_⟩
  have e2f:a0O "by_head" (V.ref bh) (a0O "in_order" (V.ref io) [])=([("in_order",V.ref io),("by_head",V.ref bh)]:List (Str×V)):=by
   show (if ("in_order":Str)="by_head" then _ else _)=_
   rw [if_neg ‹dk›];rfl
  obtain ⟨H4,e4,k4,h4x,h4io,h4bh⟩:∃H',upd H3 x (.ins t.C_Ground dx (a0O "by_head" (.ref bh) (a0O "in_order" (.ref io) [])))=H'∧(∀c o,H c=some o→c≠x→H' c=some o)∧H' x=some (.ins t.C_Ground dx (a0O "by_head" (.ref bh) (a0O "in_order" (.ref io) [])))∧H' io=some (.tup xs)∧H' bh=some (.dK []):=
   ⟨_,rfl,fun c o e hc=>by rw [a0a hc];exact s3 _ _ (k2 c o e hc),a0d,by rw [a0a hiox];exact s3 _ _ h2io,by rw [a0a hbhx];exact h3⟩
  rw [e4]
  have lio:(a0O "by_head" (V.ref bh) (a0O "in_order" (V.ref io) [])).lookup ("in_order":Str)=some (V.ref io):=by rw [a0h,if_neg ‹dk›,a0h,if_pos rfl]
  have lbh:(a0O "by_head" (V.ref bh) (a0O "in_order" (V.ref io) [])).lookup ("by_head":Str)=some (V.ref bh):=by rw [a0h,if_pos rfl]
  refine ⟨x,_,dx,_,_,rfl,h4x,T.cl_Ground,T.nf_Ground_in_order,lio,?_⟩
  simp only [a1w]
  refine ⟨⟨_,SqT.of h4io⟩,?_⟩
  refine a5U (K:=K) (a:=io) (xs:=xs) (fun i σ H'=>∃(kvs:List (Key×V)) (y3:Option V),σ=[some (V.ref x),some (V.ref b),some (V.ref pb),y3,none]∧(∀c o,H c=some o→c≠x→H' c=some o)∧H' x=some (.ins t.C_Ground dx (a0O "by_head" (.ref bh) (a0O "in_order" (.ref io) [])))∧H' io=some (.tup xs)∧H' bh=some (.dK kvs)∧kvs.length≤i∧
    (∀h:Str,(a0E kvs (Sum.inr h:Key)=none∧hdF (rs.take i) h=[])∨∃L ys,a0E kvs (Sum.inr h:Key)=some (.ref L)∧H L=none∧H' L=some (.lst ys)∧ys.length≤i∧a1v t H ys (hdF (rs.take i) h))∧
    (∀(h h':Str) (L:Addr),a0E kvs (Sum.inr h:Key)=some (.ref L)→a0E kvs (Sum.inr h':Key)=some (.ref L)→h=h'))
   ⟨[],_,rfl,k4,h4x,h4io,h4bh,Qg _,fun h=>.inl ⟨rfl,rfl⟩,fun h h' L e=>by cases e⟩ (fun i σ H' _ h=>by obtain ⟨_,_,_,_,_,h,_⟩:=h;exact SqT.of h) ?_ ?_
  ·rintro i v σ H5 hi ⟨kvs,y3,rfl,k5,h5x,h5io,h5bh,hkl,hF,hinj⟩
   have hil:i < rs.length:=by rw [←hA.len];exact (Xa.mp hi).1
   obtain ⟨v',ev,p,rfl,hp⟩:=hA.get i rs[i] (Qf hil)
   rw [hi] at ev;cases ev
   have hro:=hO _ (Xi hil)
   have CF:=b2H T hro.1
   have hru:b0L t H (.ref p) rs[i]:=⟨p,rfl,hp⟩
   have esn:∀h,hdF (rs.take (i+1)) h=hdF (rs.take i) h++(if rs[i].2.2.1=h then [rs[i]] else []):=fun h=>by
    unfold hdF
    rw [Xd hil,Zy,Zf]
    by_cases z:rs[i].2.2.1=h
    ·rw [if_pos z,if_pos (decide_eq_true z)];rfl
    ·rw [if_neg z,if_neg (by simpa using z)];rfl
   generalize rs[i]=r at hp hro CF hru esn
   obtain ⟨dx',t0,hp1,hp2⟩:=hp
   have hpx:p≠x:=fun z=>by
    rw [z,hx] at hp1
    injection hp1 with hp1
    injection hp1 with _ _ h3
    have:=a0I (.str r.2.1) (.str r.2.2.1) t0
    rw [←h3] at this;cases this
   have hp5:=k5 _ _ hp1 hpx
   simp only [a0u,a1u,tBM,a4v,a7Q,a0C,Qn,Qo,Qb,Qd,a3T,a0P,a0n,a0f]
   refine ⟨x,_,dx,_,_,rfl,h5x,T.cl_Ground,T.nf_Ground_by_head,lbh,?_⟩
   simp only [a1w]
   refine ⟨a4I h5bh,p,_,dx',_,_,rfl,hp5,CF.cl,CF.nh,a0I _ _ _,by decide,fun N hN=>?_⟩
   obtain ⟨H6,e6,s6,h6⟩:=a0T hN (.lst []);rw [e6]
   have hNx:N≠x:=fun z=>by rw [z,h5x] at hN;cases hN
   have hNio:N≠io:=fun z=>by rw [z,h5io] at hN;cases hN
   have hNbh:N≠bh:=fun z=>by rw [z,h5bh] at hN;cases hN
   have hNn:H N=none:=by
    cases e:H N with
    | none=>rfl
    | some o=>rw [k5 _ _ e hNx] at hN;cases hN
   refine ⟨kvs,Sum.inr r.2.2.1,s6 _ _ h5bh,rfl,Xq (show kvs.length≤1000 by omega) ‹dc›,fun u hu=>?_,fun hu=>?_⟩
   ·rcases hF r.2.2.1 with ⟨e,_⟩ | ⟨L,ys,e,hLn,hL5,hyl,hR⟩
    ·rw [e] at hu;cases hu
    rw [e] at hu;cases hu
    have hL6:=s6 _ _ hL5
    have hLx:L≠x:=a0G hL5 h5x ‹iz›
    have hLio:L≠io:=a0G hL5 h5io ‹iz›
    have hLbh:L≠bh:=a0G hL5 h5bh ‹iz›
    try skip
    refine ⟨.inl ⟨rfl,_,SqL.of hL6⟩,L,_,_,rfl,rfl,hL6,Xq (show ys.length≤1000 by omega) ‹dc›,?_⟩
    refine ⟨kvs,_,rfl,fun c o e hc=>?_,?_,?_,?_,by omega,fun h=>?_,hinj⟩
    ·rw [a0a (a0b e hLn)];exact s6 _ _ (k5 c o e hc)
    ·rw [a0a hLx.symm];exact s6 _ _ h5x
    ·rw [a0a hLio.symm];exact s6 _ _ h5io
    ·rw [a0a hLbh.symm];exact s6 _ _ h5bh
    ·rw [esn]
     by_cases z:r.2.2.1=h
     ·subst z
      rw [if_pos rfl]
      refine .inr ⟨L,ys++[V.ref p],e,hLn,a0d,by simp;omega,?_⟩
      refine ⟨by simp [hR.len],fun j r' ej=>?_⟩
      by_cases hj:j < (hdF (rs.take i) r.2.2.1).length
      ·rw [Zu hj] at ej
       rw [Zu (by rw [hR.len];exact hj)]
       exact hR.get j r' ej
      ·rw [Zs ‹om›] at ej
       rw [Zs (by rw [hR.len];omega),hR.len]
       have hj0:=(Xa.mp ej).1
       have ej0:j - (hdF (rs.take i) r.2.2.1).length=0:=by simp at hj0;omega
       rw [ej0] at ej ⊢
       cases ej
       exact ⟨_,rfl,hru⟩
     ·rw [if_neg z,Qi]
      rcases hF h with ⟨e',g⟩ | ⟨L',ys',e',g1,g2,g3,g4⟩
      ·exact .inl ⟨e',g⟩
      ·refine .inr ⟨L',ys',e',g1,?_,by omega,g4⟩
       have:L'≠L:=fun w=>z (hinj _ _ L e (by rw [←w];exact e'))
       rw [a0a this];exact s6 _ _ g2
   ·try skip
    have hbN:bh≠N:=hNbh.symm
    refine ⟨.inl ⟨rfl,_,SqL.of (show upd H6 bh (.dK (a1J kvs (Sum.inr r.2.2.1) (V.ref N))) N=some (.lst []) by rw [a0a hNbh];exact h6)⟩,N,_,_,rfl,rfl,(by rw [a0a hNbh];exact h6),by decide,?_⟩
    have kvl:=a0x kvs (Sum.inr r.2.2.1:Key) (V.ref N)
    refine ⟨a1J kvs (Sum.inr r.2.2.1) (V.ref N),_,rfl,fun c o e hc=>?_,?_,?_,?_,by omega,fun h=>?_,fun h h' L e1 e2=>?_⟩
    ·rw [a0a (a0b e hNn),a0a (a0b e hbhn)];exact s6 _ _ (k5 c o e hc)
    ·rw [a0a hNx.symm,a0a hbhx.symm];exact s6 _ _ h5x
    ·rw [a0a hNio.symm,a0a (a0G h5io h5bh ‹iz›)];exact s6 _ _ h5io
    ·rw [a0a hbN,a0d]
    ·rw [esn,a1g]
     by_cases z:r.2.2.1=h
     ·subst z
      rw [if_pos rfl,if_pos rfl]
      rcases hF r.2.2.1 with ⟨e',g⟩ | ⟨L',ys',e',_⟩
      ·rw [g]
       refine .inr ⟨N,[V.ref p],rfl,hNn,a0d,by simp,⟨rfl,fun j r' ej=>?_⟩⟩
       cases j with
       | zero=>cases ej;exact ⟨_,rfl,hru⟩
       | succ j=>simp at ej
      ·rw [e'] at hu;cases hu
     ·rw [if_neg z,Qi,if_neg (fun w=>z (Sum.inr.inj w).symm)]
      rcases hF h with ⟨e',g⟩ | ⟨L',ys',e',g1,g2,g3,g4⟩
      ·exact .inl ⟨e',g⟩
      ·refine .inr ⟨L',ys',e',g1,?_,by omega,g4⟩
       have hLN:L'≠N:=fun w=>by rw [w,hN] at g2;cases g2
       rw [a0a hLN,a0a (a0G g2 h5bh ‹iz›)];exact s6 _ _ g2
    ·rw [a1g] at e1 e2
     by_cases z1:(Sum.inr h:Key)=Sum.inr r.2.2.1
     ·by_cases z2:(Sum.inr h':Key)=Sum.inr r.2.2.1
      ·rw [Sum.inr.inj z1,Sum.inr.inj z2]
      ·rw [if_pos z1] at e1;cases e1
       rw [if_neg z2] at e2
       rcases hF h' with ⟨e',_⟩ | ⟨L',ys',e',_,g2,_⟩
       ·rw [e'] at e2;cases e2
       ·rw [e'] at e2;cases e2;rw [hN] at g2;cases g2
     ·rw [if_neg z1] at e1
      by_cases z2:(Sum.inr h':Key)=Sum.inr r.2.2.1
      ·rw [if_pos z2] at e2;cases e2
       rcases hF h with ⟨e',_⟩ | ⟨L',ys',e',_,g2,_⟩
       ·rw [e'] at e1;cases e1
       ·rw [e'] at e1;cases e1;rw [hN] at g2;cases g2
      ·rw [if_neg z2] at e2
       exact hinj _ _ L e1 e2
  rintro σ H5 ⟨kvs,y3,rfl,k5,h5x,h5io,h5bh,hkl,hF,hinj⟩
  rw [show rs.take xs.length=rs by rw [hxl];exact Yn] at hF
  simp only [a1y,b3r,a0C,Qb,a0J,a2A,Qd,a0f,a1w]
  intro pr hpr
  obtain ⟨H6,e6,s6,h6⟩:=a0T hpr (.dT []);rw [e6]
  have hprx:pr≠x:=fun z=>by rw [z,h5x] at hpr;cases hpr
  have hprn:H pr=none:=by
   cases e:H pr with
   | none=>rfl
   | some o=>rw [k5 _ _ e hprx] at hpr;cases hpr
  refine ⟨x,t.C_Ground,dx,_,rfl,s6 _ _ h5x,T.cl_Ground,T.nf_Ground_pairs,by rw [e2f];show 2 < 1000;decide,?_⟩
  rw [show a0O "pairs" (V.ref pr) (a0O "by_head" (V.ref bh) (a0O "in_order" (V.ref io) []))=gfl io bh pr from rfl]
  obtain ⟨as,eas,hal,hat⟩:=hPr
  have hiopr:io≠pr:=fun z=>by rw [z,hpr] at h5io;cases h5io
  have hbhpr:bh≠pr:=fun z=>by rw [z,hpr] at h5bh;cases h5bh
  have base:∀H',(∀c o,upd H6 x (.ins t.C_Ground dx (gfl io bh pr)) c=some o→c≠pr→H' c=some o)→(∀c o,H c=some o→c≠x→H' c=some o)∧(∀kps,H' pr=some (.dT kps)→b3S kps pl→b3m t H' x rs pl):=fun H' kk=>by
   have k7:∀c o,H c=some o→c≠x→H' c=some o:=fun c o e hc=>kk c o (by rw [a0a hc];exact s6 _ _ (k5 c o e hc)) (a0b e hprn)
   refine ⟨k7,fun kps hk hp=>⟨dx,io,bh,pr,xs,kvs,kps,kk _ _ a0d hprx.symm,kk _ _ (by rw [a0a hiox];exact s6 _ _ h5io) hiopr,hA.refs hx k7,kk _ _ (by rw [a0a hbhx];exact s6 _ _ h5bh) hbhpr,fun h=>?_,hk,hp⟩⟩
   rcases hF h with z | ⟨L,ys,e,_,g2,_,g4⟩
   ·exact .inl z
   ·exact .inr ⟨L,ys,e,kk _ _ (by rw [a0a (a0G g2 h5x ‹iz›)];exact s6 _ _ g2) (fun z=>by rw [z,hpr] at g2;cases g2),g4.refs hx k7⟩
  have hpb7:upd H6 x (.ins t.C_Ground dx (gfl io bh pr)) pb=some (.lst ps):=by
   have hpx:=a0G hpb hx ‹iz›
   rw [a0a hpx];exact s6 _ _ (k5 _ _ hpb hpx)
  have hpr7:upd H6 x (.ins t.C_Ground dx (gfl io bh pr)) pr=some (.dT []):=by rw [a0a hprx];exact h6
  have hx7:upd H6 x (.ins t.C_Ground dx (gfl io bh pr)) x=some (.ins t.C_Ground dx (gfl io bh pr)):=a0d
  have hpbpr:pb≠pr:=a0b hpb hprn
  obtain ⟨H7,e7⟩:∃H7,upd H6 x (.ins t.C_Ground dx (gfl io bh pr))=H7:=⟨_,rfl⟩
  rw [e7] at base hpb7 hpr7 hx7 ⊢
  refine ⟨⟨_,SqL.of hpb7⟩,?_⟩
  refine a0X (K:=K) (a:=pb) (xs:=ps) (fun i σ H'=>∃(kps:List (List Key×V)) (y4:Option V),σ=[some (V.ref x),some (V.ref b),some (V.ref pb),y3,y4]∧(∀c o,H7 c=some o→c≠pr→H' c=some o)∧H' pr=some (.dT kps)∧kps.length≤i∧b3S kps (pl.take i))
   ⟨[],_,rfl,fun c o e _=>e,hpr7,Qg _,fun a b=>by rw [List.take_zero,if_neg (by simp)];rfl⟩ (fun i σ H' _ h=>by obtain ⟨_,_,_,kk,_⟩:=h;exact SqL.of (kk _ _ hpb7 hpbpr)) ?_ ?_
  ·rintro i v σ H8 hi ⟨kps,y4,rfl,kk,h8,hkl8,hpo⟩
   have hil:i < as.length:=by
    have:=(Xa.mp hi).1
    rw [eas,Qc] at this;exact this
   have hil':i < pl.length:=by omega
   have ev:v=V.ref as[i]:=by
    rw [eas,Xr,Qf hil] at hi
    exact (Option.some.inj hi).symm
   subst ev
   have hp:=hat i _ _ (Qf hil) (Qf hil')
   have hp8:=(base H8 kk).1 _ _ hp (a0G hp hx ‹iz›)
   have hx8:=kk _ _ hx7 hprx.symm
   rw [Xd hil']
   generalize pl[i]=pp at hp hp8
   generalize pl.take i=pt at hpo
   simp only [a0u,a9M,tC,a7Q,a0C,Qn,Qo,Qb,b3s,a0n,tOp,Qd,a0P,a0f]
   refine ⟨x,_,dx,_,_,rfl,hx8,T.cl_Ground,T.nf_Ground_pairs,b1O _ _ _,?_⟩
   refine a5Q (SqT.of hp8) rfl (a5Q (SqT.of hp8) rfl ⟨by simp only [Qm,Xf];decide,fun c hc=>?_⟩)
   obtain ⟨H9,e9,s9,h9⟩:=a0T hc (.tup [V.str pp.1,V.str pp.2]);rw [e9]
   refine ⟨pr,_,rfl,a8w.t (k:=[Sum.inr pp.1,Sum.inr pp.2]) (s9 _ _ h8) h9 (Xq (show kps.length≤1000 by omega) ‹dc›),a1J kps [Sum.inr pp.1,Sum.inr pp.2] (V.bl true),_,rfl,?_,a0d,by have:=a0x kps ([Sum.inr pp.1,Sum.inr pp.2]:List Key) (V.bl true);omega,fun a b=>?_⟩
   ·intro d o e hd;rw [a0a hd];exact s9 _ _ (kk d o e hd)
   ·rw [a1g,hpo]
    by_cases z:(a,b)=pp
    ·rw [if_pos (by rw [←z]),if_pos (by rw [←z];simp)]
    ·rw [if_neg (fun w=>z (by
      have w1:=congrArg (fun l:List Key=>l.head?) w
      have w2:=congrArg (fun l:List Key=>l.getLast?) w
      simp at w1 w2
      exact Prod.ext w1 w2))]
     by_cases y:(a,b)∈pt
     ·rw [if_pos y,if_pos (Xg _ y)]
     ·rw [if_neg y,if_neg (by simp [y,z])]
  ·rintro σ H8 ⟨kps,y4,rfl,kk,h8,hkl8,hpo⟩
   rw [show pl.take ps.length=pl by rw [eas,Qc,hal,Yn]] at hpo
   simp only []
   obtain ⟨b1,b2⟩:=base H8 kk
   exact q _ b1 (b2 kps h8 hpo)
theorem a3n (T:Txt K mg t):a1r P w K mg base CX0 1 t.f_z0s t.fd_z0s ["_law_script","_law_k"] (b2g K):=by
 refine T.F_z0s.ok b2a (fun vs H Q E h=>?_) (fun cdv A outer s H vs Q E hr h=>?_)
 ·obtain ⟨a,ns,k,rfl,hS,hl,k0,k1,q⟩:=h;rfl
 ·obtain ⟨a,ns,k,rfl,hS,hl,k0,k1,q⟩:=h
  refine ⟨_,‹A4 (B6 (B5 a8S 1 (B9 a1e T.z_len a1d (A0 0 A1)) (a0K _)) (A5 (A9 (A8 a0l 0 1))) C1) (A5 (A9 A2))›,?_⟩
  rw [show start b1u [V.ref a,V.int k]=[some (V.ref a),some (V.int k)] from rfl]
  simp only [a1y,a4o,a1G,tOp,a0C,Qd,Qb,tCB,a0n,a0P,a1R,a0f,a1O,tC]
  refine a1a hS ?_
  simp only [a4S,a4d,decide_eq_true_eq]
  refine a4y (fun c=>?_) (fun c=>q 0)
  obtain ⟨v,e,hv,_⟩:=a2C (xs:=ns.map V.int) (i:=k) k0 (by simpa using c)
  obtain ⟨i,_,rfl⟩:=Xm.mp hv
  exact a0D hS e (q i)
theorem a9j (T:Txt K mg t):a1r P w K mg base CX0 1 t.f_z13 t.fd_z13 ["_law_pool_here","_law_number"] a9F:=by
 refine T.F_z13.ok a9c (fun vs H Q E h=>?_) (fun cdv A outer s H vs Q E hr h=>?_)
 ·obtain ⟨P0,n,pl,rfl,hP,hp1,hp7,hpo,q⟩:=h;rfl
 ·obtain ⟨P0,n,pl,rfl,hP,hp1,hp7,hpo,q⟩:=h
  refine ⟨_,‹A4 (A6 2 a9c.nd (A8 a0l 0 (A3 a0F (A3 a2k 1 A2) (B9 a1e T.z_len a1d (A0 0 A1))))) (A4 (B6 (B5 (a1F hr.units) (A3 a0F 1 A2) A2 (a0K _)) (A5 (A9 (A3 a0g B0 2))) C1) (A5 (A9 2)))›,?_⟩
  rw [show start b1x [V.ref P0,V.int n]=[some (V.ref P0),some (V.int n),none] from rfl]
  simp only [a1y,a2y,tOp,a0C,Qb,Qd,tC,tCB,a0n,a0P,a0u,a4o,a1G,Qn,Qo,a1R,a0f,a1O,a1c,a1q,a4d,decide_eq_true_eq,b0K]
  refine ⟨⟨by decide,by decide⟩,a1a (SqL.of hP) ?_⟩
  rw [Qc]
  simp only [a1c]
  have m1:=a0U (i:=n / 3) (j:=(pl.length:Int)) ‹om›
  obtain ⟨v,e,hv,_⟩:=a2C (xs:=pl.map V.str) (i:=n / 3 % (pl.length:Int)) m1.1 (by rw [Qc];exact m1.2)
  obtain ⟨z,hz,rfl⟩:=Xm.mp hv
  have hzo:=hpo z hz
  have hzl:=hzo.len
  refine ⟨by omega,a0D (SqL.of hP) e ⟨by decide,a4y (fun _=>?_) (fun _=>q z (hzo.up ‹dc›) (b1Z hz))⟩⟩
  rw [a1b]
  exact ⟨Qs (Vf (show (Qv "-").length≤1 by decide+kernel) hzl) ‹dc›,q _ hzo.neg (b2t hz)⟩
theorem a9r (T:Txt K mg t):a1r P w K mg base CX0 1 t.f_z0t t.fd_z0t ["_law_text"] a6a:=by
 refine T.F_z0t.ok b2c (fun vs H Q E h=>?_) (fun cdv A outer s H vs Q E hr h=>?_)
 ·obtain ⟨n,z,rfl,hz,hn,q⟩:=h;rfl
 ·obtain ⟨n,z,rfl,hz,hn,q⟩:=h
  refine ⟨_,‹A4 (B6 (B5 (a1F hr.units) (A8 a0l 0 A2) B0 (a0K _)) (A5 (A9 (C3 0 (C2 A2) C5))) C1) (A5 (A9 (A3 a0g B0 0)))›,?_⟩
  rw [show start b2V [V.str z]=[some (V.str z)] from rfl]
  have hlen:=hz.len
  obtain ⟨c,r,rfl,h1,h2⟩:=hz
  rw [a6X] at q
  simp only [a1y,a4o,a1G,tOp,a0C,Qb,tC,a1R,tSl,a3S,a1x,a4m,a0f,a4C,a1O,a1b,a4i,a4F,a4d,decide_eq_true_eq]
  refine ⟨a1E ‹om›,c,a2m c r,a4y (fun e=>?_) (fun e=>?_)⟩
  ·rw [if_pos (by
    rw [show (Qv "-")=mk [45] by decide+kernel] at e
    have:=congrArg (fun z:Str=>z.cps.toList) e
    exact (List.cons.inj this).1)] at q
   exact ⟨a1E ‹om›,q⟩
  ·rw [if_neg (fun z=>e (by rw [z,show (Qv "-")=mk [45] by decide+kernel]))] at q
   exact ⟨Qs (Vf (show (Qv "-").length≤1 by decide+kernel) hlen) (Qs (show 1+n≤1000 by omega) ‹dc›),q⟩
theorem b1B (T:Txt K mg t):a1r P w K mg base CX0 2 t.f_z15 t.fd_z15 ["_law_rules","_law_some"] (a6D t stA):=by
 refine T.F_z15.ok a4R (fun vs H Q E h=>?_) (fun cdv A outer s H vs Q E hr h=>?_)
 ·obtain ⟨R,a,zr,S,rfl,hR,ha,hSl,hSt,q⟩:=h;rfl
 ·obtain ⟨R,a,zr,S,rfl,hR,ha,hSl,hSt,q⟩:=h
  refine ⟨_,‹A4 (A6 2 a4R.nd (B3 A1)) (A4 (C0 (C4 1) (B2 3 a4R.nd) (A4 (B1 (B4 Xc Xn Xo a0t 2 (A0 (A7 (a9r T) T.g_z0t T.F_z0t.kp T.b_z0t (A0 3 A1)) A1))) (A5 (C0 (C4 0) (B2 4 a4R.nd) (A5 (B6 (B5 b1D 3 (B8 4) (by with_unfolding_all rfl)) (A5 (B1 (B4 Xc Xn Xo a0t 2 (A0 (B8 4) A1)))) C1)))))) (A5 (A9 2)))›,?_⟩
  rw [show start b2P [V.ref R,V.ref a]=[some (V.ref R),some (V.ref a),none,none,none] from rfl]
  simp only [a1y,a2y,a3T,a0P,a0u,Qn,Qo,a0J,a2A,a0C,Qd,Qb,a0f,a1w]
  refine ⟨Xl _,fun D hD=>?_⟩
  obtain ⟨H1,e1,s1,g1⟩:=a0T hD (.lst []);rw [e1]
  have hT:=hR.1
  have hO:∀r∈zr.map (·.2),a4f r:=fun r hr=>by
   obtain ⟨p,hp,rfl⟩:=Xm.mp hr
   exact (hR.2.2.2 p hp).1
  have hzl:(zr.map (·.2)).length≤40:=by rw [Qc];exact hR.2.2.1
  have big:∀n:Nat,n≤10000→n < sizeLine:=fun n h=>Xq h ‹dc›
  have hst:∀x,(stA (zr.map (·.2)) x).length≤160:=fun x=>by have:=a4e (zr.map (·.2)) x;omega
  refine ⟨⟨_,SqL.of (s1 _ _ ha)⟩,?_⟩
  refine a0X (K:=K) (a:=a) (xs:=S.map V.str) (fun j σ H'=>∃(x3 x4:Option V),σ=[some (V.ref R),some (V.ref a),some (V.ref D),x3,x4]∧a0m H H'∧H' D=some (.lst ((a5w (stA (zr.map (·.2))) (S.take j)).map V.str)))
   ⟨_,_,rfl,s1,g1⟩ (fun i σ H' _ ⟨_,_,_,s',_⟩=>SqL.of (s' _ _ ha)) ?_ ?_
  ·rintro j x σ H2 hj ⟨x3,x4,rfl,s2,hD2⟩
   obtain ⟨hj',rfl⟩:=a3R hj
   have hzt:=hSt _ (Xi hj')
   have hll:=a1S hst (S.take j)
   rw [Xh] at hll
   rw [Xd hj',a3F]
   generalize S[j]=z at hzt ⊢
   generalize a5w (stA (zr.map (·.2))) (S.take j)=L0 at hD2 hll ⊢
   simp only [a0u,a1y,a1u,tBM,a0C,Qn,Qo,Qd,Qb,a0n,a0M,a0P,Qi,a0J,a2A,a0f,a1w]
   refine ⟨.inl ⟨rfl,_,SqL.of hD2⟩,31,z,rfl,hzt,by decide,D,_,_,rfl,rfl,hD2,big _ (by rw [Qc];omega),?_⟩
   have hD3:upd H2 D (.lst (L0.map V.str++[V.str (a1f z)])) D=some (.lst ((L0++[a1f z]).map V.str)):=by rw [a0d,Xk];rfl
   have s3:a0m H (upd H2 D (.lst (L0.map V.str++[V.str (a1f z)]))):=fun b o e=>by rw [a0a (a0b e hD)];exact s2 _ _ e
   refine ⟨⟨_,SqL.of (s3 _ _ hT)⟩,?_⟩
   refine a0X (K:=K) (a:=R) (xs:=zr.map (·.1)) (fun i σ H'=>∃(x4:Option V),σ=[some (V.ref R),some (V.ref a),some (V.ref D),some (V.str z),x4]∧a0m H H'∧H' D=some (.lst ((L0++[a1f z]++stA ((zr.map (·.2)).take i) z).map V.str)))
    ⟨_,rfl,s3,by rw [hD3];simp [stA,hdF]⟩ (fun i σ H' _ ⟨_,_,s',_⟩=>SqL.of (s' _ _ hT)) ?_ ?_
   ·rintro i x σ H4 hi ⟨y4,rfl,s4,hD4⟩
    obtain ⟨hi',rfl⟩:=a3R hi
    obtain ⟨⟨x,ex,hx⟩,ho⟩:=(hR.same s4).2.1 _ (Xi hi')
    have him:i < (zr.map (·.2)).length:=by rw [Qc];exact hi'
    have hls:=a4e ((zr.map (·.2)).take i) z
    rw [Xh] at hls
    rw [Xd him,Zh,a8d,←Yq (L0++[a1f z]),ex]
    generalize zr[i].2=r at hx ho ⊢
    generalize stA ((zr.map (·.2)).take i) z=L1 at hD4 hls ⊢
    have hl4:(L0++[a1f z]++L1).length≤4000:=by simp only [Ql,Xw];omega
    generalize L0++[a1f z]++L1=L2' at hD4 hl4 ⊢
    have CF:=b2H T ho.1
    have hbl:=ho.2.2.2.2.2
    obtain ⟨dx,t0,g1,g2⟩:=id hx
    simp only [a0u,a4o,a1G,tOp,a0C,Qn,Qo,Qd,Qb,a7Q,a1u,tBM,a0n,a0P,a0f,a1O]
    refine ⟨x,_,dx,_,_,rfl,g1,CF.cl,CF.nb,a1n _ _ _,?_⟩
    refine b0A (SqT.of g2) ?_
    simp only [a4d,decide_eq_true_eq]
    refine a4y (fun c=>?_) (fun c=>?_)
    ·rw [if_pos c]
     refine ⟨.inl ⟨rfl,_,SqL.of hD4⟩,x,_,dx,_,_,rfl,g1,CF.cl,CF.nh,a0I _ _ _,D,_,_,rfl,rfl,hD4,big _ (by rw [Qc];omega),_,rfl,fun b o e=>?_,?_⟩
     ·rw [a0a (a0b e hD)];exact s4 _ _ e
     ·rw [a0d,Xk];rfl
    ·rw [if_neg c,Qi]
     exact ⟨_,rfl,s4,hD4⟩
   ·rintro σ H4 ⟨y4,rfl,s4,hD4⟩
    rw [Qc,show (zr.map (·.2)).take zr.length=zr.map (·.2) by rw [←Qc (f:=(·.2)) (as:=zr)];exact Yn] at hD4
    exact ⟨_,_,rfl,s4,hD4⟩
  ·rintro σ H2 ⟨x3,x4,rfl,s2,hD2⟩
   rw [Qc,Yn] at hD2
   simp only [a1R,a0C,Qd,Qb,a0f]
   exact q D H2 s2 hD hD2
theorem b2h (T:Txt K mg t):a1r P w K mg base CX0 2 t.f_z14 t.fd_z14 ["_law_rules","_law_some"] (a6D t stB):=by
 refine T.F_z14.ok a4s (fun vs H Q E h=>?_) (fun cdv A outer s H vs Q E hr h=>?_)
 ·obtain ⟨R,a,zr,S,rfl,hR,ha,hSl,hSt,q⟩:=h;rfl
 ·obtain ⟨R,a,zr,S,rfl,hR,ha,hSl,hSt,q⟩:=h
  refine ⟨_,‹A4 (A6 2 a4s.nd (B3 A1)) (A4 (C0 (C4 1) (B2 3 a4s.nd) (A4 (B1 (B4 Xc Xn Xo a0t 2 (A0 (A7 (a9r T) T.g_z0t T.F_z0t.kp T.b_z0t (A0 3 A1)) A1))) (A5 (C0 (C4 0) (B2 4 a4s.nd) (A5 (B6 (B5 (a1F hr.units) (B8 4) 3 (a0K _)) (A5 (B1 (B4 Xc Zz Ja a7p 2 (A0 (B8 4) A1)))) C1)))))) (A5 (A9 2)))›,?_⟩
  rw [show start b1q [V.ref R,V.ref a]=[some (V.ref R),some (V.ref a),none,none,none] from rfl]
  simp only [a1y,a2y,a3T,a0P,a0u,Qn,Qo,a0J,a2A,a0C,Qd,Qb,a0f,a1w]
  refine ⟨Xl _,fun D hD=>?_⟩
  obtain ⟨H1,e1,s1,g1⟩:=a0T hD (.lst []);rw [e1]
  have hT:=hR.1
  have hO:∀r∈zr.map (·.2),a4f r:=fun r hr=>by
   obtain ⟨p,hp,rfl⟩:=Xm.mp hr
   exact (hR.2.2.2 p hp).1
  have hzl:(zr.map (·.2)).length≤40:=by rw [Qc];exact hR.2.2.1
  have big:∀n:Nat,n≤10000→n < sizeLine:=fun n h=>Xq h ‹dc›
  have hst:∀x,(stB (zr.map (·.2)) x).length≤160:=fun x=>by have:=a2v hO x;omega
  refine ⟨⟨_,SqL.of (s1 _ _ ha)⟩,?_⟩
  refine a0X (K:=K) (a:=a) (xs:=S.map V.str) (fun j σ H'=>∃(x3 x4:Option V),σ=[some (V.ref R),some (V.ref a),some (V.ref D),x3,x4]∧a0m H H'∧H' D=some (.lst ((a5w (stB (zr.map (·.2))) (S.take j)).map V.str)))
   ⟨_,_,rfl,s1,g1⟩ (fun i σ H' _ ⟨_,_,_,s',_⟩=>SqL.of (s' _ _ ha)) ?_ ?_
  ·rintro j x σ H2 hj ⟨x3,x4,rfl,s2,hD2⟩
   obtain ⟨hj',rfl⟩:=a3R hj
   have hzt:=hSt _ (Xi hj')
   have hll:=a1S hst (S.take j)
   rw [Xh] at hll
   rw [Xd hj',a3F]
   generalize S[j]=z at hzt ⊢
   generalize a5w (stB (zr.map (·.2))) (S.take j)=L0 at hD2 hll ⊢
   simp only [a0u,a1y,a1u,tBM,a0C,Qn,Qo,Qd,Qb,a0n,a0M,a0P,Qi,a0J,a2A,a0f,a1w]
   refine ⟨.inl ⟨rfl,_,SqL.of hD2⟩,31,z,rfl,hzt,by decide,D,_,_,rfl,rfl,hD2,big _ (by rw [Qc];omega),?_⟩
   have hD3:upd H2 D (.lst (L0.map V.str++[V.str (a1f z)])) D=some (.lst ((L0++[a1f z]).map V.str)):=by rw [a0d,Xk];rfl
   have s3:a0m H (upd H2 D (.lst (L0.map V.str++[V.str (a1f z)]))):=fun b o e=>by rw [a0a (a0b e hD)];exact s2 _ _ e
   refine ⟨⟨_,SqL.of (s3 _ _ hT)⟩,?_⟩
   refine a0X (K:=K) (a:=R) (xs:=zr.map (·.1)) (fun i σ H'=>∃(x4:Option V),σ=[some (V.ref R),some (V.ref a),some (V.ref D),some (V.str z),x4]∧a0m H H'∧H' D=some (.lst ((L0++[a1f z]++stB ((zr.map (·.2)).take i) z).map V.str)))
    ⟨_,rfl,s3,by rw [hD3];simp [stB,hdF]⟩ (fun i σ H' _ ⟨_,_,s',_⟩=>SqL.of (s' _ _ hT)) ?_ ?_
   ·rintro i x σ H4 hi ⟨y4,rfl,s4,hD4⟩
    obtain ⟨hi',rfl⟩:=a3R hi
    obtain ⟨⟨x,ex,hx⟩,ho⟩:=(hR.same s4).2.1 _ (Xi hi')
    have him:i < (zr.map (·.2)).length:=by rw [Qc];exact hi'
    have hls:=a2v (rs:=(zr.map (·.2)).take i) (fun r hr=>hO r (Yp hr)) z
    rw [Xh] at hls
    rw [Xd him,Zh,a4x,←Yq (L0++[a1f z]),ex]
    generalize zr[i].2=r at hx ho ⊢
    generalize stB ((zr.map (·.2)).take i) z=L1 at hD4 hls ⊢
    have hl4:(L0++[a1f z]++L1).length≤4000:=by simp only [Ql,Xw];omega
    generalize L0++[a1f z]++L1=L2' at hD4 hl4 ⊢
    have CF:=b2H T ho.1
    have hbl:=ho.2.2.2.2.2
    obtain ⟨dx,t0,g1,g2⟩:=id hx
    simp only [a0u,a4o,a1G,tOp,a7Q,a0C,Qn,Qo,Qd,Qb,a1u,tBM,a0n,a0P,a0f,a1O]
    refine ⟨x,_,dx,_,_,rfl,g1,CF.cl,CF.nh,a0I _ _ _,?_⟩
    simp only [a4F,a4d,decide_eq_true_eq]
    refine a4y (fun c=>?_) (fun c=>?_)
    ·rw [if_pos c]
     refine ⟨.inl ⟨rfl,_,SqL.of hD4⟩,x,_,dx,_,_,rfl,g1,CF.cl,CF.nb,a1n _ _ _,D,t0,_,_,rfl,rfl,hD4,SqT.of g2,Ze (big _ (by rw [Qc,Qc];omega)),_,rfl,fun b o e=>?_,?_⟩
     ·rw [a0a (a0b e hD)];exact s4 _ _ e
     ·rw [a0d,Xk]
    ·rw [if_neg c,Qi]
     exact ⟨_,rfl,s4,hD4⟩
   ·rintro σ H4 ⟨y4,rfl,s4,hD4⟩
    rw [Qc,show (zr.map (·.2)).take zr.length=zr.map (·.2) by rw [←Qc (f:=(·.2)) (as:=zr)];exact Yn] at hD4
    exact ⟨_,_,rfl,s4,hD4⟩
  ·rintro σ H2 ⟨x3,x4,rfl,s2,hD2⟩
   rw [Qc,Yn] at hD2
   simp only [a1R,a0C,Qd,Qb,a0f]
   exact q D H2 s2 hD hD2
theorem a6M (T:Txt K mg t):a1r P w K mg base CX0 4 t.f_z0z t.fd_z0z ["_law_rules","_law_some","_law_way"] (a4K t):=by
 refine T.F_z0z.ok a2B (fun vs H Q E h=>?_) (fun cdv A outer s H vs Q E hr h=>?_)
 ·obtain ⟨R,a,b,zr,S,po,rfl,hR,ha,hSl,hS,hpo,hpt,q⟩:=h;rfl
 ·obtain ⟨R,a,b,zr,S,po,rfl,hR,ha,hSl,hS,hpo,hpt,q⟩:=h
  refine ⟨_,‹A4 (A6 3 a2B.nd (B9 (a1l rfl) T.z_sorted a0W (A0 (B7 (a2u rfl) T.z_set a2x (A0 1 A1)) A1))) (A4 (A6 4 a2B.nd (B3 A1)) (A4 (E5 (B5 (a4G hr.units) 4 3 (a0K _)) (A4 (A6 4 a2B.nd 3) (A5 (B6 (B5 (a1F hr.units) 2 A2 (a0K _)) (A5 (A6 3 a2B.nd (B9 (a1l rfl) T.z_sorted a0W (A0 (B7 (a2u rfl) T.z_set a2x (A0 (A3 a0g 4 (A7 (b2h T) T.g_z14 T.F_z14.kp T.b_z14 (A0 0 (A0 4 A1)))) A1)) A1)))) (A5 (A6 3 a2B.nd (B9 (a1l rfl) T.z_sorted a0W (A0 (B7 (a2u rfl) T.z_set a2x (A0 (A3 a0g 4 (A7 (b1B T) T.g_z15 T.F_z15.kp T.b_z15 (A0 0 (A0 4 A1)))) A1)) A1)))))))) (A5 (A9 3))))›,?_⟩
  rw [show start b2n [V.ref R,V.ref a,V.int b]=[some (V.ref R),some (V.ref a),some (V.int b),none,none] from rfl]
  obtain ⟨st,est⟩:∃st,(if b=0 then stB else stA) (zr.map (·.2))=st:=⟨_,rfl⟩
  rw [est] at q
  have hO:∀r∈zr.map (·.2),a4f r:=fun r hr=>by
   obtain ⟨p,hp,rfl⟩:=Xm.mp hr
   exact (hR.2.2.2 p hp).1
  have hzl:(zr.map (·.2)).length≤40:=by rw [Qc];exact hR.2.2.1
  have hsl:∀x,(st x).length≤160:=fun x=>by
   rw [←est]
   split
   ·have:=a2v hO x;omega
   ·have:=a4e (zr.map (·.2)) x;omega
  have hsp:∀y∈po,∀z∈st y,z∈po:=fun y _ z hz=>by
   rw [←est] at hz
   split at hz
   ·obtain ⟨r,hr,hw⟩:=Ys.mp hz
    exact (hpo.2.1 r (Ye.mp hr).1).2 z hw
   ·obtain ⟨r,hr,e⟩:=Xm.mp hz
    rw [←e];exact (hpo.2.1 r (Ye.mp hr).1).1
  have sok:∀z∈po,Xu z=true:=fun z hz=>((hpt z hz).ok ‹dc›).1
  have hpn:=hpo.2.2
  have pl20:∀{T:List Str},T.Nodup→(∀x∈T,x∈po)→T.length≤20:=fun h1 h2=>Qs (a1k h1 h2) hpn
  simp only [a1y,a2y,tCB,a0n,a0C,Qd,Qb,a0P,a0u,a3T,Qn,Qo,a0f]
  refine a7E ha ‹om› hS hpn fun Ta T H1 s1 hTan hTa hTn hTm hTo=>?_
  refine ⟨Xl _,fun La hLa=>?_⟩
  obtain ⟨H2,e2,s2,g2⟩:=a0T hLa (.lst []);rw [e2]
  have s02:=s1.trans s2
  refine a5T (fun m σ H'=>∃(T Ls:List Str) (Ta La:Addr),σ=[some (V.ref R),some (V.ref a),some (V.int b),some (V.ref Ta),some (V.ref La)]∧a0m H H'∧H Ta=none∧H' Ta=some (.lst (T.map V.str))∧H' La=some (.lst (Ls.map V.str))∧T.Nodup∧PyProof.Rows.sortedS T=true∧(∀x∈T,x∈po)∧Ls.Nodup∧PyProof.Rows.sortedS Ls=true∧(∀x∈Ls,x∈T)∧(∀x∈Ls,a1f x∈T∧∀y∈st x,y∈T)∧(∀x∈S,x∈T)∧(∀C:Str→Prop,(∀x∈S,C x)→Cl st C→∀x∈T,C x)∧m=if Ls=T then 0 else 21 - Ls.length)
   (if []=T then 0 else 21) ⟨T,[],Ta,La,rfl,s02,hTan,s2 _ _ hTa,g2,hTn,hTo,fun x hx=>hS x ((hTm x).mp hx),Zd,rfl,fun x hx=>(by cases hx),fun x hx=>(by cases hx),fun x hx=>(hTm x).mpr hx,fun C hC _ x hx=>hC x ((hTm x).mp hx),rfl⟩ ?_
  clear hTan hTa hTn hTm hTo s1 s2 s02 g2 hLa e2
  rintro m σ H3 ⟨T,Ls,Ta,La,rfl,s3,hTan,hTa,hLa,hTn,hTo,hTp,hLn,hLo,hLs,hLc,hST,hmin,rfl⟩
  simp only [a1G,tOp,a0C,Qd,Qb,a1y,a2y,a0u,a4o,Qn,Qo,tC,tCB,a0n,a0M,a0P,Qi,a0f,a1q,a4d,decide_eq_true_eq,a1R]
  refine a1T (SqL.of hLa) (SqL.of hTa) (fun z hz=>sok z (hTp z (hLs z hz))) (fun z hz=>sok z (hTp z hz)) ⟨_,rfl,?_⟩
  by_cases hLT:Ls=T
  ·rw [decide_eq_true hLT,if_neg ‹dc›]
   subst hLT
   exact q Ta Ls H3 s3 hTan hTa ⟨hST,hLc,hmin⟩ hTn hTo (pl20 hTn hTp) hTp
  rw [decide_eq_false hLT,if_pos ‹dc›,if_neg hLT]
  have hT20:=pl20 hTn hTp
  have hlt:=a5s hLn hTn hLo hTo hLs hLT
  refine ⟨_,fun _ _ h=>h,?_⟩
  have go:∀(f:List Rw→Str→List Str),f (zr.map (·.2))=st→a6D t f [V.ref R,V.ref Ta] H3 (fun x H1=>a3x K (V.ref Ta) x H1 fun x H1=>a9R w K [x] H1 fun x H1=>a3c w [x] H1 fun v H'=>∃m',m' < 21 - Ls.length∧∃(T2 Ls2:List Str) (Ta2 La2:Addr),[some (V.ref R),some (V.ref a),some (V.int b),some v,some (V.ref Ta)]=[some (V.ref R),some (V.ref a),some (V.int b),some (V.ref Ta2),some (V.ref La2)]∧a0m H H'∧H Ta2=none∧H' Ta2=some (.lst (T2.map V.str))∧H' La2=some (.lst (Ls2.map V.str))∧T2.Nodup∧PyProof.Rows.sortedS T2=true∧(∀x∈T2,x∈po)∧Ls2.Nodup∧PyProof.Rows.sortedS Ls2=true∧(∀x∈Ls2,x∈T2)∧(∀x∈Ls2,a1f x∈T2∧∀y∈st x,y∈T2)∧(∀x∈S,x∈T2)∧(∀C:Str→Prop,(∀x∈S,C x)→Cl st C→∀x∈T2,C x)∧m'=if Ls2=T2 then 0 else 21 - Ls2.length) E0:=fun f ef=>by
   refine ⟨R,Ta,zr,T,rfl,hR.same s3,hTa,hT20,fun z hz=>hpt z (hTp z hz),fun D H4 s4 hDn hD=>?_⟩
   rw [ef] at hD
   have hll:=a1S hsl T
   refine a8C (s4 _ _ hTa) hD ‹om› fun p hp=>?_
   obtain ⟨H5,e5,s5,g5⟩:=a0T hp (.lst ((T++a5w st T).map V.str));rw [e5]
   have s35:=s4.trans s5
   have s05:=s3.trans s35
   refine a7E (po:=po) g5 (by rw [Ql];omega) (fun z hz=>?_) hpn fun D2 T2 H6 s6 hD2n hD2 hT2n hT2m hT2o=>?_
   ·rcases Qy.mp hz with e | e
    ·exact hTp z e
    ·obtain ⟨x,hx,e | e⟩:=a1B.mp e
     ·rw [e];exact (hpo.1 x (hTp x hx)).1
     ·exact hsp x (hTp x hx) z e
   have hup:∀z,z∈T2→z∈po:=fun z hz=>by
    rcases Qy.mp ((hT2m z).mp hz) with e | e
    ·exact hTp z e
    ·obtain ⟨x,hx,e | e⟩:=a1B.mp e
     ·rw [e];exact (hpo.1 x (hTp x hx)).1
     ·exact hsp x (hTp x hx) z e
   have hTT:∀x∈T,x∈T2:=fun x hx=>(hT2m x).mpr (Xg _ hx)
   refine ⟨if T=T2 then 0 else 21 - T.length,?_,T2,T,D2,Ta,rfl,s05.trans s6,none_of s05 hD2n,hD2,s6 _ _ (s35 _ _ hTa),hT2n,hT2o,hup,hTn,hTo,hTT,fun x hx=>⟨(hT2m _).mpr (Qx _ (a1B.mpr ⟨x,hx,.inl rfl⟩)),fun y hy=>(hT2m _).mpr (Qx _ (a1B.mpr ⟨x,hx,.inr hy⟩))⟩,fun x hx=>hTT x (hST x hx),fun C hC hcl x hx=>?_,rfl⟩
   ·split<;>omega
   ·rcases Qy.mp ((hT2m x).mp hx) with e | e
    ·exact hmin C hC hcl x e
    ·obtain ⟨y,hy,e | e⟩:=a1B.mp e
     ·rw [e];exact (hcl y (hmin C hC hcl y hy)).1
     ·exact (hcl y (hmin C hC hcl y hy)).2 x e
  try skip
  refine a4y (fun c=>?_) (fun c=>?_)
  ·exact go stB (by rw [←est,if_pos c])
  ·exact go stA (by rw [←est,if_neg c])
theorem ok_z0a (T:Txt K mg t):a1r P w K mg base CX0 1 t.f_z0a t.fd_z0a ["self"] (a6P t):=by
 refine T.F_z0a.ok b0O (fun vs H Q E h=>?_) (fun cdv A outer s H vs Q E hr h=>?_)
 ·obtain ⟨g,rs,pl,rfl,hG,q⟩:=h;rfl
 ·obtain ⟨g,rs,pl,rfl,hG,q⟩:=h
  refine ⟨_,‹A5 (A9 (B7 a0V T.z_list a0Q (A0 (B8 0) A1)))›,?_⟩
  rw [show start b1d [V.ref g]=[some (V.ref g)] from rfl]
  obtain ⟨dx,io,bh,pr,xs,kvs,kps,h1,h2,h3,h4,h5,h6',h7'⟩:=hG
  simp only [a1R,tCB,a0n,a7Q,a0C,Qb,a0P,a0f]
  refine ⟨g,_,dx,_,_,rfl,h1,T.cl_Ground,T.nf_Ground_in_order,b1h _ _ _,io,_,rfl,.inr (SqT.of h2),fun l hl=>?_⟩
  obtain ⟨H6,e6,s6,h6⟩:=a0T hl (.lst xs);rw [e6]
  exact q l xs _ s6 hl h6 (h3.same s6)
theorem b2x (T:Txt K mg t):a1r P w K mg base CX0 2 t.f_z01 t.fd_z01 ["ground"] (a9O t):=by
 refine T.F_z01.ok a4V (fun vs H Q E h=>?_) (fun cdv A outer s H vs Q E hr h=>?_)
 ·obtain ⟨g,rs,pl,rfl,hG,hO,hrl,q⟩:=h;rfl
 ·obtain ⟨g,rs,pl,rfl,hG,hO,hrl,q⟩:=h
  refine ⟨_,‹A4 (A6 1 a4V.nd D5) (A4 (C0 (C4 (E6 0)) (B2 2 a4V.nd) (A5 (C0 (E3 (B8 2)) (B2 3 a4V.nd) (A5 (B1 (B4 Xc Xn Xo a0t (E0 1 3 (B3 A1)) (A0 (B8 2) A1))))))) (A5 (A9 1)))›,?_⟩
  rw [show start b1r [V.ref g]=[some (V.ref g),none,none,none] from rfl]
  obtain ⟨dx,io,bh,pr,_,_,_,hg1,_⟩:=id hG
  simp only [a1y,a2y,a3J,a0u,Qn,Qo,a0J,a2A,b0n,a0C,Qb,a0P,Qi,a0f]
  intro D hD
  obtain ⟨H1,e1,s1,h1⟩:=a0T hD (.dK []);rw [e1]
  refine ⟨g,dx,_,rfl,s1 _ _ hg1,a9h _ _ _ ‹dk› ‹dk› ‹dk›,g,rs,pl,rfl,hG.same s1,fun W ys H2 s2 hWn hW2 hR2=>?_⟩
  have hWD:W≠D:=fun z=>by have e:=s2 _ _ h1;rw [←z,hW2] at e;cases e
  have s02:=s1.trans s2
  have hDn:=s2 _ _ h1
  have hyl:=hR2.len
  simp only [a1w]
  refine ⟨⟨_,SqL.of hW2⟩,?_⟩
  refine a0X (K:=K) (a:=W) (xs:=ys) (fun i σ H'=>∃(kvs:List (Key×V)) (x y:Option V),σ=[some (V.ref g),some (V.ref D),x,y]∧a9K H2 D H'∧a5r H2 H' D kvs (phs (rs.take i)))
   ⟨[],_,_,rfl,a9K.refl _ _,⟨hDn,Qg _,fun p=>.inl ⟨rfl,rfl⟩,fun p p' N e=>by cases e⟩⟩ (fun i σ H' _ h=>by obtain ⟨_,_,_,_,k,_⟩:=h;exact SqL.of (k _ _ hW2 hWD)) ?_ ?_
  ·rintro i v σ H3 hi ⟨kvs,x,y,rfl,k3,I3⟩
   have hil:i < rs.length:=by rw [←hyl];exact (Xa.mp hi).1
   obtain ⟨v',ev,p,rfl,hp⟩:=hR2.get i rs[i] (Qf hil)
   rw [hi] at ev;cases ev
   have hro:=hO _ (Xi hil)
   have CF:=b2H T hro.1
   have esn:phs (rs.take (i+1))=phs (rs.take i)++rs[i].2.2.2.map fun p=>(p,rs[i].2.2.1):=by
    unfold phs
    rw [Xd hil,Jv];simp
   have hphl:(phs (rs.take i)).length≤252:=by
    have:=a4a (rs:=rs.take i) (fun r hr=>hO r (Yp hr))
    rw [Xh] at this;omega
   generalize rs[i]=r at hp hro CF esn
   generalize phs (rs.take i)=L0 at I3 esn hphl
   obtain ⟨dx',t0,hp1,hp2⟩:=hp
   have hpD:p≠D:=a0G hp1 hDn ‹iz›
   have htD:t0≠D:=a0G hp2 hDn ‹iz›
   have hbl:=hro.2.2.2.2.2
   simp only [a0u,Qn,Qo,a0J,b3w,a7Q,a0C,Qd,Qb,a0f]
   refine ⟨p,_,dx',_,_,rfl,k3 _ _ hp1 hpD,CF.cl,CF.nb,a1n _ _ _,?_⟩
   simp only [a1w]
   refine ⟨⟨_,SqT.of (k3 _ _ hp2 htD)⟩,?_⟩
   refine a5U (K:=K) (a:=t0) (xs:=r.2.2.2.map V.str) (fun j σ H'=>∃(kvs:List (Key×V)) (y:Option V),σ=[some (V.ref g),some (V.ref D),some (V.ref p),y]∧a9K H2 D H'∧a5r H2 H' D kvs (L0++(r.2.2.2.take j).map fun p=>(p,r.2.2.1)))
    ⟨kvs,_,rfl,k3,by rw [List.take_zero,Ul,Qi];exact I3⟩ (fun i σ H' _ h=>by obtain ⟨_,_,_,k,_⟩:=h;exact SqT.of (k _ _ hp2 htD)) ?_ ?_
   ·clear I3 k3
    rintro j v σ H4 hj ⟨kvs,y,rfl,k4,I4⟩
    have hjl:j < r.2.2.2.length:=by simpa using (Xa.mp hj).1
    have ex:v=V.str r.2.2.2[j]:=by
     rw [Xr,Qf hjl] at hj
     exact (Option.some.inj hj).symm
    subst ex
    have ej:L0++(r.2.2.2.take (j+1)).map (fun p=>(p,r.2.2.1))=(L0++(r.2.2.2.take j).map fun p=>(p,r.2.2.1))++[(r.2.2.2[j],r.2.2.1)]:=by
     rw [Xd hjl,Xk,←Yq];rfl
    have hll:(L0++(r.2.2.2.take j).map fun p=>(p,r.2.2.1)).length≤256:=by
     rw [Ql,Qc,Xh];omega
    rw [ej]
    generalize (L0++(r.2.2.2.take j).map fun p=>(p,r.2.2.1))=L1 at I4 hll
    generalize r.2.2.2[j]=pq
    have hp4:=k4 _ _ hp1 hpD
    have hkl:=I4.len
    simp only [a0u,a1u,tBM,a4v,a0C,Qn,Qo,Qd,Qb,a3T,a0P,a0n,a7Q,a0f,a1w]
    refine ⟨a4I I4.d,by decide,fun N hN=>?_⟩
    obtain ⟨H6,e6,s6,h6⟩:=a0T hN (.lst []);rw [e6]
    have hNn:H2 N=none:=by
     cases e:H2 N with
     | none=>rfl
     | some o=>
      by_cases z:N=D
      ·rw [z,I4.d] at hN;cases hN
      ·rw [k4 _ _ e z] at hN;cases hN
    have hND:N≠D:=fun z=>by rw [z,I4.d] at hN;cases hN
    have hNp:N≠p:=fun z=>by rw [z,hp4] at hN;cases hN
    refine ⟨kvs,Sum.inr pq,s6 _ _ I4.d,rfl,Xq (show kvs.length≤1000 by omega) ‹dc›,fun u hu=>?_,fun hu=>?_⟩
    ·rcases I4.at_ pq with ⟨e,_⟩ | ⟨M,e,_⟩
     ·rw [e] at hu;cases hu
     rw [e] at hu;cases hu
     obtain ⟨hM,hMn,I7⟩:=(I4.same s6).old (h:=r.2.2.1) e
     have hsz:=a8b L1 pq
     try skip
     refine ⟨.inl ⟨rfl,_,SqL.of hM⟩,p,_,dx',_,_,rfl,s6 _ _ hp4,CF.cl,CF.nh,a0I _ _ _,M,_,_,rfl,rfl,hM,Xq (show _≤1000 by rw [Qc];omega) ‹dc›,?_⟩
     exact ⟨kvs,_,rfl,fun b o e n=>by rw [a0a (a0b e hMn)];exact s6 _ _ (k4 _ _ e n),I7⟩
    ·have I7:=I4.new (h:=r.2.2.1) hu hN hNn (.lst [])
     rw [e6] at I7
     have hN7:upd H6 D (.dK (a1J kvs (Sum.inr pq) (V.ref N))) N=some (.lst []):=by rw [a0a hND];exact h6
     try skip
     refine ⟨.inl ⟨rfl,_,SqL.of hN7⟩,p,_,dx',_,_,rfl,(by rw [a0a hpD];exact s6 _ _ hp4),CF.cl,CF.nh,a0I _ _ _,N,_,_,rfl,rfl,hN7,by decide,?_⟩
     exact ⟨_,_,rfl,fun b o e n=>by rw [a0a (a0b e hNn),a0a n];exact s6 _ _ (k4 _ _ e n),I7⟩
   ·rintro σ H4 ⟨kvs,y,rfl,k4,I4⟩
    rw [Qc,Yn,←esn] at I4
    exact ⟨kvs,_,_,rfl,k4,I4⟩
  ·rintro σ H3 ⟨kvs,x,y,rfl,k3,I3⟩
   rw [show rs.take ys.length=rs by rw [hyl];exact Yn] at I3
   simp only [a1R,a0C,Qd,Qb,a0f]
   exact q D H3 (fun c o e=>k3 _ _ (s02 _ _ e) (a0b e hD)) hD (I3.hds hO hrl)
theorem b1w (T:Txt K mg t):a1r P w K mg base CX0 1 t.f_z0v t.fd_z0v ["statement"] b3I:=by
 refine T.F_z0v.ok b2O (fun vs H Q E h=>?_) (fun cdv A outer s H vs Q E hr h=>?_)
 ·obtain ⟨z,rfl,hz,q⟩:=h;rfl
 ·obtain ⟨z,rfl,hz,q⟩:=h
  refine ⟨_,‹A5 (A9 (F0 (C7 (B4 Jh PySem.F.slot_str_startswith PySem.F.type_str_startswith a7c 0 (A0 B0 A1))) (C3 0 (C2 A2) C5) (A3 a0g B0 0)))›,?_⟩
  rw [show start b2M [V.str z]=[some (V.str z)] from rfl]
  unfold a1f at q
  simp only [a1R,tIf,tB,tBM,a0C,Qb,a0n,tC,a0P,tSl,a3S,a1x,a4m,a0f,a4C,tOp,a1b,a5G,a4d,a7M]
  refine a4y (fun c=>?_) (fun c=>?_)
  ·rw [if_pos c] at q
   exact ⟨a1E ‹om›,q⟩
  ·rw [if_neg c] at q
   exact ⟨Qs (Vf (show (Qv "-").length≤1 by decide+kernel) hz) ‹dc›,q⟩
theorem a9v (T:Txt K mg t):a1r P w K mg base CX0 2 t.f_z10 t.fd_z10 ["starts","steps"] (a7q K):=by
 refine T.F_z10.ok a4w (fun vs H Q E h=>?_) (fun cdv A outer s H vs Q E hr h=>?_)
 ·obtain ⟨a,d,S,po,st,rfl,ha,hd,hS,hpo,hpl,hpn,hSn,q⟩:=h;rfl
 ·obtain ⟨a,d,S,po,st,rfl,ha,hd,hS,hpo,hpl,hpn,hSn,q⟩:=h
  refine ⟨_,‹A4 (A6 2 a4w.nd D5) (A4 (A6 3 a4w.nd (B7 a0V T.z_list a0Q (A0 0 A1))) (A4 (E5 (B5 b3t (B9 a1e T.z_len a1d (A0 3 A1)) A2 (a0K _)) (A4 (A6 4 a4w.nd (C9 PySem.F.slot_list_pop PySem.F.type_list_pop b2d 3)) (A5 (B6 (F1 (F2 (a9N hr) 4 2)) (A4 (E4 2 4 C8) (A4 (B1 (B4 Xc Xn Xo a0t 3 (A0 (A7 (b1w T) T.g_z0v T.F_z0v.kp T.b_z0v (A0 4 A1)) A1))) (A5 (B1 (B4 Xc Zz Ja a7l 3 (A0 (F3 (a9N hr) 1 4 (B3 A1) ⟨rfl,rfl,rfl,rfl⟩) A1)))))) C1)))) (A5 (A9 (B9 (a7o rfl) T.z_sorted a0W (A0 2 A1))))))›,?_⟩
  rw [show start b2A [V.ref a,V.ref d]=[some (V.ref a),some (V.ref d),none,none,none] from rfl]
  simp only [a1y,a2y,a3J,a0u,tCB,a0n,a0C,Qn,Qo,Qb,a0P,a0f]
  intro D hD
  obtain ⟨H1,e1,s1,g1⟩:=a0T hD (.dK []);rw [e1]
  refine ⟨a,_,rfl,.inl (s1.seq ha),fun Wa hWa=>?_⟩
  obtain ⟨H2,e2,s2,g2⟩:=a0T hWa (.lst (S.map V.str));rw [e2]
  have s02:=s1.trans s2
  have hWn:=none_of s1 hWa
  have nDW:D≠Wa:=fun z=>by rw [←z,g1] at hWa;cases hWa
  have hlen:∀{T Wt:List Str},a4A st S po T Wt→T.length≤30:=fun h=>Qs (a1k h.n h.t) hpn
  refine a5T (fun m σ H'=>∃(T Wt:List Str) (x4:Option V),σ=[some (V.ref a),some (V.ref d),some (V.ref D),some (V.ref Wa),x4]∧a0m H H'∧H' D=some (.dK (bv T))∧H' Wa=some (.lst (Wt.map V.str))∧a4A st S po T Wt∧m=(30 - T.length) * 302+Wt.length∧m≤10000)
   ((30 - 0) * 302+S.length) ⟨[],S,_,rfl,s02,s2 _ _ g1,g2,a4A.start hS,rfl,by omega⟩ ?_
  rintro m σ H3 ⟨T,Wt,x4,rfl,s3,hD3,hW3,hI,rfl,hm⟩
  simp only [a1G,tOp,tCB,a0n,a0C,Qd,Qb,a0P,tC,a1y,a2y,b1b,a0u,a4o,tB,a7j,Qn,Qo,a9M,a1u,tBM,a0M,Qi,a9n,a3T,a0f,a1w,a1O,a4d,Zn,a1R]
  refine a1a (SqL.of hW3) ?_
  rw [Qc]
  simp only [a6d,a4d,decide_eq_true_eq]
  refine a4y (fun c1=>?_) (fun c1=>?_)
  ·obtain ⟨W',x,rfl⟩:∃W' x,Wt=W'++[x]:=by
    rcases List.eq_nil_or_concat Wt with h | ⟨W',x,h⟩
    ·rw [h] at c1;simp at c1
    ·exact ⟨W',x,by rw [h,List.concat_eq_append]⟩
   refine ⟨_,fun _ _ h=>h,?_⟩
   try skip
   rw [Ql,Xw] at hm ⊢
   refine ⟨.inl ⟨rfl,_,SqL.of hW3⟩,Wa,_,.str x,rfl,rfl,hW3,by simp,?_⟩
   rw [show ((W'++[x]).map V.str).dropLast=W'.map V.str from by rw [Xk];exact List.dropLast_concat]
   obtain ⟨H4,e4⟩:∃H4,upd H3 Wa (.lst (W'.map V.str))=H4:=⟨_,rfl⟩
   have hW4:H4 Wa=some (.lst (W'.map V.str)):=by rw [←e4,a0d]
   have hD4:H4 D=some (.dK (bv T)):=by rw [←e4,a0a nDW];exact hD3
   have s4:a0m H H4:=fun b o e=>by rw [←e4,a0a (a0b e hWn)];exact s3 _ _ e
   rw [e4]
   clear hW3 hD3 s3 e4
   have hT30:=hlen hI
   refine ⟨D,_,rfl,b7f hD4 x,?_⟩
   by_cases hx:x∈T
   ·rw [if_pos hx,Vv,if_neg ‹dc›]
    exact ⟨_,by omega,T,W',_,rfl,s4,hD4,hW4,hI.skip hx,rfl,by omega⟩
   rw [if_neg hx,Option.isSome_none,if_pos rfl]
   refine ⟨D,_,rfl,b8m hD4 ‹om› x,?_⟩
   rw [show b3p T x=T++[x] from if_neg hx]
   obtain ⟨H5,e5⟩:∃H5,upd H4 D (.dK (bv (T++[x])))=H5:=⟨_,rfl⟩
   have hD5:H5 D=some (.dK (bv (T++[x]))):=by rw [←e5,a0d]
   have hW5:H5 Wa=some (.lst (W'.map V.str)):=by rw [←e5,a0a nDW.symm];exact hW4
   have s5:a0m H H5:=fun b o e=>by rw [←e5,a0a (a0b e hD)];exact s4 _ _ e
   rw [e5]
   clear hW4 hD4 s4 e5
   have hxp:=hI.w x (Qx _ Qj)
   have big:∀n:Nat,n≤100000→n < sizeLine:=fun n h=>Xq h ‹dc›
   refine ⟨.inl ⟨rfl,_,SqL.of hW5⟩,x,rfl,hpl x hxp,Wa,_,_,rfl,rfl,hW5,big _ (by rw [Qc];omega),?_⟩
   obtain ⟨H6,e6⟩:∃H6,upd H5 Wa (.lst (W'.map V.str++[V.str (a1f x)]))=H6:=⟨_,rfl⟩
   have hW6:H6 Wa=some (.lst (W'.map V.str++[V.str (a1f x)])):=by rw [←e6,a0d]
   have hD6:H6 D=some (.dK (bv (T++[x]))):=by rw [←e6,a0a nDW];exact hD5
   have s6:a0m H H6:=fun b o e=>by rw [←e6,a0a (a0b e hWn)];exact s5 _ _ e
   rw [e6]
   clear hW5 hD5 s5 e6
   obtain ⟨kvs,hdk,hdv⟩:=hd
   refine ⟨.inl ⟨rfl,_,SqL.of hW6⟩,a4I (s6 _ _ hdk),Xl _,fun p hp=>?_⟩
   obtain ⟨H7,e7,s7,g7⟩:=a0T hp (.lst []);rw [e7]
   have s07:=s6.trans s7
   have hW7:=s7 _ _ hW6
   have hD7:=s7 _ _ hD6
   have hI':=hI.take hx hpo
   have hT31:=hlen hI'
   rw [Ql,Xw] at hT31
   have fin:∀(zs:List Str),zs=st x→zs.length≤300→∃m',m' < (30 - T.length) * 302+(W'.length+1)∧∃(T2 Wt:List Str) (x4:Option V),[some (V.ref a),some (V.ref d),some (V.ref D),some (V.ref Wa),some (V.str x)]=[some (V.ref a),some (V.ref d),some (V.ref D),some (V.ref Wa),x4]∧a0m H (upd H7 Wa (.lst (W'.map V.str++[V.str (a1f x)]++zs.map V.str)))∧upd H7 Wa (.lst (W'.map V.str++[V.str (a1f x)]++zs.map V.str)) D=some (.dK (bv T2))∧upd H7 Wa (.lst (W'.map V.str++[V.str (a1f x)]++zs.map V.str)) Wa=some (.lst (Wt.map V.str))∧a4A st S po T2 Wt∧m'=(30 - T2.length) * 302+Wt.length∧m'≤10000:=fun zs ez hz=>by
    rw [ez] at hz
    refine ⟨_,?_,T++[x],W'++[a1f x]++st x,_,rfl,fun b o e=>?_,?_,?_,hI',rfl,?_⟩
    ·simp only [Ql,Xw];omega
    ·rw [a0a (a0b e hWn)];exact s07 _ _ e
    ·rw [a0a nDW];exact hD7
    ·rw [a0d,ez,Xk,Xk];rfl
    ·simp only [Ql,Xw];omega
   refine ⟨_,a7h.k (k:=(Sum.inr x:Key)) (s07 _ _ hdk),?_⟩
   rcases hdv x with ⟨hv,he⟩ | ⟨L,hv,hL,hn⟩
   ·rw [hv]
    exact ⟨Wa,p,_,[],rfl,rfl,hW7,g7,Ze (big _ (by simp only [Ql,Qc,Xw,Xf];omega)),fin [] he.symm (by simp)⟩
   ·rw [hv]
    exact ⟨Wa,L,_,_,rfl,rfl,hW7,s07 _ _ hL,Ze (big _ (by simp only [Ql,Qc,Xw];omega)),fin _ rfl hn⟩
  ·have hW0:Wt=[]:=Jc.mp ‹om›
   subst hW0
   refine .inr (.inl ⟨D,bv T,T,rfl,.inl hD3,?_,?_,fun l T' hl hp ho=>?_⟩)
   ·unfold bv;rw [Uq];rfl
   ·have:=hlen hI;omega
   ·obtain ⟨H4,e4,s4,g4⟩:=a0T hl (.lst (T'.map V.str));rw [e4]
    have hR:=hI.fin
    exact q l T' H4 (s3.trans s4) (none_of s3 hl) g4 ⟨fun x hx=>hp.mem_iff.mpr (hR.1 x hx),fun x hx=>⟨hp.mem_iff.mpr (hR.2.1 x (hp.mem_iff.mp hx)).1,fun y hy=>hp.mem_iff.mpr ((hR.2.1 x (hp.mem_iff.mp hx)).2 y hy)⟩,fun C h1 h2 x hx=>hR.2.2 C h1 h2 x (hp.mem_iff.mp hx)⟩ (hp.nodup_iff.mpr hI.n) ho (by rw [hp.length_eq];exact hlen hI) fun x hx=>hI.t x (hp.mem_iff.mp hx)
theorem a8V (T:Txt K mg t):a1r P w K mg base CX0 3 t.f_z11 t.fd_z11 ["ground","some"] (a7I K t):=by
 refine T.F_z11.ok b2Z (fun vs H Q E h=>?_) (fun cdv A outer s H vs Q E hr h=>?_)
 ·obtain ⟨g,a,rs,pl,S,po,rfl,hG,hO,hrl,ha,hS,hSl,hpo,q⟩:=h;rfl
 ·obtain ⟨g,a,rs,pl,S,po,rfl,hG,hO,hrl,ha,hS,hSl,hpo,q⟩:=h
  refine ⟨_,‹A5 (A9 (A7 (a9v T) T.g_z10 T.F_z10.kp T.b_z10 (A0 1 (A0 (A7 (b2x T) T.g_z01 T.F_z01.kp T.b_z01 (A0 0 A1)) A1))))›,?_⟩
  rw [show start b2k [V.ref g,V.ref a]=[some (V.ref g),some (V.ref a)] from rfl]
  simp only [a1R,a0M,a0n,a0C,Qd,Qb,a0P,Qi,a0f]
  refine ⟨g,rs,pl,rfl,hG,hO,hrl,fun D H1 s1 hDn hH=>?_⟩
  obtain ⟨kvs,hd,hv⟩:=hH
  have hst:∃st:Str→List Str,(∀x y,y∈st x↔y∈stA rs x)∧b1F H1 D st:=by
   have one:∀p:Str,∃l:List Str,(∀y,y∈l↔y∈stA rs p)∧((a0E kvs (Sum.inr p:Key)=none∧l=[])∨∃(L:Addr),a0E kvs (Sum.inr p:Key)=some (.ref L)∧H1 L=some (.lst (l.map V.str))∧l.length≤300):=fun p=>by
    have em:∀y,y∈stA rs p↔∃r∈rs,p∈r.2.2.2∧r.2.2.1=y:=fun y=>by
     unfold stA
     rw [Xm]
     constructor
     ·rintro ⟨r,hr,e⟩
      obtain ⟨h1,h2⟩:=Ye.mp hr
      exact ⟨r,h1,of_decide_eq_true h2,e⟩
     ·rintro ⟨r,h1,h2,e⟩
      exact ⟨r,Ye.mpr ⟨h1,decide_eq_true h2⟩,e⟩
    rcases hv p with ⟨h1,h2⟩ | ⟨L,hs,h1,h2,h3,h4⟩
    ·refine ⟨[],fun y=>⟨fun h=>(by cases h),fun h=>?_⟩,.inl ⟨h1,rfl⟩⟩
     obtain ⟨r,a,b,_⟩:=(em y).mp h
     exact absurd b (h2 r a)
    ·exact ⟨hs,fun y=>(h4 y).trans (em y).symm,.inr ⟨L,h1,h2,h3⟩⟩
   refine ⟨fun p=>Classical.choose (one p),fun p y=>(Vg (one p)).1 y,kvs,hd,fun p=>(Vg (one p)).2⟩
  obtain ⟨st,hst1,hst2⟩:=hst
  refine ⟨a,D,S,po,st,rfl,s1.seq ha,hst2,hS,fun y hy=>⟨(hpo.1 y hy).1,fun w hw=>?_⟩,fun y hy=>(hpo.1 y hy).2,by have:=hpo.2.2;omega,by omega,fun D2 T2 H2 s2 hn h2 hR hN hSo hl hT=>?_⟩
  ·obtain ⟨r,hr,e⟩:=Xm.mp ((hst1 y w).mp hw)
   rw [←e];exact (hpo.2.1 r (Ye.mp hr).1).1
  ·exact q D2 T2 H2 (s1.trans s2) (none_of s1 hn) h2 (hR.st hst1) hN hSo (Qs (a1k hN hT) hpo.2.2) hT
theorem b2q (T:Txt K mg t):a1r P w K mg base CX0 3 t.f_z0w t.fd_z0w ["ground","statement"] (a6p K t):=by
 refine T.F_z0w.ok a5R (fun vs H Q E h=>?_) (fun cdv A outer s H vs Q E hr h=>?_)
 ·obtain ⟨g,z,rs,pl,po,rfl,hG,hO,hrl,hz,hpo,q⟩:=h;rfl
 ·obtain ⟨g,z,rs,pl,po,rfl,hG,hO,hrl,hz,hpo,q⟩:=h
  refine ⟨_,‹A4 (A6 2 a5R.nd D5) (A4 (C0 (C4 (E6 0)) (B2 3 a5R.nd) (A5 (B1 (B4 Xc Zz Ja a7p (E0 2 (B8 3) (B3 A1)) (A0 (B8 3) A1))))) (A5 (A9 (A7 (a9v T) T.g_z10 T.F_z10.kp T.b_z10 (A0 (B3 (A0 1 A1)) (A0 2 A1))))))›,?_⟩
  rw [show start b1v [V.ref g,V.str z]=[some (V.ref g),some (V.str z),none,none] from rfl]
  obtain ⟨dx,io,bh,pr,_,_,_,hg1,_⟩:=id hG
  simp only [a1y,a2y,a3J,a0u,Qn,Qo,a0J,a2A,b0n,a0C,Qb,a0P,Qi,a0f]
  intro D hD
  obtain ⟨H1,e1,s1,h1⟩:=a0T hD (.dK []);rw [e1]
  refine ⟨g,dx,_,rfl,s1 _ _ hg1,a9h _ _ _ ‹dk› ‹dk› ‹dk›,g,rs,pl,rfl,hG.same s1,fun W ys H2 s2 hWn hW2 hR2=>?_⟩
  have hWD:W≠D:=fun z=>by have e:=s2 _ _ h1;rw [←z,hW2] at e;cases e
  have s02:=s1.trans s2
  have hDn:=s2 _ _ h1
  have hyl:=hR2.len
  simp only [a1w]
  refine ⟨⟨_,SqL.of hW2⟩,?_⟩
  refine a0X (K:=K) (a:=W) (xs:=ys) (fun i σ H'=>∃(kvs:List (Key×V)) (x:Option V),σ=[some (V.ref g),some (V.str z),some (V.ref D),x]∧a9K H2 D H'∧a7R H2 H' D kvs (stB (rs.take i)) i)
   ⟨[],_,rfl,a9K.refl _ _,⟨hDn,Qg _,fun p=>.inl ⟨rfl,rfl⟩,fun p p' N e=>by cases e⟩⟩ (fun i σ H' _ h=>by obtain ⟨_,_,_,k,_⟩:=h;exact SqL.of (k _ _ hW2 hWD)) ?_ ?_
  ·rintro i v σ H3 hi ⟨kvs,x,rfl,k3,I3⟩
   have hil:i < rs.length:=by rw [←hyl];exact (Xa.mp hi).1
   obtain ⟨v',ev,p,rfl,hp⟩:=hR2.get i rs[i] (Qf hil)
   rw [hi] at ev;cases ev
   have hro:=hO _ (Xi hil)
   have CF:=b2H T hro.1
   have esn:(fun x=>stB (rs.take i) x++if rs[i].2.2.1=x then rs[i].2.2.2 else [])=stB (rs.take (i+1)):=by
    funext x
    rw [Xd hil,a4x]
   have hfl:∀x,(stB (rs.take i) x).length≤252:=fun x=>by
    have:=a2v (rs:=rs.take i) (fun r hr=>hO r (Yp hr)) x
    rw [Xh] at this;omega
   rw [←esn]
   generalize rs[i]=r at hp hro CF esn ⊢
   generalize stB (rs.take i)=f at I3 esn hfl ⊢
   obtain ⟨dx',t0,hp1,hp2⟩:=hp
   have hpD:p≠D:=a0G hp1 hDn ‹iz›
   have htD:t0≠D:=a0G hp2 hDn ‹iz›
   have hp3:=k3 _ _ hp1 hpD
   have hbl:=hro.2.2.2.2.2
   have hkl:=I3.len
   simp only [a0u,a1u,tBM,a4v,a0C,Qn,Qo,Qd,Qb,a7Q,a3T,a0P,a0n,a0f,a1w]
   refine ⟨a4I I3.d,p,_,dx',_,_,rfl,hp3,CF.cl,CF.nh,a0I _ _ _,Xl _,fun N hN=>?_⟩
   obtain ⟨H6,e6,s6,h6⟩:=a0T hN (.lst []);rw [e6]
   have hNn:H2 N=none:=by
    cases e:H2 N with
    | none=>rfl
    | some o=>
     by_cases z:N=D
     ·rw [z,I3.d] at hN;cases hN
     ·rw [k3 _ _ e z] at hN;cases hN
   have hND:N≠D:=fun z=>by rw [z,I3.d] at hN;cases hN
   have ht3:=k3 _ _ hp2 htD
   have sz:∀n:Nat,n≤1000→n < sizeLine:=fun n h=>Xq h ‹dc›
   refine ⟨kvs,Sum.inr r.2.2.1,s6 _ _ I3.d,rfl,sz _ ‹om›,fun u hu=>?_,fun hu=>?_⟩
   ·rcases I3.at_ r.2.2.1 with ⟨e,_⟩ | ⟨M,e,_⟩
    ·rw [e] at hu;cases hu
    rw [e] at hu;cases hu
    obtain ⟨hM,hMn,I7⟩:=(I3.same s6).old (bd:=r.2.2.2) e
    have:=hfl r.2.2.1
    refine ⟨.inl ⟨rfl,_,SqL.of hM⟩,p,_,dx',_,_,rfl,s6 _ _ hp3,CF.cl,CF.nb,a1n _ _ _,M,t0,_,_,rfl,rfl,hM,SqT.of (s6 _ _ ht3),Ze (sz _ (by rw [Qc,Qc];omega)),?_⟩
    exact ⟨kvs,_,rfl,fun b o e n=>by rw [a0a (a0b e hMn)];exact s6 _ _ (k3 _ _ e n),I7⟩
   ·have I7:=I3.new (bd:=r.2.2.2) hu hN hNn (.lst [])
    rw [e6] at I7
    have hN7:upd H6 D (.dK (a1J kvs (Sum.inr r.2.2.1) (V.ref N))) N=some (.lst []):=by rw [a0a hND];exact h6
    refine ⟨.inl ⟨rfl,_,SqL.of hN7⟩,p,_,dx',_,_,rfl,(by rw [a0a hpD];exact s6 _ _ hp3),CF.cl,CF.nb,a1n _ _ _,N,t0,_,_,rfl,rfl,hN7,SqT.of (by rw [a0a htD];exact s6 _ _ ht3),Ze (sz _ (by rw [Qc,Xf];omega)),?_⟩
    exact ⟨_,_,rfl,fun b o e n=>by rw [a0a (a0b e hNn),a0a n];exact s6 _ _ (k3 _ _ e n),I7⟩
  ·rintro σ H3 ⟨kvs,x,rfl,k3,I3⟩
   rw [show rs.take ys.length=rs by rw [hyl];exact Yn] at I3
   have s03:a0m H H3:=fun c o e=>k3 _ _ (s02 _ _ e) (a0b e hD)
   simp only [a1R,a0M,a0n,a3T,a0C,Qd,Qb,a0P,Qi,a0f]
   refine ⟨by simp only [Qm,Xf];decide,fun p hp=>?_⟩
   obtain ⟨H4,e4,s4,h4⟩:=a0T hp (.lst [V.str z]);rw [e4]
   have I4:=I3.same s4
   refine ⟨p,D,[z],po,stB rs,rfl,SqL.of h4,⟨kvs,I4.d,fun p'=>(I4.at_ p').imp id fun ⟨N,a,_,c⟩=>⟨N,a,c,by have:=a2v hO p';omega⟩⟩,fun x hx=>?_,fun y hy=>⟨(hpo.1 y hy).1,fun w hw=>?_⟩,fun y hy=>(hpo.1 y hy).2,by have:=hpo.2.2;omega,by simp,fun D2 T2 H5 s5 hn h5 hR hN hS hl hT=>?_⟩
   ·rw [Qz.mp hx];exact hz
   ·obtain ⟨r,hr,hw⟩:=Ys.mp hw
    exact (hpo.2.1 r (Ye.mp hr).1).2 w hw
   ·exact q D2 T2 H5 ((s03.trans s4).trans s5) (none_of (s03.trans s4) hn) h5 hR hN hS (Qs (a1k hN hT) hpo.2.2) hT
theorem a5V (T:Txt K mg t):a1r P w K mg base CX0 5 t.f_z18 t.fd_z18 ["_law_ground","_law_rules","_law_some"] (a7N t):=by
 refine T.F_z18.ok a3l (fun vs H Q E h=>?_) (fun cdv A outer s H vs Q E hr h=>?_)
 ·obtain ⟨g,R,a,zr,pl,S,po,rfl,hG,hR,ha,hSl,hS,hpo,hpt,q⟩:=h;rfl
 ·obtain ⟨g,R,a,zr,pl,S,po,rfl,hG,hR,ha,hSl,hS,hpo,hpt,q⟩:=h
  refine ⟨_,‹A4 (C0 (C4 2) (B2 3 a3l.nd) (A4 (A6 4 a3l.nd (A7 (b2q T) T.g_z0w T.F_z0w.kp T.b_z0w (A0 0 (A0 3 A1)))) (D6 (B6 (D7 (D8 (D9 (C7 (B9 a2h T.z_isinstance a1i (A0 4 (A0 E7 A1))))) (E2 (B5 (a4G hr.units) 4 (A7 (a6M T) T.g_z0z T.F_z0z.kp T.b_z0z (A0 1 (A0 (B3 (A0 3 A1)) (A0 A2 A1)))) (a0K _))))) (A5 (A9 C8)) C1) (A5 (B1 (C9 Zi Zj a1W 4)))))) (A4 (A6 5 a3l.nd (B7 a0V T.z_list a0Q (A0 2 A1))) (A4 (A6 6 a3l.nd (A7 (a8V T) T.g_z11 T.F_z11.kp T.b_z11 (A0 0 (A0 5 A1)))) (D6 (B6 (D7 (D8 (D9 (C7 (B9 a2h T.z_isinstance a1i (A0 6 (A0 E7 A1))))) (D8 (B5 (a4G hr.units) 6 (A7 (a6M T) T.g_z0z T.F_z0z.kp T.b_z0z (A0 1 (A0 2 (A0 A2 A1)))) (a0K _)) (E2 (B5 (a4G hr.units) 5 2 (a0K _)))))) (A5 (A9 C8)) C1) (A4 (B1 (C9 Zi Zj a1W 6)) (A5 (A9 (E8 (A7 (a8V T) T.g_z11 T.F_z11.kp T.b_z11 (A0 0 (A0 5 A1))) (A7 (a6M T) T.g_z0z T.F_z0z.kp T.b_z0z (A0 1 (A0 2 (A0 A2 A1)))))))))))›,?_⟩
  rw [show start b2w [V.ref g,V.ref R,V.ref a]=[some (V.ref g),some (V.ref R),some (V.ref a),none,none,none,none] from rfl]
  have hO:∀r∈zr.map (·.2),a4f r:=fun r hr=>by
   obtain ⟨p,hp,rfl⟩:=Xm.mp hr
   exact (hR.2.2.2 p hp).1
  have hzl:(zr.map (·.2)).length≤63:=by rw [Qc];have:=hR.2.2.1;omega
  have sok:∀z∈po,Xu z=true:=fun z hz=>((hpt z hz).ok ‹dc›).1
  simp only [a1y,a0J,a2A,a0C,Qd,Qb,a0f,a1w]
  refine ⟨⟨_,SqL.of ha⟩,?_⟩
  refine a0X (K:=K) (a:=a) (xs:=S.map V.str) (fun j σ H'=>∃(x3 x4:Option V),σ=[some (V.ref g),some (V.ref R),some (V.ref a),x3,x4,none,none]∧a0m H H') ⟨_,_,rfl,a0m.refl _⟩ (fun i σ H' _ ⟨_,_,_,s'⟩=>SqL.of (s' _ _ ha)) ?_ ?_
  ·rintro j x σ H1 hj ⟨x3,x4,rfl,s1⟩
   obtain ⟨hj',rfl⟩:=a3R hj
   have hz:=hS _ (Xi hj')
   generalize S[j]=z at hz ⊢
   simp only [a0u,a1y,a2y,a0M,a0n,a0C,Qn,Qo,Qb,Qd,a0P,Qi,a0f]
   refine ⟨g,z,_,pl,po,rfl,hG.same s1,hO,hzl,hz,hpo,fun D T1 H2 s2 hDn hD hR1 hN1 ho1 hl1 hp1=>?_⟩
   refine ⟨fun σ' H'=>σ'=[some (V.ref g),some (V.ref R),some (V.ref a),some (V.str z),some (V.ref D),none,none]∧a0m H2 H',?_,?_⟩
   ·simp only [a4o,tOr,b3q,tB,tCB,a0n,a0C,Qd,Qb,tC,a0P,Zn,a1R,a1O,a1G,tOp,a0M,a3T,Qi,a0f]
    refine a4p hD ?_
    simp only [a4d,a9q]
    refine ⟨by simp only [Qm,Xf];decide,fun p hp=>?_⟩
    obtain ⟨H3,e3,s3,g3⟩:=a0T hp (.lst [V.str z]);rw [e3]
    have s03:=(s1.trans s2).trans s3
    refine ⟨R,p,0,zr,[z],po,rfl,hR.same s03,g3,by simp,fun x hx=>by rw [Qz.mp hx];exact hz,hpo,hpt,fun D2 T2 H4 s4 hD2n hD2 hR2 hN2 ho2 hl2 hp2=>?_⟩
    rw [if_pos rfl] at hR2
    have e:=a2Y hN1 hN2 ho1 ho2 (hR1.uniq hR2 (fun _ _=>Iff.rfl) fun _=>Iff.rfl)
    subst e
    refine a1T (SqL.of ((s3.trans s4) _ _ hD)) (SqL.of hD2) (fun z hz=>sok z (hp1 z hz)) (fun z hz=>sok z (hp1 z hz)) ⟨_,rfl,?_⟩
    rw [decide_eq_true rfl,if_neg ‹dc›]
    exact ⟨trivial,s3.trans s4⟩
   ·rintro σ' H3 ⟨rfl,s3⟩
    simp only [a1u,b1b,a0C,Qd,Qb,a0f]
    have hD3:=s3 _ _ hD
    refine ⟨.inl ⟨rfl,_,SqL.of hD3⟩,D,_,rfl,rfl,hD3,_,_,rfl,fun b o e=>?_⟩
    rw [a0a (a0b (s1 _ _ e) hDn)];exact s3 _ _ (s2 _ _ (s1 _ _ e))
  ·rintro σ H1 ⟨x3,x4,rfl,s1⟩
   simp only [a1y,a2y,tCB,a0n,a0C,Qd,Qb,a0P,a0u,a0M,Qn,Qo,Qi,a0f]
   refine ⟨a,_,rfl,.inl (SqL.of (s1 _ _ ha)),fun Hd hHd=>?_⟩
   obtain ⟨H2,e2,s2,g2⟩:=a0T hHd (.lst (S.map V.str));rw [e2]
   have s02:=s1.trans s2
   refine ⟨g,Hd,_,pl,S,po,rfl,hG.same s02,hO,hzl,SqL.of g2,hS,hSl,hpo,fun D T1 H3 s3 hDn hD hR1 hN1 ho1 hl1 hp1=>?_⟩
   have s03:=s02.trans s3
   have hg3:=s3 _ _ g2
   have clo:∀(Hx:Hp),a0m H Hx→∀Q':VK,(∀D2 H',a0m Hx H'→H' D2=some (.lst (T1.map V.str))→Q' (.ref D2) H')→a4K t [V.ref R,V.ref a,V.int 1] Hx Q' E0:=fun Hx sx Q' hq=>by
    refine ⟨R,a,1,zr,S,po,rfl,hR.same sx,sx _ _ ha,hSl,hS,hpo,hpt,fun D2 T2 H4 s4 hD2n hD2 hR2 hN2 ho2 hl2 hp2=>?_⟩
    rw [if_neg ‹dc›] at hR2
    have e:=a2Y hN1 hN2 ho1 ho2 (hR1.uniq hR2 (fun _ _=>Iff.rfl) fun _=>Iff.rfl)
    subst e
    exact hq D2 H4 s4 hD2
   refine ⟨fun σ' H'=>σ'=[some (V.ref g),some (V.ref R),some (V.ref a),x3,x4,some (V.ref Hd),some (V.ref D)]∧a0m H3 H',?_,?_⟩
   ·simp only [a4o,tOr,b3q,tB,tCB,a0n,a0C,Qd,Qb,tC,a0P,Zn,a1R,a1O,a1G,tOp,a0M,Qi,a0f]
    refine a4p hD ?_
    simp only [a4d,a9q]
    refine clo H3 s03 _ fun D2 H4 s4 hD2=>?_
    refine a1T (SqL.of (s4 _ _ hD)) (SqL.of hD2) (fun z hz=>sok z (hp1 z hz)) (fun z hz=>sok z (hp1 z hz)) ⟨_,rfl,?_⟩
    rw [decide_eq_true rfl,if_neg ‹dc›]
    refine a1T (SqL.of (s4 _ _ hg3)) (SqL.of (s4 _ _ (s03 _ _ ha))) (fun z hz=>sok z (hS z hz)) (fun z hz=>sok z (hS z hz)) ⟨_,rfl,?_⟩
    rw [decide_eq_true rfl,if_neg ‹dc›]
    exact ⟨trivial,s4⟩
   ·rintro σ' H4 ⟨rfl,s4⟩
    simp only [a1y,a1u,b1b,a0C,Qd,Qb,a1R,tOp,a0M,a0n,a0P,Qi,tC,a0f]
    have hD4:=s4 _ _ hD
    refine ⟨.inl ⟨rfl,_,SqL.of hD4⟩,D,_,rfl,rfl,hD4,?_⟩
    have s5:a0m H2 (upd H4 D (.lst [])):=fun b o e=>by rw [a0a (a0b e hDn)];exact s4 _ _ (s3 _ _ e)
    generalize upd H4 D (.lst [])=H5 at s5 ⊢
    have s05:=s02.trans s5
    refine ⟨g,Hd,_,pl,S,po,rfl,hG.same s05,hO,hzl,SqL.of (s5 _ _ g2),hS,hSl,hpo,fun D3 T3 H6 s6 hD3n hD3 hR3 hN3 ho3 hl3 hp3=>?_⟩
    have e:=a2Y hN1 hN3 ho1 ho3 (hR1.uniq hR3 (fun _ _=>Iff.rfl) fun _=>Iff.rfl)
    subst e
    refine clo H6 (s05.trans s6) _ fun D2 H7 s7 hD2=>?_
    refine a8M (SqL.of (s7 _ _ hD3)) (SqL.of hD2) (fun z hz=>sok z (hp1 z hz)) (fun z hz=>sok z (hp1 z hz)) ?_
    rw [decide_eq_true rfl]
    exact q _ ((s05.trans s6).trans s7)
theorem a2t (T:Txt K mg t):a1r P w K mg base CX0 1 t.f_z1a t.fd_z1a ["_law_cell","_law_k"] b2e:=by
 refine T.F_z1a.ok a4L (fun vs H Q E h=>?_) (fun cdv A outer s H vs Q E hr h=>?_)
 ·obtain ⟨c,k,rfl,q⟩:=h;rfl
 ·obtain ⟨c,k,rfl,q⟩:=h
  refine ⟨_,‹A4 (A6 2 a4L.nd (A3 a0F (A3 a0g (A3 a0g (A3 a0F 0 A2) (A3 a3K A2 1)) A2) A2)) (A4 (A6 2 a4L.nd (A3 a0F (A3 a3K 2 2) A2)) (A4 (A6 2 a4L.nd (A3 a0F (A3 a0g (A3 a3K 2 A2) 1) A2)) (A5 (A9 (A3 a0F (A3 a3K 2 2) A2)))))›,?_⟩
  rw [show start b2G [V.int c,V.int k]=[some (V.int c),some (V.int k),none] from rfl]
  simp only [a1y,a2y,tOp,a0C,Qb,tC,Qd,a0u,Qn,Qo,a1R,a0f,a1c,b3g,a0B]
  have h1:=a0U (i:=c % 2147483647+7919 * k+12345) (j:=2147483647) ‹dc›
  generalize (c % 2147483647+7919 * k+12345) % 2147483647=n at h1 ⊢
  have h2:=a0U (i:=n * n) (j:=2147483629) ‹dc›
  generalize n * n % 2147483629=m at h2 ⊢
  have h3:=a0U (i:=m * 48271+k) (j:=2147483647) ‹dc›
  generalize (m * 48271+k) % 2147483647=l at h3 ⊢
  exact ⟨by decide,.inl ‹dc›,by decide,.inl ‹om›,by decide,.inl ‹om›,by decide,.inl ‹om›,by decide,q _ (Int.emod_nonneg _ ‹dc›)⟩
theorem a9l (T:Txt K mg t):a1r P w K mg base CX0 2 t.f_z12 t.fd_z12 ["_law_cell","_law_many"] a9W:=by
 refine T.F_z12.ok a1L (fun vs H Q E h=>?_) (fun cdv A outer s H vs Q E hr h=>?_)
 ·obtain ⟨c,m,rfl,hm,q⟩:=h;rfl
 ·obtain ⟨c,m,rfl,hm,q⟩:=h
  refine ⟨_,‹A4 (A6 2 a1L.nd B0) (A4 (D0 3 (D1 (a0e a5B) b0l ["_law_k","_law_signs","_law_cell"] [none,some 2,some 0]) ‹D2 (A0 A2 A1)› (B2 0 (show Jb (["_law_k","_law_signs","_law_cell"]:List Str) by decide+kernel)) D3 (A8 (a6N (K:=K) rfl) 1 (A3 a0F (A7 (a2t T) T.g_z1a T.F_z1a.kp T.b_z1a (A0 2 (A0 (A3 (a1Y (K:=K) rfl) A2 0) A1))) A2)) a1L.nd) (A4 (A6 4 a1L.nd (A3 a0g A2 (A3 a0F (A7 (a2t T) T.g_z1a T.F_z1a.kp T.b_z1a (A0 0 (A0 A2 A1))) A2))) (A4 (A6 5 a1L.nd (A3 a0F (A7 (a2t T) T.g_z1a T.F_z1a.kp T.b_z1a (A0 0 (A0 A2 A1))) 4)) (A4 (A6 6 a1L.nd (B3 A1)) (A4 (C0 (D2 (A0 1 A1)) (B2 7 a1L.nd) (A4 (A6 8 a1L.nd (B7 a0V T.z_list a0Q (A0 3 A1))) (A4 (F4 (A8 a0l 2 (A3 a0F (A3 a0g (A7 (a2t T) T.g_z1a T.F_z1a.kp T.b_z1a (A0 0 (A0 A2 A1))) 7) A2)) (F5 8 5 a8z)) (A5 (B6 (B5 (a1F hr.units) (A3 a0F 0 A2) A2 (a0K _)) (A5 (B1 (B4 Xc Xn Xo a0t 6 (A0 (B4 Jh Vh Vi a6x B0 (A0 (C3 3 C5 (C2 (A3 a0g A2 7))) A1)) A1)))) (A5 (B1 (B4 Xc Xn Xo a0t 6 (A0 (B4 Jh Vh Vi a6x B0 (A0 (C3 8 C5 (C2 4)) A1)) A1))))))))) (A5 (A9 6)))))))›,?_⟩
  rw [show start b0l [V.int c,V.int m]=[some (V.int c),some (V.int m),none,none,none,none,none,none,none] from rfl]
  simp only [a1y,a2y,tC,a0u,Qn,Qo,tOp,a0M,a0n,a0C,Qb,a0P,Qi,Qd,a3T,a0J,a8D,a0f,a1p,a1c,a0B,a2S]
  rw [b2m]
  refine ⟨8,rfl,by decide,by decide,?_⟩
  refine a7B a2l (Qs (show (8:Int).toNat≤1000 by decide) ‹dc›) [some (V.str (mk a5d)),some (V.int c)] rfl (fun i v=>∃d,v=sv [d]∧d∈a5d) (fun _ _=>trivial) (fun i H' R hi s hR=>?_) (fun B H1 ys hBn s1 hB hl hv=>?_)
  ·simp only [tOp,a0C,Qd,Qb,a0M,a0n,tC,a0P,Qi,a0f,a0B,a1p,a1c,a4i]
   intro r hr
   have m26:=a0U (i:=r) (j:=26) ‹dc›
   obtain ⟨d,e,hd,_⟩:=a2C (xs:=a5d) m26.1 m26.2
   exact ⟨by decide,a1E (by rw [a1h];decide),d,e,hR _ _ (a0m.refl _) ⟨d,rfl,hd⟩⟩
  obtain ⟨cs,rfl,hcs⟩:=a8Z hv
  have hcl:cs.length=8:=by rw [Qc,a6F] at hl;exact hl
  intro r hr
  have m8:=a0U (i:=r) (j:=8) ‹dc›
  refine ⟨by decide,fun r1 hr1=>?_⟩
  have mz:=a0U (i:=r1) (j:=1+r % 8) ‹om›
  refine ⟨by omega,by decide,fun F hF=>⟨_,rfl,by omega,by omega,?_⟩⟩
  have hsz:1≤1+r % 8∧1+r % 8≤8:=by omega
  generalize 1+r % 8=sz at mz hsz ⊢
  generalize r1 % sz=at0 at mz ⊢
  obtain ⟨H2,e2,s2,h2⟩:=a0T hF (.lst []);rw [e2]
  have hFn:H F=none:=none_of s1 hF
  refine a3O (n:=m.toNat) (lo:=0) (fun i σ H'=>∃(ws:List (List Nat)) (x7 x8:Option V),σ=[some (V.int c),some (V.int m),some (V.str (mk a5d)),some (V.ref B),some (V.int sz),some (V.int at0),some (V.ref F),x7,x8]∧a0m H H'∧H' B=some (.lst (pv' (sgl cs)))∧H' F=some (.lst (pv' ws))∧ws.length=i∧∀w∈ws,IsW w)
   ⟨[],_,_,rfl,s1.trans s2,s2 _ _ hB,h2,rfl,by simp⟩ ?_ ?_
  ·rintro i σ H3 hi ⟨ws,x7,x8,rfl,s3,hB3,hF3,hwl,hww⟩
   have hBF:B≠F:=a0b hB hF
   simp only [a0u,a1y,a2y,tCB,a0n,a0C,Qn,Qo,Qd,Qb,a0P,tOp,a0M,tC,Qi,b4t,a4o,a1G,a1u,tBM,tSl,a1x,a3S,a0f,a0B,a4m,a7M,a1c,a1q,a4d,decide_eq_true_eq,a1p,a4i]
   refine ⟨B,_,rfl,.inl (SqL.of hB3),fun O hO=>?_⟩
   obtain ⟨H4,e4,s4,h4⟩:=a0T hO (.lst (pv' (sgl cs)));rw [e4]
   intro r2 hr2
   have m26:=a0U (i:=r2+(0+(i:Int))) (j:=26) ‹dc›
   obtain ⟨d,e,hd,_⟩:=a2C (xs:=a5d) m26.1 m26.2
   refine ⟨by decide,a1E (by rw [a1h];decide),d,e,?_⟩
   refine a7W h4 mz.1 (by rw [Qc,a6F,hcl];omega) ?_
   rw [show (V.str (⟨#[d]⟩:Str))=sv [d] from rfl,b0j]
   obtain ⟨H5,e5,s5,h5⟩:∃H5,upd H4 O (.lst (pv' (sgl (cs.set at0.toNat d))))=H5∧a0m H3 H5∧H5 O=some (.lst (pv' (sgl (cs.set at0.toNat d)))):=⟨_,rfl,fun b o e=>by rw [a0a (a0b e hO)];exact s4 _ _ e,a0d⟩
   rw [e5]
   have hF5:=s5 _ _ hF3
   have hB5:=s5 _ _ hB3
   have fin:∀(H6:Hp) (w:List Nat),a0m H5 H6→IsW w→∃(ws':List (List Nat)) (x7' x8':Option V),[some (V.int c),some (V.int m),some (V.str (mk a5d)),some (V.ref B),some (V.int sz),some (V.int at0),some (V.ref F),some (V.int (0+(i:Int))),some (V.ref O)]=[some (V.int c),some (V.int m),some (V.str (mk a5d)),some (V.ref B),some (V.int sz),some (V.int at0),some (V.ref F),x7',x8']∧a0m H (upd H6 F (.lst (pv' ws++[sv w])))∧upd H6 F (.lst (pv' ws++[sv w])) B=some (.lst (pv' (sgl cs)))∧upd H6 F (.lst (pv' ws++[sv w])) F=some (.lst (pv' ws'))∧ws'.length=i+1∧∀w∈ws',IsW w:=fun H6 w s6 hw=>by
    refine ⟨ws++[w],_,_,rfl,fun b o e=>by rw [a0a (a0b e hFn)];exact s6 _ _ (s5 _ _ (s3 _ _ e)),by rw [a0a hBF];exact s6 _ _ hB5,by rw [a0d,b2v],by simp [hwl],fun x hx=>?_⟩
    rcases Qy.mp hx with z | z
    ·exact hww x z
    ·rw [Qz.mp z];exact hw
   have hj:∀(ds:List Nat),ds.length≤8→(((sgl ds).map mk).map (·.length)).sum+((sgl ds).map mk).length * ("":Str).length≤16777216:=fun ds hd=>by
    rw [a6l,show ("":Str).length=0 from rfl];omega
   have hwb:(pv' ws).length < sizeLine:=Xq (show _≤1000 by rw [Qc];omega) ‹dc›
   try skip
   refine ⟨by decide,a4y (fun c1=>?_) (fun c1=>?_)⟩
   ·refine ⟨.inl ⟨rfl,_,SqL.of hF5⟩,.inr (.inl ⟨B,_,rfl,SqL.of hB5,fun Z hZ=>?_⟩)⟩
    rw [a1U _ ‹om›,a6v,a4O]
    obtain ⟨H6,e6,s6,h6⟩:=a0T hZ (.lst (pv' (sgl (cs.take (1+(0+(i:Int))).toNat))));rw [e6]
    have hw:=a8X hcl hcs (k:=(1+(0+(i:Int))).toNat) ‹om› ‹om›
    refine a4r (ys:=(sgl (cs.take (1+(0+(i:Int))).toNat)).map mk) (.inl (by rw [Uq];exact SqL.of h6)) (hj _ hw.2.1) ?_
    rw [show ("":Str)=mk [] from rfl,a6E,a4z]
    exact ⟨F,_,_,rfl,rfl,s6 _ _ hF5,hwb,fin H6 _ s6 hw⟩
   ·refine ⟨.inl ⟨rfl,_,SqL.of hF5⟩,.inr (.inl ⟨O,_,rfl,SqL.of h5,fun Z hZ=>?_⟩)⟩
    rw [a1U _ ‹om›,a6v,a4O]
    obtain ⟨H6,e6,s6,h6⟩:=a0T hZ (.lst (pv' (sgl ((cs.set at0.toNat d).take sz.toNat))));rw [e6]
    have hw:=a8X (cs:=cs.set at0.toNat d) (by rw [List.length_set];exact hcl) (fun x hx=>by
     rcases List.mem_or_eq_of_mem_set hx with z | z
     ·exact hcs x z
     ·rw [z];exact hd) (k:=sz.toNat) ‹om› ‹om›
    refine a4r (ys:=(sgl ((cs.set at0.toNat d).take sz.toNat)).map mk) (.inl (by rw [Uq];exact SqL.of h6)) (hj _ hw.2.1) ?_
    rw [show ("":Str)=mk [] from rfl,a6E,a4z]
    exact ⟨F,_,_,rfl,rfl,s6 _ _ hF5,hwb,fin H6 _ s6 hw⟩
  ·rintro σ H3 ⟨ws,x7,x8,rfl,s3,hB3,hF3,hwl,hww⟩
   simp only [a1R,a0C,Qd,Qb,a0f]
   exact q F ws H3 s3 hFn hF3 hwl hww
theorem b2X (T:Txt K mg t):a1r P w K mg base CX0 3 t.f_z16 t.fd_z16 ["_law_script"] (a8l K):=by
 refine T.F_z16.ok a2N (fun vs H Q E h=>?_) (fun cdv A outer s H vs Q E hr h=>?_)
 ·obtain ⟨a,ns,rfl,hS,hl,q⟩:=h;rfl
 ·obtain ⟨a,ns,rfl,hS,hl,q⟩:=h
  refine ⟨_,‹A4 (A6 1 a2N.nd (A7 (a9l T) T.g_z12 T.F_z12.kp T.b_z12 (A0 (A7 (a3n T) T.g_z0s T.F_z0s.kp T.b_z0s (A0 0 (A0 A2 A1))) (A0 A2 A1)))) (A4 (A6 2 a2N.nd (A7 (a9l T) T.g_z12 T.F_z12.kp T.b_z12 (A0 (A7 (a2t T) T.g_z1a T.F_z1a.kp T.b_z1a (A0 (A7 (a3n T) T.g_z0s T.F_z0s.kp T.b_z0s (A0 0 (A0 A2 A1))) (A0 A2 A1))) (A0 A2 A1)))) (A4 (A6 3 a2N.nd (B3 (A0 (A8 a0l 1 A2) (A0 (A3 a0g (A3 a0g (A3 a0g (A8 a0l 1 A2) B0) (A8 a0l 2 A2)) B0) (A0 (A3 a0g (A3 a0g (A3 a0g (A3 a0g (A3 a0g (A8 a0l 1 A2) B0) (A8 a0l 2 A2)) B0) (A8 a0l 2 A2)) B0) (A0 (A8 a0l 1 A2) A1)))))) (A4 (A6 3 a2N.nd (A3 a0g 3 (B3 (A0 (A3 a0g (A3 a0g (A3 a0g (A8 a0l 1 A2) B0) (A8 a0l 2 A2)) B0) (A0 (A8 a0l 1 A2) (A0 (A3 a0g (A3 a0g (A3 a0g (A3 a0g (A3 a0g (A8 a0l 1 A2) B0) (A8 a0l 2 A2)) B0) (A8 a0l 2 A2)) B0) A1)))))) (A4 (A6 3 a2N.nd (A3 a0g 3 (B3 (A0 (A3 a0g (A3 a0g (A3 a0g (A8 a0l 1 A2) B0) (A8 a0l 2 A2)) B0) (A0 (A3 a0g (A3 a0g (A3 a0g (A8 a0l 1 A2) B0) (A8 a0l 2 A2)) B0) A1))))) (A5 (A9 (C3 3 C5 (C2 (A3 a0g A2 (A3 a0F (A7 (a3n T) T.g_z0s T.F_z0s.kp T.b_z0s (A0 0 (A0 A2 A1))) A2))))))))))›,?_⟩
  rw [show start b3i [V.ref a]=[some (V.ref a),none,none,none] from rfl]
  simp only [a1y,a2y,a0M,a0n,a0C,Qb,tC,a0P,Qi,a0u,Qn,Qo,a3T,tOp,Qd,a1R,tSl,a1x,a3S,a0f]
  refine ⟨a,ns,0,rfl,hS,hl,by decide,by decide,fun c0=>?_⟩
  refine ⟨c0,3,rfl,by decide,fun Na nm H1 s1 hNn hNa hNl hNw=>?_⟩
  have hS1:SqL K H1 a (ns.map V.int):=s1.seq hS
  simp only []
  refine ⟨a,ns,0,rfl,hS1,hl,by decide,by decide,fun c1=>?_⟩
  simp only [a1p]
  intro r hr
  refine ⟨r,2,rfl,by decide,fun Ta th H2 s2 hTn hTa hTl hTw=>?_⟩
  have hN2:=s2 _ _ hNa
  obtain ⟨n0,n1,n2,rfl⟩:∃n0 n1 n2,nm=[n0,n1,n2]:=by
   match nm,hNl with
   | [x,y,z],_=>exact ⟨x,y,z,rfl⟩
  obtain ⟨t0,t1,rfl⟩:∃t0 t1,th=[t0,t1]:=by
   match th,hTl with
   | [x,y],_=>exact ⟨x,y,rfl⟩
  have w0:=hNw n0 (by simp)
  have w1:=hNw n1 (by simp)
  have w2:=hNw n2 (by simp)
  have u0:=hTw t0 (by simp)
  have u1:=hTw t1 (by simp)
  clear hNl hTl
  have b0:=w0.2.1
  have b1:=w1.2.1
  have b2:=w2.2.1
  have d0:=u0.2.1
  have d1:=u1.2.1
  have lw:∀{l:List Nat},IsW l→∀x∈l,x < 128:=fun h x hx=>b1C (h.2.2 x hx)
  have ne:∀{l:List Nat},IsW l→l≠[]:=fun h z=>by have:=h.1;rw [z] at this;simp at this
  have ap:∀{l m:List Nat},IsW l→m.length≤22→(∀x∈m,x < 128)→TxN 30 (mk (l++m)):=fun {l m} h h1 h2=>TxN.of (fun z=>ne h (List.append_eq_nil_iff.mp z).1) (by rw [Ql];have:=h.2.1;omega) (fun x hx=>(Qy.mp hx).elim (lw h x) (h2 x))
  simp only []
  rw [show (Qv "(")=mk [40] by decide+kernel,show (Qv ")")=mk [41] by decide+kernel,show (Qv ",")=mk [44] by decide+kernel]
  repeat (first | refine a0D (SqL.of hN2) rfl ?_ | refine a0D (SqL.of hTa) rfl ?_ | refine a6z (by simp only [Ql,Qm,Xf];omega) ?_)
  refine ⟨by simp only [Qm,Xf];decide,fun p1 hp1=>?_⟩
  obtain ⟨H3,e3,s3,h3⟩:=a0T hp1 (.lst ([mk n0,mk (n1++[40]++t0++[41]),mk (n0++[40]++t1++[44]++t0++[41]),mk n2].map V.str))
  have e3':upd H2 p1 (.lst [V.str (mk n0),sv (n1++[40]++t0++[41]),sv (n0++[40]++t1++[44]++t0++[41]),V.str (mk n2)])=H3:=e3
  rw [e3']
  have hN3:=s3 _ _ hN2
  have hT3:=s3 _ _ hTa
  repeat (first | refine a0D (SqL.of hN3) rfl ?_ | refine a0D (SqL.of hT3) rfl ?_ | refine a6z (by simp only [Ql,Qm,Xf];omega) ?_)
  refine ⟨by simp only [Qm,Xf];decide,fun p2 hp2=>?_⟩
  obtain ⟨H4,e4,s4,h4⟩:=a0T hp2 (.lst ([mk (n1++[40]++t1++[41]),mk n1,mk (n2++[40]++t0++[44]++t0++[41])].map V.str))
  have e4':upd H3 p2 (.lst [sv (n1++[40]++t1++[41]),V.str (mk n1),sv (n2++[40]++t0++[44]++t0++[41])])=H4:=e4
  rw [e4']
  refine a2W (s4 _ _ h3) h4 (by simp) fun p3 hp3=>?_
  obtain ⟨a7,ea7⟩:∃all:List Str,[mk n0,mk (n1++[40]++t0++[41]),mk (n0++[40]++t1++[44]++t0++[41]),mk n2]++[mk (n1++[40]++t1++[41]),mk n1,mk (n2++[40]++t0++[44]++t0++[41])]=all:=⟨_,rfl⟩
  rw [ea7]
  have hal7:a7.length=7:=by rw [←ea7];rfl
  obtain ⟨H5,e5,s5,h5⟩:=a0T hp3 (.lst (a7.map V.str));rw [e5]
  have hN5:=s5 _ _ (s4 _ _ hN3)
  have hT5:=s5 _ _ (s4 _ _ hT3)
  try skip
  repeat (first | refine a0D (SqL.of hN5) rfl ?_ | refine a0D (SqL.of hT5) rfl ?_ | refine a6z (by simp only [Ql,Qm,Xf];omega) ?_)
  refine ⟨by simp only [Qm,Xf];decide,fun p5 hp5=>?_⟩
  obtain ⟨H6,e6,s6,h6⟩:=a0T hp5 (.lst ([mk (n0++[40]++t1++[41]),mk (n2++[40]++t1++[41])].map V.str))
  have e6':upd H5 p5 (.lst [sv (n0++[40]++t1++[41]),sv (n2++[40]++t1++[41])])=H6:=e6
  rw [e6']
  refine a2W (s6 _ _ h5) h6 (by simp only [Qm,Xf];omega) fun p6 hp6=>?_
  obtain ⟨all,eall⟩:∃all:List Str,a7++[mk (n0++[40]++t1++[41]),mk (n2++[40]++t1++[41])]=all:=⟨_,rfl⟩
  have hal:all.length=9:=by rw [←eall,Ql,hal7];rfl
  have low:∀{l:List Nat},IsW l→45∉l:=fun h x=>by have:=h.2.2 45 x;revert this;decide
  have nd:∀{l m:List Nat},IsW l→45∉m→NoD (mk (l++m)):=fun {l m} h h1=>by
   cases l with
   | nil=>exact absurd rfl (ne h)
   | cons c r=>exact ⟨c,r++m,rfl,fun z=>(Qy.mp (show 45∈(c::r)++m from z)).elim (low h) h1⟩
  have hall:∀z∈all,TxN 30 z∧NoD z:=by
   have one:∀{l:List Nat},IsW l→(∀x∈[40]++l++[41],x < 128)∧45∉[40]++l++[41]:=fun {l} h=>⟨fun x hx=>by
    simp only [Qy,Qz] at hx
    rcases hx with (rfl | e) | rfl
    ·decide
    ·exact lw h x e
    ·decide,fun hx=>by
    simp only [Qy,Qz] at hx
    rcases hx with (e | e) | e
    ·revert e;decide
    ·exact low h e
    ·revert e;decide⟩
   have two:∀{l m:List Nat},IsW l→IsW m→(∀x∈[40]++l++[44]++m++[41],x < 128)∧45∉[40]++l++[44]++m++[41]:=fun {l m} h k=>⟨fun x hx=>by
    simp only [Qy,Qz] at hx
    rcases hx with (((rfl | e) | rfl) | e) | rfl
    ·decide
    ·exact lw h x e
    ·decide
    ·exact lw k x e
    ·decide,fun hx=>by
    simp only [Qy,Qz] at hx
    rcases hx with (((e | e) | e) | e) | e
    ·revert e;decide
    ·exact low h e
    ·revert e;decide
    ·exact low k e
    ·revert e;decide⟩
   have w':∀{l:List Nat},IsW l→TxN 30 (mk l)∧NoD (mk l):=fun {l} h=>⟨TxN.of (ne h) (by have:=h.2.1;omega) (lw h),by have:=nd h (m:=[]) (by simp);rwa [Qi] at this⟩
   have f1:∀{l m:List Nat},IsW l→IsW m→TxN 30 (mk (l++[40]++m++[41]))∧NoD (mk (l++[40]++m++[41])):=fun {l m} h k=>by
    have a1:=ap (l:=l) (m:=[40]++m++[41]) h (by have:=k.2.1;simp;omega) (one k).1
    have a2:=nd (l:=l) (m:=[40]++m++[41]) h (one k).2
    exact ⟨by simpa [Yq] using a1,by simpa [Yq] using a2⟩
   have f2:∀{l m m':List Nat},IsW l→IsW m→IsW m'→TxN 30 (mk (l++[40]++m++[44]++m'++[41]))∧NoD (mk (l++[40]++m++[44]++m'++[41])):=fun {l m m'} h k k'=>by
    have a1:=ap (l:=l) (m:=[40]++m++[44]++m'++[41]) h (by have:=k.2.1;have:=k'.2.1;simp;omega) (two k k').1
    have a2:=nd (l:=l) (m:=[40]++m++[44]++m'++[41]) h (two k k').2
    exact ⟨by simpa [Yq] using a1,by simpa [Yq] using a2⟩
   intro z hz
   rw [←eall,←ea7] at hz
   simp only [Qy,Qt,Xj,or_false] at hz
   rcases hz with ((rfl | rfl | rfl | rfl) | (rfl | rfl | rfl)) | (rfl | rfl)
   ·exact w' w0
   ·exact f1 w1 u0
   ·exact f2 w0 u1 u0
   ·exact w' w2
   ·exact f1 w1 u1
   ·exact w' w1
   ·exact f2 w2 u0 u0
   ·exact f1 w0 u1
   ·exact f1 w2 u1
  rw [eall]
  obtain ⟨H7,e7,s7,h7⟩:=a0T hp6 (.lst (all.map V.str));rw [e7]
  have s27:=(((s3.trans s4).trans s5).trans s6).trans s7
  have hS7:SqL K H7 a (ns.map V.int):=(s2.trans s27).seq hS1
  try skip
  refine ⟨a,ns,1,rfl,hS7,hl,by decide,by decide,fun c2=>?_⟩
  have m8:=a0U (i:=c2) (j:=8) ‹dc›
  simp only [a1c,a0B,a4m]
  refine ⟨by decide,.inr (.inl ⟨p6,_,rfl,SqL.of h7,fun p4 hp4=>?_⟩)⟩
  rw [a1U _ ‹om›,←Jj]
  obtain ⟨H8,e8,s8,h8⟩:=a0T hp4 (.lst ((all.take (2+c2 % 8).toNat).map V.str));rw [e8]
  have s07:=((s1.trans s2).trans s27)
  exact q p4 _ H8 (s07.trans s8) (none_of s07 hp4) h8 (by rw [Xh];omega) (by rw [Xh];omega) (fun z hz=>(hall z (Yp hz)).1) fun z hz=>(hall z (Yp hz)).2
theorem a4T (T:Txt K mg t):a1r P w K mg base CX0 1 t.f_z0m t.fd_z0m ["self","label","head","body"] (b3k K):=by
 refine T.F_z0m.ok b1g (fun vs H Q E h=>?_) (fun cdv A outer s H vs Q E hr h=>?_)
 ·obtain ⟨x,C,dx,lb,hd,b,bs,rfl,hx,hC,hb,q⟩:=h;rfl
 ·obtain ⟨x,C,dx,lb,hd,b,bs,rfl,hx,hC,hb,q⟩:=h
  refine ⟨_,‹A4 (C6 0 1) (A4 (C6 0 2) (A5 (C6 0 (B7 a2F T.z_tuple a2a (A0 3 A1)))))›,?_⟩
  rw [show start b2s [V.ref x,lb,hd,V.ref b]=[some (V.ref x),some (lb),some (hd),some (V.ref b)] from rfl]
  obtain ⟨cl,n1,n2,n3⟩:=hC
  simp only [a1y,b3r,a0C,Qd,Qb,tCB,a0n,a0P,a0f]
  have cut:∀(H0:Hp),(∀c o,H c=some o→c≠x→H0 c=some o)→H0 x=some (.ins C dx (a0O "head" hd (a0O "label" lb [])))→∀t,H0 t=some (.tup bs)→t≠x→(∀c o,H c=some o→c≠x→upd H0 x (.ins C dx (a8W lb hd t)) c=some o)∧a1s (upd H0 x (.ins C dx (a8W lb hd t))) x C lb hd bs:=fun H0 k0 h0 t ht htx=>
   ⟨fun c o e hc=>by rw [a0a hc];exact k0 c o e hc,dx,t,a0d,by rw [a0a htx];exact ht⟩
  refine ⟨x,C,dx,_,rfl,hx,cl,n1,by show 0 < 1000;decide,x,C,dx,_,rfl,a0d,cl,n2,by show 1 < 1000;decide,?_⟩
  rw [a9D]
  obtain ⟨H1,e1,k1,h1⟩:∃H',upd H x (.ins C dx (a0O "head" hd (a0O "label" lb [])))=H'∧(∀c o,H c=some o→c≠x→H' c=some o)∧H' x=some (.ins C dx (a0O "head" hd (a0O "label" lb []))):=⟨_,rfl,fun c o e hc=>by rw [a0a hc];exact e,a0d⟩
  rw [e1]
  have hlen:(a0O "head" hd (a0O "label" lb [])).length < 1000:=by
   rw [show a0O "head" hd (a0O "label" lb [])=([("label",lb),("head",hd)]:List (Str×V)) from by
    show (if ("label":Str)="head" then _ else _)=_
    rw [if_neg ‹dk›];rfl]
   show 2 < 1000;decide
  rcases hb with hb | ⟨hb,hb'⟩
  ·have hb1:SqL K H1 b bs:=by
    rcases hb with (hb | ⟨o,hb⟩) | hb
    ·exact .inl (.inl (k1 _ _ hb (a0G hb hx ‹iz›)))
    ·exact .inl (.inr ⟨o,k1 _ _ hb (a0G hb hx ‹iz›)⟩)
    ·exact .inr hb
   refine ⟨b,bs,rfl,.inl ⟨hb1,fun t ht=>?_⟩⟩
   have htx:t≠x:=fun z=>by rw [z,h1] at ht;cases ht
   obtain ⟨H2,e2,s2,h2⟩:=a0T ht (.tup bs);rw [e2]
   obtain ⟨a1,a2⟩:=cut H2 (fun c o e hc=>s2 _ _ (k1 c o e hc)) (s2 _ _ h1) t h2 htx
   exact ⟨x,C,dx,_,rfl,s2 _ _ h1,cl,n3,hlen,q _ a1 a2⟩
  ·have hbx:b≠x:=a0G hb' hx ‹iz›
   have hb1:=k1 _ _ hb' hbx
   refine ⟨b,bs,rfl,.inr ⟨SqT.of hb1,?_⟩⟩
   obtain ⟨a1,a2⟩:=cut H1 k1 h1 b hb1 hbx
   exact ⟨x,C,dx,_,rfl,h1,cl,n3,hlen,q _ a1 a2⟩
theorem b3b (T:Txt K mg t):a1r P w K mg base CX0 2 t.f_z0o t.fd_z0o ["self","head"] (a9Q K t.C_Fact):=by
 refine T.F_z0o.ok b2z (fun vs H Q E h=>?_) (fun cdv A outer s H vs Q E hr h=>?_)
 ·obtain ⟨x,dx,hd,rfl,hx,q⟩:=h;rfl
 ·obtain ⟨x,dx,hd,rfl,hx,q⟩:=h
  refine ⟨_,‹A5 (B1 (F6 (F7 (.ref t.C_Rule) rfl T.g_Rule rfl) T.cm_Rule (a4T T) (hr.mono ‹dc›) T.b_z0m .nil a8t (A0 0 (A0 B0 (A0 1 (A0 (E1 A1) A1))))))›,?_⟩
  rw [show start b1X [V.ref x,hd]=[some (V.ref x),some (hd)] from rfl]
  simp only [a1u,a9k,tC,a0n,a0C,Qb,Qd,b3s,a0P,Qi,a0f]
  refine ⟨(by trivial),by decide,fun b hb=>?_⟩
  obtain ⟨H1,e1,s1,h1⟩:=a0T hb (.tup []);rw [e1]
  refine ⟨x,t.C_Fact,dx,_,hd,b,[],rfl,s1 _ _ hx,⟨T.cl_Fact,T.nf_Fact_label,T.nf_Fact_head,T.nf_Fact_body⟩,.inr ⟨SqT.of h1,h1⟩,fun H' k r=>?_⟩
  exact q _ (fun c o e hc=>k c o (s1 _ _ e) hc) r
theorem b1o (T:Txt K mg t):a1r P w K mg base CX0 2 t.f_z0u t.fd_z0u ["_law_cell","_law_many","_law_size","_law_plain"] a6U:=by
 refine T.F_z0u.ok a3N (fun vs H Q E h=>?_) (fun cdv A outer s H vs Q E hr h=>?_)
 ·obtain ⟨c,m,sz,p,rfl,hm,hsz,q⟩:=h;rfl
 ·obtain ⟨c,m,sz,p,rfl,hm,hsz,q⟩:=h
  refine ⟨_,‹A4 (A6 4 a3N.nd (B3 A1)) (A4 (A6 5 a3N.nd (A3 a2k 0 A2)) (A4 (C0 (D2 (A0 1 A1)) (B2 6 a3N.nd) (A5 (B6 (C7 3) (A4 (B1 (B4 Xc Xn Xo a0t 4 (A0 (A3 a0F 5 2) A1))) (A5 (A6 5 a3N.nd (A3 a2k 5 2)))) (A5 (B1 (B4 Xc Xn Xo a0t 4 (A0 (A7 (a2t T) T.g_z1a T.F_z1a.kp T.b_z1a (A0 0 (A0 (A3 a0g A2 6) A1))) A1))))))) (A5 (A9 4))))›,?_⟩
  rw [show start b2R [V.int c,V.int m,V.int sz,V.bl p]=[some (V.int c),some (V.int m),some (V.int sz),some (V.bl p),none,none,none] from rfl]
  simp only [a1y,a2y,a3T,a0P,a0u,tOp,a0C,Qn,Qo,Qb,tC,a0J,a8D,a0n,Qd,a0f,a1c,b0K]
  refine ⟨by decide,fun D hD=>⟨⟨by decide,by decide⟩,_,rfl,by omega,by omega,?_⟩⟩
  obtain ⟨H1,e1,s1,h1⟩:=a0T hD (.lst []);rw [e1]
  refine a3O (n:=m.toNat) (lo:=0) (fun i σ H'=>∃(is:List Int) (a3h:Int) (x6:Option V),σ=[some (V.int c),some (V.int m),some (V.int sz),some (V.bl p),some (V.ref D),some (V.int a3h),x6]∧a0m H H'∧H' D=some (.lst (is.map V.int))∧is.length=i)
   ⟨[],_,_,rfl,s1,h1,rfl⟩ ?_ ?_
  ·rintro i σ H2 hi ⟨is,a3h,x6,rfl,s2,hD2,hil⟩
   have hb:(is.map V.int).length < sizeLine:=Xq (show _≤1000 by rw [Qc];omega) ‹dc›
   have fin:∀y:Int,a0m H (upd H2 D (.lst (is.map V.int++[V.int y])))∧upd H2 D (.lst (is.map V.int++[V.int y])) D=some (.lst ((is++[y]).map V.int))∧(is++[y]).length=i+1:=fun y=>
    ⟨fun b o e=>by rw [a0a (a0b e hD)];exact s2 _ _ e,by rw [a0d,Xk];rfl,by simp [hil]⟩
   simp only [a0u,a4o,tB,a0C,Qn,Qo,Qd,Qb,a1y,a1u,tBM,a0n,tOp,a0P,a2y,a0f,a1c,b0K,a0M,tC,Qi,a0B,a1p,a4d]
   refine a4y (fun _=>?_) (fun _=>?_)
   ·refine ⟨.inl ⟨rfl,_,SqL.of hD2⟩,by omega,D,_,_,rfl,rfl,hD2,hb,⟨by omega,by omega⟩,is++[a3h % sz],_,_,rfl,(fin _).1,(fin _).2.1,(fin _).2.2⟩
   ·refine ⟨.inl ⟨rfl,_,SqL.of hD2⟩,fun r hr=>⟨D,_,_,rfl,rfl,hD2,hb,is++[r],_,_,rfl,(fin _).1,(fin _).2.1,(fin _).2.2⟩⟩
  ·rintro σ H2 ⟨is,a3h,x6,rfl,s2,hD2,hil⟩
   simp only [a1R,a0C,Qd,Qb,a0f]
   exact q D is H2 s2 hD hD2 hil
theorem b1A (T:Txt K mg t):a1r P w K mg base CX0 4 t.f_z17 t.fd_z17 ["_law_pool_here","_law_cell","_law_k","_law_plain"] (a8O t):=by
 refine T.F_z17.ok a3A (fun vs H Q E h=>?_) (fun cdv A outer s H vs Q E hr h=>?_)
 ·obtain ⟨P0,c,k,p,pl,rfl,hP,hp1,hp7,hpo,hk,q⟩:=h;rfl
 ·obtain ⟨P0,c,k,p,pl,rfl,hP,hp1,hp7,hpo,hk,q⟩:=h
  refine ⟨_,‹A4 (A6 4 a3A.nd (A8 a0l (B3 (A0 A2 (A0 A2 (A0 A2 (A0 A2 (A0 A2 (A0 A2 (A0 A2 (A0 A2 A1))))))))) (A3 a0F 1 A2))) (A4 (D0 5 (D1 (a0e a5k) b0z ["_law_number","_law_pool_here"] [none,some 0]) ‹C4 (A7 (b1o T) T.g_z0u T.F_z0u.kp T.b_z0u (A0 1 (A0 (A3 a0g A2 4) (A0 (A3 a3K A2 (B9 a1e T.z_len a1d (A0 0 A1))) (A0 3 A1)))))› (B2 0 (show Jb (["_law_number","_law_pool_here"]:List Str) by decide+kernel)) D3 (A7 (a9j T) T.g_z13 T.F_z13.kp T.b_z13 (A0 1 (A0 0 A1))) a3A.nd) (A4 (A6 6 a3A.nd (A3 a0F (A3 a2k 1 A2) A2)) (A4 (A6 7 a3A.nd (A3 a0g B0 (B7 a1m T.z_str a2r (A0 2 A1)))) (D6 (B6 (D7 (F8 (B5 (a1F hr.units) 6 A2 (a0K _)) (F9 (B5 (a1F hr.units) 4 A2 (a0K _))))) (A5 (A9 (D4 T.mk_Fact (b3b T) T.g_Fact T.b_z0o (A0 (A8 a0l 5 A2) A1)))) C1) (A4 (B6 (B5 a8S 6 A2 (a0K _)) (A5 (A9 (D4 T.mk_Sure (a4T T) T.g_Sure T.b_z0m (A0 7 (A0 (A8 a0l 5 A2) (A0 (C3 5 (C2 A2) C5) A1)))))) C1) (A4 (B6 (B5 (a1F hr.units) 6 A2 (a0K _)) (A5 (A9 (D4 T.mk_Block (a4T T) T.g_Block T.b_z0m (A0 7 (A0 (A8 a0l 5 A2) (A0 (C3 5 (C2 A2) C5) A1)))))) C1) (A5 (A9 (D4 T.mk_Most (a4T T) T.g_Most T.b_z0m (A0 7 (A0 (A8 a0l 5 A2) (A0 (C3 5 (C2 A2) C5) A1))))))))))))›,?_⟩
  rw [show start b0z [V.ref P0,V.int c,V.int k,V.bl p]=[some (V.ref P0),some (V.int c),some (V.int k),some (V.bl p),none,none,none,none] from rfl]
  simp only [a1y,a2y,tOp,a3T,a0n,tC,a0P,a0C,Qd,Qb,a0u,Qn,Qo,tCB,a1b,a0f,a1c,b0K,a2S,a2A,a0M,Qi]
  refine ⟨by simp only [Qm,Xf];decide,fun p1 hp1'=>?_⟩
  obtain ⟨H1,e1,s1,h1⟩:=a0T hp1' (.lst [V.int 0,V.int 1,V.int 1,V.int 1,V.int 2,V.int 2,V.int 3,V.int 4]);rw [e1]
  have m8:=a0U (i:=c) (j:=8) ‹dc›
  obtain ⟨v8,e8,hv8,_⟩:=a2C (xs:=[V.int 0,V.int 1,V.int 1,V.int 1,V.int 2,V.int 2,V.int 3,V.int 4]) m8.1 m8.2
  obtain ⟨mn,rfl,hmn⟩:∃n:Int,v8=.int n∧(0≤n∧n≤4):=by
   simp only [Qt,Xj,or_false] at hv8
   rcases hv8 with rfl | rfl | rfl | rfl | rfl | rfl | rfl | rfl<;>exact ⟨_,rfl,by decide⟩
  refine ⟨by decide,a0D (SqL.of h1) e8 ?_⟩
  simp only [a0B]
  have hP1:=s1 _ _ hP
  refine a1a (SqL.of hP1) ?_
  rw [Qc]
  simp only [a1c,b3g]
  refine ⟨.inl ‹dc›,?_⟩
  refine ⟨c,1+mn,_,p,rfl,by omega,by omega,fun D is H2 s2 hDn hD hil=>?_⟩
  have hP2:=s2 _ _ hP1
  simp only [a1w]
  refine ⟨⟨_,SqL.of hD⟩,?_⟩
  refine a7B (a8g (xs:=is.map V.int)) (Qs (show (is.map V.int).length≤1000 by rw [Qc];omega) ‹dc›) [some (V.ref P0)] rfl (fun i v=>∃z,v=V.str z∧(TxN 31 z∧z∈a2z pl)) (fun H' s=>SqL.of (s _ _ hD)) (fun i H' R hi s hR=>?_) (fun X H3 ys hXn s3 hX hyl hv=>?_)
  ·have hi':i < is.length:=by simpa using hi
   have e2:((is.map V.int)[i]?).getD .non=V.int is[i]:=by rw [Xr,Qf hi'];rfl
   rw [e2]
   simp only [a0M,a0n,a0C,Qd,Qb,a0P,Qi,a0f]
   exact ⟨P0,is[i],pl,rfl,s _ _ hP2,hp1,hp7,hpo,fun z hz hz2=>hR _ _ (a0m.refl _) ⟨z,rfl,hz,hz2⟩⟩
  obtain ⟨zs,rfl,hzo⟩:=a9b hv
  have hzl:zs.length=(1+mn).toNat:=by rw [Qc,Qc] at hyl;omega
  obtain ⟨z0,zr,rfl⟩:∃z0 zr,zs=z0::zr:=by
   cases zs with
   | nil=>simp at hzl;omega
   | cons z0 zr=>exact ⟨z0,zr,rfl⟩
  have hzr:zr.length≤4:=by simp at hzl;omega
  have s03:=(s1.trans s2).trans s3
  have o0:=(hzo z0 Qj).1
  have or:∀q∈zr,TxN 31 q:=fun q hq=>(hzo q (Qk _ hq)).1
  have eR:∀k lb,RwE (a2z pl) (k,lb,z0,zr):=fun _ _=>⟨(hzo z0 Qj).2,fun q hq=>(hzo q (Qk _ hq)).2⟩
  obtain ⟨kn,rfl⟩:∃kn:Nat,k=(kn:Int):=⟨k.toNat,by omega⟩
  have hlab:=a7D kn ‹om›
  try skip
  refine ⟨⟨by decide,by decide⟩,by decide,_,rfl,?_,?_,?_⟩
  ·show kn.log2 < 1920
   by_cases h0:kn=0
   ·rw [h0];decide
   ·exact (Nat.log2_lt h0).mpr (Xb (show kn < 2 ^ 6 by omega) (Vm ‹dc› ‹dc›))
  ·have:=hlab.2
   rw [a4q] at this
   exact Qs this ‹dc›
  obtain ⟨lb,elb⟩:∃lb,Qv "r"++Qv (toString (kn:Int))=lb:=⟨_,rfl⟩
  rw [elb] at hlab ⊢
  have okR:∀k,0 < k→k < 4→RwT (k,lb,z0,zr):=fun k h0 h4=>⟨⟨h4,fun z=>absurd (show k=0 from z) ‹om›,hlab,o0.ok ‹dc›,fun q hq=>(or q hq).ok ‹dc›,hzr⟩,o0,or⟩
  have okF:RwT (0,"",z0,[]):=⟨⟨show 0 < 4 by decide,fun _=>⟨rfl,rfl⟩,(⟨by decide+kernel,by decide+kernel⟩:OkS ""),o0.ok ‹dc›,(fun q hq=>absurd hq Xj),show 0≤4 by decide⟩,o0,(fun q hq=>absurd hq Xj)⟩
  generalize hw:c / 8 % 5=w0
  refine ⟨fun σ' H'=>σ'=[some (V.ref P0),some (V.int c),some (V.int kn),some (V.bl p),some (V.int mn),some (V.ref X),some (V.int w0),some (V.str lb)]∧H'=H3,?_,?_⟩
  ·simp only [a4o,b4i,a1G,tOp,a0C,Qd,Qb,tC,a1R,a8e,a0n,a0P,Qi,a0f,a1O,a1q,a4d,decide_eq_true_eq,b2D]
   refine a4y (fun _=>?_) (fun _=>⟨by trivial,by trivial⟩)
   refine a4y (fun _=>?_) (fun _=>⟨by trivial,by trivial⟩)
   refine a0D (SqL.of hX) (a2m _ _) ?_
   intro x dx nx ndx ne
   obtain ⟨s,hx⟩:=b2y (C:=t.C_Fact) nx ndx
   exact ⟨x,dx,_,rfl,hx,fun H' k r=>⟨rfl,q x (0,"",z0,[]) H' (fun c o e=>k c o (s _ _ (s03 _ _ e)) (a0b (s03 _ _ e) nx)) okF ⟨(eR 0 "").1,fun q hq=>absurd hq Xj⟩ r⟩⟩
  rintro σ' H' ⟨rfl,rfl⟩
  simp only [a1y,a4o,a1G,tOp,a0C,Qd,Qb,tC,a1R,a8e,a0n,tSl,a3S,a1x,a0P,Qi,a4m,a0f,a1O,a1q,a4d,decide_eq_true_eq,a4S]
  refine a4y (fun _=>?_) (fun _=>a4y (fun _=>?_) (fun _=>?_))
  ·refine a0D (SqL.of hX) (a2m _ _) (.inr (.inl ⟨X,_,rfl,SqL.of hX,fun Z hZ=>?_⟩))
   rw [show a4j (List.map V.str (z0::zr)) (some 1) none=zr.map V.str from b0D _ _]
   obtain ⟨H4,e4,s4,h4⟩:=a0T hZ (.lst (zr.map V.str));rw [e4]
   intro x dx nx ndx ne
   obtain ⟨s,hx⟩:=b2y (C:=t.C_Sure) nx ndx
   exact ⟨x,t.C_Sure,dx,_,_,Z,_,rfl,hx,⟨T.cl_Sure,T.nf_Sure_label,T.nf_Sure_head,T.nf_Sure_body⟩,.inl (SqL.of (s _ _ h4)),fun H' k r=>⟨rfl,q x (1,lb,z0,zr) H' (fun c o e=>k c o (s _ _ (s4 _ _ (s03 _ _ e))) (a0b (s4 _ _ (s03 _ _ e)) nx)) (okR 1 ‹dc› ‹dc›) (eR _ _) r⟩⟩
  ·refine a0D (SqL.of hX) (a2m _ _) (.inr (.inl ⟨X,_,rfl,SqL.of hX,fun Z hZ=>?_⟩))
   rw [show a4j (List.map V.str (z0::zr)) (some 1) none=zr.map V.str from b0D _ _]
   obtain ⟨H4,e4,s4,h4⟩:=a0T hZ (.lst (zr.map V.str));rw [e4]
   intro x dx nx ndx ne
   obtain ⟨s,hx⟩:=b2y (C:=t.C_Block) nx ndx
   exact ⟨x,t.C_Block,dx,_,_,Z,_,rfl,hx,⟨T.cl_Block,T.nf_Block_label,T.nf_Block_head,T.nf_Block_body⟩,.inl (SqL.of (s _ _ h4)),fun H' k r=>⟨rfl,q x (3,lb,z0,zr) H' (fun c o e=>k c o (s _ _ (s4 _ _ (s03 _ _ e))) (a0b (s4 _ _ (s03 _ _ e)) nx)) (okR 3 ‹dc› ‹dc›) (eR _ _) r⟩⟩
  ·refine a0D (SqL.of hX) (a2m _ _) (.inr (.inl ⟨X,_,rfl,SqL.of hX,fun Z hZ=>?_⟩))
   rw [show a4j (List.map V.str (z0::zr)) (some 1) none=zr.map V.str from b0D _ _]
   obtain ⟨H4,e4,s4,h4⟩:=a0T hZ (.lst (zr.map V.str));rw [e4]
   intro x dx nx ndx ne
   obtain ⟨s,hx⟩:=b2y (C:=t.C_Most) nx ndx
   exact ⟨x,t.C_Most,dx,_,_,Z,_,rfl,hx,⟨T.cl_Most,T.nf_Most_label,T.nf_Most_head,T.nf_Most_body⟩,.inl (SqL.of (s _ _ h4)),fun H' k r=>⟨rfl,q x (2,lb,z0,zr) H' (fun c o e=>k c o (s _ _ (s4 _ _ (s03 _ _ e))) (a0b (s4 _ _ (s03 _ _ e)) nx)) (okR 2 ‹dc› ‹dc›) (eR _ _) r⟩⟩
theorem a7S (T:Txt K mg t):a1r P w K mg base CX0 7 t.f_d_law t.fd_d_law ["_law_script"] (b0B K):=by
 refine T.F_d_law.ok a0H (fun vs H Q E h=>?_) (fun cdv A outer s H vs Q E hr h=>?_)
 ·obtain ⟨a,ns,rfl,hS,hl,q⟩:=h;rfl
 ·obtain ⟨a,ns,rfl,hS,hl,q⟩:=h
  refine ⟨_,‹A4 (A6 1 a0H.nd (A7 (b2X T) T.g_z16 T.F_z16.kp T.b_z16 (A0 0 A1))) (A4 (A6 2 a0H.nd (C3 0 (C2 A2) (C2 A2))) (A4 (A6 3 a0H.nd (E8 (A3 a0F (A3 a2k (A7 (a3n T) T.g_z0s T.F_z0s.kp T.b_z0s (A0 0 (A0 A2 A1))) A2) A2) A2)) (A4 (D0 4 (D1 (a0e a1j) a2s ["_law_k","_law_pool_here","_law_plain","_law_cells"] [none,some 1,some 3,some 2]) ‹D2 (A0 (B9 a1e T.z_len a1d (A0 2 A1)) A1)› (B2 0 (show Jb (["_law_k","_law_pool_here","_law_plain","_law_cells"]:List Str) by decide+kernel)) D3 (A7 (b1A T) T.g_z17 T.F_z17.kp T.b_z17 (A0 1 (A0 (A8 (a6N (K:=K) rfl) 3 0) (A0 0 (A0 2 A1))))) a0H.nd) (A4 (D0 5 (D1 (a0e a1j) a2s ["_law_k"] [none]) (a7O rfl T.z_range ‹A0 A2 (A0 (B9 (a6V rfl) T.z_max a7y (A0 A2 (A0 (A3 b1H (B9 a1e T.z_len a1d (A0 2 A1)) A2) A1))) (A0 A2 A1))›) (B2 0 (show Jb (["_law_k"]:List Str) by decide+kernel)) D3 (E1 (A0 (A3 (a1Y (K:=K) rfl) B0 (B7 a1m T.z_str a2r (A0 0 A1))) (A0 (A3 (a1Y (K:=K) rfl) B0 (B7 a1m T.z_str a2r (A0 (A3 (a1Y (K:=K) rfl) 0 A2) A1))) A1))) a0H.nd) (A4 (A6 6 a0H.nd (B7 a0V T.z_list a0Q (A0 4 A1))) (A4 (A6 7 a0H.nd (D4 T.mk_Ground (b3d T) T.g_Ground T.b_z0f (A0 6 (A0 5 A1)))) (A4 (B1 (C9 Zi Zj a1W 6)) (A4 (B1 (C9 Zi Zj a1W 5)) (A4 (A6 8 a0H.nd (A7 (a3n T) T.g_z0s T.F_z0s.kp T.b_z0s (A0 0 (A0 A2 A1)))) (A4 (D0 9 (D1 (a0e a1j) a2s ["_law_k","_law_pool_here","_law_first"] [none,some 1,some 8]) ‹D2 (A0 (A3 a0F 8 A2) A1)› (B2 0 (show Jb (["_law_k","_law_pool_here","_law_first"]:List Str) by decide+kernel)) D3 (A7 (a9j T) T.g_z13 T.F_z13.kp T.b_z13 (A0 1 (A0 (A7 (a2t T) T.g_z1a T.F_z1a.kp T.b_z1a (A0 2 (A0 (A3 (a1Y (K:=K) rfl) A2 0) A1))) A1))) a0H.nd) (D6 (B6 (D7 (D8 (D9 (C7 (A7 (a5V T) T.g_z18 T.F_z18.kp T.b_z18 (A0 7 (A0 4 (A0 9 A1)))))) (E2 (D9 (C7 (A7 (a5V T) T.g_z18 T.F_z18.kp T.b_z18 (A0 7 (A0 4 (A0 (A3 a0g (B3 (A0 B0 A1)) (C3 9 C5 (C2 A2))) A1))))))))) (A5 (A9 C8)) C1) (A5 (A9 (A7 (a5V T) T.g_z18 T.F_z18.kp T.b_z18 (A0 7 (A0 4 (A0 (B3 A1) A1)))))))))))))))))›,?_⟩
  rw [show start a2s [V.ref a]=[some (V.ref a),none,none,none,none,none,none,none,none,none] from rfl]
  simp only [a1y,a2y,a0M,a0n,a0C,Qb,a0P,Qi,a0u,tSl,Qn,Qo,a3S,tC,tOp,tCB,Qd,a8e,a1u,b1b,a2S,a8D,a0f,b1N,a4m]
  refine ⟨a,ns,rfl,hS,hl,fun Pa pool H1 s1 hPn hP1 hp1 hp9 hpo hnd=>?_⟩
  have hS1:SqL K H1 a (ns.map V.int):=s1.seq hS
  refine .inr (.inl ⟨a,_,rfl,hS1,fun Ca hCa=>?_⟩)
  obtain ⟨cs,ecs,hcl⟩:=b1J ns
  rw [ecs]
  obtain ⟨H2,e2,s2,h2⟩:=a0T hCa (.lst (cs.map V.int));rw [e2]
  have hS2:SqL K H2 a (ns.map V.int):=s2.seq hS1
  refine ⟨a,ns,1,rfl,hS2,hl,by decide,by decide,fun c1=>?_⟩
  simp only [a1c,b0K,a1q]
  refine ⟨by decide,by decide,a1a (SqL.of h2) ?_⟩
  rw [Qc]
  refine ⟨_,rfl,by omega,by omega,?_⟩
  have hP2:=s2 _ _ hP1
  refine a7a a2l (Qs (show (cs.length:Int).toNat≤1000 by omega) ‹dc›) [some (V.ref Pa),some (V.bl (decide (c1 / 8 % 2=1))),some (V.ref Ca)] rfl (fun D i v H'=>∃r,(RwT r∧RwE (a2z pool) r)∧RuD t D v r H') ?_ (fun _ _=>trivial) (fun D i H' R hi hDn s hD hR=>?_) (fun Ru H3 ys hRn s3 hR3 hyl hv=>?_)
  ·rintro D i v Ha Hb up ⟨r,hr,p,dx,t0,e,n1,n2,g1,g2⟩
   exact ⟨r,hr,p,dx,t0,e,n1,n2,up _ _ n1 g1,up _ _ n2 g2⟩
  ·obtain ⟨zs,hD⟩:=hD
   have hi':i < cs.length:=by omega
   obtain ⟨v,e,hv,_⟩:=a2C (xs:=cs.map V.int) (i:=(0+(i:Int))) ‹om› (by rw [Qc];omega)
   obtain ⟨n,_,rfl⟩:=Xm.mp hv
   simp only [a0M,a0n,a0C,Qd,Qb,tOp,a0P,Qi,a0f]
   refine a0D (SqL.of (s _ _ h2)) e ⟨Pa,n,_,_,pool,rfl,s _ _ hP2,hp1,hp9,hpo,by omega,fun x r H' s' hr hr2 hx=>?_⟩
   obtain ⟨dx,t0,f1,f2⟩:=hx
   have hD':=s' _ _ hD
   exact hR _ _ s' ⟨r,⟨hr,hr2⟩,x,dx,t0,rfl,a0G f1 hD' ‹iz›,a0G f2 hD' ‹iz›,f1,f2⟩
  obtain ⟨zr,ezr,hzw,hzt⟩:=b2f hv
  have hzl:zr.length≤40:=by rw [←ezr,Qc] at hyl;omega
  clear hv hyl
  subst ezr
  have hRu:a1z t H3 Ru zr:=⟨hR3,hzw,hzl,fun p hp=>(hzt p hp).1⟩
  try skip
  refine a1a (SqL.of (s3 _ _ h2)) ?_
  rw [Qc]
  simp only [a6d]
  have hJ:∃J:Int,(if (cs.length:Int) - 1 > 0 then (cs.length:Int) - 1 else 0)=J∧0≤J∧J≤39:=⟨_,rfl,by split<;>omega,by split<;>omega⟩
  obtain ⟨J,eJ,hJ0,hJ1⟩:=hJ
  refine ⟨_,_,rfl,0,J,2,by rw [←eJ],⟨by decide,by decide,hJ0,by omega,by decide,by decide⟩,fun n hn=>?_⟩
  have hn20:n≤20∧∀i:Nat,i < n→(i:Int) * 2 < 39:=by
   unfold Builtin.Range.rangeSize at hn
   rw [if_pos ‹dc›] at hn
   split at hn
   ·exact ⟨by omega,fun i hi=>by omega⟩
   ·exact ⟨by omega,fun i hi=>by omega⟩
  refine a7a a5L (Qs (show n≤1000 by omega) ‹dc›) [] rfl (fun D i v H'=>∃(x:Addr) (p:Str×Str),v=.ref x∧x≠D∧H' x=some (.tup [.str p.1,.str p.2])∧Xu p.1=true∧Xu p.2=true) ?_ (fun _ _=>trivial) (fun D i H' R hi hDn s hD hR=>?_) (fun Pl H4 ys hPln s4 hPl hyl hv=>?_)
  ·rintro D i v Ha Hb up ⟨x,p,e,n,h,m⟩
   exact ⟨x,p,e,n,up _ _ n h,m⟩
  ·obtain ⟨zs,hD⟩:=hD
   have hi2:=hn20.2 i hi
   obtain ⟨kn,ekn⟩:∃kn:Nat,(0:Int)+(i:Int) * 2=(kn:Int):=⟨2 * i,by omega⟩
   rw [ekn]
   have hk1:kn < 39:=by omega
   have lg:∀k:Nat,k < 40→((k:Int)).natAbs.log2 < 1920:=fun k hk=>by
    show k.log2 < 1920
    by_cases h0:k=0
    ·rw [h0];decide
    ·exact (Nat.log2_lt h0).mpr (Xb (show k < 2 ^ 6 by omega) (Vm ‹dc› ‹dc›))
   have l0:=a7D kn ‹om›
   have l1:=a7D (kn+1) ‹om›
   have sl:∀{x y:Str},(x++y).length≤40→x.length+y.length≤sizeLine:=fun h=>by rw [a4q] at h;exact Qs h ‹dc›
   simp only [b3s,a0n,tOp,tC,tCB,a0C,Qb,a0P,a1b,a0f,a0B]
   refine ⟨_,rfl,lg kn ‹om›,sl l0.2,((kn+1:Nat):Int),rfl,lg (kn+1) ‹om›,sl l1.2,by simp only [Qm,Xf];decide,fun p hp=>?_⟩
   obtain ⟨H5,e5,s5,g5⟩:=a0T hp (.tup [V.str (Qv "r"++Qv (toString (kn:Int))),V.str (Qv "r"++Qv (toString ((kn+1:Nat):Int)))]);rw [e5]
   exact hR _ _ s5 ⟨p,(_,_),rfl,(fun z=>by rw [z,hD] at hp;cases hp),g5,l0.1,l1.1⟩
  obtain ⟨pl,hPr,hPok⟩:=a9m (fun i v e=>let ⟨x,p,a,_,b,c⟩:=hv i v e;⟨x,p,a,b,c⟩)
  have hpll:=a2q.len hPr
  try skip
  refine ⟨Ru,_,rfl,.inl (SqL.of (s4 _ _ hR3)),fun Hd hHd=>?_⟩
  obtain ⟨H5,e5,s5,h5⟩:=a0T hHd (.lst (zr.map (·.1)));rw [e5]
  intro g dx ng ndx ne
  obtain ⟨s6,h6⟩:=b2y (C:=t.C_Ground) ng ndx
  obtain ⟨H6,e6⟩:∃H6,upd (upd H5 dx (.own g)) g (.ins t.C_Ground dx [])=H6:=⟨_,rfl⟩
  rw [e6] at s6 h6 ⊢
  have hU:a1v t H3 (zr.map (·.1)) (zr.map (·.2)):=⟨by simp,fun i r e=>by
   rw [Xr] at e
   obtain ⟨p,ep,rfl⟩:=Vc.mp e
   exact ⟨p.1,by rw [Xr,ep];rfl,(hzw p (Jp ep)).1⟩⟩
  have hO:∀r∈zr.map (·.2),a4f r:=fun r hr=>by
   obtain ⟨p,hp,rfl⟩:=Xm.mp hr
   exact (hzt p hp).1.1
  have s56:=s5.trans s6
  refine ⟨g,dx,Hd,Pl,_,_,ys,pl,rfl,h6,s6 _ _ h5,hU.same (s4.trans s56),hO,by rw [Qc];omega,s56 _ _ hPl,a2q.same s56 hPr,by omega,fun H7 k7 hG7=>⟨rfl,?_⟩⟩
  have s57:a0m H5 H7:=fun b o e=>k7 b o (s6 _ _ e) (a0b e ng)
  have hHd7:=s57 _ _ h5
  have hPl7:=s57 _ _ (s5 _ _ hPl)
  have nPH:Pl≠Hd:=a0b hPl hHd
  have hG8:=hG7.l.off (H':=upd H7 Hd (.lst [])) hHd7 fun c o n e=>by rw [a0a n];exact e
  have s48:a0m H4 (upd H7 Hd (.lst [])):=fun c o e=>by rw [a0a (a0b e hHd)];exact s57 _ _ (s5 _ _ e)
  have hPl8:upd H7 Hd (.lst []) Pl=some (.lst ys):=by rw [a0a nPH];exact hPl7
  refine ⟨.inl ⟨rfl,_,SqL.of hHd7⟩,Hd,_,rfl,rfl,hHd7,.inl ⟨rfl,_,SqL.of hPl8⟩,Pl,_,rfl,rfl,hPl8,?_⟩
  have hG9:=hG8.off (H':=upd (upd H7 Hd (.lst [])) Pl (.lst [])) hPl8 fun c o n e=>by rw [a0a n];exact e
  have s39:a0m H3 (upd (upd H7 Hd (.lst [])) Pl (.lst [])):=fun c o e=>by rw [a0a (a0b e hPln)];exact s48 _ _ (s4 _ _ e)
  generalize upd (upd H7 Hd (.lst [])) Pl (.lst [])=H9 at hG9 s39 ⊢
  clear hG8 hPl8 hPl7 hHd7 s48 s57 s56 k7 hG7 h6 s6 h5 s5 hPl hPr hv hyl e5 e6 hU
  have s29:=s3.trans s39
  have hP9:=s29 _ _ hP2
  have hRu9:=hRu.same s39
  refine ⟨a,ns,2,rfl,s29.seq hS2,hl,by decide,by decide,fun c2=>?_⟩
  have m5:=a0U (i:=c2) (j:=5) ‹dc›
  simp only [a1c]
  refine ⟨by decide,_,rfl,by omega,by omega,?_⟩
  refine a7B a2l (Qs (show (c2 % 5).toNat≤1000 by omega) ‹dc›) [some (V.ref Pa),some (V.int c2)] rfl (fun i v=>∃z,v=V.str z∧z∈a2z pool) (fun _ _=>trivial) (fun i H' R hi s' hR=>?_) (fun So H10 ys hSon s10 hSo hyl hv=>?_)
  ·simp only [a0M,a0n,a0C,Qd,Qb,tOp,tC,a0P,Qi,a0f,a0B,a1p]
   intro r hr
   exact ⟨Pa,r,pool,rfl,s' _ _ hP9,hp1,hp9,hpo,fun z hz hz2=>hR _ _ (a0m.refl _) ⟨z,rfl,hz2⟩⟩
  obtain ⟨zs,rfl,hzo⟩:=a9b hv
  have hzsl:zs.length≤4:=by rw [Qc] at hyl;omega
  have hPo:=b3C hpo hnd hp9 (rs:=zr.map (·.2)) fun r hr=>by
   obtain ⟨p,hp,rfl⟩:=Xm.mp hr
   exact (hzt p hp).2
  have hev:=b2B hpo
  have hin:∀z∈a2z pool,z∈a2z (pool++[Qv "nowhere"]):=b0E
  have hnw:Qv "nowhere"∈a2z (pool++[Qv "nowhere"]):=b1Z (Qx _ Qj)
  generalize a2z (pool++[Qv "nowhere"])=po at hPo hev hin hnw
  have ask:∀(b:Addr) (L:List Str) (Hx:Hp),a0m H9 Hx→Hx b=some (.lst (L.map V.str))→L.length≤20→(∀z∈L,z∈po)→∀Q':VK,(∀Hy,a0m Hx Hy→Q' (.bl true) Hy)→a7N t [V.ref g,V.ref Ru,V.ref b] Hx Q' E0:=fun b L Hx sx hb hLl hLp Q' hq=>⟨g,Ru,b,zr,pl,L,po,rfl,hG9.same sx,hRu9.same sx,hb,hLl,hLp,hPo,hev,hq⟩
  refine ⟨fun σ' H'=>σ'=[some (V.ref a),some (V.ref Pa),some (V.ref Ca),some (V.bl (decide (c1 / 8 % 2=1))),some (V.ref Ru),some (V.ref Pl),some (V.ref Hd),some (V.ref g),some (V.int c2),some (V.ref So)]∧a0m H10 H',?_,?_⟩
  ·simp only [a4o,tOr,b3q,tB,a0M,a0n,a0C,Qd,Qb,a0P,Qi,Zn,a1R,tC,a1O,tOp,a3T,tSl,a1x,a3S,a4m,a0f]
   refine ask So zs H10 s10 hSo ‹om› (fun z hz=>hin z (hzo z hz)) _ fun H11 s11=>⟨_,rfl,?_⟩
   rw [if_neg ‹dc›]
   refine ⟨by simp only [Qm,Xf];decide,fun p1 hp1'=>?_⟩
   obtain ⟨H12,e12,s12,g12⟩:=a0T hp1' (.lst ([Qv "nowhere"].map V.str))
   have e12':upd H11 p1 (.lst [V.str (Qv "nowhere")])=H12:=e12
   rw [e12']
   refine .inr (.inl ⟨So,_,rfl,SqL.of (s12 _ _ (s11 _ _ hSo)),fun p2 hp2=>?_⟩)
   rw [a1U _ ‹dc›,←Jj]
   obtain ⟨H13,e13,s13,g13⟩:=a0T hp2 (.lst ((zs.take (1:Int).toNat).map V.str));rw [e13]
   have htl:(zs.take (1:Int).toNat).length≤4:=by rw [Xh];omega
   refine a2W (s13 _ _ g12) g13 (by simp only [Qm,Xf];omega) fun p3 hp3=>?_
   obtain ⟨H14,e14,s14,g14⟩:=a0T hp3 (.lst (([Qv "nowhere"]++zs.take (1:Int).toNat).map V.str));rw [e14]
   have s1114:=(s12.trans s13).trans s14
   refine ask p3 _ H14 (s10.trans (s11.trans s1114)) g14 (by rw [Ql];simp only [Qm,Xf];omega) (fun z hz=>?_) _ fun H15 s15=>⟨_,rfl,?_⟩
   ·rcases Qy.mp hz with e | e
    ·rw [Qz.mp e];exact hnw
    ·exact hin z (hzo z (Yp e))
   rw [if_neg ‹dc›]
   exact ⟨trivial,(s11.trans s1114).trans s15⟩
  ·rintro σ' H11 ⟨rfl,s11⟩
   simp only [a1R,a0M,a0n,a0C,Qd,Qb,a3T,a0P,Qi,a0f]
   refine ⟨Xl _,fun p1 hp1'=>?_⟩
   obtain ⟨H12,e12,s12,g12⟩:=a0T hp1' (.lst []);rw [e12]
   exact ask p1 [] H12 (s10.trans (s11.trans s12)) g12 (by simp) (fun z hz=>by cases hz) _ fun H13 s13=>q _
end
end K27
open PySem PySem.W PyProof.Rows
namespace K27
open PySem PySem.W L2
noncomputable def adr:Adr:=⟨28,kG "opposite" "opposite" a6I m1 27,35,kG "reached" "reached" a7r m2 34,42,kG "heads_by_premise" "heads_by_premise" a6G m2 41,49,kG "leans_on" "leans_on" a7k m2 48,56,kG "leaners" "leaners" a5Z m2 55,70,kG "__init__" "Rule.__init__" a6R m3 69,140,kG "__init__" "Fact.__init__" a6K m3 139,279,kG "__init__" "Ground.__init__" a7u m4 278,286,kG "rules" "Ground.rules" a6s m4 285,342,kG "_law_cell_at" "_law_cell_at" a6i m5 341,349,kG "_law_mix" "_law_mix" a7m m5 348,354,kG "_law_words" "_law_words" a5B m5 353,361,kG "_law_opposed" "_law_opposed" a7n m5 360,368,kG "_law_pool" "_law_pool" a6J m5 367,375,kG "_law_drawn" "_law_drawn" a7d m5 374,382,kG "_law_numbers" "_law_numbers" a6m m5 381,387,kG "_law_rule" "_law_rule" a5k m5 386,394,kG "_law_below" "_law_below" a6b m5 393,401,kG "_law_above" "_law_above" a5Y m5 400,408,kG "_law_closed" "_law_closed" a6q m5 407,415,kG "_law_good" "_law_good" a7K m5 414,420,kG "law" "law" a1j m5 419,122,171,204,230,263,331⟩
theorem b0P {K:Qa} {n q:String} {s:Stmt} {m:Value} {f c:Nat} (l:K.lookup f=some (kF n q s m c)) (e:Jy K (.ref c) q=true) (k:Zb K (.ref f)=true):Fun K n q s f (kG n q s m c):=b3a l e k
theorem txt (P:Params) {h:Heap} {mg:Str→Option Value} (X:(a3j P).In h) (G:h.Ns mainGlobals mg):Txt (a3j P) mg adr:=by
 constructor
 all_goals first
  | exact b0P (by kernel_rfl) (by kernel_rfl) (by kernel_rfl)
  | exact .all fun us hl=>match us,hl with | [_],_=>rfl
  | exact .all fun us hl=>match us,hl with | [_,_],_=>rfl
  | exact .all fun us hl=>match us,hl with | [_,_,_],_=>rfl
  | exact .all fun us hl=>match us,hl with | [_,_,_,_],_=>rfl
  | exact PySem.W.mg_of X G (by kernel_rfl)
  | exact PySem.W.mg_none_of X G (by kernel_rfl)
  | kernel_rfl
  | exact ⟨by kernel_rfl,by kernel_rfl,by kernel_rfl⟩
  | exact ⟨by kernel_rfl,by kernel_rfl,by kernel_rfl,by kernel_rfl⟩
  | exact (by kernel_rfl:Yd _ _ _=_)
  | exact b1n (by k_is) (by kernel_rfl) (by kernel_rfl) (by kernel_rfl)
end K27
theorem K27.said0:PySem.Challenge.rw_mostwise_k27_leaning.wellSaid=true:=by kernel_rfl
set_option maxRecDepth 100000 in
set_option maxHeartbeats 0 in
theorem PySem.Challenge.cw_mostwise_k27_leaning_holds : PySem.Challenge.rw_mostwise_k27_leaning.Holds := by
 w_on;refine PySem.W.holds_law K27.said0 fun said=>?_
 refine PySem.W.holds_open (q:=K27.a9J) (loose:=[]) (Xt:=fun s=>PySem.W.xlAt K27.a9J [] s && PySem.W.recOk (PySem.W.RowW.records (PySem.W.OpenRow.toRowW PySem.Challenge.rw_mostwise_k27_leaning.row)) s) (XP:=PySem.W.XL K27.a9J []) (Yf:=Js.obs (Jk K27.a3j K27.a5t K27.a6f)) (Ya:=Js.val (Jk K27.a3j K27.a5t K27.a6f)) (YP:=Js.says (Jk K27.a3j K27.a5t K27.a6f)) (N:=5698) ?hl (Js.of (Jk K27.a3j K27.a5t K27.a6f)) (Js.keeps (Jk K27.a3j K27.a5t K27.a6f)) (fun s e=>PySem.W.xl_of s (Vn.mp e).1) PySem.W.XL.keeps (by rfl) (by rfl) (by rfl) (fun s e=>PySem.W.recFacts_of (Vn.mp e).2) (by rfl) (by first | assumption | decide+kernel) ‹dk› ⟨rfl,rfl,rfl,rfl,rfl,by decide+kernel⟩ ?hw ?hc
 (case hl=>refine PySem.W.LeftO.of_pieces (H₀:=K27.H0) (H₁:=K27.H1) (gs₀:=#[]) (gs₁:=#[]) (d₀:={}) (d₁:={}) (k₀:=181) (k₁:=708) (m₀:=11) (ann:=(some (.ref 6))) (M:=2803) K27.b0Q ?_ K27.b3y rfl ?_<;>(intro w;kernel_rfl))
 (case hw=>w_witness2)
 k_fill
 refine L2.a8m (l:=PySem.Challenge.rw_mostwise_k27_leaning) (n:=63) (k:=7) (x:="_law_script") (CX:=L2.CX0) (sp:=K27.b0B) rfl ‹dc› rfl ⟨rfl,by decide,by decide⟩ (fun w h Y=>PySem.W.kIn_of Y) ?F (fun K H a ns hl hO hS=>K27.a8q hl hO hS) (fun _ _ _ _ z=>z)
 case F=>
  intro w mg fa h KX G hmg
  have T:K27.Txt (L2.KOf KX) mg K27.adr:=K27.txt w.params KX G
  obtain ⟨_,_,_,_,_,_,_,_,_,e2,_,_⟩:=T.F_d_law.ex
  have e0:=hmg.symm.trans T.g_d_law
  cases e0
  exact ⟨K27.adr.fd_d_law,fun s u=>by rw [e2];exact .of_eq rfl,fun base kb nb=>K27.a7S T⟩
