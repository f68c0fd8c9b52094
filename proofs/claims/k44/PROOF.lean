import PyProof.Rows.All
import Wide.All
import OpenK.AllK
import Wide.FinOn
import Lean
import PyProof.EqAt
import PyProof.EqKinds
import PyProof.TupleCall
import PyProof.StrLawsChain
import PyProof.StrLawsIn
import PyProof.Rows.StrNews2
import PyProof.StrBlockL
import PyProof.Rows.StrClose3
import PyProof.Rows.StrClose5
import PyProof.Rows.StrFirst
import PyProof.WalkInts
import PyProof.StrOps
import PyProof.WalksEnum
import PyProof.EnumMake
import PyProof.NeKinds
import KE.KEqDict
import KE.KRevIter
import PyProof.DictWalks
import PyProof.DictValues
import PyProof.ListRange
import PyProof.CollectIter
import PyProof.ZipIter
import PyProof.Rows.ZipGen
import PyProof.FString5
import KE.KDictLaws
import KE.KDictSum
import KE.KSortTup
import PyProof.Rows.SortStr
import PyProof.DictItems
import KE.KPairComp
import KE.KUnpack
import PyProof.P3Eq
import PyProof.Rows.SetFrom
import PySem.Challenge.RW_mostwise_k44_whole_any_order
set_option Elab.async false
set_option linter.all false
set_option maxRecDepth 100000
set_option maxHeartbeats 4000000
open List renaming getElem?_cons_zero → Qa, getElem?_cons_succ → Qb, getElem?_eq_getElem → Qc, length_map → Qe, mem_map → Qf, set_cons_succ → Qg, set_cons_zero → Qh, append_nil → Qj, getElem?_map → Qm, getElem?_eq_some_iff → Qn, mem_filter → Qp, mem_append → Qq, length_cons → Qr, mem_cons_self → Qs, mem_cons_of_mem → Qt, size_toArray → Qv, take_succ_eq_append_getElem → Qw, mem_cons → Qy, length_filter_le → Qz, mem_singleton → Xa, mem_append_right → Xc, getElem_mem → Xd, map_cons → Xg, getD_eq_getElem?_getD → Xh, Nodup → Xk, length_nil → Xl, map_map → Xo, map_append → Xp, length_append → Xq, take_length → Xs, range → Xu, toArray → Xv, filter_cons → Xw, mem_append_left → Xx, getElem?_append_right → Xz, getElem?_append_left → Yc, getElem?_eq_none → Yh, lookup_cons → Yj, any_eq_true → Yk, length_take → Yo, length → Yp, getElem_map → Yr, all_eq_true → Ys, foldl_append → Yv, nodup_cons → Yw, length_range → Zc, find?_cons → Zd, getElem_of_mem → Zg, filter_eq_nil_iff → Zi, mem_flatMap → Zj, filter_map → Zm, eq_nil_iff_forall_not_mem → Zn, mem_of_mem_take → Zo, mem_range → Zs, not_mem_nil → Zu, filter_append → Zv, filter_filter → Zw, nodup_append → Zy, filter_congr → Zz, append_assoc → Ja, mem_of_find?_eq_some → Jb, lookup → Jc, getElem_inj → Jd, ext_getElem → Jf, any_map → Jg, filterMap_cons → Jh, length_reverse → Ji, any_cons → Jk, map_nil → Jq, nodup_nil → Jr, length_drop → Jt, cons_append → Ju, range_succ → Jx, foldl_cons → Jy, mem_filterMap → Jz, find?_eq_none → Ue, ext_getElem? → Uh, pairwise_map → Ui, length_singleton → Uq, getElem?_reverse → Us, mem_of_getElem? → Ut, nil_append → Uu, find?_some → Uv, map_congr_left → Uy, flatMap_append → Uz, filter_eq_self → Va, take_zero → Ve, all_cons → Vi, pairwise_iff_getElem → Vm, exists_mem_of_ne_nil → Vn, map_snd_zip → Vw, nodup_range → Vx, all_map → Vz, length_eq_zero_iff → We, of_mem_zip → Wg, getElem?_set_self → Wh, length_pos_of_mem → Wn, find?_cons_of_pos → Wo, find?_cons_of_neg → Wp, getElem?_set_ne → Wu, getElem?_append → Wv, length_take_le' → Wx, Pairwise → Wz, getElem?_range → Gb, map_eq_nil_iff → Gd, map → Gm
open PySem.W renaming Frag → Qd, kitOne → Yq, findIn → Yt, emptyDict → Yu, fnOf → Yy, keepIn → Zk, instObj → Zl, codeIn → Jp, callWith_K → Ub, kHook → Ul, plainGet → Um, methodCall_KW → Up, Hook → Uw, plainGet_of → Ux, lookIn → Vb, mg_of → Vj, methodObj → Vk, hasDictIn → Vl, takerIn → Wf, cellsFrom_some → Wi, typeIn → Wr, subIn → Ga, isFn → Gf, plainOver → Gh, specialIn → Gi, handedIn → Gj, makesIn → Gn
open Nat renaming le_trans → Qi, le_refl → Qk, ne_of_lt → Xb, zero_le → Xe, lt_of_lt_of_le → Xj, lt_of_le_of_lt → Xm, lt_succ_of_lt → Ym, le_succ → Zh, lt_irrefl → Zq, ne_of_gt → Jo, le_of_eq → Ua, le_of_lt → Vo, lt_succ_self → Vq, sub_self → Vu, add_comm → Vy
open PySem.Heap renaming get?_push_of_some → Ql, lt_size → Qu, get?_push_size → Xf, get?_update_ne → Zf, get?_push_ne → Zp, size_update → Uo, size_push → Vc, SameBut → Vp, get?_update_other → Wk
open Bool renaming false_ne_true → Qo, eq_iff_iff → Xn, and_eq_true → Xr, not_eq_true' → Yd, false_eq_true → Yz, false_and → Zt, true_and → Jw, and_comm → Uk, and_false → Wt, and_eq_true_iff → Wy, or_eq_true_iff → Gc
open Option renaming getD_some → Xi, map_some → Jl, map_eq_some_iff → Jn, isSome_map → Ug, isSome_iff_exists → Vr, map_eq_none_iff → Wm, isSome_some → Gg, getD_none → Gk
open PySem.PyData renaming canLay0 → Xy, strOk → Yb, keyHash → Yi, eqv → Yx, depth → Zb, depthAll → Zx, str → Jm, canLayAll0 → Uj
open PySem.F renaming slot_list_append → Ye, type_list_append → Yg, plainAttrs_list → Yl, plainAttrs_dict → Jj, slot_dict_update → Ud, slot_dict_get → Ur, slot_dict_setdefault → Vd, slot_str_startswith → Vg, type_str_startswith → Vh, args_tuple_add_2 → Vs, type_dict_update → Wb, entry_tuple_add → Wc, args_dict_get_3 → Wd, slot_tuple_add → Wj, entry_dict_get → Wl, plainAttrs_str → Wq
open PySem.SeqAt renaming EqAt → Yn, shaped → Je
open Int renaming emod_lt_of_pos → Za, emod_nonneg → Ze
open Array renaming length_toList → Zr, getD → Jv, toList_inj → Vv, getElem?_toList → Ws, Perm → Ww, append_assoc → Ge
open PySem.Txt renaming startswith → Js, slice → Vf, slice_le → Vt
open PySem.Str renaming ofString → Uc
namespace L2
open PySem PySem.Spec PyProof.Rows
def a0b (s:Stmt):Scope:=match s with
 | .FunctionDef _ _ _ _ _ _ sc _ _ _=>sc
 | _=>{kind:=.function,names:=[],isGenerator:=false,isCoroutine:=false}
def a0i (s:Stmt) (j:Nat):Stmt:=match s with
 | .ClassDef _ _ _ body _ _ _ _ _ _ _=>body.getD j (.Pass ⟨0,0,0,0⟩)
 | _=>.Pass ⟨0,0,0,0⟩
def a1M (s:Stmt):Arguments:=match s with
 | .FunctionDef _ a _ _ _ _ _ _ _ _=>a
 | _=>{posonlyargs:=[],args:=[],vararg:=none,kwonlyargs:=[],kw_defaults:=[],kwarg:=none,defaults:=[]}
def a1m (s:Stmt):List Stmt:=match s with
 | .FunctionDef _ _ b _ _ _ _ _ _ _=>b
 | _=>[]
end L2
namespace Tx
end Tx
namespace K44
open PySem L2 Tx
def top (i:Nat):Stmt:=PySem.Challenge.pw_mostwise_k44_whole_any_order.main.body.getD i (.Pass ⟨0,0,0,0⟩)
abbrev b1h:Stmt:=top 2
abbrev a8Q:Stmt:=top 3
abbrev a8L:Stmt:=top 4
abbrev b1w:Stmt:=top 6
abbrev b2g:Stmt:=top 8
abbrev a2M:Stmt:=top 10
abbrev a8G:Stmt:=top 11
abbrev a8O:Stmt:=top 15
abbrev a7b:Stmt:=top 16
abbrev a7r:Stmt:=top 17
abbrev b0U:Stmt:=top 18
abbrev b1W:Stmt:=top 19
abbrev a4v:Stmt:=top 20
abbrev a9y:Stmt:=top 21
abbrev b0R:Stmt:=a0i (top 22) 0
abbrev b0L:Stmt:=a0i (top 22) 1
abbrev b0d:Stmt:=a0i (top 22) 2
abbrev b2W:Stmt:=a0i (top 22) 3
abbrev b2Z:Stmt:=a0i (top 22) 4
abbrev b2h:Stmt:=a0i (top 22) 5
abbrev b0q:Stmt:=a0i (top 22) 6
abbrev b3N:Stmt:=a0i (top 22) 8
abbrev a9N:Stmt:=a0i (top 24) 0
abbrev b1H:Stmt:=a0i (top 24) 2
abbrev b0G:Stmt:=a0i (top 24) 3
abbrev b0b:Stmt:=a0i (top 25) 0
abbrev b2t:Stmt:=a0i (top 25) 2
abbrev b1M:Stmt:=a0i (top 26) 1
abbrev b1d:Stmt:=a0i (top 28) 1
abbrev a9R:Stmt:=a0i (top 30) 0
abbrev a9I:Stmt:=a0i (top 30) 1
abbrev b0l:Stmt:=a0i (top 30) 2
abbrev a8I:Stmt:=a0i (top 30) 3
abbrev b0Y:Stmt:=a0i (top 30) 4
abbrev a9K:Stmt:=a0i (top 30) 5
abbrev a9V:Stmt:=a0i (top 30) 6
abbrev b0I:Stmt:=top 32
abbrev b0a:Stmt:=top 33
abbrev b0A:Stmt:=top 34
abbrev a8C:Stmt:=top 35
abbrev a7k:Stmt:=top 36
abbrev b0y:Stmt:=top 37
abbrev a8w:Stmt:=top 38
abbrev b1r:Stmt:=top 39
abbrev a7g:Stmt:=top 40
abbrev a8M:Stmt:=top 41
abbrev b0e:Stmt:=top 42
abbrev b1U:Stmt:=top 43
abbrev a8y:Stmt:=top 44
abbrev a9g:Stmt:=top 45
abbrev a9e:Stmt:=top 46
abbrev a6f:Stmt:=top 47
abbrev a6d:Stmt:=top 48
abbrev a9M:Stmt:=top 49
abbrev b1G:Stmt:=top 50
abbrev a9H:Stmt:=top 51
abbrev a7i:Stmt:=top 52
abbrev a2x:Stmt:=top 53
end K44
namespace K44
open PySem PySem.W L2
noncomputable section
abbrev kE (P:Params) (x:String) (t:Nat) (v:Value):DictEntry:=⟨Yi P x,.str x t,v⟩
abbrev kC (n q:String) (s:Stmt):Obj:=⟨.none,none,(.func ⟨n,q,a1M s,.stmts (a1m s),a0b s,0,[],.none,.none,.none,.none,none,.none,.none,0⟩),#[]⟩
abbrev kD1 (n q:String) (t l a r u:Nat):Obj:=⟨.type "code",none,.fields #[.str n t,.str q (t+1),.str "/claim/cut.py" (t+2),.int l 0,.int a 0,.int 0 0,.int 0 0,.int 3 0,.ref r,.bool true,.int 181 0,.ref (r+1),.none,.ref (r+2),.ref (r+3),.ref (r+4),.int u 0,.int l 0,.str "/claim/cut.py" (u+1)],#[]⟩
abbrev kD2 (n q:String) (t l a r u:Nat):Obj:=⟨.type "code",none,.fields #[.str n t,.str q (t+1),.str "/claim/cut.py" (t+2),.int l 0,.int a 0,.int 0 0,.int 0 0,.int 3 0,.ref r,.bool true,.int 181 0,.ref (r+1),.none,.none,.none,.ref (r+2),.int u 0,.int l 0,.str "/claim/cut.py" (u+1)],#[]⟩
abbrev kG (n q:String) (s:Stmt) (m:Value) (c:Nat):FuncData:=Yy n q (a1M s) (a1m s) (a0b s) .none .none .none m none (.ref c) .none
abbrev kF (n q:String) (s:Stmt) (m:Value) (c:Nat):Obj:=⟨.type "function",none,.func (kG n q s m c),#[]⟩
abbrev kTs:Nat→List String→List Value
 | _,[]=>[]
 | t,x::l=>.str x t::kTs (t+1) l
abbrev kT (t:Nat) (l:List String):Obj:=⟨.type "tuple",none,.seq ⟨kTs t l⟩ 0,#[]⟩
abbrev kBs (f:String→Value) (P:Params):Nat→List String→List DictEntry
 | _,[]=>[]
 | t,x::l=>kE P x t (f x)::kBs f P (t+1) l
abbrev kLs:List (Nat×Nat×Nat)→List Value
 | []=>[]
 | (a,b,c)::l=>.int a 0::.int b 0::.ref c::kLs l
abbrev kL (l:List (Nat×Nat×Nat)):Obj:=⟨.none,none,.fields ⟨kLs l⟩,#[]⟩
abbrev kQ (l:List DictEntry) (n:Nat):Obj:=⟨.type "dict",none,.dict ⟨l⟩ n,#[]⟩
noncomputable def kU:Obj:=⟨.type "tuple",none,.seq #[] 0,#[]⟩
noncomputable def kN:Obj:=⟨.none,none,.fields #[],#[]⟩
abbrev m0:Value:=.str "__main__" 164
abbrev m1:Value:=.str "mostwise.among" 194
abbrev m2:Value:=.str "mostwise.words" 217
abbrev m3:Value:=.str "mostwise.leaning" 226
abbrev m4:Value:=.str "mostwise.sure" 238
abbrev m5:Value:=.str "mostwise.mostly" 254
abbrev m6:Value:=.str "mostwise.rules" 409
abbrev m7:Value:=.str "mostwise.ground" 660
abbrev m8:Value:=.str "law_mostwise_k44_whole_any_order" 752
noncomputable def o0 (P:Params):Obj:=kQ ([kE P "__name__" 1 (.str "builtins" 160),kE P "__doc__" 2 (.builtin "builtins.__doc__:str#opaque"),kE P "__package__" 3 (.builtin "builtins.__package__:str#opaque"),kE P "__loader__" 4 (.builtin "builtins.__loader__:shared#opaque"),kE P "__spec__" 5 (.builtin "builtins.__spec__#opaque")]++kBs .builtin P 6 ["__build_class__","__import__","abs","all","any","ascii","bin","breakpoint","callable","chr","compile","delattr","dir","divmod","eval","exec","format","getattr","globals","hasattr","hash","hex","id","input","isinstance","issubclass","iter","aiter","len","locals","max","min","next","anext","oct","ord","pow","print","repr","round","setattr","sorted","sum","vars"]++[kE P "None" 50 .none,kE P "Ellipsis" 51 .ellipsis,kE P "NotImplemented" 52 .notImplemented,kE P "False" 53 (.bool false),kE P "True" 54 (.bool true)]++kBs .type P 55 ["bool","memoryview","bytearray","bytes","classmethod","complex","dict","enumerate","filter","float","frozenset","property","int","list","map","object","range","reversed","set","slice","staticmethod","str","super","tuple","type","zip"]++[kE P "__debug__" 81 (.bool true)]++kBs .type P 82 ["BaseException","BaseExceptionGroup","Exception","GeneratorExit","KeyboardInterrupt","SystemExit","ArithmeticError","AssertionError","AttributeError","BufferError","EOFError","ImportError","LookupError","MemoryError","NameError","OSError","ReferenceError","RuntimeError","StopAsyncIteration","StopIteration","SyntaxError","SystemError","TypeError","ValueError","Warning","FloatingPointError","OverflowError","ZeroDivisionError","BytesWarning","DeprecationWarning","EncodingWarning","FutureWarning","ImportWarning","PendingDeprecationWarning","ResourceWarning","RuntimeWarning","SyntaxWarning","UnicodeWarning","UserWarning","BlockingIOError","ChildProcessError","ConnectionError","FileExistsError","FileNotFoundError","InterruptedError","IsADirectoryError","NotADirectoryError","PermissionError","ProcessLookupError","TimeoutError"]++kBs .type P 132 ["IndentationError","_IncompleteInputError","IndexError","KeyError","ModuleNotFoundError","NotImplementedError","PythonFinalizationError","RecursionError","UnboundLocalError","UnicodeError","BrokenPipeError","ConnectionAbortedError","ConnectionRefusedError","ConnectionResetError","TabError","UnicodeDecodeError","UnicodeEncodeError","UnicodeTranslateError","ExceptionGroup"]++[kE P "EnvironmentError" 151 (.type "OSError"),kE P "IOError" 152 (.type "OSError"),kE P "open" 153 (.builtin "open"),kE P "quit" 154 (.builtin "builtins.quit#opaque"),kE P "exit" 155 (.builtin "builtins.exit#opaque"),kE P "copyright" 156 (.builtin "builtins.copyright#opaque"),kE P "credits" 157 (.builtin "builtins.credits#opaque"),kE P "license" 158 (.builtin "builtins.license#opaque"),kE P "help" 159 (.builtin "builtins.help#opaque")]) 159
noncomputable def o1 (P:Params):Obj:=kQ [kE P "builtins" 162 (.ref 4),kE P "__main__" 163 (.ref 5)] 2
noncomputable def o2:Obj:=⟨.none,none,(.dict #[] 0),#[]⟩
noncomputable def o3 (P:Params):Obj:=kQ ([kE P "__name__" 165 (.str "law_mostwise_k44_whole_any_order" 752),kE P "__doc__" 166 .none,kE P "__package__" 167 .none,kE P "__loader__" 168 (.builtin "__main__.__loader__#opaque"),kE P "__spec__" 169 .none,kE P "__annotations__" 170 (.ref 6),kE P "__builtins__" 171 (.ref 4),kE P "__file__" 173 (.str "/claim/cut.py" 172),kE P "__cached__" 174 .none,kE P "_wall" 193 (.ref 21),kE P "keyed" 204 (.ref 28),kE P "all_among" 210 (.ref 33),kE P "any_among" 216 (.ref 38),kE P "opposite" 225 (.ref 45),kE P "heads_by_premise" 237 (.ref 52),kE P "sure_rounds" 245 (.ref 58),kE P "sure_steps" 253 (.ref 65),kE P "HELD" 257 (.str "held" 256),kE P "REFUSED" 259 (.str "refused" 258),kE P "is_beaten" 265 (.ref 70),kE P "holds_by" 271 (.ref 75),kE P "refused_by" 277 (.ref 80),kE P "words_now" 290 (.ref 87),kE P "touched" 301 (.ref 94),kE P "most_rounds" 307 (.ref 99),kE P "answer_by" 315 (.ref 106),kE P "Answers" 408 (.ref 179),kE P "Rule" 495 (.ref 249),kE P "Fact" 549 (.ref 298),kE P "Sure" 588 (.ref 331),kE P "Most" 620 (.ref 357),kE P "Block" 659 (.ref 390),kE P "Ground" 751 (.ref 456),kE P "_law_cell_at" 761 (.ref 467),kE P "_law_mix" 770 (.ref 474),kE P "_law_word" 784 (.ref 481),kE P "_law_pool" 790 (.ref 486),kE P "_law_row" 796 (.ref 491),kE P "_law_made" 807 (.ref 498),kE P "_law_labels" 813 (.ref 503),kE P "_law_row_by_digits" 830 (.ref 510),kE P "_law_rows" 836 (.ref 515),kE P "_law_rounds" 842 (.ref 520),kE P "_law_other" 849 (.ref 527),kE P "_law_by" 858 (.ref 534),kE P "_law_stands" 864 (.ref 539),kE P "_law_falls" 870 (.ref 544),kE P "_law_beaten" 876 (.ref 549),kE P "_law_held" 882 (.ref 554),kE P "_law_refused" 888 (.ref 559)]++[kE P "_law_pairs" 902 (.ref 566),kE P "_law_pairs_by_digits" 914 (.ref 573),kE P "_law_gone_through" 930 (.ref 580),kE P "_law_mixed" 936 (.ref 585),kE P "law" 942 (.ref 590)]) 55
noncomputable def o4:Obj:=⟨(.type "module"),(some 0),.plain,#[]⟩
noncomputable def o5:Obj:=⟨(.type "module"),(some 3),.plain,#[]⟩
noncomputable def o6:Obj:=⟨(.type "dict"),none,(.dict #[] 0),#[]⟩
noncomputable def o9:Obj:=⟨(.type "code"),none,(.fields #[(.str "<module>" 176),(.str "<module>" 177),(.str "/claim/cut.py" 178),(.int (1) 0),(.int (0) 0),(.int (0) 0),(.int (0) 0),(.int (0) 0),(.ref 7),(.bool false),(.int (175) 0),(.ref 8),.none,.none,.none,.none,(.int (179) 0),(.int (1) 0),(.str "/claim/cut.py" 180)]),#[]⟩
noncomputable def o10:Obj:=⟨(.type "frame"),none,.plain,#[(some (.ref 9)),(some (.ref 3)),(some (.ref 3)),none,(some (.str "__main__" 164)),none,(some (.ref 0))]⟩
noncomputable def o12:Obj:=kL [(1,0,20),(5,0,27),(10,0,32),(12,0,37),(15,0,44),(18,0,51),(25,0,57),(39,0,64),(45,0,69),(47,0,74),(54,0,79),(61,0,86),(69,0,93),(76,0,98),(94,0,105),(100,0,112),(133,0,189),(160,0,259),(176,0,306),(186,0,339),(193,0,365),(204,0,398),(241,0,466),(245,0,473),(249,0,480),(259,0,485),(267,0,490),(279,0,497),(288,0,502),(290,0,509),(304,0,514),(312,0,519),(329,0,526),(333,0,533),(338,0,538),(340,0,543),(342,0,548),(344,0,553),(352,0,558),(360,0,565),(370,0,572),(382,0,579),(408,0,584),(410,0,589)]
noncomputable def o13:Obj:=⟨(.type "code"),none,(.fields #[(.str "<module>" 182),(.str "<module>" 183),(.str "/claim/cut.py" 184),(.int (1) 0),(.int (0) 0),(.int (0) 0),(.int (0) 0),(.int (0) 0),(.ref 11),(.bool false),(.int (181) 0),(.ref 12),.none,.none,.none,.none,(.int (185) 0),(.int (1) 0),(.str "/claim/cut.py" 186)]),#[]⟩
noncomputable def o14:Obj:=⟨(.type "frame"),none,.plain,#[(some (.ref 13)),(some (.ref 3)),(some (.ref 3)),none,(some (.str "__main__" 164)),none,(some (.ref 0))]⟩
noncomputable def o17:Obj:=kT 190 ["k"]
noncomputable def o19:Obj:=kC "_wall" "_wall" (top 0)
noncomputable def o20:Obj:=kD1 "_wall" "_wall" 187 1 1 15 191
noncomputable def o21:Obj:=kF "_wall" "_wall" (top 0) m0 20
noncomputable def o24:Obj:=kT 199 ["some","told","statement"]
noncomputable def o26:Obj:=kC "keyed" "keyed" b1h
noncomputable def o27:Obj:=kD1 "keyed" "keyed" 196 5 1 22 202
noncomputable def o28:Obj:=kF "keyed" "keyed" b1h m1 27
noncomputable def o31:Obj:=kC "all_among" "all_among" a8Q
noncomputable def o32:Obj:=kD2 "all_among" "all_among" 205 10 2 29 208
noncomputable def o33:Obj:=kF "all_among" "all_among" a8Q m1 32
noncomputable def o36:Obj:=kC "any_among" "any_among" a8L
noncomputable def o37:Obj:=kD2 "any_among" "any_among" 211 12 2 34 214
noncomputable def o38:Obj:=kF "any_among" "any_among" a8L m1 37
noncomputable def o41:Obj:=kT 222 ["statement"]
noncomputable def o43:Obj:=kC "opposite" "opposite" b1w
noncomputable def o44:Obj:=kD1 "opposite" "opposite" 219 15 1 39 223
noncomputable def o45:Obj:=kF "opposite" "opposite" b1w m2 44
noncomputable def o48:Obj:=kT 231 ["ground","heads","rule","premise"]
noncomputable def o50:Obj:=kC "heads_by_premise" "heads_by_premise" b2g
noncomputable def o51:Obj:=kD1 "heads_by_premise" "heads_by_premise" 228 18 1 46 235
noncomputable def o52:Obj:=kF "heads_by_premise" "heads_by_premise" b2g m3 51
noncomputable def o53:Obj:=⟨(.type "tuple"),none,(.seq #[.none] 0),#[]⟩
noncomputable def o56:Obj:=kC "sure_rounds" "sure_rounds" a2M
noncomputable def o57:Obj:=kD2 "sure_rounds" "sure_rounds" 240 25 2 54 243
noncomputable def o58:Obj:=⟨(.type "function"),none,(.func (Yy "sure_rounds" "sure_rounds" (a1M a2M) (a1m a2M) (a0b a2M) (.ref 53) .none .none (.str "mostwise.sure" 238) none (.ref 57) .none)),#[]⟩
noncomputable def o61:Obj:=kT 249 ["ground"]
noncomputable def o62:Obj:=kT 250 ["ranks"]
noncomputable def o63:Obj:=kC "sure_steps" "sure_steps" a8G
noncomputable def o64:Obj:=kD1 "sure_steps" "sure_steps" 246 39 1 59 251
noncomputable def o65:Obj:=kF "sure_steps" "sure_steps" a8G m4 64
noncomputable def o68:Obj:=kC "is_beaten" "is_beaten" a8O
noncomputable def o69:Obj:=kD2 "is_beaten" "is_beaten" 260 45 3 66 263
noncomputable def o70:Obj:=kF "is_beaten" "is_beaten" a8O m5 69
noncomputable def o73:Obj:=kC "holds_by" "holds_by" a7b
noncomputable def o74:Obj:=kD2 "holds_by" "holds_by" 266 47 5 71 269
noncomputable def o75:Obj:=kF "holds_by" "holds_by" a7b m5 74
noncomputable def o78:Obj:=kC "refused_by" "refused_by" a7r
noncomputable def o79:Obj:=kD2 "refused_by" "refused_by" 272 54 5 76 275
noncomputable def o80:Obj:=kF "refused_by" "refused_by" a7r m5 79
noncomputable def o83:Obj:=kT 281 ["ground","sures","held","refused","asked","words","q"]
noncomputable def o85:Obj:=kC "words_now" "words_now" b0U
noncomputable def o86:Obj:=kD1 "words_now" "words_now" 278 61 5 81 288
noncomputable def o87:Obj:=kF "words_now" "words_now" b0U m5 86
noncomputable def o90:Obj:=kT 294 ["heads","came","told","premise","head"]
noncomputable def o92:Obj:=kC "touched" "touched" b1W
noncomputable def o93:Obj:=kD1 "touched" "touched" 291 69 2 88 299
noncomputable def o94:Obj:=kF "touched" "touched" b1W m5 93
noncomputable def o97:Obj:=kC "most_rounds" "most_rounds" a4v
noncomputable def o98:Obj:=kD2 "most_rounds" "most_rounds" 302 76 4 95 305
noncomputable def o99:Obj:=kF "most_rounds" "most_rounds" a4v m5 98
noncomputable def c3W:Obj:=kT 311 ["is_sure","word"]
noncomputable def c8S:Obj:=kC "answer_by" "answer_by" a9y
noncomputable def c4J:Obj:=kD1 "answer_by" "answer_by" 308 94 2 100 313
noncomputable def c5E:Obj:=kF "answer_by" "answer_by" a9y m5 105
noncomputable def c7l:Obj:=⟨(.type "builtin_function_or_method"),none,(.fields #[(.builtin "type.__prepare__"),(.type "type")]),#[]⟩
noncomputable def c8R (P:Params):Obj:=kQ [kE P "__module__" 323 (.str "mostwise.mostly" 254),kE P "__qualname__" 325 (.str "Answers" 324),⟨Yi P "__firstlineno__",(.str "__firstlineno__" 327),(.int (100) 326)⟩,kE P "__init__" 335 (.ref 120),kE P "word_and_rank" 343 (.ref 127),kE P "sure" 351 (.ref 134),kE P "held" 359 (.ref 141),kE P "refused" 367 (.ref 148),kE P "answer" 375 (.ref 155),kE P "rank" 383 (.ref 162),kE P "listed" 390 (.ref 169),kE P "sures" 397 (.ref 176),kE P "__static_attributes__" 401 (.ref 177)] 13
noncomputable def c8X:Obj:=kL [(102,4,119),(107,4,126),(112,4,133),(115,4,140),(118,4,147),(121,4,154),(124,4,161),(127,4,168),(130,4,175)]
noncomputable def c6J:Obj:=⟨(.type "code"),none,(.fields #[(.str "Answers" 318),(.str "Answers" 319),(.str "/claim/cut.py" 320),(.int (100) 0),(.int (0) 0),(.int (0) 0),(.int (0) 0),(.int (0) 0),(.ref 110),(.bool false),(.int (181) 0),(.ref 111),.none,.none,.none,.none,(.int (321) 0),(.int (100) 0),(.str "/claim/cut.py" 322)]),#[]⟩
noncomputable def c8i:Obj:=⟨(.type "frame"),none,.plain,#[(some (.ref 112)),(some (.ref 3)),(some (.ref 109)),none,(some (.str "mostwise.mostly" 254)),none,(some (.ref 0))]⟩
noncomputable def c4f:Obj:=kT 331 ["self","ground"]
noncomputable def c7d:Obj:=kC "__init__" "Answers.__init__" b0R
noncomputable def c3o:Obj:=kD1 "__init__" "Answers.__init__" 328 102 2 114 333
noncomputable def c3e:Obj:=kF "__init__" "Answers.__init__" b0R m5 119
noncomputable def c3X:Obj:=kT 339 ["self","q"]
noncomputable def c8E:Obj:=kC "word_and_rank" "Answers.word_and_rank" b0L
noncomputable def c5q:Obj:=kD1 "word_and_rank" "Answers.word_and_rank" 336 107 2 121 341
noncomputable def c5G:Obj:=kF "word_and_rank" "Answers.word_and_rank" b0L m5 126
noncomputable def c5Z:Obj:=kT 347 ["self","q"]
noncomputable def c8n:Obj:=kC "sure" "Answers.sure" b0d
noncomputable def c3R:Obj:=kD1 "sure" "Answers.sure" 344 112 2 128 349
noncomputable def c4a:Obj:=kF "sure" "Answers.sure" b0d m5 133
noncomputable def c6i:Obj:=kT 355 ["self","q"]
noncomputable def c7S:Obj:=kC "held" "Answers.held" b2W
noncomputable def c4S:Obj:=kD1 "held" "Answers.held" 352 115 2 135 357
noncomputable def c2x:Obj:=kF "held" "Answers.held" b2W m5 140
noncomputable def c2n:Obj:=kT 363 ["self","q"]
noncomputable def c7D:Obj:=kC "refused" "Answers.refused" b2Z
noncomputable def c5Q:Obj:=kD1 "refused" "Answers.refused" 360 118 2 142 365
noncomputable def c4z:Obj:=kF "refused" "Answers.refused" b2Z m5 147
noncomputable def c5u:Obj:=kT 371 ["self","q"]
noncomputable def c7t:Obj:=kC "answer" "Answers.answer" b2h
noncomputable def c3S:Obj:=kD1 "answer" "Answers.answer" 368 121 2 149 373
noncomputable def c3B:Obj:=kF "answer" "Answers.answer" b2h m5 154
noncomputable def c4b:Obj:=kT 379 ["self","q"]
noncomputable def c7Q:Obj:=kC "rank" "Answers.rank" b0q
noncomputable def c3L:Obj:=kD1 "rank" "Answers.rank" 376 124 2 156 381
noncomputable def c3x:Obj:=kF "rank" "Answers.rank" b0q m5 161
noncomputable def c4p:Obj:=kT 387 ["self"]
noncomputable def c8x:Obj:=kC "listed" "Answers.listed" (a0i (top 22) 7)
noncomputable def c3l:Obj:=kD1 "listed" "Answers.listed" 384 127 1 163 388
noncomputable def c6m:Obj:=kF "listed" "Answers.listed" (a0i (top 22) 7) m5 168
noncomputable def c3C:Obj:=kT 394 ["self"]
noncomputable def c7y:Obj:=kC "sures" "Answers.sures" b3N
noncomputable def c5M:Obj:=kD1 "sures" "Answers.sures" 391 130 1 170 395
noncomputable def c2M:Obj:=kF "sures" "Answers.sures" b3N m5 175
noncomputable def c2N:Obj:=kT 398 ["came","standing","sure_keys"]
noncomputable def c2t (P:Params):Obj:=kQ [kE P "__module__" 323 (.str "mostwise.mostly" 254),⟨Yi P "__firstlineno__",(.str "__firstlineno__" 327),(.int (100) 326)⟩,kE P "__init__" 335 (.ref 120),kE P "word_and_rank" 343 (.ref 127),kE P "sure" 351 (.ref 134),kE P "held" 359 (.ref 141),kE P "refused" 367 (.ref 148),kE P "answer" 375 (.ref 155),kE P "rank" 383 (.ref 162),kE P "listed" 390 (.ref 169),kE P "sures" 397 (.ref 176),kE P "__static_attributes__" 401 (.ref 177),kE P "__dict__" 403 (.ref 180),kE P "__weakref__" 405 (.ref 181),kE P "__doc__" 406 .none] 4
noncomputable def c2G:Obj:=⟨(.type "type"),none,(.cls ⟨"Answers",[(.type "object")],[(.ref 179),(.type "object")],178,"Answers",true,[],[],false,none,false⟩),#[none,none,(some (.str "Answers" 316)),(some (.str "Answers" 324)),(some (.builtin "object.__new__")),(some (.bool true))]⟩
noncomputable def c5a:Obj:=⟨(.type "getset_descriptor"),none,(.fields #[(.str "__dict__" 402),(.ref 179),(.builtin "function.__dict__"),(.builtin "function.__dict__#set")]),#[]⟩
noncomputable def c6b:Obj:=⟨(.type "getset_descriptor"),none,(.fields #[(.str "__weakref__" 404),(.ref 179),(.builtin "ExceptionGroup.__weakref__"),.none]),#[]⟩
noncomputable def c7K:Obj:=⟨(.type "super"),none,(.fields #[(.ref 179),(.ref 179),(.ref 179)]),#[]⟩
noncomputable def c8M:Obj:=⟨(.type "builtin_function_or_method"),none,(.fields #[(.builtin "object.__init_subclass__"),(.ref 179)]),#[]⟩
noncomputable def c8D:Obj:=⟨(.type "builtin_function_or_method"),none,(.fields #[(.builtin "type.__prepare__"),(.type "type")]),#[]⟩
noncomputable def c8b (P:Params):Obj:=kQ [kE P "__module__" 418 (.str "mostwise.rules" 409),kE P "__qualname__" 420 (.str "Rule" 419),⟨Yi P "__firstlineno__",(.str "__firstlineno__" 422),(.int (133) 421)⟩,kE P "__init__" 432 (.ref 197),kE P "word" 439 (.ref 204),kE P "speaks" 446 (.ref 211),kE P "is_sure" 453 (.ref 218),kE P "letters" 460 (.ref 225),kE P "again" 469 (.ref 232),kE P "filled" 477 (.ref 239),kE P "row" 484 (.ref 246),kE P "__static_attributes__" 488 (.ref 247)] 12
noncomputable def c8P:Obj:=kL [(135,4,196),(140,4,203),(143,4,210),(146,4,217),(149,4,224),(152,4,231),(155,4,238),(158,4,245)]
noncomputable def c8g:Obj:=⟨(.type "code"),none,(.fields #[(.str "Rule" 413),(.str "Rule" 414),(.str "/claim/cut.py" 415),(.int (133) 0),(.int (0) 0),(.int (0) 0),(.int (0) 0),(.int (0) 0),(.ref 187),(.bool false),(.int (181) 0),(.ref 188),.none,.none,.none,.none,(.int (416) 0),(.int (133) 0),(.str "/claim/cut.py" 417)]),#[]⟩
noncomputable def c7X:Obj:=⟨(.type "frame"),none,.plain,#[(some (.ref 189)),(some (.ref 3)),(some (.ref 186)),none,(some (.str "mostwise.rules" 409)),none,(some (.ref 0))]⟩
noncomputable def c2E:Obj:=kT 426 ["self","label","head","body"]
noncomputable def c8K:Obj:=kC "__init__" "Rule.__init__" a9N
noncomputable def c3y:Obj:=kD1 "__init__" "Rule.__init__" 423 135 4 191 430
noncomputable def c4r:Obj:=kF "__init__" "Rule.__init__" a9N m6 196
noncomputable def c3s:Obj:=kT 436 ["self"]
noncomputable def c6C:Obj:=kC "word" "Rule.word" (a0i (top 24) 1)
noncomputable def c2m:Obj:=kD1 "word" "Rule.word" 433 140 1 198 437
noncomputable def c8t:Obj:=kF "word" "Rule.word" (a0i (top 24) 1) m6 203
noncomputable def c5h:Obj:=kT 443 ["self"]
noncomputable def c8H:Obj:=kC "speaks" "Rule.speaks" b1H
noncomputable def c4x:Obj:=kD1 "speaks" "Rule.speaks" 440 143 1 205 444
noncomputable def c2o:Obj:=kF "speaks" "Rule.speaks" b1H m6 210
noncomputable def c2s:Obj:=kT 450 ["self"]
noncomputable def c8a:Obj:=kC "is_sure" "Rule.is_sure" b0G
noncomputable def c2v:Obj:=kD1 "is_sure" "Rule.is_sure" 447 146 1 212 451
noncomputable def c5L:Obj:=kF "is_sure" "Rule.is_sure" b0G m6 217
noncomputable def c3A:Obj:=kT 457 ["self"]
noncomputable def c6s:Obj:=kC "letters" "Rule.letters" (a0i (top 24) 4)
noncomputable def c5c:Obj:=kD1 "letters" "Rule.letters" 454 149 1 219 458
noncomputable def c6N:Obj:=kF "letters" "Rule.letters" (a0i (top 24) 4) m6 224
noncomputable def c3T:Obj:=kT 464 ["self","head","body"]
noncomputable def c7A:Obj:=kC "again" "Rule.again" (a0i (top 24) 5)
noncomputable def c3i:Obj:=kD1 "again" "Rule.again" 461 152 3 226 467
noncomputable def c7b:Obj:=kF "again" "Rule.again" (a0i (top 24) 5) m6 231
noncomputable def c4I:Obj:=kT 473 ["self","given"]
noncomputable def c6n:Obj:=kC "filled" "Rule.filled" (a0i (top 24) 6)
noncomputable def c4V:Obj:=kD1 "filled" "Rule.filled" 470 155 2 233 475
noncomputable def c7h:Obj:=kF "filled" "Rule.filled" (a0i (top 24) 6) m6 238
noncomputable def c6c:Obj:=kT 481 ["self"]
noncomputable def c6I:Obj:=kC "row" "Rule.row" (a0i (top 24) 7)
noncomputable def c6h:Obj:=kD1 "row" "Rule.row" 478 158 1 240 482
noncomputable def c6P:Obj:=kF "row" "Rule.row" (a0i (top 24) 7) m6 245
noncomputable def c4o:Obj:=kT 485 ["body","head","label"]
noncomputable def c4L (P:Params):Obj:=kQ [kE P "__module__" 418 (.str "mostwise.rules" 409),⟨Yi P "__firstlineno__",(.str "__firstlineno__" 422),(.int (133) 421)⟩,kE P "__init__" 432 (.ref 197),kE P "word" 439 (.ref 204),kE P "speaks" 446 (.ref 211),kE P "is_sure" 453 (.ref 218),kE P "letters" 460 (.ref 225),kE P "again" 469 (.ref 232),kE P "filled" 477 (.ref 239),kE P "row" 484 (.ref 246),kE P "__static_attributes__" 488 (.ref 247),kE P "__dict__" 490 (.ref 250),kE P "__weakref__" 492 (.ref 251),kE P "__doc__" 493 .none] 4
noncomputable def c1G:Obj:=⟨(.type "type"),none,(.cls ⟨"Rule",[(.type "object")],[(.ref 249),(.type "object")],248,"Rule",true,[],[(.ref 298),(.ref 331),(.ref 357),(.ref 390)],false,none,false⟩),#[none,none,(some (.str "Rule" 411)),(some (.str "Rule" 419)),(some (.builtin "object.__new__")),(some (.bool true))]⟩
noncomputable def c1y:Obj:=⟨(.type "getset_descriptor"),none,(.fields #[(.str "__dict__" 489),(.ref 249),(.builtin "function.__dict__"),(.builtin "function.__dict__#set")]),#[]⟩
noncomputable def c1w:Obj:=⟨(.type "getset_descriptor"),none,(.fields #[(.str "__weakref__" 491),(.ref 249),(.builtin "ExceptionGroup.__weakref__"),.none]),#[]⟩
noncomputable def c1P:Obj:=⟨(.type "super"),none,(.fields #[(.ref 249),(.ref 249),(.ref 249)]),#[]⟩
noncomputable def c1M:Obj:=⟨(.type "builtin_function_or_method"),none,(.fields #[(.builtin "object.__init_subclass__"),(.ref 249)]),#[]⟩
noncomputable def c3d:Obj:=⟨(.type "tuple"),none,(.seq #[(.ref 249)] 0),#[]⟩
noncomputable def c8p:Obj:=⟨(.type "builtin_function_or_method"),none,(.fields #[(.builtin "type.__prepare__"),(.type "type")]),#[]⟩
noncomputable def c8d (P:Params):Obj:=kQ [kE P "__module__" 503 (.str "mostwise.rules" 409),kE P "__qualname__" 505 (.str "Fact" 504),⟨Yi P "__firstlineno__",(.str "__firstlineno__" 507),(.int (160) 506)⟩,kE P "__init__" 515 (.ref 267),kE P "word" 522 (.ref 274),kE P "is_sure" 529 (.ref 281),kE P "again" 538 (.ref 288),kE P "row" 545 (.ref 295),kE P "__static_attributes__" 546 (.ref 296)] 9
noncomputable def c6l:Obj:=kL [(162,4,266),(165,4,273),(168,4,280),(171,4,287),(174,4,294)]
noncomputable def c6M:Obj:=⟨(.type "code"),none,(.fields #[(.str "Fact" 498),(.str "Fact" 499),(.str "/claim/cut.py" 500),(.int (160) 0),(.int (0) 0),(.int (0) 0),(.int (0) 0),(.int (0) 0),(.ref 257),(.bool false),(.int (181) 0),(.ref 258),.none,.none,.none,.none,(.int (501) 0),(.int (160) 0),(.str "/claim/cut.py" 502)]),#[]⟩
noncomputable def c8e:Obj:=⟨(.type "frame"),none,.plain,#[(some (.ref 259)),(some (.ref 3)),(some (.ref 256)),none,(some (.str "mostwise.rules" 409)),none,(some (.ref 0))]⟩
noncomputable def c3J:Obj:=kT 511 ["self","head"]
noncomputable def c6V:Obj:=kC "__init__" "Fact.__init__" b0b
noncomputable def c2U:Obj:=kD1 "__init__" "Fact.__init__" 508 162 2 261 513
noncomputable def c4i:Obj:=kF "__init__" "Fact.__init__" b0b m6 266
noncomputable def c5H:Obj:=kT 519 ["self"]
noncomputable def c8w:Obj:=kC "word" "Fact.word" (a0i (top 25) 1)
noncomputable def c5U:Obj:=kD1 "word" "Fact.word" 516 165 1 268 520
noncomputable def c7r:Obj:=kF "word" "Fact.word" (a0i (top 25) 1) m6 273
noncomputable def c4H:Obj:=kT 526 ["self"]
noncomputable def c8y:Obj:=kC "is_sure" "Fact.is_sure" b2t
noncomputable def c4R:Obj:=kD1 "is_sure" "Fact.is_sure" 523 168 1 275 527
noncomputable def c2p:Obj:=kF "is_sure" "Fact.is_sure" b2t m6 280
noncomputable def c5W:Obj:=kT 533 ["self","head","body"]
noncomputable def c6w:Obj:=kC "again" "Fact.again" (a0i (top 25) 3)
noncomputable def c4Q:Obj:=kD1 "again" "Fact.again" 530 171 3 282 536
noncomputable def c7w:Obj:=kF "again" "Fact.again" (a0i (top 25) 3) m6 287
noncomputable def c4e:Obj:=kT 542 ["self"]
noncomputable def c7O:Obj:=kC "row" "Fact.row" (a0i (top 25) 4)
noncomputable def c3a:Obj:=kD1 "row" "Fact.row" 539 174 1 289 543
noncomputable def c8v:Obj:=kF "row" "Fact.row" (a0i (top 25) 4) m6 294
noncomputable def c2F (P:Params):Obj:=kQ [kE P "__module__" 503 (.str "mostwise.rules" 409),⟨Yi P "__firstlineno__",(.str "__firstlineno__" 507),(.int (160) 506)⟩,kE P "__init__" 515 (.ref 267),kE P "word" 522 (.ref 274),kE P "is_sure" 529 (.ref 281),kE P "again" 538 (.ref 288),kE P "row" 545 (.ref 295),kE P "__static_attributes__" 546 (.ref 296),kE P "__doc__" 547 .none] 2
noncomputable def c2W:Obj:=⟨(.type "type"),none,(.cls ⟨"Fact",[(.ref 249)],[(.ref 298),(.ref 249),(.type "object")],297,"Fact",true,[],[],false,none,false⟩),#[(some (.ref 254)),none,(some (.str "Fact" 496)),(some (.str "Fact" 504)),(some (.builtin "object.__new__")),(some (.bool true))]⟩
noncomputable def c6O:Obj:=⟨(.type "super"),none,(.fields #[(.ref 298),(.ref 298),(.ref 298)]),#[]⟩
noncomputable def c8F:Obj:=⟨(.type "builtin_function_or_method"),none,(.fields #[(.builtin "object.__init_subclass__"),(.ref 298)]),#[]⟩
noncomputable def c4Y:Obj:=⟨(.type "tuple"),none,(.seq #[(.ref 249)] 0),#[]⟩
noncomputable def c8L:Obj:=⟨(.type "builtin_function_or_method"),none,(.fields #[(.builtin "type.__prepare__"),(.type "type")]),#[]⟩
noncomputable def c6D (P:Params):Obj:=kQ [kE P "__module__" 557 (.str "mostwise.rules" 409),kE P "__qualname__" 559 (.str "Sure" 558),⟨Yi P "__firstlineno__",(.str "__firstlineno__" 561),(.int (176) 560)⟩,kE P "word" 568 (.ref 314),kE P "is_sure" 575 (.ref 321),kE P "again" 584 (.ref 328),kE P "__static_attributes__" 585 (.ref 329)] 7
noncomputable def c7c:Obj:=kL [(178,4,313),(181,4,320),(184,4,327)]
noncomputable def c6Y:Obj:=⟨(.type "code"),none,(.fields #[(.str "Sure" 552),(.str "Sure" 553),(.str "/claim/cut.py" 554),(.int (176) 0),(.int (0) 0),(.int (0) 0),(.int (0) 0),(.int (0) 0),(.ref 304),(.bool false),(.int (181) 0),(.ref 305),.none,.none,.none,.none,(.int (555) 0),(.int (176) 0),(.str "/claim/cut.py" 556)]),#[]⟩
noncomputable def c7q:Obj:=⟨(.type "frame"),none,.plain,#[(some (.ref 306)),(some (.ref 3)),(some (.ref 303)),none,(some (.str "mostwise.rules" 409)),none,(some (.ref 0))]⟩
noncomputable def c2O:Obj:=kT 565 ["self"]
noncomputable def c8o:Obj:=kC "word" "Sure.word" (a0i (top 26) 0)
noncomputable def c3b:Obj:=kD1 "word" "Sure.word" 562 178 1 308 566
noncomputable def c6X:Obj:=kF "word" "Sure.word" (a0i (top 26) 0) m6 313
noncomputable def c3Q:Obj:=kT 572 ["self"]
noncomputable def c6K:Obj:=kC "is_sure" "Sure.is_sure" b1M
noncomputable def c5b:Obj:=kD1 "is_sure" "Sure.is_sure" 569 181 1 315 573
noncomputable def c4D:Obj:=kF "is_sure" "Sure.is_sure" b1M m6 320
noncomputable def c3P:Obj:=kT 579 ["self","head","body"]
noncomputable def c7j:Obj:=kC "again" "Sure.again" (a0i (top 26) 2)
noncomputable def c5d:Obj:=kD1 "again" "Sure.again" 576 184 3 322 582
noncomputable def c8B:Obj:=kF "again" "Sure.again" (a0i (top 26) 2) m6 327
noncomputable def c2l (P:Params):Obj:=kQ [kE P "__module__" 557 (.str "mostwise.rules" 409),⟨Yi P "__firstlineno__",(.str "__firstlineno__" 561),(.int (176) 560)⟩,kE P "word" 568 (.ref 314),kE P "is_sure" 575 (.ref 321),kE P "again" 584 (.ref 328),kE P "__static_attributes__" 585 (.ref 329),kE P "__doc__" 586 .none] 2
noncomputable def c4C:Obj:=⟨(.type "type"),none,(.cls ⟨"Sure",[(.ref 249)],[(.ref 331),(.ref 249),(.type "object")],330,"Sure",true,[],[],false,none,false⟩),#[(some (.ref 301)),none,(some (.str "Sure" 550)),(some (.str "Sure" 558)),(some (.builtin "object.__new__")),(some (.bool true))]⟩
noncomputable def c7P:Obj:=⟨(.type "super"),none,(.fields #[(.ref 331),(.ref 331),(.ref 331)]),#[]⟩
noncomputable def c8O:Obj:=⟨(.type "builtin_function_or_method"),none,(.fields #[(.builtin "object.__init_subclass__"),(.ref 331)]),#[]⟩
noncomputable def c3v:Obj:=⟨(.type "tuple"),none,(.seq #[(.ref 249)] 0),#[]⟩
noncomputable def c8W:Obj:=⟨(.type "builtin_function_or_method"),none,(.fields #[(.builtin "type.__prepare__"),(.type "type")]),#[]⟩
noncomputable def c7G (P:Params):Obj:=kQ [kE P "__module__" 596 (.str "mostwise.rules" 409),kE P "__qualname__" 598 (.str "Most" 597),⟨Yi P "__firstlineno__",(.str "__firstlineno__" 600),(.int (186) 599)⟩,kE P "word" 607 (.ref 347),kE P "again" 616 (.ref 354),kE P "__static_attributes__" 617 (.ref 355)] 6
noncomputable def c6R:Obj:=kL [(188,4,346),(191,4,353)]
noncomputable def c7L:Obj:=⟨(.type "code"),none,(.fields #[(.str "Most" 591),(.str "Most" 592),(.str "/claim/cut.py" 593),(.int (186) 0),(.int (0) 0),(.int (0) 0),(.int (0) 0),(.int (0) 0),(.ref 337),(.bool false),(.int (181) 0),(.ref 338),.none,.none,.none,.none,(.int (594) 0),(.int (186) 0),(.str "/claim/cut.py" 595)]),#[]⟩
noncomputable def c8r:Obj:=⟨(.type "frame"),none,.plain,#[(some (.ref 339)),(some (.ref 3)),(some (.ref 336)),none,(some (.str "mostwise.rules" 409)),none,(some (.ref 0))]⟩
noncomputable def c6e:Obj:=kT 604 ["self"]
noncomputable def c8U:Obj:=kC "word" "Most.word" (a0i (top 27) 0)
noncomputable def c2R:Obj:=kD1 "word" "Most.word" 601 188 1 341 605
noncomputable def c6U:Obj:=kF "word" "Most.word" (a0i (top 27) 0) m6 346
noncomputable def c5X:Obj:=kT 611 ["self","head","body"]
noncomputable def c6u:Obj:=kC "again" "Most.again" (a0i (top 27) 1)
noncomputable def c3V:Obj:=kD1 "again" "Most.again" 608 191 3 348 614
noncomputable def c6x:Obj:=kF "again" "Most.again" (a0i (top 27) 1) m6 353
noncomputable def c4v (P:Params):Obj:=kQ [kE P "__module__" 596 (.str "mostwise.rules" 409),⟨Yi P "__firstlineno__",(.str "__firstlineno__" 600),(.int (186) 599)⟩,kE P "word" 607 (.ref 347),kE P "again" 616 (.ref 354),kE P "__static_attributes__" 617 (.ref 355),kE P "__doc__" 618 .none] 2
noncomputable def c3q:Obj:=⟨(.type "type"),none,(.cls ⟨"Most",[(.ref 249)],[(.ref 357),(.ref 249),(.type "object")],356,"Most",true,[],[],false,none,false⟩),#[(some (.ref 334)),none,(some (.str "Most" 589)),(some (.str "Most" 597)),(some (.builtin "object.__new__")),(some (.bool true))]⟩
noncomputable def c8I:Obj:=⟨(.type "super"),none,(.fields #[(.ref 357),(.ref 357),(.ref 357)]),#[]⟩
noncomputable def c8s:Obj:=⟨(.type "builtin_function_or_method"),none,(.fields #[(.builtin "object.__init_subclass__"),(.ref 357)]),#[]⟩
noncomputable def c4U:Obj:=⟨(.type "tuple"),none,(.seq #[(.ref 249)] 0),#[]⟩
noncomputable def c7H:Obj:=⟨(.type "builtin_function_or_method"),none,(.fields #[(.builtin "type.__prepare__"),(.type "type")]),#[]⟩
noncomputable def c7f (P:Params):Obj:=kQ [kE P "__module__" 628 (.str "mostwise.rules" 409),kE P "__qualname__" 630 (.str "Block" 629),⟨Yi P "__firstlineno__",(.str "__firstlineno__" 632),(.int (193) 631)⟩,kE P "word" 639 (.ref 373),kE P "speaks" 646 (.ref 380),kE P "again" 655 (.ref 387),kE P "__static_attributes__" 656 (.ref 388)] 7
noncomputable def c7E:Obj:=kL [(195,4,372),(198,4,379),(201,4,386)]
noncomputable def c7m:Obj:=⟨(.type "code"),none,(.fields #[(.str "Block" 623),(.str "Block" 624),(.str "/claim/cut.py" 625),(.int (193) 0),(.int (0) 0),(.int (0) 0),(.int (0) 0),(.int (0) 0),(.ref 363),(.bool false),(.int (181) 0),(.ref 364),.none,.none,.none,.none,(.int (626) 0),(.int (193) 0),(.str "/claim/cut.py" 627)]),#[]⟩
noncomputable def c8Y:Obj:=⟨(.type "frame"),none,.plain,#[(some (.ref 365)),(some (.ref 3)),(some (.ref 362)),none,(some (.str "mostwise.rules" 409)),none,(some (.ref 0))]⟩
noncomputable def c4l:Obj:=kT 636 ["self"]
noncomputable def c7Y:Obj:=kC "word" "Block.word" (a0i (top 28) 0)
noncomputable def c4T:Obj:=kD1 "word" "Block.word" 633 195 1 367 637
noncomputable def c7s:Obj:=kF "word" "Block.word" (a0i (top 28) 0) m6 372
noncomputable def c4E:Obj:=kT 643 ["self"]
noncomputable def c8z:Obj:=kC "speaks" "Block.speaks" b1d
noncomputable def c4W:Obj:=kD1 "speaks" "Block.speaks" 640 198 1 374 644
noncomputable def c3h:Obj:=kF "speaks" "Block.speaks" b1d m6 379
noncomputable def c6d:Obj:=kT 650 ["self","head","body"]
noncomputable def c7W:Obj:=kC "again" "Block.again" (a0i (top 28) 2)
noncomputable def c3Y:Obj:=kD1 "again" "Block.again" 647 201 3 381 653
noncomputable def c8Q:Obj:=kF "again" "Block.again" (a0i (top 28) 2) m6 386
noncomputable def c2C (P:Params):Obj:=kQ [kE P "__module__" 628 (.str "mostwise.rules" 409),⟨Yi P "__firstlineno__",(.str "__firstlineno__" 632),(.int (193) 631)⟩,kE P "word" 639 (.ref 373),kE P "speaks" 646 (.ref 380),kE P "again" 655 (.ref 387),kE P "__static_attributes__" 656 (.ref 388),kE P "__doc__" 657 .none] 2
noncomputable def c5r:Obj:=⟨(.type "type"),none,(.cls ⟨"Block",[(.ref 249)],[(.ref 390),(.ref 249),(.type "object")],389,"Block",true,[],[],false,none,false⟩),#[(some (.ref 360)),none,(some (.str "Block" 621)),(some (.str "Block" 629)),(some (.builtin "object.__new__")),(some (.bool true))]⟩
noncomputable def c8f:Obj:=⟨(.type "super"),none,(.fields #[(.ref 390),(.ref 390),(.ref 390)]),#[]⟩
noncomputable def c7o:Obj:=⟨(.type "builtin_function_or_method"),none,(.fields #[(.builtin "object.__init_subclass__"),(.ref 390)]),#[]⟩
noncomputable def c8T:Obj:=⟨(.type "builtin_function_or_method"),none,(.fields #[(.builtin "type.__prepare__"),(.type "type")]),#[]⟩
noncomputable def c6S (P:Params):Obj:=kQ [kE P "__module__" 669 (.str "mostwise.ground" 660),kE P "__qualname__" 671 (.str "Ground" 670),⟨Yi P "__firstlineno__",(.str "__firstlineno__" 673),(.int (204) 672)⟩,kE P "__init__" 684 (.ref 406),kE P "rules" 691 (.ref 413),kE P "ruling" 699 (.ref 420),kE P "speaking" 705 (.ref 425),kE P "against" 713 (.ref 432),kE P "beats" 722 (.ref 439),kE P "statements" 732 (.ref 446),kE P "part" 740 (.ref 453),kE P "__static_attributes__" 744 (.ref 454)] 12
noncomputable def c8h:Obj:=kL [(206,4,405),(215,4,412),(218,4,419),(221,4,424),(224,4,431),(227,4,438),(230,4,445),(238,4,452)]
noncomputable def c8l:Obj:=⟨(.type "code"),none,(.fields #[(.str "Ground" 664),(.str "Ground" 665),(.str "/claim/cut.py" 666),(.int (204) 0),(.int (0) 0),(.int (0) 0),(.int (0) 0),(.int (0) 0),(.ref 396),(.bool false),(.int (181) 0),(.ref 397),.none,.none,.none,.none,(.int (667) 0),(.int (204) 0),(.str "/claim/cut.py" 668)]),#[]⟩
noncomputable def c6o:Obj:=⟨(.type "frame"),none,.plain,#[(some (.ref 398)),(some (.ref 3)),(some (.ref 395)),none,(some (.str "mostwise.ground" 660)),none,(some (.ref 0))]⟩
noncomputable def c2X:Obj:=kT 677 ["self","rules","pairs","rule","pair"]
noncomputable def c6y:Obj:=kC "__init__" "Ground.__init__" a9R
noncomputable def c3M:Obj:=kD1 "__init__" "Ground.__init__" 674 206 3 400 682
noncomputable def c4K:Obj:=kF "__init__" "Ground.__init__" a9R m7 405
noncomputable def c2r:Obj:=kT 688 ["self"]
noncomputable def c7g:Obj:=kC "rules" "Ground.rules" a9I
noncomputable def c5g:Obj:=kD1 "rules" "Ground.rules" 685 215 1 407 689
noncomputable def c5e:Obj:=kF "rules" "Ground.rules" a9I m7 412
noncomputable def c4y:Obj:=kT 695 ["self","statement"]
noncomputable def c8N:Obj:=kC "ruling" "Ground.ruling" b0l
noncomputable def c5f:Obj:=kD1 "ruling" "Ground.ruling" 692 218 2 414 697
noncomputable def c3D:Obj:=kF "ruling" "Ground.ruling" b0l m7 419
noncomputable def c7n:Obj:=kC "speaking" "Ground.speaking" a8I
noncomputable def c3p:Obj:=kD2 "speaking" "Ground.speaking" 700 221 2 421 703
noncomputable def c4M:Obj:=kF "speaking" "Ground.speaking" a8I m7 424
noncomputable def c3g:Obj:=kT 709 ["self","statement"]
noncomputable def c6z:Obj:=kC "against" "Ground.against" b0Y
noncomputable def c2T:Obj:=kD1 "against" "Ground.against" 706 224 2 426 711
noncomputable def c5w:Obj:=kF "against" "Ground.against" b0Y m7 431
noncomputable def c5Y:Obj:=kT 717 ["self","one","other"]
noncomputable def c7C:Obj:=kC "beats" "Ground.beats" a9K
noncomputable def c2w:Obj:=kD1 "beats" "Ground.beats" 714 227 3 433 720
noncomputable def c4P:Obj:=kF "beats" "Ground.beats" a9K m7 438
noncomputable def c4n:Obj:=kT 726 ["self","told","rule","statement"]
noncomputable def c8A:Obj:=kC "statements" "Ground.statements" a9V
noncomputable def c2u:Obj:=kD1 "statements" "Ground.statements" 723 230 1 440 730
noncomputable def c5y:Obj:=kF "statements" "Ground.statements" a9V m7 445
noncomputable def c3Z:Obj:=kT 736 ["self","some"]
noncomputable def c6G:Obj:=kC "part" "Ground.part" (a0i (top 30) 7)
noncomputable def c5I:Obj:=kD1 "part" "Ground.part" 733 238 2 447 738
noncomputable def c8C:Obj:=kF "part" "Ground.part" (a0i (top 30) 7) m7 452
noncomputable def c5B:Obj:=kT 741 ["by_head","in_order","pairs"]
noncomputable def c4t (P:Params):Obj:=kQ [kE P "__module__" 669 (.str "mostwise.ground" 660),⟨Yi P "__firstlineno__",(.str "__firstlineno__" 673),(.int (204) 672)⟩,kE P "__init__" 684 (.ref 406),kE P "rules" 691 (.ref 413),kE P "ruling" 699 (.ref 420),kE P "speaking" 705 (.ref 425),kE P "against" 713 (.ref 432),kE P "beats" 722 (.ref 439),kE P "statements" 732 (.ref 446),kE P "part" 740 (.ref 453),kE P "__static_attributes__" 744 (.ref 454),kE P "__dict__" 746 (.ref 457),kE P "__weakref__" 748 (.ref 458),kE P "__doc__" 749 .none] 4
noncomputable def c6f:Obj:=⟨(.type "type"),none,(.cls ⟨"Ground",[(.type "object")],[(.ref 456),(.type "object")],455,"Ground",true,[],[],false,none,false⟩),#[none,none,(some (.str "Ground" 662)),(some (.str "Ground" 670)),(some (.builtin "object.__new__")),(some (.bool true))]⟩
noncomputable def c5s:Obj:=⟨(.type "getset_descriptor"),none,(.fields #[(.str "__dict__" 745),(.ref 456),(.builtin "function.__dict__"),(.builtin "function.__dict__#set")]),#[]⟩
noncomputable def c3G:Obj:=⟨(.type "getset_descriptor"),none,(.fields #[(.str "__weakref__" 747),(.ref 456),(.builtin "ExceptionGroup.__weakref__"),.none]),#[]⟩
noncomputable def c7Z:Obj:=⟨(.type "super"),none,(.fields #[(.ref 456),(.ref 456),(.ref 456)]),#[]⟩
noncomputable def c6E:Obj:=⟨(.type "builtin_function_or_method"),none,(.fields #[(.builtin "object.__init_subclass__"),(.ref 456)]),#[]⟩
noncomputable def c3m:Obj:=kT 757 ["_law_script","_law_k"]
noncomputable def c7e:Obj:=kC "_law_cell_at" "_law_cell_at" b0I
noncomputable def c5j:Obj:=kD1 "_law_cell_at" "_law_cell_at" 754 241 2 461 759
noncomputable def c5J:Obj:=kF "_law_cell_at" "_law_cell_at" b0I m8 466
noncomputable def c2L:Obj:=kT 765 ["_law_cell","_law_k","_law_number"]
noncomputable def c8m:Obj:=kC "_law_mix" "_law_mix" b0a
noncomputable def c5n:Obj:=kD1 "_law_mix" "_law_mix" 762 245 2 468 768
noncomputable def c5P:Obj:=kF "_law_mix" "_law_mix" b0a m8 473
noncomputable def c2y:Obj:=kT 774 ["_law_cell","_law_k","_law_signs","_law_size","_law_at","_law_word_here","_law_j","_law_step"]
noncomputable def c6q:Obj:=kC "_law_word" "_law_word" b0A
noncomputable def c6g:Obj:=kD1 "_law_word" "_law_word" 771 249 3 475 782
noncomputable def c3n:Obj:=kF "_law_word" "_law_word" b0A m8 480
noncomputable def c6W:Obj:=kC "_law_pool" "_law_pool" a8C
noncomputable def c4s:Obj:=kD2 "_law_pool" "_law_pool" 785 259 1 482 788
noncomputable def c3U:Obj:=kF "_law_pool" "_law_pool" a8C m8 485
noncomputable def c8u:Obj:=kC "_law_row" "_law_row" a7k
noncomputable def c2Q:Obj:=kD2 "_law_row" "_law_row" 791 267 5 487 794
noncomputable def c4h:Obj:=kF "_law_row" "_law_row" a7k m8 490
noncomputable def c2Z:Obj:=kT 800 ["_law_row_here","_law_sort","_law_label","_law_head","_law_body"]
noncomputable def c7z:Obj:=kC "_law_made" "_law_made" b0y
noncomputable def c3I:Obj:=kD1 "_law_made" "_law_made" 797 279 1 492 805
noncomputable def c4w:Obj:=kF "_law_made" "_law_made" b0y m8 497
noncomputable def c7V:Obj:=kC "_law_labels" "_law_labels" a8w
noncomputable def c2P:Obj:=kD2 "_law_labels" "_law_labels" 808 288 1 499 811
noncomputable def c5S:Obj:=kF "_law_labels" "_law_labels" a8w m8 502
noncomputable def c2z:Obj:=kT 817 ["_law_cell","_law_pool_here","_law_labels_here","_law_size","_law_sort","_law_label","_law_head","_law_many","_law_rest","_law_body","_law_j"]
noncomputable def c6k:Obj:=kC "_law_row_by_digits" "_law_row_by_digits" b1r
noncomputable def c3f:Obj:=kD1 "_law_row_by_digits" "_law_row_by_digits" 814 290 3 504 828
noncomputable def c3N:Obj:=kF "_law_row_by_digits" "_law_row_by_digits" b1r m8 509
noncomputable def c6H:Obj:=kC "_law_rows" "_law_rows" a7g
noncomputable def c5v:Obj:=kD2 "_law_rows" "_law_rows" 831 304 2 511 834
noncomputable def c5t:Obj:=kF "_law_rows" "_law_rows" a7g m8 514
noncomputable def c6r:Obj:=kC "_law_rounds" "_law_rounds" a8M
noncomputable def c3H:Obj:=kD2 "_law_rounds" "_law_rounds" 837 312 2 516 840
noncomputable def c4m:Obj:=kF "_law_rounds" "_law_rounds" a8M m8 519
noncomputable def c2D:Obj:=kT 846 ["_law_q"]
noncomputable def c7a:Obj:=kC "_law_other" "_law_other" b0e
noncomputable def c3K:Obj:=kD1 "_law_other" "_law_other" 843 329 1 521 847
noncomputable def c5i:Obj:=kF "_law_other" "_law_other" b0e m8 526
noncomputable def c4A:Obj:=kT 853 ["_law_rows_here","_law_by_here","_law_row_here"]
noncomputable def c8J:Obj:=kC "_law_by" "_law_by" b1U
noncomputable def c2J:Obj:=kD1 "_law_by" "_law_by" 850 333 1 528 856
noncomputable def c4d:Obj:=kF "_law_by" "_law_by" b1U m8 533
noncomputable def c6F:Obj:=kC "_law_stands" "_law_stands" a8y
noncomputable def c4g:Obj:=kD2 "_law_stands" "_law_stands" 859 338 2 535 862
noncomputable def c5k:Obj:=kF "_law_stands" "_law_stands" a8y m8 538
noncomputable def c6t:Obj:=kC "_law_falls" "_law_falls" a9g
noncomputable def c2V:Obj:=kD2 "_law_falls" "_law_falls" 865 340 2 540 868
noncomputable def c5l:Obj:=kF "_law_falls" "_law_falls" a9g m8 543
noncomputable def c6p:Obj:=kC "_law_beaten" "_law_beaten" a9e
noncomputable def c5C:Obj:=kD2 "_law_beaten" "_law_beaten" 871 342 3 545 874
noncomputable def c4u:Obj:=kF "_law_beaten" "_law_beaten" a9e m8 548
noncomputable def c6v:Obj:=kC "_law_held" "_law_held" a6f
noncomputable def c4G:Obj:=kD2 "_law_held" "_law_held" 877 344 6 550 880
noncomputable def c2k:Obj:=kF "_law_held" "_law_held" a6f m8 553
noncomputable def c7B:Obj:=kC "_law_refused" "_law_refused" a6d
noncomputable def c5p:Obj:=kD2 "_law_refused" "_law_refused" 883 352 6 555 886
noncomputable def c2A:Obj:=kF "_law_refused" "_law_refused" a6d m8 558
noncomputable def c4F:Obj:=kT 892 ["_law_cell","_law_many","_law_labels_here","_law_pairs_here","_law_k","_law_number","_law_one","_law_other_here"]
noncomputable def c8G:Obj:=kC "_law_pairs" "_law_pairs" a9M
noncomputable def c5O:Obj:=kD1 "_law_pairs" "_law_pairs" 889 360 2 560 900
noncomputable def c2Y:Obj:=kF "_law_pairs" "_law_pairs" a9M m8 565
noncomputable def c2K:Obj:=kT 906 ["_law_script","_law_labels_here","_law_cell","_law_pairs_here","_law_one","_law_other_here"]
noncomputable def c7N:Obj:=kC "_law_pairs_by_digits" "_law_pairs_by_digits" b1G
noncomputable def c3r:Obj:=kD1 "_law_pairs_by_digits" "_law_pairs_by_digits" 903 370 1 567 912
noncomputable def c5V:Obj:=kF "_law_pairs_by_digits" "_law_pairs_by_digits" b1G m8 572
noncomputable def c3u:Obj:=kT 918 ["_law_rows_here","_law_pairs_here","_law_order","_law_by_here","_law_firm","_law_up","_law_down","_law_more","_law_q","_law_words"]
noncomputable def c8j:Obj:=kC "_law_gone_through" "_law_gone_through" a9H
noncomputable def c5A:Obj:=kD1 "_law_gone_through" "_law_gone_through" 915 382 3 574 928
noncomputable def c4B:Obj:=kF "_law_gone_through" "_law_gone_through" a9H m8 579
noncomputable def c7x:Obj:=kC "_law_mixed" "_law_mixed" a7i
noncomputable def c3F:Obj:=kD2 "_law_mixed" "_law_mixed" 931 408 2 581 934
noncomputable def c3w:Obj:=kF "_law_mixed" "_law_mixed" a7i m8 584
noncomputable def c8q:Obj:=kC "law" "law" a2x
noncomputable def c2q:Obj:=kD2 "law" "law" 937 410 1 586 940
noncomputable def c5x:Obj:=kF "law" "law" a2x m8 589
noncomputable def p3 (P:Params):Obj:=kQ [kE P "__name__" 165 (.str "__main__" 164),kE P "__doc__" 166 .none,kE P "__package__" 167 .none,kE P "__loader__" 168 (.builtin "__main__.__loader__#opaque"),kE P "__spec__" 169 .none,kE P "__annotations__" 170 (.ref 6),kE P "__builtins__" 171 (.ref 4),kE P "__file__" 173 (.str "/claim/cut.py" 172),kE P "__cached__" 174 .none] 9
noncomputable def H0 (P:Params):Heap:=⟨⟨o0 P::o1 P::o2::p3 P::o4::o5::o6::kU::kN::o9::o10::[]⟩,{}⟩
noncomputable abbrev S0 (P:Params):List Obj:=o4::o5::o6::kU::kN::o9::o10::kU::[]
noncomputable abbrev S1 (P:Params):List Obj:=o13::o14::kU::kN::o17::kU::o19::o20::o21::kU::kN::o24::kU::o26::o27::o28::kU::kN::o31::o32::o33::kU::kN::o36::o37::o38::kU::kN::o41::kU::o43::o44::o45::kU::kN::o48::kU::o50::o51::o52::o53::kU::kN::o56::o57::o58::kU::kN::o61::o62::o63::o64::o65::kU::kN::o68::o69::o70::kU::kN::o73::o74::o75::kU::kN::o78::o79::o80::kU::kN::o83::kU::o85::o86::o87::kU::kN::o90::kU::o92::o93::o94::kU::kN::o97::o98::o99::kU::kN::c3W::kU::c8S::c4J::c5E::kU::c7l::c8R P::kU::c8X::c6J::c8i::kU::kN::c4f::kU::c7d::c3o::c3e::kU::kN::c3X::kU::c8E::c5q::c5G::kU::kN::c5Z::kU::c8n::c3R::c4a::kU::kN::c6i::kU::c7S::c4S::c2x::kU::kN::c2n::kU::c7D::c5Q::c4z::kU::kN::c5u::kU::c7t::c3S::c3B::kU::kN::c4b::kU::c7Q::c3L::c3x::kU::kN::c4p::kU::c8x::c3l::c6m::kU::kN::c3C::kU::c7y::c5M::c2M::c2N::c2t P::c2G::c5a::c6b::c7K::c8M::kU::c8D::c8b P::kU::c8P::c8g::c7X::kU::kN::c2E::kU::c8K::c3y::c4r::kU::kN::c3s::kU::c6C::c2m::c8t::kU::kN::c5h::kU::c8H::c4x::c2o::kU::kN::c2s::kU::c8a::c2v::c5L::kU::kN::c3A::kU::c6s::c5c::c6N::kU::kN::c3T::kU::c7A::c3i::c7b::kU::kN::c4I::kU::c6n::c4V::c7h::kU::kN::c6c::kU::c6I::c6h::c6P::c4o::c4L P::[]
noncomputable abbrev S2 (P:Params):List Obj:=c3d::c8p::c8d P::kU::c6l::c6M::c8e::kU::kN::c3J::kU::c6V::c2U::c4i::kU::kN::c5H::kU::c8w::c5U::c7r::kU::kN::c4H::kU::c8y::c4R::c2p::kU::kN::c5W::kU::c6w::c4Q::c7w::kU::kN::c4e::kU::c7O::c3a::c8v::kU::c2F P::c2W::c6O::c8F::c4Y::c8L::c6D P::kU::c7c::c6Y::c7q::kU::kN::c2O::kU::c8o::c3b::c6X::kU::kN::c3Q::kU::c6K::c5b::c4D::kU::kN::c3P::kU::c7j::c5d::c8B::kU::c2l P::c4C::c7P::c8O::c3v::c8W::c7G P::kU::c6R::c7L::c8r::kU::kN::c6e::kU::c8U::c2R::c6U::kU::kN::c5X::kU::c6u::c3V::c6x::kU::c4v P::c3q::c8I::c8s::c4U::c7H::c7f P::kU::c7E::c7m::c8Y::kU::kN::c4l::kU::c7Y::c4T::c7s::kU::kN::c4E::kU::c8z::c4W::c3h::kU::kN::c6d::kU::c7W::c3Y::c8Q::kU::c2C P::c5r::c8f::c7o::kU::c8T::c6S P::kU::c8h::c8l::c6o::kU::kN::c2X::kU::c6y::c3M::c4K::kU::kN::c2r::kU::c7g::c5g::c5e::kU::kN::c4y::kU::c8N::c5f::c3D::kU::kN::c7n::c3p::c4M::kU::kN::c3g::kU::c6z::c2T::c5w::kU::kN::c5Y::kU::c7C::c2w::c4P::kU::kN::c4n::kU::c8A::c2u::c5y::kU::kN::c3Z::kU::c6G::c5I::c8C::c5B::c4t P::c6f::c5s::c3G::c7Z::c6E::[]
noncomputable abbrev S3 (P:Params):List Obj:=kU::kN::c3m::kU::c7e::c5j::c5J::kU::kN::c2L::kU::c8m::c5n::c5P::kU::kN::c2y::kU::c6q::c6g::c3n::kU::kN::c6W::c4s::c3U::kU::kN::c8u::c2Q::c4h::kU::kN::c2Z::kU::c7z::c3I::c4w::kU::kN::c7V::c2P::c5S::kU::kN::c2z::kU::c6k::c3f::c3N::kU::kN::c6H::c5v::c5t::kU::kN::c6r::c3H::c4m::kU::kN::c2D::kU::c7a::c3K::c5i::kU::kN::c4A::kU::c8J::c2J::c4d::kU::kN::c6F::c4g::c5k::kU::kN::c6t::c2V::c5l::kU::kN::c6p::c5C::c4u::kU::kN::c6v::c4G::c2k::kU::kN::c7B::c5p::c2A::kU::kN::c4F::kU::c8G::c5O::c2Y::kU::kN::c2K::kU::c7N::c3r::c5V::kU::kN::c3u::kU::c8j::c5A::c4B::kU::kN::c7x::c3F::c3w::kU::kN::c8q::c2q::c5x::[]
noncomputable def H1 (P:Params):Heap:=⟨⟨[o0 P,o1 P,o2,o3 P]++S0 P++[o12]++S1 P++[c1G,c1y,c1w,c1P,c1M]++S2 P++S3 P⟩,{}⟩
noncomputable def b3S:Params→Qd:=fun P=>
(nat_lit 2,o2)::(nat_lit 3,o3 P)::(nat_lit 4,o4)::(nat_lit 15,kU)::(nat_lit 17,o17)::(nat_lit 18,kU)::(nat_lit 20,o20)::(nat_lit 22,kU)::(nat_lit 24,o24)::(nat_lit 25,kU)::(nat_lit 27,o27)::(nat_lit 28,o28)::(nat_lit 29,kU)::(nat_lit 32,o32)::(nat_lit 33,o33)::(nat_lit 34,kU)::(nat_lit 37,o37)::(nat_lit 38,o38)::(nat_lit 39,kU)::(nat_lit 41,o41)::(nat_lit 42,kU)::(nat_lit 44,o44)::(nat_lit 45,o45)::(nat_lit 46,kU)::(nat_lit 48,o48)::(nat_lit 49,kU)::(nat_lit 51,o51)::(nat_lit 52,o52)::(nat_lit 53,o53)::(nat_lit 54,kU)::(nat_lit 57,o57)::(nat_lit 58,o58)::(nat_lit 59,kU)::(nat_lit 61,o61)::(nat_lit 62,o62)::(nat_lit 64,o64)::(nat_lit 65,o65)::(nat_lit 66,kU)::(nat_lit 69,o69)::(nat_lit 70,o70)::(nat_lit 71,kU)::(nat_lit 74,o74)::(nat_lit 75,o75)::(nat_lit 76,kU)::(nat_lit 79,o79)::(nat_lit 80,o80)::(nat_lit 81,kU)::(nat_lit 83,o83)::(nat_lit 84,kU)::(nat_lit 86,o86)::(nat_lit 87,o87)::(nat_lit 88,kU)::(nat_lit 90,o90)::(nat_lit 91,kU)::(nat_lit 93,o93)::(nat_lit 94,o94)::(nat_lit 95,kU)::(nat_lit 98,o98)::(nat_lit 99,o99)::(nat_lit 100,kU)::(nat_lit 102,c3W)::(nat_lit 103,kU)::(nat_lit 105,c4J)::(nat_lit 106,c5E)::(nat_lit 114,kU)::(nat_lit 116,c4f)::(nat_lit 117,kU)::(nat_lit 119,c3o)::(nat_lit 120,c3e)::(nat_lit 121,kU)::(nat_lit 123,c3X)::(nat_lit 124,kU)::(nat_lit 126,c5q)::(nat_lit 127,c5G)::(nat_lit 128,kU)::(nat_lit 130,c5Z)::(nat_lit 131,kU)::(nat_lit 133,c3R)::(nat_lit 134,c4a)::(nat_lit 135,kU)::(nat_lit 137,c6i)::(nat_lit 138,kU)::(nat_lit 140,c4S)::(nat_lit 141,c2x)::(nat_lit 142,kU)::(nat_lit 144,c2n)::(nat_lit 145,kU)::(nat_lit 147,c5Q)::(nat_lit 148,c4z)::(nat_lit 149,kU)::(nat_lit 151,c5u)::(nat_lit 152,kU)::(nat_lit 154,c3S)::(nat_lit 155,c3B)::(nat_lit 156,kU)::(nat_lit 158,c4b)::(nat_lit 159,kU)::(nat_lit 161,c3L)::(nat_lit 162,c3x)::(nat_lit 163,kU)::(nat_lit 165,c4p)::(nat_lit 166,kU)::(nat_lit 168,c3l)::(nat_lit 170,kU)::(nat_lit 172,c3C)::(nat_lit 173,kU)::(nat_lit 175,c5M)::(nat_lit 176,c2M)::(nat_lit 177,c2N)::(nat_lit 178,c2t P)::(nat_lit 179,c2G)::(nat_lit 180,c5a)::(nat_lit 181,c6b)::(nat_lit 191,kU)::(nat_lit 193,c2E)::(nat_lit 194,kU)::(nat_lit 196,c3y)::(nat_lit 197,c4r)::(nat_lit 198,kU)::(nat_lit 200,c3s)::(nat_lit 201,kU)::(nat_lit 203,c2m)::(nat_lit 205,kU)::(nat_lit 207,c5h)::(nat_lit 208,kU)::(nat_lit 210,c4x)::(nat_lit 211,c2o)::(nat_lit 212,kU)::(nat_lit 214,c2s)::(nat_lit 215,kU)::(nat_lit 217,c2v)::(nat_lit 218,c5L)::(nat_lit 219,kU)::(nat_lit 221,c3A)::(nat_lit 222,kU)::(nat_lit 224,c5c)::(nat_lit 226,kU)::(nat_lit 228,c3T)::(nat_lit 229,kU)::(nat_lit 231,c3i)::(nat_lit 233,kU)::(nat_lit 235,c4I)::(nat_lit 236,kU)::(nat_lit 238,c4V)::(nat_lit 240,kU)::(nat_lit 242,c6c)::(nat_lit 243,kU)::(nat_lit 245,c6h)::(nat_lit 247,c4o)::(nat_lit 248,c4L P)::(nat_lit 249,c1G)::(nat_lit 250,c1y)::(nat_lit 251,c1w)::(nat_lit 254,c3d)::(nat_lit 261,kU)::(nat_lit 263,c3J)::(nat_lit 264,kU)::(nat_lit 266,c2U)::(nat_lit 267,c4i)::(nat_lit 268,kU)::(nat_lit 270,c5H)::(nat_lit 271,kU)::(nat_lit 273,c5U)::(nat_lit 275,kU)::(nat_lit 277,c4H)::(nat_lit 278,kU)::(nat_lit 280,c4R)::(nat_lit 281,c2p)::(nat_lit 282,kU)::(nat_lit 284,c5W)::(nat_lit 285,kU)::(nat_lit 287,c4Q)::(nat_lit 289,kU)::(nat_lit 291,c4e)::(nat_lit 292,kU)::(nat_lit 294,c3a)::(nat_lit 296,kU)::(nat_lit 297,c2F P)::(nat_lit 298,c2W)::(nat_lit 301,c4Y)::(nat_lit 308,kU)::(nat_lit 310,c2O)::(nat_lit 311,kU)::(nat_lit 313,c3b)::(nat_lit 315,kU)::(nat_lit 317,c3Q)::(nat_lit 318,kU)::(nat_lit 320,c5b)::(nat_lit 321,c4D)::(nat_lit 322,kU)::(nat_lit 324,c3P)::(nat_lit 325,kU)::(nat_lit 327,c5d)::(nat_lit 329,kU)::(nat_lit 330,c2l P)::(nat_lit 331,c4C)::(nat_lit 334,c3v)::(nat_lit 341,kU)::(nat_lit 343,c6e)::(nat_lit 344,kU)::(nat_lit 346,c2R)::(nat_lit 348,kU)::(nat_lit 350,c5X)::(nat_lit 351,kU)::(nat_lit 353,c3V)::(nat_lit 355,kU)::(nat_lit 356,c4v P)::(nat_lit 357,c3q)::(nat_lit 360,c4U)::(nat_lit 367,kU)::(nat_lit 369,c4l)::(nat_lit 370,kU)::(nat_lit 372,c4T)::(nat_lit 374,kU)::(nat_lit 376,c4E)::(nat_lit 377,kU)::(nat_lit 379,c4W)::(nat_lit 380,c3h)::(nat_lit 381,kU)::(nat_lit 383,c6d)::(nat_lit 384,kU)::(nat_lit 386,c3Y)::(nat_lit 388,kU)::(nat_lit 389,c2C P)::(nat_lit 390,c5r)::(nat_lit 400,kU)::(nat_lit 402,c2X)::(nat_lit 403,kU)::(nat_lit 405,c3M)::(nat_lit 406,c4K)::(nat_lit 407,kU)::(nat_lit 409,c2r)::(nat_lit 410,kU)::(nat_lit 412,c5g)::(nat_lit 413,c5e)::(nat_lit 414,kU)::(nat_lit 416,c4y)::(nat_lit 417,kU)::(nat_lit 419,c5f)::(nat_lit 420,c3D)::(nat_lit 421,kU)::(nat_lit 424,c3p)::(nat_lit 425,c4M)::(nat_lit 426,kU)::(nat_lit 428,c3g)::(nat_lit 429,kU)::(nat_lit 431,c2T)::(nat_lit 432,c5w)::(nat_lit 433,kU)::(nat_lit 435,c5Y)::(nat_lit 436,kU)::(nat_lit 438,c2w)::(nat_lit 439,c4P)::(nat_lit 440,kU)::(nat_lit 442,c4n)::(nat_lit 443,kU)::(nat_lit 445,c2u)::(nat_lit 446,c5y)::(nat_lit 447,kU)::(nat_lit 449,c3Z)::(nat_lit 450,kU)::(nat_lit 452,c5I)::(nat_lit 454,c5B)::(nat_lit 455,c4t P)::(nat_lit 456,c6f)::(nat_lit 457,c5s)::(nat_lit 458,c3G)::(nat_lit 461,kU)::(nat_lit 463,c3m)::(nat_lit 464,kU)::(nat_lit 466,c5j)::(nat_lit 467,c5J)::(nat_lit 468,kU)::(nat_lit 470,c2L)::(nat_lit 471,kU)::(nat_lit 473,c5n)::(nat_lit 474,c5P)::(nat_lit 475,kU)::(nat_lit 477,c2y)::(nat_lit 478,kU)::(nat_lit 480,c6g)::(nat_lit 481,c3n)::(nat_lit 482,kU)::(nat_lit 485,c4s)::(nat_lit 486,c3U)::(nat_lit 487,kU)::(nat_lit 490,c2Q)::(nat_lit 491,c4h)::(nat_lit 492,kU)::(nat_lit 494,c2Z)::(nat_lit 495,kU)::(nat_lit 497,c3I)::(nat_lit 498,c4w)::(nat_lit 499,kU)::(nat_lit 502,c2P)::(nat_lit 503,c5S)::(nat_lit 504,kU)::(nat_lit 506,c2z)::(nat_lit 507,kU)::(nat_lit 509,c3f)::(nat_lit 510,c3N)::(nat_lit 511,kU)::(nat_lit 514,c5v)::(nat_lit 515,c5t)::(nat_lit 516,kU)::(nat_lit 519,c3H)::(nat_lit 520,c4m)::(nat_lit 521,kU)::(nat_lit 523,c2D)::(nat_lit 524,kU)::(nat_lit 526,c3K)::(nat_lit 527,c5i)::(nat_lit 528,kU)::(nat_lit 530,c4A)::(nat_lit 531,kU)::(nat_lit 533,c2J)::(nat_lit 534,c4d)::(nat_lit 535,kU)::(nat_lit 538,c4g)::(nat_lit 539,c5k)::(nat_lit 540,kU)::(nat_lit 543,c2V)::(nat_lit 544,c5l)::(nat_lit 545,kU)::(nat_lit 548,c5C)::(nat_lit 549,c4u)::(nat_lit 550,kU)::(nat_lit 553,c4G)::(nat_lit 554,c2k)::(nat_lit 555,kU)::(nat_lit 558,c5p)::(nat_lit 559,c2A)::(nat_lit 560,kU)::(nat_lit 562,c4F)::(nat_lit 563,kU)::(nat_lit 565,c5O)::(nat_lit 566,c2Y)::(nat_lit 567,kU)::(nat_lit 569,c2K)::(nat_lit 570,kU)::(nat_lit 572,c3r)::(nat_lit 573,c5V)::(nat_lit 574,kU)::(nat_lit 576,c3u)::(nat_lit 577,kU)::(nat_lit 579,c5A)::(nat_lit 580,c4B)::(nat_lit 581,kU)::(nat_lit 584,c3F)::(nat_lit 585,c3w)::(nat_lit 586,kU)::(nat_lit 589,c2q)::(nat_lit 590,c5x)::[]
abbrev c1X:List Addr:=[2,3,4,15,17,18,20,22,24,25,27,28,29,32,33,34,37,38,39,41,42,44,45,46,48,49,51,52,53,54,57,58,59,61,62,64,65,66,69,70,71,74,75,76,79,80,81,83,84,86,87,88,90,91,93,94,95,98,99,100,102,103,105,106,114,116,117,119,120,121,123,124,126,127,128,130,131,133,134,135,137,138,140,141,142,144,145,147,148,149,151,152,154,155,156,158,159,161,162,163,165,166,168,170,172,173,175,176,177,178,179,180,181,191,193,194,196,197,198,200,201,203,205,207,208,210,211,212,214,215,217,218,219,221,222,224,226,228,229,231,233,235,236,238,240,242,243,245,247,248,249,250,251,254,261,263,264,266,267,268,270,271,273,275,277,278,280,281,282,284,285,287,289,291,292,294,296,297,298,301,308,310,311,313,315,317,318,320,321,322,324,325,327,329,330,331,334,341,343,344,346,348,350,351,353,355,356,357,360,367,369,370,372,374,376,377,379,380,381,383,384,386,388,389,390,400,402,403,405,406,407,409,410,412,413,414,416,417,419,420,421,424,425,426,428,429,431,432,433,435,436,438,439,440,442,443,445,446,447,449,450,452,454,455,456,457,458,461,463,464,466,467,468,470,471,473,474,475,477,478,480,481,482,485,486,487,490,491,492,494,495,497,498,499,502,503,504,506,507,509,510,511,514,515,516,519,520,521,523,524,526,527,528,530,531,533,534,535,538,539,540,543,544,545,548,549,550,553,554,555,558,559,560,562,563,565,566,567,569,570,572,573,574,576,577,579,580,581,584,585,586,589,590]
noncomputable def a4H:Params→Qd:=fun P=>(nat_lit 60,kN)::b3S P
abbrev a4C:List Addr:=60::c1X
theorem a6u:∀P,a4C=(a4H P).map (·.1):=fun _=>by kernel_rfl
noncomputable def b6z:Program:=PySem.W.view PySem.Challenge.pw_mostwise_k44_whole_any_order [0,2,3,4,6,8,11,13,14,15,16,17,18,19,20,21,22,24,25,26,27,28,30,32,33,34,35,36,37,38,39,40,41,42,43,44,45,46,47,48,49,50,51,52,53]
theorem c0j:∀w:World,(fencedOpening treeTable PySem.Challenge.pw_mostwise_k44_whole_any_order w 7734).map (fun s=>(s.heap,s.gens,s.drawn,s.toks))=some (H0 w.params,#[],{},181):=fun w=>by kernel_rfl
theorem a4I {tb:String→Option Builtin} {p:Program} {w:World} {n₀:Nat} {ann:Option Value} {env:Env} {q:Pos} {n N a l:Nat} {s s' r:Shared} {b:List Stmt} {c:Code} {pos p':Pos} (h:segRun tb p w n₀ ann 1 n s (piecesOf ((b.drop a).take l) env c pos [topFrame q])=some (.next,s',c,p'))
  (k:topRun tb p w n₀ ann N s' (restOf (b.drop (a+l)) env c p' [topFrame q])=some r):topRun tb p w n₀ ann (n+N) s (restOf (b.drop a) env c pos [topFrame q])=some r:=by
 have e:=piece_app h k
 rwa [←List.drop_drop,List.take_append_drop] at e
noncomputable def b7T (P:Params):Heap:=⟨⟨o0 P::o1 P::o2::p3 P::o4::o5::o6::kU::kN::o9::o10::kU::kN::o13::o14::[]⟩,{}⟩
noncomputable def a9Y (P:Params):Heap:=⟨⟨o0 P::o1 P::o2::p3 P::o4::o5::o6::kU::kN::o9::o10::kU::kN::o13::o14::[]⟩,{}⟩
noncomputable def b9B:Env:={scope:=PySem.Challenge.pw_mostwise_k44_whole_any_order.main.scope,locals:=mainNs,globals:=mainNs,cells:=[],code:=(.ref 13),frame:=some 14}
noncomputable def a5n:Code:=.body (behindTheImports PySem.Challenge.pw_mostwise_k44_whole_any_order) b9B
abbrev tFr:List Frame:=[topFrame ⟨0,0,0,0⟩]
abbrev c1R (i:Nat) (q:Pos):Thread:=restOf ((behindTheImports PySem.Challenge.pw_mostwise_k44_whole_any_order).drop i) b9B a5n q tFr
theorem c2g:∀(w:World) (os:OsState),topGo treeTable PySem.Challenge.pw_mostwise_k44_whole_any_order w 11 (some (.ref 6)) 12 ⟨H0 w.params,#[],{},181,os⟩ (topStub PySem.Challenge.pw_mostwise_k44_whole_any_order)=some (⟨b7T w.params,#[],{},187,os⟩,⟨denote treeTable a5n,a5n,⟨0,0,0,0⟩,tFr⟩):=fun w os=>by kernel_rfl
theorem b5Z:∀(w:World) (os:OsState),segRun treeTable PySem.Challenge.pw_mostwise_k44_whole_any_order w 11 (some (.ref 6)) 1 1 ⟨b7T w.params,#[],{},187,os⟩ (blockOf (behindTheImports PySem.Challenge.pw_mostwise_k44_whole_any_order) b9B a5n ⟨0,0,0,0⟩ tFr)=some (.next,⟨a9Y w.params,#[],{},187,os⟩,a5n,⟨0,0,0,0⟩):=fun w os=>by kernel_rfl
noncomputable def g13 (P:Params):Obj:=kQ [kE P "__name__" 165 (.str "mostwise.rules" 409),kE P "__doc__" 166 .none,kE P "__package__" 167 .none,kE P "__loader__" 168 (.builtin "__main__.__loader__#opaque"),kE P "__spec__" 169 .none,kE P "__annotations__" 170 (.ref 6),kE P "__builtins__" 171 (.ref 4),kE P "__file__" 173 (.str "/claim/cut.py" 172),kE P "__cached__" 174 .none,kE P "_wall" 193 (.ref 21),kE P "keyed" 204 (.ref 28),kE P "all_among" 210 (.ref 33),kE P "any_among" 216 (.ref 38),kE P "opposite" 225 (.ref 45),kE P "heads_by_premise" 237 (.ref 52),kE P "sure_rounds" 245 (.ref 58),kE P "sure_steps" 253 (.ref 65),kE P "HELD" 257 (.str "held" 256),kE P "REFUSED" 259 (.str "refused" 258),kE P "is_beaten" 265 (.ref 70),kE P "holds_by" 271 (.ref 75),kE P "refused_by" 277 (.ref 80),kE P "words_now" 290 (.ref 87),kE P "touched" 301 (.ref 94),kE P "most_rounds" 307 (.ref 99),kE P "answer_by" 315 (.ref 106),kE P "Answers" 408 (.ref 179),kE P "Rule" 495 (.ref 249)] 28
noncomputable def c7u:Obj:=kL [(1,0,20),(5,0,27),(10,0,32),(12,0,37),(15,0,44),(18,0,51),(25,0,57),(39,0,64),(45,0,69),(47,0,74),(54,0,79),(61,0,86),(69,0,93),(76,0,98),(94,0,105),(100,0,112),(133,0,189)]
noncomputable def c1F:Obj:=⟨(.type "type"),none,(.cls ⟨"Rule",[(.type "object")],[(.ref 249),(.type "object")],248,"Rule",true,[],[],false,none,false⟩),#[none,none,(some (.str "Rule" 411)),(some (.str "Rule" 419)),(some (.builtin "object.__new__")),(some (.bool true))]⟩
noncomputable def c4X (P:Params):Heap:=⟨⟨[o0 P,o1 P,o2,g13 P]++S0 P++[c7u]++S1 P++[c1F,c1y,c1w,c1P,c1M]⟩,{}⟩
theorem c7J:∀(w:World) (os:OsState),segRun treeTable PySem.Challenge.pw_mostwise_k44_whole_any_order w 11 (some (.ref 6)) 1 1429 ⟨a9Y w.params,#[],{},187,os⟩ (piecesOf (((behindTheImports PySem.Challenge.pw_mostwise_k44_whole_any_order).drop 0).take 25) b9B a5n ⟨0,0,0,0⟩ tFr)=some (.next,⟨c4X w.params,#[],{},496,os⟩,a5n,⟨133,0,159,16⟩):=fun w os=>by kernel_rfl
noncomputable def g23 (P:Params):Obj:=kQ [kE P "__name__" 165 (.str "mostwise.ground" 660),kE P "__doc__" 166 .none,kE P "__package__" 167 .none,kE P "__loader__" 168 (.builtin "__main__.__loader__#opaque"),kE P "__spec__" 169 .none,kE P "__annotations__" 170 (.ref 6),kE P "__builtins__" 171 (.ref 4),kE P "__file__" 173 (.str "/claim/cut.py" 172),kE P "__cached__" 174 .none,kE P "_wall" 193 (.ref 21),kE P "keyed" 204 (.ref 28),kE P "all_among" 210 (.ref 33),kE P "any_among" 216 (.ref 38),kE P "opposite" 225 (.ref 45),kE P "heads_by_premise" 237 (.ref 52),kE P "sure_rounds" 245 (.ref 58),kE P "sure_steps" 253 (.ref 65),kE P "HELD" 257 (.str "held" 256),kE P "REFUSED" 259 (.str "refused" 258),kE P "is_beaten" 265 (.ref 70),kE P "holds_by" 271 (.ref 75),kE P "refused_by" 277 (.ref 80),kE P "words_now" 290 (.ref 87),kE P "touched" 301 (.ref 94),kE P "most_rounds" 307 (.ref 99),kE P "answer_by" 315 (.ref 106),kE P "Answers" 408 (.ref 179),kE P "Rule" 495 (.ref 249),kE P "Fact" 549 (.ref 298),kE P "Sure" 588 (.ref 331),kE P "Most" 620 (.ref 357),kE P "Block" 659 (.ref 390),kE P "Ground" 751 (.ref 456)] 33
noncomputable def c6Q:Obj:=kL [(1,0,20),(5,0,27),(10,0,32),(12,0,37),(15,0,44),(18,0,51),(25,0,57),(39,0,64),(45,0,69),(47,0,74),(54,0,79),(61,0,86),(69,0,93),(76,0,98),(94,0,105),(100,0,112),(133,0,189),(160,0,259),(176,0,306),(186,0,339),(193,0,365),(204,0,398)]
noncomputable def c4O (P:Params):Heap:=⟨⟨[o0 P,o1 P,o2,g23 P]++S0 P++[c6Q]++S1 P++[c1G,c1y,c1w,c1P,c1M]++S2 P⟩,{}⟩
theorem c7U:∀(w:World) (os:OsState),segRun treeTable PySem.Challenge.pw_mostwise_k44_whole_any_order w 11 (some (.ref 6)) 1 1719 ⟨c4X w.params,#[],{},496,os⟩ (piecesOf (((behindTheImports PySem.Challenge.pw_mostwise_k44_whole_any_order).drop 25).take 6) b9B a5n ⟨133,0,159,16⟩ tFr)=some (.next,⟨c4O w.params,#[],{},752,os⟩,a5n,⟨204,0,239,17⟩):=fun w os=>by kernel_rfl
theorem c1U:∀(w:World) (os:OsState),topRun treeTable PySem.Challenge.pw_mostwise_k44_whole_any_order w 11 (some (.ref 6)) 661 ⟨c4O w.params,#[],{},752,os⟩ (c1R 31 ⟨204,0,239,17⟩)=some ⟨H1 w.params,#[],{},943,os⟩:=fun w os=>by kernel_rfl
theorem c1J:∀(w:World) (os:OsState),topRun treeTable PySem.Challenge.pw_mostwise_k44_whole_any_order w 11 (some (.ref 6)) 3822 ⟨H0 w.params,#[],{},181,os⟩ (topStub PySem.Challenge.pw_mostwise_k44_whole_any_order)=some ⟨H1 w.params,#[],{},943,os⟩:=fun w os=>go_top (n:=12) (c2g w os) (piece_block (n:=1) (b5Z w os) (a4I (c7J w os) (a4I (c7U w os) (c1U w os))))
end
end K44
namespace L2
open PySem PySem.Spec PyProof.Rows
abbrev Key:=Sum Int Str
def a9p:Key→Value→Bool
 | .inl k,v=>Value.isInt k v
 | .inr x,v=>Value.isStrOf x v
def c7v (w:World):Key→Int
 | .inl k=>hashInt k
 | .inr x=>hashStr w x
theorem a0J:∀{k:Key} {v:Value},a9p k v=true→(∃i t,k=Sum.inl i∧v=Value.int i t)∨(∃x t,k=Sum.inr x∧v=Value.str x t)
 | .inl i,v,h=>by
  obtain ⟨t,e⟩:=Value.isInt_shape (k:=i) (v:=v) h
  exact .inl ⟨i,t,rfl,e⟩
 | .inr x,v,h=>by
  obtain ⟨t,e⟩:=Value.isStrOf_shape (x:=x) (v:=v) h
  exact .inr ⟨x,t,rfl,e⟩
theorem b2p (i:Int) (t:Tok):a9p (.inl i) (.int i t)=true:=by simp [a9p,Value.isInt]
theorem b0F (x:Str) (t:Tok):a9p (.inr x) (.str x t)=true:=by simp [a9p,Value.isStrOf]
theorem b9J (a b:Int):decide ((Sum.inl a:Key)=Sum.inl b)=(a == b):=by
 by_cases e:a=b
 ·subst e;simp
 ·have h:¬(Sum.inl a:Key)=Sum.inl b:=fun q=>e (Sum.inl.inj q)
  rw [decide_eq_false h]
  exact (beq_eq_false_iff_ne.mpr e).symm
theorem b9c (a b:Str):decide ((Sum.inr a:Key)=Sum.inr b)=decide (a=b):=by
 by_cases e:a=b
 ·subst e;simp
 ·have h:¬(Sum.inr a:Key)=Sum.inr b:=fun q=>e (Sum.inr.inj q)
  rw [decide_eq_false h,decide_eq_false e]
theorem b9s (a:Int) (b:Str):decide ((Sum.inl a:Key)=Sum.inr b)=false:=decide_eq_false (fun q=>nomatch q)
theorem c0t (a:Str) (b:Int):decide ((Sum.inr a:Key)=Sum.inl b)=false:=decide_eq_false (fun q=>nomatch q)
def a0s (prog:Program) (w:World):PySem.KeyKind prog w Key where
 is:=a9p
 hash:=c7v w
 inj:=fun v a b ha hb=>by
  rcases a0J ha with ⟨i,t,rfl,rfl⟩ | ⟨x,t,rfl,rfl⟩
  ·rcases a0J hb with ⟨j,u,rfl,e⟩ | ⟨y,u,rfl,e⟩
   ·injection e with e1 _;rw [e1]
   ·exact nomatch e
  ·rcases a0J hb with ⟨j,u,rfl,e⟩ | ⟨y,u,rfl,e⟩
   ·exact nomatch e
   ·injection e with e1 _;rw [e1]
 byValue:=fun k v h=>by
  rcases a0J h with ⟨i,t,rfl,rfl⟩ | ⟨x,t,rfl,rfl⟩<;>rfl
 pyHash:=fun hv h=>by
  rcases a0J hv with ⟨i,t,rfl,rfl⟩ | ⟨x,t,rfl,rfl⟩
  ·exact wpAny_pyHash_int h
  ·exact wpAny_pyHash_str h
 eqBool:=fun hu hv h=>by
  rcases a0J hu with ⟨i,t,rfl,rfl⟩ | ⟨x,t,rfl,rfl⟩
  ·rcases a0J hv with ⟨j,u,rfl,rfl⟩ | ⟨y,u,rfl,rfl⟩
   ·rw [b9J] at h;exact wpAny_eqBool_int h
   ·rw [b9s] at h;exact Yn.int_str i t y u _ _ _ _ h
  ·rcases a0J hv with ⟨j,u,rfl,rfl⟩ | ⟨y,u,rfl,rfl⟩
   ·rw [c0t] at h;exact Yn.str_int x t j u _ _ _ _ h
   ·rw [b9c] at h;exact wpAny_eqBool_str h
 «strs»:=fun k x t v h=>by
  rcases a0J h with ⟨i,u,rfl,e⟩ | ⟨y,u,rfl,e⟩
  ·exact nomatch e
  ·injection e with e1 _
   subst e1
   cases v<;>rfl
theorem a6T (prog:Program) (w:World) (i:Int) (t:Tok):(a0s prog w).is (.inl i) (.int i t)=true:=b2p i t
theorem a7j (prog:Program) (w:World) (x:Str) (t:Tok):(a0s prog w).is (.inr x) (.str x t)=true:=b0F x t
end L2
namespace L2
open PySem PySem.Spec PyProof.Rows
inductive V where
 | non | bl (b:Bool) | int (i:Int) | str (x:Str) | byt (b:Array UInt8) | flt (b:UInt64) | ref (a:Addr) | ty (n:String)
 deriving DecidableEq
def a0P:V→Value→Prop
 | .non,u=>u=Value.none
 | .bl b,u=>u=Value.bool b
 | .int i,u=>∃t,u=Value.int i t
 | .str x,u=>∃t,u=Value.str x t
 | .byt b,u=>∃t,u=Value.bytes b t
 | .flt b,u=>∃t,u=Value.float b t
 | .ref a,u=>u=Value.ref a
 | .ty n,u=>u=Value.type n
abbrev a0L:List V→List Value→Prop:=Paired a0P
theorem a0L.length {xs:List V} {us:List Value} (r:a0L xs us):xs.length=us.length:=Paired.length r
theorem a0L.get:∀{xs:List V} {us:List Value} {i:Nat} {x:V},a0L xs us→xs[i]?=some x→∃u,us[i]?=some u∧a0P x u
 | _,_,_,_,.nil,e=>by simp at e
 | _,_,0,_,.cons r _,e=>by simp at e;subst e;exact ⟨_,rfl,r⟩
 | _,_,i+1,x,.cons _ t,e=>by
  obtain ⟨u,h1,h2⟩:=a0L.get (i:=i) (x:=x) t (by simpa using e)
  exact ⟨u,by simpa using h1,h2⟩
theorem a0L.append:∀{xs ys:List V} {us ws:List Value},a0L xs us→a0L ys ws→a0L (xs++ys) (us++ws)
 | _,_,_,_,.nil,s=>s
 | _,_,_,_,.cons r t,s=>.cons r (a0L.append t s)
theorem a0L.take:∀{xs:List V} {us:List Value} (n:Nat),a0L xs us→a0L (xs.take n) (us.take n)
 | _,_,0,_=>.nil
 | _,_,_+1,.nil=>.nil
 | _,_,n+1,.cons r t=>.cons r (a0L.take n t)
theorem a0L.drop:∀{xs:List V} {us:List Value} (n:Nat),a0L xs us→a0L (xs.drop n) (us.drop n)
 | _,_,0,r=>r
 | _,_,_+1,.nil=>.nil
 | _,_,n+1,.cons _ t=>a0L.drop n t
def a4w:Option V→Option Value→Prop
 | some v,some u=>a0P v u
 | none,none=>True
 | _,_=>False
def KV {κ:Type}:List (κ×V)→List (κ×Value)→Prop:=Paired fun (p:κ×V) (q:κ×Value)=>p.1=q.1∧a0P p.2 q.2
def kV:Key→V
 | .inl i=>.int i
 | .inr x=>.str x
inductive HO where
 | lst (xs:List V)
 | tup (xs:List V)
 | dK (kvs:List (Key×V)) | dT (kvs:List (List Key×V))
 | set (S:Int→Bool) (n:Nat)
 | ins (C dx:Addr) (fs:List (Str×V))
 | own (x:Addr)
 | xd (fs:List (Str×V))
 | met (f x:Addr)
 | rng (lo hi:Int)
 | frz (o:Obj) (u:HO)
 | tbl (ps:Array Value)
 | ext (φ:Heap→Prop)
abbrev Hp:=Addr→Option HO
def upd (H:Hp) (a:Addr) (o:HO):Hp:=fun b=>if b=a then some o else H b
theorem a0d {H:Hp} {a:Addr} {o:HO}:upd H a o a=some o:=by unfold upd;rw [if_pos rfl]
theorem a0a {H:Hp} {a b:Addr} {o:HO} (h:b≠a):upd H a o b=H b:=by unfold upd;rw [if_neg h]
theorem b7l {H:Hp} {a:Addr} {o u:HO}:upd (upd H a o) a u=upd H a u:=by
 funext b;unfold upd;split<;>rfl
theorem a0G {H:Hp} {a b:Addr} {o u:HO} (h:H a=some o) (h':H b=some u) (d:o≠u):a≠b:=by
 intro e;subst e;rw [h] at h';exact d (Option.some.inj h')
theorem a0c {H:Hp} {a b:Addr} {o:HO} (h:H a=some o) (h':H b=none):a≠b:=by
 intro e;subst e;rw [h] at h';cases h'
section
variable (P:Program) (w:World)
def a1g (H:Hp) (h:Heap) (a:Addr):HO→Prop
 | .lst xs=>xs.length≤sizeLine∧∃(its:List Value) (n:Nat),a0L xs its∧h.get? a=some {cls:=.type "list",data:=.seq its.toArray n}
 | .tup xs=>xs.length≤sizeLine∧∃its:List Value,a0L xs its∧IsTup h a its.toArray
 | .dK kvs=>kvs.length≤sizeLine∧(a == sysModules)=false∧∃vs,KV kvs vs∧h.DictOf (a0s P w) a vs
 | .dT kvs=>kvs.length≤sizeLine∧(a == sysModules)=false∧∃xs:List (List Key×Addr×Value),
   Paired (fun (p:List Key×V) (q:List Key×Addr×Value)=>p.1=q.1∧H q.2.1=some (.tup (p.1.map kV))∧a0P p.2 q.2.2) kvs xs∧
   ∃o es ep,h.get? a=some o∧o.ExactDict∧o.data=.dict es ep∧es.toList=xs.map (entryOfKey (tupleKind (a0s P w)))∧(xs.map (·.1)).Nodup
 | .set S n=>h.SetOf (intKind P w) a S n
 | .ins C dx fs=>H dx=some (.own a)∧fs.length≤1000∧dx≠a∧h.get? a=some (Zl C dx)∧
   ∃mA,h.Ns1 dx mA∧(∀f,a4w (fs.lookup f) (mA f))∧PySem.Within mA (fs.map (·.1))
 | .own _=>∃o,h.get? a=some o
 | .xd fs=>∃mA,h.Ns1 a mA∧∀f,a4w (fs.lookup f) (mA f)
 | .rng lo hi=>∃t u v,h.get? a=some {cls:=.type "range",data:=.fields #[.int lo t,.int hi u,.int 1 v]}
 | .frz o u=>h.get? a=some o∧a1g H h a u
 | .tbl ps=>h.get? a=some {cls:=.none,data:=.fields ps}
 | .met f x=>h.get? a=some (Vk (.ref f) (.ref x))
 | .ext φ=>φ h∧(∃o,h.get? a=some o)∧∀h1 h2:Heap,φ h1→(∀o,h1.get? a=some o→h2.get? a=some o)→φ h2
def HOk (H:Hp) (h:Heap):Prop:=∀a o,H a=some o→a1g P w H h a o
end
section
variable {P:Program} {w:World} {H H':Hp} {h h':Heap} {a:Addr} {o:HO}
theorem a1g.lt (x:a1g P w H h a o):a < h.objs.size:=by
 cases o with
 | lst xs=>obtain ⟨_,_,_,_,e⟩:=x;exact Qu e
 | tup xs=>obtain ⟨_,_,_,p⟩:=x;exact p.lt
 | dK kvs=>obtain ⟨_,_,_,_,o,_,_,e,_⟩:=x;exact Qu e
 | dT kvs=>obtain ⟨_,_,_,_,o,_,_,e,_⟩:=x;exact Qu e
 | set S n=>obtain ⟨o,_,_,_,e,_⟩:=x;exact Qu e
 | ins C dx fs=>obtain ⟨_,_,_,e,_⟩:=x;exact Qu e
 | own y=>obtain ⟨_,e⟩:=x;exact Qu e
 | xd fs=>obtain ⟨_,⟨_,_,_,e,_⟩,_⟩:=x;exact Qu e
 | rng lo hi=>obtain ⟨_,_,_,e⟩:=x;exact Qu e
 | frz ob u=>obtain ⟨e,_⟩:=x;exact Qu e
 | tbl ps=>exact Qu (show h.get? a=some _ from x)
 | met f y=>exact Qu (show h.get? a=some _ from x)
 | ext φ=>obtain ⟨_,⟨_,e⟩,_⟩:=x;exact Qu e
theorem Paired.mapP {α β:Type} {F G:α→β→Prop}:∀{l₁:List α} {l₂:List β},Paired F l₁ l₂→(∀a b,F a b→G a b)→Paired G l₁ l₂
 | _,_,.nil,_=>.nil
 | _,_,.cons r t,f=>.cons (f _ _ r) (Paired.mapP t f)
theorem a1g.stay (x:a1g P w H h a o) (k:∀b u,(b=a∨H b=some (.own a))→h.get? b=some u→h'.get? b=some u)
  (ho:∀b,H b=some (.own a)→H' b=some (.own a)) (ht:∀b xs,H b=some (.tup xs)→H' b=some (.tup xs)):a1g P w H' h' a o:=by
 induction o with
 | lst xs=>obtain ⟨z,its,n,r,e⟩:=x;exact ⟨z,its,n,r,k _ _ (.inl rfl) e⟩
 | tup xs=>obtain ⟨z,its,r,ob,e,c⟩:=x;exact ⟨z,its,r,ob,k _ _ (.inl rfl) e,c⟩
 | dK kvs=>obtain ⟨z,y,vs,r,ob,es,ep,e,c⟩:=x;exact ⟨z,y,vs,r,ob,es,ep,k _ _ (.inl rfl) e,c⟩
 | dT kvs=>
  obtain ⟨z,y,xs,r,ob,es,ep,e,c⟩:=x
  exact ⟨z,y,xs,Paired.mapP r fun p q z=>⟨z.1,ht _ _ z.2.1,z.2.2⟩,ob,es,ep,k _ _ (.inl rfl) e,c⟩
 | set S n=>obtain ⟨ob,es,ep,t,e,c⟩:=x;exact ⟨ob,es,ep,t,k _ _ (.inl rfl) e,c⟩
 | ins C dx fs=>
  obtain ⟨d,z,ne,e,mA,⟨od,es,ep,e2,c⟩,r⟩:=x
  exact ⟨ho _ d,z,ne,k _ _ (.inl rfl) e,mA,⟨od,es,ep,k _ _ (.inr d) e2,c⟩,r⟩
 | own y=>obtain ⟨ob,e⟩:=x;exact ⟨ob,k _ _ (.inl rfl) e⟩
 | xd fs=>obtain ⟨mA,⟨od,es,ep,e,c⟩,r⟩:=x;exact ⟨mA,⟨od,es,ep,k _ _ (.inl rfl) e,c⟩,r⟩
 | rng lo hi=>obtain ⟨t,u,v,e⟩:=x;exact ⟨t,u,v,k _ _ (.inl rfl) e⟩
 | frz ob u ih=>obtain ⟨e,q⟩:=x;exact ⟨k _ _ (.inl rfl) e,ih q⟩
 | tbl ps=>
  have e:h.get? a=some {cls:=.none,data:=.fields ps}:=x
  show h'.get? a=some {cls:=.none,data:=.fields ps}
  exact k a _ (.inl rfl) e
 | met f y=>
  have e:h.get? a=some (Vk (.ref f) (.ref y)):=x
  show h'.get? a=some (Vk (.ref f) (.ref y))
  exact k a _ (.inl rfl) e
 | ext φ=>obtain ⟨p,⟨o,e⟩,st⟩:=x;exact ⟨st _ _ p fun o q=>k _ _ (.inl rfl) q,⟨o,k _ _ (.inl rfl) e⟩,st⟩
theorem HOk.lt (x:HOk P w H h) (e:H a=some o):a < h.objs.size:=(x a o e).lt
theorem HOk.fresh (x:HOk P w H h) (e:h.objs.size≤a):H a=none:=by
 cases q:H a with
 | none=>rfl
 | some u=>exact absurd (Xj (x.lt q) e) (Zq _)
theorem HOk.kept (x:HOk P w H h) (k:∀b u,h.get? b=some u→h'.get? b=some u):HOk P w H h':=fun a o e=>
 (x a o e).stay (fun b u _ q=>k b u q) (fun _ q=>q) fun _ _ q=>q
theorem HOk.laid (x:HOk P w H h) (k:∀b u,h.get? b=some u→h'.get? b=some u) (hp:h.objs.size≤a) (new:a1g P w (upd H a o) h' a o):HOk P w (upd H a o) h':=fun b u e=>by
 have hn:=x.fresh hp
 by_cases hb:b=a
 ·subst hb;rw [a0d] at e;cases e;exact new
 ·rw [a0a hb] at e
  exact (x b u e).stay (fun c v _ q=>k c v q) (fun c q=>by rw [a0a (a0c q hn)];exact q) fun c xs q=>by rw [a0a (a0c q hn)];exact q
end
def Rd (H:Hp) (a:Addr) (u:HO):Prop:=H a=some u∨∃o,H a=some (.frz o u)
theorem Rd.of {H:Hp} {a:Addr} {u:HO} (h:H a=some u):Rd H a u:=.inl h
theorem Rd.ok {P:Program} {w:World} {H:Hp} {h:Heap} {a:Addr} {u:HO} (r:Rd H a u) (x:HOk P w H h):a1g P w H h a u:=by
 rcases r with r | ⟨o,r⟩
 ·exact x a u r
 ·obtain ⟨_,q⟩:=x a _ r
  exact q
def Mut:Option HO→Prop
 | some (.lst _)=>True
 | some (.dK _)=>True
 | some (.dT _)=>True
 | some (.set _ _)=>True
 | some (.ins _ _ _)=>True
 | some (.ext _)=>True
 | _=>False
section
variable {P:Program} {w:World} {H:Hp} {h h':Heap} {x e:Addr} {o':HO}
theorem HOk.write (ok:HOk P w H h) (mu:Mut (H x)) (he:e=x∨H e=some (.own x)) (k:∀b u,b≠e→h.get? b=some u→h'.get? b=some u) (heo:∃u,h'.get? e=some u)
  (new:a1g P w (upd H x o') h' x o'):HOk P w (upd H x o') h':=fun b u q=>by
 have nown:∀c y,H c=some (.own y)→c≠x:=fun c y r z=>by subst z;rw [r] at mu;exact mu
 have ntup:∀c xs,H c=some (.tup xs)→c≠x:=fun c xs r z=>by subst z;rw [r] at mu;exact mu
 by_cases hb:b=x
 ·subst hb;rw [a0d] at q;cases q;exact new
 ·rw [a0a hb] at q
  by_cases hbe:b=e
  ·have q':H b=some (.own x):=by
    rcases he with z | z
    ·exact absurd (hbe.trans z) hb
    ·rw [hbe];exact z
   rw [q] at q';cases q'
   obtain ⟨v,hv⟩:=heo
   exact ⟨v,by rw [hbe];exact hv⟩
  ·refine (ok b u q).stay (fun c v hc r=>k c v ?_ r) (fun c r=>by rw [a0a (nown c b r)];exact r) fun c xs r=>by rw [a0a (ntup c xs r)];exact r
   rcases hc with rfl | hc
   ·exact hbe
   ·rintro rfl
    rcases he with z | z
    ·exact nown c b hc z
    ·rw [hc] at z;cases z;exact hb rfl
end
structure Un (fs ex:List Addr) (H H':Hp) (h h':Heap):Prop where
 keep:∀b o,h.get? b=some o→H b=none→b∉fs→b∉ex→h'.get? b=some o
 slot:∀b o,h.get? b=some o→H b=none→b∈fs→b∉ex→∃sl,h'.get? b=some {o with slots:=sl}
 free:∀b o,h.get? b=some o→H b=none→b∉ex→H' b=none
 there:∀b o,h.get? b=some o→b∉ex→∃o',h'.get? b=some o'
 tups:∀b xs,H b=some (.tup xs)→H' b=some (.tup xs)
 frzs:∀b o u,H b=some (.frz o u)→H' b=some (.frz o u)
 tbls:∀b ps,H b=some (.tbl ps)→∃more,H' b=some (.tbl (ps++more))
section
variable {fs fs' ex ex':List Addr} {H H1 H2:Hp} {h h1 h2 h':Heap} {a x e:Addr} {o:HO}
theorem Un.any (u:Un fs ex H H1 h h1) {b:Addr} {ob:Obj} (q:h.get? b=some ob) (n:H b=none) (hx:b∉ex):∃sl,h1.get? b=some {ob with slots:=sl}:=by
 by_cases hb:b∈fs
 ·exact u.slot b ob q n hb hx
 ·exact ⟨ob.slots,u.keep b ob q n hb hx⟩
theorem Un.trans (a:Un fs ex H H1 h h1) (b:Un fs ex H1 H2 h1 h2):Un fs ex H H2 h h2 where
 keep:=fun c ob q n hc hx=>b.keep c ob (a.keep c ob q n hc hx) (a.free c ob q n hx) hc hx
 slot:=fun c ob q n hc hx=>by
  obtain ⟨sl,e1⟩:=a.slot c ob q n hc hx
  obtain ⟨sl',e2⟩:=b.slot c _ e1 (a.free c ob q n hx) hc hx
  exact ⟨sl',e2⟩
 free:=fun c ob q n hx=>by
  obtain ⟨o',e1⟩:=a.there c ob q hx
  exact b.free c o' e1 (a.free c ob q n hx) hx
 there:=fun c ob q hx=>by
  obtain ⟨o',e1⟩:=a.there c ob q hx
  exact b.there c o' e1 hx
 tups:=fun c xs q=>b.tups c xs (a.tups c xs q)
 frzs:=fun c ob xs q=>b.frzs c ob xs (a.frzs c ob xs q)
 tbls:=fun c ps q=>by
  obtain ⟨m1,e1⟩:=a.tbls c ps q
  obtain ⟨m2,e2⟩:=b.tbls c _ e1
  exact ⟨m1++m2,by rw [e2,Ge]⟩
theorem Un.kept (k:∀b u,h.get? b=some u→h'.get? b=some u):Un fs ex H H h h':=
 ⟨fun b ob q _ _ _=>k b ob q,fun b ob q _ _ _=>⟨ob.slots,k b ob q⟩,fun _ _ _ n _=>n,fun b ob q _=>⟨ob,k b ob q⟩,fun _ _ q=>q,fun _ _ _ q=>q,fun _ ps q=>⟨#[],by rw [q];simp⟩⟩
theorem Un.refl:Un fs ex H H h h:=Un.kept fun _ _ q=>q
theorem Un.laid (k:∀b u,h.get? b=some u→h'.get? b=some u) (hp:h.objs.size≤a) (hn:H a=none):Un fs ex H (upd H a o) h h' where
 keep:=fun b u q _ _ _=>k b u q
 slot:=fun b u q _ _ _=>⟨u.slots,k b u q⟩
 free:=fun b u q n _=>by rw [a0a (Xb (Xj (Qu q) hp))];exact n
 there:=fun b u q _=>⟨u,k b u q⟩
 tups:=fun b xs q=>by rw [a0a (a0c q hn)];exact q
 frzs:=fun b u xs q=>by rw [a0a (a0c q hn)];exact q
 tbls:=fun b ps q=>⟨#[],by rw [a0a (a0c q hn),q];simp⟩
theorem Un.write (mu:Mut (H x)) (he:e=x∨H e=some (.own x)) (k:∀b u,b≠e→h.get? b=some u→h'.get? b=some u) (heo:∃u,h'.get? e=some u):Un fs ex H (upd H x o) h h':=by
 have hx:∀b,H b=none→b≠x:=fun b n z=>by subst z;rw [n] at mu;exact mu
 have hb:∀b,H b=none→b≠e:=fun b n z=>by
  subst z
  rcases he with r | r
  ·exact hx b n r
  ·rw [n] at r;cases r
 have hm:∀b u,H b=some u→¬Mut (some u)→b≠x:=fun b u q nm z=>by subst z;rw [q] at mu;exact nm mu
 refine ⟨fun b u q n _ _=>k b u (hb b n) q,fun b u q n _ _=>⟨u.slots,k b u (hb b n) q⟩,fun b u q n _=>by rw [a0a (hx b n)];exact n,fun b u q _=>?_,
  fun b xs q=>by rw [a0a (hm b _ q fun z=>z)];exact q,fun b u xs q=>by rw [a0a (hm b _ q fun z=>z)];exact q,fun b ps q=>⟨#[],by rw [a0a (hm b _ q fun z=>z),q];simp⟩⟩
 by_cases hbe:b=e
 ·subst hbe;exact heo
 ·exact ⟨u,k b u hbe q⟩
end
def trk (h:Heap) (H:Hp):List Addr:=(Xu h.objs.size).filter fun a=>(H a).isSome
def b3f (h:Heap) (H:Hp):Heap:=PySem.W.hideAll h (trk h H)
theorem b0v (h:Heap) (H:Hp):(b3f h H).objs.size=h.objs.size:=PySem.W.hideAll_size _ _
theorem b3L {h:Heap} {H:Hp} {b:Addr} {o:Obj} (e:h.get? b=some o) (n:H b=none):(b3f h H).get? b=some o:=
 PySem.W.hideAll_get _ e fun hm=>by
  have q:(H b).isSome=true:=(Qp.mp hm).2
  rw [n] at q;simp at q
theorem b7y {h:Heap} {H:Hp} {b:Addr} {o:Obj} (e:(b3f h H).get? b=some o):h.get? b=some o∧H b=none:=by
 have e':h.get? b=some o:=PySem.W.of_hideAll (trk h H) e
 refine ⟨e',?_⟩
 cases q:H b with
 | none=>rfl
 | some x=>
  have hm:b∈trk h H:=Qp.mpr ⟨Zs.mpr (Qu e'),by simp [q]⟩
  have z:(b3f h H).get? b=none:=PySem.W.hideAll_none (trk h H) hm
  rw [z] at e;cases e
def b7k (g h:Heap) (L:Addr):List (Addr×Obj):=(Xu h.objs.size).filterMap fun a=>if a=L∨(g.get? a).isSome=true then none else (h.get? a).map fun o=>(a,o)
def a5Q (g h:Heap) (L d:Addr):List (Addr×Obj):=(b7k g h L).filter fun p=>decide (p.1≠d)
end L2
namespace L2
open PySem PySem.Spec PyProof.Rows
structure Mod (K:Qd) (mg:Str→Option Value) (base:Heap):Prop where
 kin:K.In base
 glob:base.Ns mainGlobals mg
 blt:∃mb,base.Ns builtinsNs mb∧∀x:Str,x≠"__name__"→mb x=bootBuiltins x
 nolimit:base.NoLimit
structure Cx where
 prog:Program
 w:World
 K:Qd
 mg:Str→Option Value
 base:Heap
 A:Around
 N:List Str
 s₀:Shared
 H₀:Hp
 env:Env
 outer:List Env
 stack:List Env
 ex:List Addr
 fn:Str→Bool
 calm:Bool
 pn:List (Addr×Obj)
 xe:Value→Shared→Prop
def frs (l:List Env):List Addr:=l.filterMap (·.frame)
abbrev Cx.fs (X:Cx):List Addr:=frs X.outer
def Vis (sc:Scope) (x:Str):Prop:=sc.names.lookup x=some .local∨sc.names.lookup x=some .cell∨sc.names.lookup x=some .free
def Loc (sc:Scope) (x:Str):Prop:=sc.names.lookup x=some .local∨sc.names.lookup x=some .cell
def c7M (env:Env) (h:Heap) (m:Str→Option Value) (x:Str) (u:Value):Prop:=
 (env.kindOf x=some .local∧m x=some u)∨((env.kindOf x=some .cell∨env.kindOf x=some .free)∧∃c,env.cells.lookup x=some c∧h.IsCell c (some u))
structure Cx.Ok (X:Cx):Prop where
 mod:Mod X.K X.mg X.base
 kind:X.env.scope.kind=.function
 glob:X.env.globals=mainGlobals
 blt:X.env.builtins=builtinsNs
 above:X.s₀.heap.objs.size≤X.env.locals
 inj:∀x y c,X.env.cells.lookup x=some c→X.env.cells.lookup y=some c→x=y
 has:∀x,(X.env.kindOf x=some .cell∨X.env.kindOf x=some .free)→∃c,X.env.cells.lookup x=some c
 cab:∀x c,X.fn x=true→X.env.cells.lookup x=some c→X.s₀.heap.objs.size≤c
 hd:X.calm=true→X.A.handled=none
 frames:X.A.frames=some X.stack
 stk:X.stack=X.outer∨(X.stack=X.env::X.outer∧X.env.frame=some X.env.locals)
 exf:∀b∈X.ex,b≠X.env.locals∧∀x c,X.env.cells.lookup x=some c→c≠b
 bs:∀b o,X.base.get? b=some o→X.s₀.heap.get? b=some o∧X.H₀ b=none
 bsz:X.base.objs.size≤X.s₀.heap.objs.size
 noex:∀b o,X.base.get? b=some o→b∉X.ex
 exfs:∀b∈X.ex,b∉X.fs
 funs:X.s₀.heap.FunFrames X.base X.outer
 frf:∀b∈X.fs,X.H₀ b=none
structure Inv (X:Cx) (pins:List (Addr×Obj)) (σ:List (Option V)) (H:Hp) (s:Shared):Prop where
 ok:X.Ok
 os:s.os=X.s₀.os
 bare:AllBare s.gens
 base:Un X.fs X.ex X.H₀ H X.s₀.heap s.heap
 loc:∃m,s.heap.Ns X.env.locals m∧∀(i:Nat) (x:Str) (v:V),X.N[i]?=some x→σ[i]?=some (some v)→Vis X.env.scope x→∃u,a0P v u∧c7M X.env s.heap m x u
 cell:∀x c,X.env.cells.lookup x=some c→∃v,s.heap.IsCell c v
 free:H X.env.locals=none
 freeC:∀x c,X.env.cells.lookup x=some c→H c=none
 pin:∀p∈X.pn++pins,s.heap.get? p.1=some p.2∧H p.1=none∧p.1≠X.env.locals∧p.1∉X.fs∧∀v,p.2.data≠.cell v
 hok:HOk X.prog X.w H s.heap
 len:σ.length=X.N.length
section
variable {X:Cx} {pins:List (Addr×Obj)} {σ:List (Option V)} {H H':Hp} {s:Shared} {h':Heap}
theorem Cx.Ok.nofr (ok:X.Ok) {b:Addr} {o:Obj} (e:X.base.get? b=some o):b∉X.fs:=fun hb=>by
 have:=(ok.funs.mem hb).1
 rw [e] at this;cases this
theorem Inv.bs (I:Inv X pins σ H s):∀b o,X.base.get? b=some o→s.heap.get? b=some o∧H b=none:=fun b o e=>
 ⟨I.base.keep b o (I.ok.bs b o e).1 (I.ok.bs b o e).2 (I.ok.nofr e) (I.ok.noex b o e),I.base.free b o (I.ok.bs b o e).1 (I.ok.bs b o e).2 (I.ok.noex b o e)⟩
theorem Inv.bk (I:Inv X pins σ H s):∀b o,X.base.get? b=some o→s.heap.get? b=some o:=fun b o e=>(I.bs b o e).1
theorem Inv.mod (I:Inv X pins σ H s):Mod X.K X.mg X.base:=I.ok.mod
theorem Inv.kIn (I:Inv X pins σ H s):X.K.In s.heap:=I.ok.mod.kin.keeps I.bk
theorem Inv.nolimit (I:Inv X pins σ H s):s.heap.NoLimit:=I.ok.mod.nolimit.keeps I.bk
theorem Inv.lt (I:Inv X pins σ H s):X.env.locals < s.heap.objs.size:=let ⟨_,hn,_⟩:=I.loc;hn.lt
theorem Inv.sz (I:Inv X pins σ H s):X.s₀.heap.objs.size≤s.heap.objs.size:=Qi I.ok.above (Vo I.lt)
theorem Inv.nofs (I:Inv X pins σ H s) {a:Addr} (h:s.heap.objs.size≤a):a∉X.fs:=fun hb=>by
 obtain ⟨_,o,ho,_⟩:=I.ok.funs.mem hb
 exact absurd (Xj (Qu ho) (Qi I.sz h)) (Zq _)
theorem Inv.cne (I:Inv X pins σ H s):∀x c,X.env.cells.lookup x=some c→c≠X.env.locals:=fun x c e z=>by
 obtain ⟨v,o,ho,hd⟩:=I.cell x c e
 obtain ⟨m,⟨o',es,ep,ho',hd',_⟩,_⟩:=I.loc
 rw [z,ho'] at ho;cases ho;rw [hd'] at hd;cases hd
theorem Inv.funs (I:Inv X pins σ H s):s.heap.FunFrames X.base X.outer:=by
 have all:∀(l:List Env),(∀b∈frs l,b∈X.fs)→X.s₀.heap.FunFrames X.base l→s.heap.FunFrames X.base l:=by
  intro l
  induction l with
  | nil=>intro _ _;trivial
  | cons env r ih=>
   intro hs hl
   obtain ⟨hk,⟨L,o,hf,hn,ho,hd⟩,hr⟩:=hl
   have hL:L∈X.fs:=hs L (by unfold frs;rw [Jh,hf];exact Qs)
   obtain ⟨sl,e⟩:=I.base.slot L o ho (I.ok.frf L hL) hL fun z=>I.ok.exfs L z hL
   exact ⟨hk,⟨L,_,hf,hn,e,hd⟩,ih (fun b hb=>hs b (by unfold frs;rw [Jh,hf];exact Qt _ hb)) hr⟩
 exact all X.outer (fun _ hb=>hb) I.ok.funs
theorem Inv.stack (I:Inv X pins σ H s):s.heap.FunFrames X.base X.stack:=by
 rcases I.ok.stk with e | ⟨e,hf⟩
 ·rw [e];exact I.funs
 ·rw [e]
  obtain ⟨m,hn,_⟩:=I.loc
  refine .cons (by rw [I.ok.kind];decide) hf hn ?_ I.funs
  exact Heap.get?_none_of_le (Qi I.ok.bsz I.ok.above)
theorem Inv.stkSub (I:Inv X pins σ H s):∀b∈frs X.stack,b∈X.env.locals::X.fs:=fun b hb=>by
 rcases I.ok.stk with e | ⟨e,hf⟩
 ·rw [e] at hb;exact Qt _ hb
 ·rw [e] at hb
  unfold frs at hb
  rw [Jh,hf] at hb
  exact hb
theorem Inv.stkFree (I:Inv X pins σ H s):∀b∈frs X.stack,H b=none:=fun b hb=>by
 rcases Qy.mp (I.stkSub b hb) with e | hb
 ·rw [e];exact I.free
 ·obtain ⟨_,o,ho,_⟩:=I.ok.funs.mem hb
  exact I.base.free b o ho (I.ok.frf b hb) fun z=>I.ok.exfs b z hb
theorem Inv.step {g':Array GenState} {t':Nat} {d':Drawn} {ch:List Addr} (I:Inv X pins σ H s)
  (hch:∀b∈ch,(b∈X.ex∨X.s₀.heap.objs.size≤b)∧b≠X.env.locals∧(∀x c,X.env.cells.lookup x=some c→c≠b)∧∀p∈X.pn++pins,p.1≠b)
  (keep:∀b o,b≠X.env.locals→b∉X.fs→b∉ch→s.heap.get? b=some o→H b=none→h'.get? b=some o)
  (slot:∀b o,b≠X.env.locals→b∈X.fs→b∉ch→s.heap.get? b=some o→H b=none→∃sl,h'.get? b=some {o with slots:=sl}) (free:∀b o,b∉ch→s.heap.get? b=some o→H b=none→H' b=none)
  (there:∀b o,b∉ch→s.heap.get? b=some o→∃o',h'.get? b=some o')
  (tups:∀b xs,H b=some (.tup xs)→H' b=some (.tup xs)) (frzs:∀b o u,H b=some (.frz o u)→H' b=some (.frz o u)) (tbls:∀b ps,H b=some (.tbl ps)→∃more,H' b=some (.tbl (ps++more)))
  (ns:∀m,s.heap.Ns X.env.locals m→h'.Ns X.env.locals m) (hok:HOk X.prog X.w H' h') (hg:AllBare g'):
  Inv X pins σ H' {s with heap:=h',gens:=g',drawn:=d',toks:=t'}:=by
 have neL:∀b o,X.s₀.heap.get? b=some o→b≠X.env.locals:=fun b o e=>Xb (Xj (Qu e) I.ok.above)
 have neC:∀b o,X.s₀.heap.get? b=some o→b∉X.ex→b∉ch:=fun b o e hx hb=>by
  rcases (hch b hb).1 with z | z
  ·exact hx z
  ·exact absurd (Xj (Qu e) z) (Zq _)
 have cellK:∀x c,X.env.cells.lookup x=some c→∀v,s.heap.IsCell c v→h'.IsCell c v:=fun x c e v ⟨o,ho,hd⟩=>by
  have nch:c∉ch:=fun z=>(hch c z).2.2.1 x c e rfl
  by_cases hc:c∈X.fs
  ·obtain ⟨sl,q⟩:=slot c o (I.cne x c e) hc nch ho (I.freeC x c e)
   exact ⟨_,q,hd⟩
  ·exact ⟨o,keep c o (I.cne x c e) hc nch ho (I.freeC x c e),hd⟩
 refine ⟨I.ok,I.os,hg,⟨fun b o e n hb hx=>?_,fun b o e n hb hx=>?_,fun b o e n hx=>?_,fun b o e hx=>?_,fun b xs e=>tups b xs (I.base.tups b xs e),fun b o xs e=>frzs b o xs (I.base.frzs b o xs e),fun b ps e=>?_⟩,?_,fun x c e=>?_,?_,fun x c e=>?_,fun p hp=>?_,hok,I.len⟩
 ·exact keep b o (neL b o e) hb (neC b o e hx) (I.base.keep b o e n hb hx) (I.base.free b o e n hx)
 ·obtain ⟨sl,e1⟩:=I.base.slot b o e n hb hx
  obtain ⟨sl',e2⟩:=slot b _ (neL b o e) hb (neC b o e hx) e1 (I.base.free b o e n hx)
  exact ⟨sl',e2⟩
 ·obtain ⟨o',e1⟩:=I.base.there b o e hx
  exact free b o' (neC b o e hx) e1 (I.base.free b o e n hx)
 ·obtain ⟨o',e1⟩:=I.base.there b o e hx
  exact there b o' (neC b o e hx) e1
 ·obtain ⟨m1,e1⟩:=I.base.tbls b ps e
  obtain ⟨m2,e2⟩:=tbls b _ e1
  exact ⟨m1++m2,by rw [e2,Ge]⟩
 ·obtain ⟨m,hn,hl⟩:=I.loc
  refine ⟨m,ns m hn,fun i x v e1 e2 e3=>?_⟩
  obtain ⟨u,r,l⟩:=hl i x v e1 e2 e3
  refine ⟨u,r,?_⟩
  rcases l with l | ⟨k,c,e,z⟩
  ·exact .inl l
  ·exact .inr ⟨k,c,e,cellK x c e _ z⟩
 ·obtain ⟨v,z⟩:=I.cell x c e
  exact ⟨v,cellK x c e v z⟩
 ·obtain ⟨m,⟨o,_,_,ho,_⟩,_⟩:=I.loc
  exact free _ o (fun z=>(hch _ z).2.1 rfl) ho I.free
 ·obtain ⟨v,o,ho,hd⟩:=I.cell x c e
  exact free c o (fun z=>(hch c z).2.2.1 x c e rfl) ho (I.freeC x c e)
 ·obtain ⟨e,n,ne,nf,d⟩:=I.pin p hp
  have nch:p.1∉ch:=fun z=>(hch p.1 z).2.2.2 p hp rfl
  exact ⟨keep p.1 p.2 ne nf nch e n,free p.1 p.2 nch e n,ne,nf,d⟩
theorem Inv.un {t':Nat} (I:Inv X pins σ H s) (u:Un X.fs [] H H' s.heap h') (hok:HOk X.prog X.w H' h'):Inv X pins σ H' {s with heap:=h',toks:=t'}:=by
 obtain ⟨m,⟨o,es,ep,ho,r⟩,_⟩:=id I.loc
 obtain ⟨sl,hL⟩:=u.any ho I.free (by simp)
 exact I.step (g':=s.gens) (d':=s.drawn) (ch:=[]) (fun _ z=>nomatch z) (fun b o _ hb _ e n=>u.keep b o e n hb (by simp)) (fun b o _ hb _ e n=>u.slot b o e n hb (by simp)) (fun b o _ e n=>u.free b o e n (by simp)) (fun b o _ e=>u.there b o e (by simp)) u.tups u.frzs u.tbls (fun m' hm=>by
  obtain ⟨o',es',ep',ho',r'⟩:=hm
  rw [ho] at ho';cases ho'
  exact ⟨_,es',ep',hL,r'⟩) hok I.bare
theorem Inv.call {g':Array GenState} {t':Nat} {d':Drawn} {ch:List Addr} (I:Inv X pins σ H s) (u:Un (frs X.stack) ch H H' s.heap h') (hok:HOk X.prog X.w H' h') (hg:AllBare g')
  (hch:∀b∈ch,(b∈X.ex∨X.s₀.heap.objs.size≤b)∧b≠X.env.locals∧(∀x c,X.env.cells.lookup x=some c→c≠b)∧∀p∈X.pn++pins,p.1≠b):
  Inv X pins σ H' {s with heap:=h',gens:=g',drawn:=d',toks:=t'}:=by
 obtain ⟨m,⟨o,es,ep,ho,r⟩,_⟩:=id I.loc
 obtain ⟨sl,hL⟩:=u.any ho I.free fun z=>(hch _ z).2.1 rfl
 exact I.step (ch:=ch) hch (fun b o hL hb hc e n=>u.keep b o e n (fun z=>(Qy.mp (I.stkSub b z)).elim hL hb) hc) (fun b o _ _ hc e n=>u.any e n hc) (fun b o hc e n=>u.free b o e n hc) (fun b o hc e=>u.there b o e hc) u.tups u.frzs u.tbls (fun m' hm=>by
  obtain ⟨o',es',ep',ho',r'⟩:=hm
  rw [ho] at ho';cases ho'
  exact ⟨_,es',ep',hL,r'⟩) hok hg
theorem Inv.turned {t':Nat} {it:Addr} (I:Inv X pins σ H s) (k:∀b o,b≠it→s.heap.get? b=some o→h'.get? b=some o) (hn:H it=none) (hL:it≠X.env.locals)
  (h1:it∈X.ex∨X.s₀.heap.objs.size≤it) (h2:∀x c,X.env.cells.lookup x=some c→c≠it) (h3:∀p∈X.pn++pins,p.1≠it):Inv X pins σ H {s with heap:=h',toks:=t'}:=by
 have nit:∀b u,H b=some u→b≠it:=fun b u e z=>by rw [z,hn] at e;cases e
 refine I.step (g':=s.gens) (d':=s.drawn) (ch:=[it]) (fun b hb=>?_) (fun b o _ _ hc e _=>k b o (fun z=>hc (by simp [z])) e) (fun b o _ _ hc e _=>⟨o.slots,k b o (fun z=>hc (by simp [z])) e⟩) (fun _ _ _ _ n=>n)
  (fun b o hc e=>⟨o,k b o (fun z=>hc (by simp [z])) e⟩) (fun _ _ e=>e) (fun _ _ _ e=>e) (fun b ps e=>⟨#[],by rw [e];simp⟩) (fun m hm=>?_) (fun b u e=>?_) I.bare
 ·have e:b=it:=by simpa using hb
  subst e
  exact ⟨h1,hL,h2,h3⟩
 ·obtain ⟨o,es,ep,ho,r⟩:=hm
  exact ⟨o,es,ep,k _ o (Ne.symm hL) ho,r⟩
 ·refine (I.hok b u e).stay (fun c v hc q=>k c v ?_ q) (fun _ q=>q) fun _ _ q=>q
  rcases hc with z | z
  ·rw [z];exact nit b u e
  ·exact nit c _ z
theorem Inv.tok (I:Inv X pins σ H s) (t:Nat):Inv X pins σ H {s with toks:=t}:=I.un (h':=s.heap) (t':=t) Un.refl I.hok
theorem Inv.kept {t':Nat} (I:Inv X pins σ H s) (k:∀b u,s.heap.get? b=some u→h'.get? b=some u):Inv X pins σ H {s with heap:=h',toks:=t'}:=I.un (Un.kept k) (I.hok.kept k)
theorem Inv.laid {a:Addr} {o:HO} {t':Nat} (I:Inv X pins σ H s) (k:∀b u,s.heap.get? b=some u→h'.get? b=some u) (hp:s.heap.objs.size≤a) (new:a1g X.prog X.w (upd H a o) h' a o):
  Inv X pins σ (upd H a o) {s with heap:=h',toks:=t'}:=I.un (Un.laid k hp (I.hok.fresh hp)) (I.hok.laid k hp new)
theorem Inv.write {x e:Addr} {o:HO} {t':Nat} (I:Inv X pins σ H s) (mu:Mut (H x)) (he:e=x∨H e=some (.own x)) (k:∀b u,b≠e→s.heap.get? b=some u→h'.get? b=some u) (heo:∃u,h'.get? e=some u)
  (new:a1g X.prog X.w (upd H x o) h' x o):Inv X pins σ (upd H x o) {s with heap:=h',toks:=t'}:=I.un (Un.write mu he k heo) (I.hok.write mu he k heo new)
theorem Inv.pins_of {pins':List (Addr×Obj)} (I:Inv X pins σ H s) (h:∀p∈pins',s.heap.get? p.1=some p.2∧H p.1=none∧p.1≠X.env.locals∧p.1∉X.fs∧∀v,p.2.data≠.cell v):Inv X pins' σ H s:=
 ⟨I.ok,I.os,I.bare,I.base,I.loc,I.cell,I.free,I.freeC,fun p hp=>(Qq.mp hp).elim (fun z=>I.pin p (Xx _ z)) (h p),I.hok,I.len⟩
theorem a7M {N:List Str} (hN:N.Nodup) {i j:Nat} {x:Str} (a:N[i]?=some x) (b:N[j]?=some x):i=j:=by
 obtain ⟨h1,e1⟩:=Qn.mp a
 obtain ⟨h2,e2⟩:=Qn.mp b
 exact (Jd hN).mp (e1.trans e2.symm)
theorem a5W {M:Model} {A:Around} {E:Value→Shared→Prop} {i:Nat} {x:Str} {v:V} {u:Value} {Q:Unit→Shared→Prop} (I:Inv X pins σ H s) (hN:X.N.Nodup) (hi:X.N[i]?=some x) (hx:Loc X.env.scope x) (r:a0P v u)
  (h:∀s',Inv X pins (σ.set i (some v)) H s'→(∃a,Vp a s.heap s'.heap∧(a=X.env.locals∨X.env.cells.lookup x=some a))→Q () s') (hf:X.fn x=true∨X.env.scope.names.lookup x=some .local:=by first | exact .inl rfl | exact .inr rfl | assumption):wpAny M A (storeName X.env x u) Q E s:=by
 obtain ⟨m,hn,hl⟩:=id I.loc
 have hcls:(X.env.scope.kind == .class || (X.env.scope.kind == .module && X.env.locals != X.env.globals))=false:=by rw [I.ok.kind];rfl
 have hiσ:i < σ.length:=by rw [I.len];exact (Qn.mp hi).1
 have cne:=I.cne
 have tracked:∀{a:Addr} {h':Heap},(∃o,s.heap.get? a=some o∧H a=none)→Vp a s.heap h'→HOk X.prog X.w H h':=fun {a h'} ha hs b ob e=>by
  obtain ⟨_,_,hfree⟩:=ha
  refine (I.hok b ob e).stay (fun c w' hc q=>(hs.2 c ?_).trans q) (fun _ q=>q) fun _ _ q=>q
  rintro rfl
  rcases hc with rfl | hc
  ·rw [hfree] at e;cases e
  ·rw [hfree] at hc;cases hc
 rcases hx with hk | hk
 ·refine wpAny_storeName_local hk hn (fun h' hn' hs=>?_) hcls
  obtain ⟨oL,_,_,hoL,_⟩:=id hn
  refine h _ ⟨I.ok,I.os,I.bare,⟨fun b o e n hb hx=>?_,fun b o e n hb hx=>?_,I.base.free,fun b o e hx=>?_,I.base.tups,I.base.frzs,I.base.tbls⟩,⟨_,hn',fun j y v' e1 e2 e3=>?_⟩,fun y c e=>?_,I.free,I.freeC,fun p hp=>?_,tracked ⟨oL,hoL,I.free⟩ hs,by simpa using I.len⟩ ⟨_,hs,.inl rfl⟩
  ·exact (hs.2 b (Xb (Xj (Qu e) I.ok.above))).trans (I.base.keep b o e n hb hx)
  ·obtain ⟨sl,e1⟩:=I.base.slot b o e n hb hx
   exact ⟨sl,(hs.2 b (Xb (Xj (Qu e) I.ok.above))).trans e1⟩
  ·obtain ⟨o',e1⟩:=I.base.there b o e hx
   exact ⟨o',(hs.2 b (Xb (Xj (Qu e) I.ok.above))).trans e1⟩
  ·by_cases hj:j=i
   ·subst hj
    rw [hi] at e1;cases e1
    rw [Wh hiσ] at e2
    cases e2
    exact ⟨u,r,.inl ⟨hk,by simp⟩⟩
   ·rw [Wu (Ne.symm hj)] at e2
    obtain ⟨u',r',q⟩:=hl j y v' e1 e2 e3
    refine ⟨u',r',?_⟩
    rcases q with ⟨k,e⟩ | ⟨k,c,e,z⟩
    ·refine .inl ⟨k,?_⟩
     have:y≠x:=fun e=>hj (a7M hN e1 (e ▸ hi))
     simp [this,e]
    ·exact .inr ⟨k,c,e,z.sameBut hs (cne y c e)⟩
  ·obtain ⟨w',z⟩:=I.cell y c e
   exact ⟨w',z.sameBut hs (cne y c e)⟩
  ·obtain ⟨e,n,ne,nf,d⟩:=I.pin p hp
   exact ⟨(hs.2 p.1 ne).trans e,n,ne,nf,d⟩
 ·have hfn:X.fn x=true:=by
   rcases hf with z | z
   ·exact z
   ·rw [z] at hk;cases hk
  obtain ⟨c,hc⟩:=I.ok.has x (.inl hk)
  obtain ⟨w',z⟩:=I.cell x c hc
  refine wpAny_storeName_cell I.ok.kind hk hc z (fun h' hc' hs=>?_)
  obtain ⟨oc,hoc,hocd⟩:=id z
  refine h {s with heap:=h'} ⟨I.ok,I.os,I.bare,⟨fun b o e n hb hx=>?_,fun b o e n hb hx=>?_,I.base.free,fun b o e hx=>?_,I.base.tups,I.base.frzs,I.base.tbls⟩,⟨m,hn.sameBut hs (Ne.symm (cne x c hc)),fun j y v' e1 e2 e3=>?_⟩,fun y c' e=>?_,I.free,I.freeC,fun p hp=>?_,tracked ⟨oc,hoc,I.freeC x c hc⟩ hs,by simpa using I.len⟩ ⟨c,hs,.inr hc⟩
  ·exact (hs.2 b (Xb (Xj (Qu e) (I.ok.cab x c hfn hc)))).trans (I.base.keep b o e n hb hx)
  ·obtain ⟨sl,e1⟩:=I.base.slot b o e n hb hx
   exact ⟨sl,(hs.2 b (Xb (Xj (Qu e) (I.ok.cab x c hfn hc)))).trans e1⟩
  ·obtain ⟨o',e1⟩:=I.base.there b o e hx
   exact ⟨o',(hs.2 b (Xb (Xj (Qu e) (I.ok.cab x c hfn hc)))).trans e1⟩
  ·by_cases hj:j=i
   ·subst hj
    rw [hi] at e1;cases e1
    rw [Wh hiσ] at e2
    cases e2
    exact ⟨u,r,.inr ⟨.inl hk,c,hc,hc'⟩⟩
   ·rw [Wu (Ne.symm hj)] at e2
    obtain ⟨u',r',q⟩:=hl j y v' e1 e2 e3
    refine ⟨u',r',?_⟩
    rcases q with q | ⟨k,c',e,z'⟩
    ·exact .inl q
    ·refine .inr ⟨k,c',e,z'.sameBut hs ?_⟩
     rintro rfl
     exact hj (a7M hN e1 (I.ok.inj _ _ _ e hc ▸ hi))
  ·by_cases hcc:c'=c
   ·subst hcc;exact ⟨_,hc'⟩
   ·obtain ⟨w2,z2⟩:=I.cell y c' e
    exact ⟨w2,z2.sameBut hs hcc⟩
  ·obtain ⟨e,n,ne,nf,d⟩:=I.pin p hp
   refine ⟨(hs.2 p.1 ?_).trans e,n,ne,nf,d⟩
   intro q
   rw [q,hoc] at e
   have q':oc=p.2:=Option.some.inj e
   exact d w' (by rw [←q'];exact hocd)
theorem a5u {M:Model} {A:Around} {E:Value→Shared→Prop} {i:Nat} {x:Str} {v:V} {u:Value} {Q:Unit→Shared→Prop} (I:Inv X pins σ H s) (hN:X.N.Nodup) (hi:X.N[i]?=some x) (hx:Loc X.env.scope x) (r:a0P v u)
  (h:∀s',Inv X pins (σ.set i (some v)) H s'→Q () s') (hf:X.fn x=true∨X.env.scope.names.lookup x=some .local:=by first | exact .inl rfl | exact .inr rfl | assumption):wpAny M A (storeName X.env x u) Q E s:=
 a5W I hN hi hx r (fun s' I' _=>h s' I') hf
theorem Inv.call' {s':Shared} {ch:List Addr} (I:Inv X pins σ H s) (ho:s'.os=s.os) (u:Un (frs X.stack) ch H H' s.heap s'.heap) (hok:HOk X.prog X.w H' s'.heap) (hg:AllBare s'.gens)
  (hch:∀b∈ch,(b∈X.ex∨X.s₀.heap.objs.size≤b)∧b≠X.env.locals∧(∀x c,X.env.cells.lookup x=some c→c≠b)∧∀p∈X.pn++pins,p.1≠b):Inv X pins σ H' s':=by
 obtain ⟨h',g',d',t',o'⟩:=s'
 have e:o'=s.os:=ho
 subst e
 exact I.call (g':=g') (t':=t') (d':=d') u hok hg hch
end
abbrev XK:=Value→Option Addr→Hp→Prop
abbrev St:=List (Option V)
abbrev VK:=V→Hp→Prop
abbrev TE:=St→Hp→VK→Prop
abbrev TT:=St→Hp→(Bool→Hp→Prop)→Prop
abbrev TA:=St→Hp→(List V→Hp→Prop)→Prop
structure a8Y where
 nx:St→Hp→Prop
 rt:VK
 bk:St→Hp→Prop:=fun _ _=>False
 ct:St→Hp→Prop:=fun _ _=>False
abbrev TS:=a8Y→St→Hp→Prop
def EP (X:Cx) (pins:List (Addr×Obj)) (σ:St) (Q:VK) (u:Value) (s':Shared):Prop:=∃v H',Inv X pins σ H' s'∧a0P v u∧Q v H'
def TP (X:Cx) (pins:List (Addr×Obj)) (σ:St) (Q:Bool→Hp→Prop) (b:Bool) (s':Shared):Prop:=∃H',Inv X pins σ H' s'∧Q b H'
def AP (X:Cx) (pins:List (Addr×Obj)) (σ:St) (Q:List V→Hp→Prop) (us:List Value) (s':Shared):Prop:=∃vs H',Inv X pins σ H' s'∧a0L vs us∧Q vs H'
def SP (X:Cx) (pins:List (Addr×Obj)) (D:a8Y) (f:Flow) (s':Shared):Prop:=
 match f with
 | .next=>∃σ' H',Inv X pins σ' H' s'∧D.nx σ' H'
 | .brk=>∃σ' H',Inv X pins σ' H' s'∧D.bk σ' H'
 | .cont=>∃σ' H',Inv X pins σ' H' s'∧D.ct σ' H'
 | .ret u=>∃v σ' H',Inv X pins σ' H' s'∧a0P v u∧D.rt v H'
def PE (X:Cx) (e:Expr) (t:TE):Prop:=
 ∀(pins:List (Addr×Obj)) (s:Shared) (σ:St) (H:Hp) (Q:VK),Inv X pins σ H s→t σ H Q→wpAny (model X.prog X.w) X.A (eval e X.env) (EP X pins σ Q) X.xe s
def PT (X:Cx) (e:Expr) (t:TT):Prop:=
 ∀(pins:List (Addr×Obj)) (s:Shared) (σ:St) (H:Hp) (Q:Bool→Hp→Prop),Inv X pins σ H s→t σ H Q→wpAny (model X.prog X.w) X.A (isTrue e X.env (eval e X.env)) (TP X pins σ Q) X.xe s
def PW (X:Cx) (e:Expr) (t:TT):Prop:=
 ∀(whole:Sem Value) (pins:List (Addr×Obj)) (s:Shared) (σ:St) (H:Hp) (Q:Bool→Hp→Prop),Inv X pins σ H s→t σ H Q→wpAny (model X.prog X.w) X.A (isTrue e X.env whole) (TP X pins σ Q) X.xe s
theorem PW.pt {X:Cx} {e:Expr} {t:TT} (h:PW X e t):PT X e t:=h _
def PA (X:Cx) (es:List Expr) (t:TA):Prop:=
 ∀(pos:Pos) (pins:List (Addr×Obj)) (s:Shared) (σ:St) (H:Hp) (Q:List V→Hp→Prop),Inv X pins σ H s→t σ H Q→wpAny (model X.prog X.w) X.A (spliced (backTo pos (starEach es X.env))) (AP X pins σ Q) X.xe s
def PS (X:Cx) (st:Stmt) (t:TS):Prop:=
 ∀(pins:List (Addr×Obj)) (s:Shared) (σ:St) (H:Hp) (D:a8Y),Inv X pins σ H s→t D σ H→wpAny (model X.prog X.w) X.A (exec st X.env) (SP X pins D) X.xe s
def PSs (X:Cx) (st:List Stmt) (t:TS):Prop:=
 ∀(pins:List (Addr×Obj)) (s:Shared) (σ:St) (H:Hp) (D:a8Y),Inv X pins σ H s→t D σ H→wpAny (model X.prog X.w) X.A (execs st X.env) (SP X pins D) X.xe s
theorem thn {α:Type} {t:Sem α} {Q Q':α→Shared→Prop} {M:Model} {A:Around} {E:Value→Shared→Prop} {s:Shared} (h:wpAny M A t Q E s) (hQ:∀a s,Q a s→Q' a s):wpAny M A t Q' E s:=wpAny_mono h hQ fun _ _ x=>x
end L2
namespace L2
open PySem PySem.Spec PyProof.Rows
section
variable {X:Cx}
theorem bin {a b:Expr} {ta tb:TE} (ha:PE X a ta) (hb:PE X b tb) {pins:List (Addr×Obj)} {s:Shared} {σ:St} {H:Hp} {R:V→V→Hp→Prop} (I:Inv X pins σ H s) (h:ta σ H fun x H1=>tb σ H1 fun y H2=>R x y H2)
  {α:Type} {Q:α→Shared→Prop} {f:Value→Value→Sem α}
  (hf:∀v u s2 x y H2,Inv X pins σ H2 s2→a0P x v→a0P y u→R x y H2→wpAny (model X.prog X.w) X.A (f v u) Q X.xe s2):
  wpAny (model X.prog X.w) X.A (eval a X.env) (fun v s₁=>wpAny (model X.prog X.w) X.A (eval b X.env) (fun u s₂=>wpAny (model X.prog X.w) X.A (f v u) Q X.xe s₂) X.xe s₁) X.xe s:=by
 refine thn (ha pins s σ H _ I h) fun v s1 ⟨x,H1,I1,r1,q1⟩=>?_
 refine thn (hb pins s1 σ H1 _ I1 q1) fun u s2 ⟨y,H2,I2,r2,q2⟩=>?_
 exact hf v u s2 x y H2 I2 r1 r2 q2
def a0k (i:Nat):TE:=fun σ H Q=>∃v,σ[i]?=some (some v)∧Q v H
def tC (v:V):TE:=fun _ H Q=>Q v H
theorem b8m {i:Nat} {x:Str} {pos:Pos} (hN:X.N[i]?=some x) (hv:Vis X.env.scope x) (hd:(x == ("__debug__":Str))=false:=by decide) (hcd:(x == ("__classdict__":Str))=false:=by decide):PE X (.Name x pos) (a0k i):=by
 intro pins s σ H Q I h
 obtain ⟨v,e,h⟩:=h
 obtain ⟨m,hn,hl⟩:=I.loc
 obtain ⟨u,r,l⟩:=hl i x v hN e hv
 have fin:EP X pins σ Q u s:=⟨v,H,I,r,h⟩
 rcases l with ⟨hk,hm⟩ | ⟨hk,c,hc,hcell⟩
 ·exact wpAny_Name (wpAny_loadName_local I.ok.kind hk hn hm fin) hd
 ·rcases hk with hk | hk
  ·exact wpAny_Name (wpAny_loadName_cell I.ok.kind hk hc hcell fin) hd
  ·exact wpAny_Name (wpAny_loadName_free I.ok.kind hk hc hcell fin hcd) hd
theorem c0X {i j pos}:PE X (.Constant (.int i) j pos) (tC (.int i)):=fun _ _ _ H _ I h=>wpAny_Constant_int ⟨.int i,H,I.tok _,⟨_,rfl⟩,h⟩
theorem c1N {b j pos}:PE X (.Constant (.bool b) j pos) (tC (.bl b)):=fun _ _ _ H _ I h=>Constant_bool ⟨.bl b,H,I,rfl,h⟩
theorem c1t {j pos}:PE X (.Constant .none j pos) (tC .non):=fun _ _ _ H _ I h=>Constant_none ⟨.non,H,I,rfl,h⟩
theorem c0J {x j pos}:PE X (.Constant (.str x) j pos) (tC (.str x)):=fun _ _ _ H _ I h=>Calls.Constant_str ⟨.str x,H,I.tok _,⟨_,rfl⟩,h⟩
def Gl (X:Cx) (x:Str):Prop:=X.env.kindOf x=some .globalImplicit
theorem a6U {E:Value→Shared→Prop} {pins:List (Addr×Obj)} {s:Shared} {σ:St} {H:Hp} {x:Str} {u:Value} {pos:Pos} {Q:Value→Shared→Prop} (I:Inv X pins σ H s) (hg:Gl X x) (hm:X.mg x=some u) (h:Q u s)
  (hd:(x == ("__debug__":Str))=false:=by decide):wpAny (model X.prog X.w) X.A (eval (.Name x pos) X.env) Q E s:=
 Calls.Name_function_global I.ok.kind hg (Calls.loadGlobal_global (by rw [I.ok.glob];exact I.mod.glob.keeps I.bk) hm h) hd
theorem a3v {E:Value→Shared→Prop} {pins:List (Addr×Obj)} {s:Shared} {σ:St} {H:Hp} {x:Str} {u:Value} {pos:Pos} {Q:Value→Shared→Prop} (I:Inv X pins σ H s) (hg:Gl X x) (hm:X.mg x=none) (hv:bootBuiltins x=some u) (h:Q u s)
  (hn:x≠"__name__":=by decide) (hd:(x == ("__debug__":Str))=false:=by decide):wpAny (model X.prog X.w) X.A (eval (.Name x pos) X.env) Q E s:=by
 obtain ⟨mb,h1,h2⟩:=I.mod.blt
 exact Calls.Name_function_global I.ok.kind hg (Calls.loadGlobal_builtin (by rw [I.ok.glob];exact I.mod.glob.keeps I.bk) hm (by rw [I.ok.blt];exact h1.keeps I.bk) ((h2 x hn).trans hv) h) hd
theorem b5w {x:Str} {v:V} {u:Value} {pos:Pos} (hg:Gl X x) (hm:X.mg x=some u) (r:a0P v u) (hd:(x == ("__debug__":Str))=false:=by decide):PE X (.Name x pos) (tC v):=
 fun _ _ _ H _ I h=>a6U I hg hm ⟨v,H,I,r,h⟩ hd
variable {a b:Expr} {ta tb:TE} {pos:Pos}
def PC (X:Cx) (op:CmpOp) (a b:Expr) (t:TE):Prop:=
 ∀(pins:List (Addr×Obj)) (s:Shared) (σ:St) (H:Hp) (Q:VK),Inv X pins σ H s→t σ H Q→
  wpAny (model X.prog X.w) X.A (eval a X.env) (fun v s₁=>wpAny (model X.prog X.w) X.A (eval b X.env) (fun u s₂=>wpAny (model X.prog X.w) X.A (compareOp op v u) (EP X pins σ Q) X.xe s₂) X.xe s₁) X.xe s
theorem a7T (b:Expr) {op:CmpOp} (h:op≠.In) (h2:op≠.NotIn):behindInMarks op b=false:=by
 have e1:(op == CmpOp.In)=false:=by cases op<;>first | rfl | exact absurd rfl h
 have e2:(op == CmpOp.NotIn)=false:=by cases op<;>first | rfl | exact absurd rfl h2
 cases b<;>simp [behindInMarks,e1,e2]
def tB (t:TE):TT:=fun σ H Q=>t σ H fun x H1=>∃c,x=.bl c∧Q c H1
theorem b9x {op:CmpOp} {t:TE} (h:PC X op a b t) (h1:behindInMarks op b=false:=by first | exact a7T _ (by decide) (by decide) | rfl):PE X (.Compare a [op] [b] pos) t:=fun pins s σ H Q I hw=>wpAny_Compare1 (h pins s σ H Q I hw) h1
theorem c1i {op:CmpOp} {t:TE} (h:PC X op a b t) (h1:behindInMarks op b=false:=by first | exact a7T _ (by decide) (by decide) | rfl):PT X (.Compare a [op] [b] pos) (tB t):=by
 intro pins s σ H Q I hw
 refine wpAny_isTrue_Compare1 (thn (h pins s σ H _ I hw) fun v s1 h1=>thn h1 fun u s2 h2=>thn h2 fun c s3 ⟨x,H1,I1,r1,q1⟩=>?_) h1
 obtain ⟨d,rfl,q⟩:=q1
 cases r1
 exact wpAny_truthy_bool ⟨H1,I1,q⟩
theorem b9a {e:Expr} {t:TE} (h:PE X e t) (he:∀whole,isTrue e X.env whole=(do let v ←whole;standAt e.pos;holding [v] (truthy v)):=by intro _;rfl):PT X e (tB t):=by
 intro pins s σ H Q I hw
 refine isTrue_plain (thn (h pins s σ H _ I hw) fun v s1 ⟨x,H1,I1,r1,q1⟩=>?_) (he _)
 obtain ⟨d,rfl,q⟩:=q1
 cases r1
 exact wpAny_truthy_bool ⟨H1,I1,q⟩
variable {tA tB':TT} {a5Q:List Expr}
def b6m (t u:TT):TT:=fun σ H Q=>t σ H fun c H1=>if c=true then u σ H1 Q else Q false H1
def tOr (t u:TT):TT:=fun σ H Q=>t σ H fun c H1=>if c=true then Q true H1 else u σ H1 Q
def b7F (t:TT):TT:=fun σ H Q=>t σ H fun c H1=>Q (!c) H1
theorem b7f (ha:PT X a tA):PW X (.BoolOp .And [a] pos) tA:=by
 intro wh pins s σ H Q I h
 refine isTrue_and (thn (ha pins s σ H Q I h) fun c s1 e=>?_)
 cases c with
 | true=>exact isTrue_and_nil e
 | false=>exact e
theorem b8x (ha:PT X a tA):PW X (.BoolOp .Or [a] pos) tA:=by
 intro wh pins s σ H Q I h
 refine isTrue_or (thn (ha pins s σ H Q I h) fun c s1 e=>?_)
 cases c with
 | false=>exact isTrue_or_nil e
 | true=>exact e
theorem b8j (ha:PT X a tA) (hb:PW X (.BoolOp .And (b::a5Q) pos) tB'):PW X (.BoolOp .And (a::b::a5Q) pos) (b6m tA tB'):=by
 intro wh pins s σ H Q I h
 refine isTrue_and (thn (ha pins s σ H _ I h) fun c s1 ⟨H1,I1,q1⟩=>?_)
 cases c with
 | true=>exact hb wh pins s1 σ H1 Q I1 q1
 | false=>exact ⟨H1,I1,q1⟩
theorem c2f (ha:PT X a tA) (hb:PW X (.BoolOp .Or (b::a5Q) pos) tB'):PW X (.BoolOp .Or (a::b::a5Q) pos) (tOr tA tB'):=by
 intro wh pins s σ H Q I h
 refine isTrue_or (thn (ha pins s σ H _ I h) fun c s1 ⟨H1,I1,q1⟩=>?_)
 cases c with
 | true=>exact ⟨H1,I1,q1⟩
 | false=>exact hb wh pins s1 σ H1 Q I1 q1
theorem c0O (ha:PT X a tA):PT X (.UnaryOp .Not a pos) (b7F tA):=by
 intro pins s σ H Q I h
 exact isTrue_not (ha pins s σ H (fun c H1=>Q (!c) H1) I h)
def b9E (ta tb:TE):TE:=fun σ H Q=>ta σ H fun x H1=>∃c,x=.bl c∧if c=true then tb σ H1 Q else Q (.bl false) H1
def c5K (ta tb:TE):TE:=fun σ H Q=>ta σ H fun x H1=>∃c,x=.bl c∧if c=true then Q (.bl true) H1 else tb σ H1 Q
def c0f (ta:TE):TE:=fun σ H Q=>ta σ H fun x H1=>∃c,x=.bl c∧Q (.bl (!c)) H1
theorem c0S {op} {t:TE} (h:PE X a t):PE X (.BoolOp op [a] pos) t:=fun pins s σ H Q I hw=>BoolOp_one (h pins s σ H Q I hw)
theorem c0h (ha:PE X a ta) (hb:PE X (.BoolOp .And (b::a5Q) pos) tb):PE X (.BoolOp .And (a::b::a5Q) pos) (b9E ta tb):=by
 intro pins s σ H Q I h
 refine BoolOp_and (thn (ha pins s σ H _ I h) fun v s1 ⟨x,H1,I1,r1,q1⟩=>?_)
 obtain ⟨c,rfl,q1⟩:=q1
 cases r1
 refine wpAny_truthy_bool ?_
 cases c with
 | true=>exact hb pins s1 σ H1 Q I1 q1
 | false=>exact ⟨.bl false,H1,I1,rfl,q1⟩
theorem c2a (ha:PE X a ta) (hb:PE X (.BoolOp .Or (b::a5Q) pos) tb):PE X (.BoolOp .Or (a::b::a5Q) pos) (c5K ta tb):=by
 intro pins s σ H Q I h
 refine BoolOp_or (thn (ha pins s σ H _ I h) fun v s1 ⟨x,H1,I1,r1,q1⟩=>?_)
 obtain ⟨c,rfl,q1⟩:=q1
 cases r1
 refine wpAny_truthy_bool ?_
 cases c with
 | false=>exact hb pins s1 σ H1 Q I1 q1
 | true=>exact ⟨.bl true,H1,I1,rfl,q1⟩
theorem b9V (ha:PE X a ta):PE X (.UnaryOp .Not a pos) (c0f ta):=by
 intro pins s σ H Q I h
 refine UnaryOp_ (thn (ha pins s σ H _ I h) fun v s1 ⟨x,H1,I1,r1,q1⟩=>?_)
 obtain ⟨c,rfl,q1⟩:=q1
 cases r1
 exact not_of (wpAny_truthy_bool ⟨.bl (!c),H1,I1,rfl,q1⟩)
def tIf (t:TT) (ta tb:TE):TE:=fun σ H Q=>t σ H fun c H1=>if c=true then ta σ H1 Q else tb σ H1 Q
theorem b3H {c:Expr} (hc:PT X c tA) (ha:PE X a ta) (hb:PE X b tb):PE X (.IfExp c a b pos) (tIf tA ta tb):=by
 intro pins s σ H Q I h
 refine wpAny_IfExp (thn (hc pins s σ H _ I h) fun d s1 ⟨H1,I1,q1⟩=>?_)
 cases d with
 | true=>exact ha pins s1 σ H1 Q I1 q1
 | false=>exact hb pins s1 σ H1 Q I1 q1
end
end L2
namespace L2
open PySem PySem.Spec PyProof.Rows
def SqL (K:Qd) (H:Hp) (a:Addr) (xs:List V):Prop:=
 Rd H a (.lst xs)∨
  ∃(o:Obj) (its:Array Value) (n:Nat),K.lookup a=some o∧o.cls=.type "list"∧o.dict=none∧o.data=.seq its n∧its.size≤sizeLine∧a0L xs its.toList
def SqT (K:Qd) (H:Hp) (a:Addr) (xs:List V):Prop:=
 Rd H a (.tup xs)∨
  ∃(o:Obj) (its:Array Value) (n:Nat),K.lookup a=some o∧o.cls=.type "tuple"∧o.data=.seq its n∧its.size≤sizeLine∧a0L xs its.toList
def c7I:Value→Option V
 | .none=>some .non
 | .bool b=>some (.bl b)
 | .int i _=>some (.int i)
 | .str x _=>some (.str x)
 | .bytes b _=>some (.byt b)
 | .float b _=>some (.flt b)
 | .ref a=>some (.ref a)
 | .type n=>some (.ty n)
 | _=>none
theorem a0P.abs {x:V} {u:Value} (r:a0P x u):c7I u=some x:=by
 cases x with
 | non=>cases r;rfl
 | bl _=>cases r;rfl
 | int _=>obtain ⟨t,rfl⟩:=r;rfl
 | str _=>obtain ⟨t,rfl⟩:=r;rfl
 | byt _=>obtain ⟨t,rfl⟩:=r;rfl
 | flt _=>obtain ⟨t,rfl⟩:=r;rfl
 | ref _=>cases r;rfl
 | ty _=>cases r;rfl
theorem a0P.inj {x y:V} {u:Value} (r:a0P x u) (q:a0P y u):x=y:=Option.some.inj (r.abs.symm.trans q.abs)
theorem a0L.inj:∀{xs ys:List V} {us:List Value},a0L xs us→a0L ys us→xs=ys
 | _,_,_,.nil,.nil=>rfl
 | _,_,_,.cons r t,.cons r' t'=>by rw [r.inj r',a0L.inj t t']
section
variable {X:Cx} {pins:List (Addr×Obj)} {σ:St} {H:Hp} {s:Shared} {a:Addr} {xs ys:List V}
theorem SqL.of {K:Qd} (h:H a=some (.lst xs)):SqL K H a xs:=.inl (.inl h)
theorem SqT.of {K:Qd} (h:H a=some (.tup xs)):SqT K H a xs:=.inl (.inl h)
theorem Inv.list (I:Inv X pins σ H s) (h:SqL X.K H a xs):∃its:List Value,a0L xs its∧PlainL s.heap a its.toArray∧xs.length≤sizeLine:=by
 rcases h with h | ⟨o,its,n,hk,hc,hd,hs,hz,r⟩
 ·obtain ⟨z,its,n,r,e⟩:=h.ok I.hok
  exact ⟨its,r,⟨_,n,e,rfl,rfl,rfl⟩,z⟩
 ·refine ⟨its.toList,r,⟨o,n,I.kIn a o hk,hc,hd,by simpa using hs⟩,?_⟩
  have e:=r.length
  simp only [Zr] at e
  omega
theorem Inv.tuple (I:Inv X pins σ H s) (h:SqT X.K H a xs):∃its:List Value,a0L xs its∧IsTup s.heap a its.toArray∧xs.length≤sizeLine:=by
 rcases h with h | ⟨o,its,n,hk,hc,hs,hz,r⟩
 ·obtain ⟨z,its,r,p⟩:=h.ok I.hok
  exact ⟨its,r,p,z⟩
 ·refine ⟨its.toList,r,⟨o,I.kIn a o hk,hc,n,by simpa using hs⟩,?_⟩
  have e:=r.length
  simp only [Zr] at e
  omega
theorem Inv.list_inj (I:Inv X pins σ H s) (h:SqL X.K H a xs) (h':SqL X.K H a ys):xs=ys:=by
 obtain ⟨its,r,⟨o,n,e,_,_,d⟩,_⟩:=I.list h
 obtain ⟨its',r',⟨o',n',e',_,_,d'⟩,_⟩:=I.list h'
 rw [e] at e';cases e'
 rw [d] at d'
 injection d' with d1 _
 have:its=its':=by simpa using congrArg Array.toList d1
 subst this
 exact r.inj r'
theorem Inv.tuple_inj (I:Inv X pins σ H s) (h:SqT X.K H a xs) (h':SqT X.K H a ys):xs=ys:=by
 obtain ⟨its,r,⟨o,e,_,n,d⟩,_⟩:=I.tuple h
 obtain ⟨its',r',⟨o',e',_,n',d'⟩,_⟩:=I.tuple h'
 rw [e] at e';cases e'
 rw [d] at d'
 injection d' with d1 _
 have:its=its':=by simpa using congrArg Array.toList d1
 subst this
 exact r.inj r'
end
abbrev Cx.wish (X:Cx) (E:Value→Shared→Prop):Cx:={X with xe:=E}
abbrev Cx.nox (X:Cx):Cx:=X.wish fun _ _=>False
theorem Cx.Ok.wish {X:Cx} (ok:X.Ok) (E:Value→Shared→Prop):(X.wish E).Ok:=
 ⟨ok.mod,ok.kind,ok.glob,ok.blt,ok.above,ok.inj,ok.has,ok.cab,ok.hd,ok.frames,ok.stk,ok.exf,ok.bs,ok.bsz,ok.noex,ok.exfs,ok.funs,ok.frf⟩
theorem Cx.Ok.unwish {X:Cx} {E:Value→Shared→Prop} (ok:(X.wish E).Ok):X.Ok:=
 ⟨ok.mod,ok.kind,ok.glob,ok.blt,ok.above,ok.inj,ok.has,ok.cab,ok.hd,ok.frames,ok.stk,ok.exf,ok.bs,ok.bsz,ok.noex,ok.exfs,ok.funs,ok.frf⟩
section
variable {X:Cx} {pins:List (Addr×Obj)} {σ:St} {H:Hp} {s:Shared} {E:Value→Shared→Prop}
theorem Inv.wish (I:Inv X pins σ H s) (E:Value→Shared→Prop):Inv (X.wish E) pins σ H s:=⟨I.ok.wish E,I.os,I.bare,I.base,I.loc,I.cell,I.free,I.freeC,I.pin,I.hok,I.len⟩
theorem Inv.unwish (I:Inv (X.wish E) pins σ H s):Inv X pins σ H s:=⟨I.ok.unwish,I.os,I.bare,I.base,I.loc,I.cell,I.free,I.freeC,I.pin,I.hok,I.len⟩
theorem SP.unwish {D:a8Y} {f:Flow} {s':Shared} (h:SP (X.wish E) pins D f s'):SP X pins D f s':=by
 cases f with
 | next=>obtain ⟨σ',H',I,q⟩:=h;exact ⟨σ',H',I.unwish,q⟩
 | brk=>obtain ⟨σ',H',I,q⟩:=h;exact ⟨σ',H',I.unwish,q⟩
 | cont=>obtain ⟨σ',H',I,q⟩:=h;exact ⟨σ',H',I.unwish,q⟩
 | ret u=>obtain ⟨v,σ',H',I,r,q⟩:=h;exact ⟨v,σ',H',I.unwish,r,q⟩
theorem PSs.nox {st:List Stmt} {t:TS} (h:PSs X.nox st t):PSs X st t:=fun pins s σ H D I hw=>
 wpAny_mono (h pins s σ H D (I.wish _) hw) (fun _ _ q=>q.unwish) fun _ _ z=>False.elim z
end
section
variable {X:Cx} {st:Stmt} {a5Q:List Stmt} {t u:TS} {e:Expr} {te:TE} {pos:Pos}
def a1r:TS:=fun D σ H=>D.nx σ H
def a1q (t u:TS):TS:=fun D σ H=>t {D with nx:=u D} σ H
theorem b7d:PSs X [] a1r:=fun _ _ σ H _ I h=>wpAny_execs_nil ⟨σ,H,I,h⟩
theorem b3c (h1:PS X st t) (h2:PSs X a5Q u):PSs X (st::a5Q) (a1q t u):=by
 intro pins s σ H D I h
 refine wpAny_execs_cons (thn (h1 pins s σ H {D with nx:=u D} I h) fun f s1 q=>?_)
 cases f with
 | next=>
  obtain ⟨σ',H',I',q⟩:=q
  exact h2 pins s1 σ' H' D I' q
 | ret v=>exact q
 | brk=>exact q
 | cont=>exact q
theorem b6P (h1:PS X st t):PSs X [st] t:=by
 intro pins s σ H D I h
 refine wpAny_execs_cons (thn (h1 pins s σ H D I h) fun f s1 q=>?_)
 cases f with
 | next=>exact wpAny_execs_nil q
 | ret v=>exact q
 | brk=>exact q
 | cont=>exact q
theorem Inv.quiet {pins:List (Addr×Obj)} {σ:St} {H:Hp} {s:Shared} (I:Inv X pins σ H s):interactive X.env=false:=by simp [interactive,I.ok.kind]
def a4r (te:TE):TS:=fun D σ H=>te σ H fun _ H1=>D.nx σ H1
theorem b6v (he:PE X e te) (hs:swapsWith e none pos.line X.env=pure false:=by rfl):PS X (.Expr e pos) (a4r te):=by
 intro pins s σ H D I h
 exact wpAny_Expr_any (thn (he pins s σ H _ I h) fun v s1 ⟨x,H1,I1,r1,q1⟩=>⟨σ,H1,I1,q1⟩) I.quiet hs
def a1e (te:TE):TS:=fun D σ H=>te σ H D.rt
theorem b8c (he:PE X e te):PS X (.Return (some e) pos) (a1e te):=by
 intro pins s σ H D I h
 exact wpAny_Return_some (thn (he pins s σ H _ I h) fun v s1 ⟨x,H1,I1,r1,q1⟩=>⟨x,σ,H1,I1,r1,q1⟩)
def a3m (c:TT) (t u:TS):TS:=fun D σ H=>c σ H fun b H1=>if b=true then t D σ H1 else u D σ H1
theorem c1L {c:Expr} {a b:List Stmt} {tc:TT} (hc:PT X c tc) (ha:PSs X a t) (hb:PSs X b u):PS X (.If c a b pos) (a3m tc t u):=by
 intro pins s σ H D I h
 refine wpAny_If (thn (hc pins s σ H _ I h) fun d s1 ⟨H1,I1,q1⟩=>?_)
 cases d with
 | true=>exact ha pins s1 σ H1 D I1 q1
 | false=>exact hb pins s1 σ H1 D I1 q1
end
abbrev TG:=V→St→Hp→(St→Hp→Prop)→Prop
abbrev TGs:=List V→St→Hp→(St→Hp→Prop)→Prop
def PG (X:Cx) (target:Expr) (t:TG):Prop:=
 ∀(pins:List (Addr×Obj)) (s:Shared) (σ:St) (H:Hp) (v:V) (u:Value) (Q:St→Hp→Prop),Inv X pins σ H s→a0P v u→t v σ H Q→
  wpAny (model X.prog X.w) X.A (assign target X.env u) (fun _ s'=>∃σ' H',Inv X pins σ' H' s'∧Q σ' H') X.xe s
def PGs (X:Cx) (ts:List Expr) (t:TGs):Prop:=
 ∀(pins:List (Addr×Obj)) (s:Shared) (σ:St) (H:Hp) (vs:List V) (us:List Value) (Q:St→Hp→Prop),Inv X pins σ H s→a0L vs us→t vs σ H Q→
  wpAny (model X.prog X.w) X.A (assignInOrder ((assignEach ts X.env).map (·.2)) us) (fun _ s'=>∃σ' H',Inv X pins σ' H' s'∧Q σ' H') X.xe s
abbrev TIp:=V→V→Hp→VK→Prop
def PIp (X:Cx) (op:Operator) (t:TIp):Prop:=
 ∀(pins:List (Addr×Obj)) (s:Shared) (σ:St) (H:Hp) (x y:V) (v u:Value) (Q:VK),Inv X pins σ H s→a0P x v→a0P y u→t x y H Q→
  wpAny (model X.prog X.w) X.A (inplaceOp op v u) (EP X pins σ Q) X.xe s
section
variable {X:Cx} {pos:Pos}
def a0l (i:Nat):TG:=fun v σ H Q=>Q (σ.set i (some v)) H
theorem b5r {i:Nat} {x:Str} (hN:X.N.Nodup) (hi:X.N[i]?=some x) (hx:Loc X.env.scope x) (hf:X.fn x=true∨X.env.scope.names.lookup x=some .local:=by first | exact .inl rfl | exact .inr rfl | assumption):PG X (.Name x pos) (a0l i):=by
 intro pins s σ H v u Q I r h
 exact wpAny_assign_Name (a5u I hN hi hx r (fun s' I'=>⟨_,H,I',h⟩) hf)
def c1A:TGs:=fun vs σ H Q=>vs=[]∧Q σ H
def a9S (t:TG) (u:TGs):TGs:=fun vs σ H Q=>∃v r,vs=v::r∧t v σ H fun σ' H'=>u r σ' H' Q
theorem b7z:PGs X [] c1A:=by
 intro pins s σ H vs us Q I r h
 obtain ⟨e,h⟩:=h
 subst e
 cases r
 exact assignInOrder_nil ⟨σ,H,I,h⟩
theorem b4d {e:Expr} {es:List Expr} {t:TG} {u:TGs} (h1:PG X e t) (h2:PGs X es u)
  (hs:(assignEach (e::es) X.env).map (·.2)=assign e X.env::(assignEach es X.env).map (·.2):=by rfl):PGs X (e::es) (a9S t u):=by
 intro pins s σ H vs us Q I r h
 obtain ⟨v,vr,e1,h⟩:=h
 subst e1
 cases r with
 | cons r rr=>
  rw [hs]
  refine assignInOrder_cons (thn (h1 pins s σ H _ _ _ I r h) fun _ s1 ⟨σ1,H1,I1,q1⟩=>?_)
  exact h2 pins s1 σ1 H1 _ _ Q I1 rr q1
def c1c (K:Qd) (n:Nat) (t:TGs):TG:=fun v σ H Q=>∃a xs,v=.ref a∧SqT K H a xs∧xs.length=n∧t xs σ H Q
theorem b4w {es:List Expr} {k:Nat} {t:TGs} {n:Nat} (hc:X.calm=true) (h:PGs X es t)
  (hn:(assignEach es X.env).length=n:=by rfl) (hst:(assignEach es X.env).findIdx? (·.1)=none:=by rfl):PG X (.Tuple es k pos) (c1c X.K n t):=by
 intro pins s σ H v u Q I r hw
 obtain ⟨a,xs,e1,hq,hl,hw⟩:=hw
 subst e1
 cases r
 obtain ⟨its,rv,ht,hz⟩:=I.tuple hq
 refine assign_Tuple_tuple (I.ok.hd hc) ht (by simp [hn,←hl,rv.length]) hst fun h' hx=>?_
 have I1:Inv X pins σ H {s with heap:=h'}:=I.kept (t':=s.toks) fun b o e=>hx b o (Xb (Qu e)) e
 exact h pins _ σ H xs _ Q I1 (by simpa using rv) hw
def a1S (te:TE) (g:TG):TS:=fun D σ H=>te σ H fun x H1=>g x σ H1 D.nx
theorem c0Q {tg e:Expr} {te:TE} {g:TG} (he:PE X e te) (hg:PG X tg g) (hs:swapsWithSole [tg] e pos.line X.env=pure false:=by rfl) (hw:swappedStores [tg] e X.env=pure none:=by rfl)
  (h1:(assignEach [tg] X.env).map (·.2)=[assign tg X.env]:=by rfl):PS X (.Assign [tg] e pos) (a1S te g):=by
 intro pins s σ H D I h
 refine wpAny_Assign_stores (thn (he pins s σ H _ I h) fun v s1 ⟨x,H1,I1,r1,q1⟩=>?_) hs hw
 rw [h1]
 exact thn (hg pins s1 σ H1 x v _ I1 r1 q1) fun _ s2 q=>q
theorem c0M {i:Nat} {x:Str} {e:Expr} {te:TE} {pos':Pos} (hN:X.N.Nodup) (hi:X.N[i]?=some x) (hx:Loc X.env.scope x) (he:PE X e te) (hs:swapsWith e (some (.Name x pos')) pos.line X.env=pure false:=by rfl) (hf:X.fn x=true∨X.env.scope.names.lookup x=some .local:=by first | exact .inl rfl | exact .inr rfl | assumption):
  PS X (.Assign [.Name x pos'] e pos) (a1S te (a0l i)):=by
 intro pins s σ H D I h
 refine wpAny_Assign_Name (thn (he pins s σ H _ I h) fun v s1 ⟨y,H1,I1,r1,q1⟩=>?_) hs
 exact a5u I1 hN hi hx r1 (fun s2 I2=>⟨_,H1,I2,q1⟩) hf
def c4N (i:Nat) (te:TE) (ti:TIp):TS:=fun D σ H=>∃x,σ[i]?=some (some x)∧te σ H fun y H1=>ti x y H1 fun z H2=>D.nx (σ.set i (some z)) H2
theorem b9g {i:Nat} {x:Str} {e:Expr} {te:TE} {op:Operator} {ti:TIp} {pos':Pos} (hN:X.N.Nodup) (hi:X.N[i]?=some x) (hx:Loc X.env.scope x) (he:PE X e te) (ho:PIp X op ti) (hf:X.fn x=true∨X.env.scope.names.lookup x=some .local:=by first | exact .inl rfl | exact .inr rfl | assumption):
  PS X (.AugAssign (.Name x pos') op e pos) (c4N i te ti):=by
 intro pins s σ H D I h
 obtain ⟨v,e1,h⟩:=h
 obtain ⟨m,hn,hl⟩:=I.loc
 have vis:Vis X.env.scope x:=by rcases hx with k | k;exact .inl k;exact .inr (.inl k)
 obtain ⟨u,r,l⟩:=hl i x v hi e1 vis
 refine wpAny_AugAssign_Name ?_
 have go:wpAny (model X.prog X.w) X.A (eval e X.env) (fun w s₂=>wpAny (model X.prog X.w) X.A (inplaceOp op u w) (fun r s₃=>wpAny (model X.prog X.w) X.A (storeName X.env x r) (fun _=>SP X pins D .next) X.xe s₃) X.xe s₂) X.xe s:=by
  refine thn (he pins s σ H _ I h) fun w s1 ⟨y,H1,I1,r1,q1⟩=>?_
  refine thn (ho pins s1 σ H1 v y u w _ I1 r r1 q1) fun z s2 ⟨zv,H2,I2,r2,q2⟩=>?_
  exact a5u I2 hN hi hx r2 (fun s3 I3=>⟨_,H2,I3,q2⟩) hf
 rcases l with ⟨hk,hm⟩ | ⟨hk,c,hc,hcell⟩
 ·exact wpAny_loadName_local I.ok.kind hk hn hm go
 ·rcases hk with hk | hk
  ·exact wpAny_loadName_cell I.ok.kind hk hc hcell go
  ·rcases hx with k | k
   ·have:X.env.scope.names.lookup x=some .free:=hk
    rw [k] at this;cases this
   ·have:X.env.scope.names.lookup x=some .free:=hk
    rw [k] at this;cases this
def ipI (f:Int→Int→Int):TIp:=fun x y H Q=>∃i j,x=.int i∧y=.int j∧Q (.int (f i j)) H
theorem c1k:PIp X .Add (ipI fun i j=>i+j):=by
 intro pins s σ H x y v u Q I r1 r2 h
 obtain ⟨i,j,e1,e2,q⟩:=h
 subst e1;subst e2
 obtain ⟨t,rfl⟩:=r1
 obtain ⟨t',rfl⟩:=r2
 exact iadd_int ⟨.int _,H,I.tok _,⟨_,rfl⟩,q⟩
end
section
variable {X:Cx} {pos:Pos}
def b5d (c:TT) (tb:TS):TS:=fun D σ H=>∃W:Nat→St→Hp→Prop,(∃m,W m σ H)∧∀m σ H,W m σ H→
 c σ H fun b H1=>if b=true then ∃N:St→Hp→Prop,(∀σ' H',N σ' H'→∃m',m' < m∧W m' σ' H')∧tb {D with nx:=N,ct:=N,bk:=D.nx} σ H1 else D.nx σ H1
theorem b3Z {c:Expr} {body:List Stmt} {tc:TT} {tb:TS} (hp:PassesOwn (model X.prog X.w) X.A X.env X.xe) (hc:PT X c tc) (hb:PSs X body tb):PS X (.While c body [] pos) (b5d tc tb):=by
 intro pins s σ H D I h
 obtain ⟨W,⟨m0,w0⟩,turn⟩:=h
 refine wpAny_While (codeAny_whileLoop (fun n s'=>∃σ' H',Inv X pins σ' H' s'∧W n σ' H') ?_ m0 ⟨σ,H,I,w0⟩)
 rintro n s1 ⟨σ1,H1,I1,w1⟩
 refine wpAny_passesOwn hp (thn (hc pins s1 σ1 H1 _ I1 (turn n σ1 H1 w1)) fun b s2 ⟨H2,I2,q2⟩=>?_)
 cases b with
 | true=>
  obtain ⟨N,hN,q2⟩:=q2
  rw [if_pos rfl]
  refine wpAny_passesOwn hp (thn (hb pins s2 σ1 H2 _ I2 q2) fun f s3 q3=>?_)
  cases f with
  | next=>
   obtain ⟨σ3,H3,I3,n3⟩:=q3
   obtain ⟨m',hm,w3⟩:=hN σ3 H3 n3
   exact ⟨m',hm,σ3,H3,I3,w3⟩
  | cont=>
   obtain ⟨σ3,H3,I3,n3⟩:=q3
   obtain ⟨m',hm,w3⟩:=hN σ3 H3 n3
   exact ⟨m',hm,σ3,H3,I3,w3⟩
  | brk=>exact q3
  | ret v=>exact q3
 | false=>
  rw [if_neg Qo]
  exact wpAny_execs_nil ⟨σ1,H2,I2,q2⟩
end
structure It where
 go:Nat→Hp→Prop
 yld:Nat→Hp→V→Hp→Prop
 stop:Nat→Hp→Prop
def a9d (X:Cx) (pins:List (Addr×Obj)) (H:Hp) (b:Addr):Prop:=
 H b=none∧b≠X.env.locals∧b∉X.fs∧(b∈X.ex∨X.s₀.heap.objs.size≤b)∧(∀x c,X.env.cells.lookup x=some c→c≠b)∧∀p∈X.pn++pins,p.1≠b
theorem Inv.fpOk {X:Cx} {pins:List (Addr×Obj)} {σ:St} {H H':Hp} {s:Shared} {b:Addr} (I:Inv X pins σ H s) (hb:s.heap.objs.size≤b) (hn:H' b=none):a9d X pins H' b:=by
 refine ⟨hn,Jo (Xj I.lt hb),I.nofs hb,.inr (Qi I.sz hb),fun x c e z=>?_,fun p hp z=>?_⟩
 ·obtain ⟨v,q⟩:=I.cell x c e
  exact absurd (Xj q.lt (by rw [z];exact hb)) (Zq _)
 ·exact absurd (Xj (Qu (I.pin p hp).1) (by rw [z];exact hb)) (Zq _)
structure b6u (P:Program) (w:World) (K:Qd) (tg:Expr) (J:It) (fp:List Addr) (it:Addr) (tn:Nat→Heap→Prop):Prop where
 mem:it∈fp
 obj:∀i h,tn i h→∀b∈fp,∃o,h.get? b=some o∧∀v,o.data≠.cell v
 keep:∀i h h',tn i h→(∀b∈fp,∀o,h.get? b=some o→h'.get? b=some o)→tn i h'
 item:∀(X:Cx),X.prog=P→X.w=w→X.K=K→X.calm=true→∀(i:Nat) (pins:List (Addr×Obj)) (s:Shared) (σ:St) (H:Hp) (E:Value→Shared→Prop),Inv X pins σ H s→(∀b∈fp,a9d X pins H b)→tn i s.heap→J.go i H→
  wpAny (model P w) X.A (pyNext (.ref it)) (fun r s1=>∃u,r=some u∧
   wpAny (model P w) X.A (letOwnedTupleGo tg (.ref it) u) (fun _ s2=>∃x H',Inv X pins σ H' s2∧a0P x u∧J.yld i H x H'∧tn (i+1) s2.heap∧∀b∈fp,H' b=none) E s1) E s
 done:∀(X:Cx),X.prog=P→X.w=w→X.K=K→X.calm=true→∀(i:Nat) (pins:List (Addr×Obj)) (s:Shared) (σ:St) (H:Hp) (E:Value→Shared→Prop),Inv X pins σ H s→(∀b∈fp,a9d X pins H b)→tn i s.heap→J.stop i H→
  wpAny (model P w) X.A (pyNext (.ref it)) (fun r s1=>r=none∧Inv X pins σ H s1) E s
 self:∀(A:Around) (i:Nat) (s:Shared) (Q:Value→Shared→Prop) (E:Value→Shared→Prop),tn i s.heap→Q (.ref it) s→wpAny (model P w) A (pyIter (.ref it)) Q E s
abbrev TI:=St→Hp→(It→Hp→Prop)→Prop
def PIE (X:Cx) (pins:List (Addr×Obj)) (σ:St) (tg:Expr) (R:It→Hp→Prop) (itv:Value) (s2:Shared):Prop:=
 ∃(it:Addr) (fp:List Addr) (tn:Nat→Heap→Prop) (J:It) (H':Hp),itv=.ref it∧Inv X pins σ H' s2∧b6u X.prog X.w X.K tg J fp it tn∧tn 0 s2.heap∧(∀b∈fp,a9d X pins H' b)∧R J H'
def PI (X:Cx) (tg iter:Expr) (wi:TI):Prop:=
 ∀(pins:List (Addr×Obj)) (s:Shared) (σ:St) (H:Hp) (R:It→Hp→Prop),Inv X pins σ H s→wi σ H R→
  wpAny (model X.prog X.w) X.A (eval iter X.env) (fun v s1=>wpAny (model X.prog X.w) X.A (pyIter v) (PIE X pins σ tg R) X.xe s1) X.xe s
theorem b3t {M:Model} {A:Around} {E:Value→Shared→Prop} {s:Shared} {tg:Expr} {it:Addr} {u:Value} {o:Obj} {n:String} {vs:Array Value} {Q:Unit→Shared→Prop} (ho:s.heap.get? it=some o) (hc:o.cls=.type n) (hd:o.data=.fields vs)
  (hn:["enumerate","zip","dict_itemiterator","dict_reverseitemiterator","odict_iterator","itertools.zip_longest","itertools.pairwise"].contains n=false) (hQ:Q () s):wpAny M A (letOwnedTupleGo tg (.ref it) u) Q E s:=by
 unfold letOwnedTupleGo
 cases tg<;>first
  | exact wpAny_pure hQ
  | (cases u<;>first
    | exact wpAny_pure hQ
    | (refine wpAny_bind (wpAny_load ho ?_);rw [hc,hd];show wpAny M A (if (["enumerate","zip","dict_itemiterator","dict_reverseitemiterator","odict_iterator","itertools.zip_longest","itertools.pairwise"].contains n && vs[0]? == some (rawInt _))=true then _ else _) Q E s;rw [if_neg (by intro h;rw [hn,Zt] at h;cases h)];exact wpAny_pure hQ))
def Itl (K:Qd) (a:Addr):It:=
 ⟨fun i H=>∃xs x,SqL K H a xs∧xs[i]?=some x,fun i H x H'=>H'=H∧∀xs,SqL K H a xs→xs[i]?=some x,fun i H=>∃xs,SqL K H a xs∧xs.length≤i⟩
def Itt (K:Qd) (a:Addr):It:=
 ⟨fun i H=>∃xs x,SqT K H a xs∧xs[i]?=some x,fun i H x H'=>H'=H∧∀xs,SqT K H a xs→xs[i]?=some x,fun i H=>∃xs,SqT K H a xs∧xs.length≤i⟩
def Itr (lo:Int) (n:Nat):It:=⟨fun i _=>i < n,fun i H x H'=>H'=H∧x=.int (lo+i),fun i _=>n≤i⟩
theorem b0O {P:Program} {w:World} {K:Qd} {tg:Expr} (a it:Addr):b6u P w K tg (Itl K a) [it] it (fun i h=>h.IsListIter it a i) where
 mem:=by simp
 obj:=fun i h st b hb=>by
  have e:b=it:=by simpa using hb
  subst e
  obtain ⟨o,e,c,d⟩:=st
  exact ⟨o,e,fun v z=>by rw [d] at z;cases z⟩
 keep:=fun i h h' st k=>st.at fun o e=>k it (by simp) o e
 item:=by
  intro X hP hw hK hc i pins s σ H E I hf st hg
  subst hP hw hK
  obtain ⟨xs,x,hq,hx⟩:=hg
  obtain ⟨its,rv,p,hz⟩:=I.list hq
  obtain ⟨u,hu,ru⟩:=rv.get hx
  obtain ⟨f0,f1,f2,f3,f4,f5⟩:=hf it (by simp)
  refine wpAny_pyNext_list_item st p.isList (x:=u) (by simpa using hu) fun h' st' sb=>?_
  have I1:Inv X pins σ H {s with heap:=h'}:=I.turned (t':=s.toks) (fun b o hb e=>(sb.2 b hb).trans e) f0 f1 f3 f4 f5
  obtain ⟨o,e,c,d⟩:=id st'
  exact ⟨u,rfl,b3t (s:={s with heap:=h'}) e c d (by decide) ⟨x,H,I1,ru,⟨rfl,fun ys hy=>by rw [I.list_inj hy hq];exact hx⟩,st',fun b hb=>(hf b hb).1⟩⟩
 done:=by
  intro X hP hw hK hc i pins s σ H E I hf st hg
  subst hP hw hK
  obtain ⟨xs,hq,hx⟩:=hg
  obtain ⟨its,rv,p,hz⟩:=I.list hq
  obtain ⟨f0,f1,f2,f3,f4,f5⟩:=hf it (by simp)
  have hl:=rv.length
  exact wpAny_pyNext_list_end (I.ok.hd hc) st p.isList (by simp;omega) fun h' eb=>⟨rfl,I.turned (t':=s.toks) (fun b o hb e=>eb b o hb e) f0 f1 f3 f4 f5⟩
 self:=fun _ _ _ _ _ st h=>wpAny_pyIter_listiter st h
theorem a9k {P:Program} {w:World} {K:Qd} {tg:Expr} (a it:Addr):b6u P w K tg (Itt K a) [it] it (fun i h=>h.IsTupleIter it a i) where
 mem:=by simp
 obj:=fun i h st b hb=>by
  have e:b=it:=by simpa using hb
  subst e
  obtain ⟨o,e,c,d⟩:=st
  exact ⟨o,e,fun v z=>by rw [d] at z;cases z⟩
 keep:=fun i h h' st k=>st.at fun o e=>k it (by simp) o e
 item:=by
  intro X hP hw hK hc i pins s σ H E I hf st hg
  subst hP hw hK
  obtain ⟨xs,x,hq,hx⟩:=hg
  obtain ⟨its,rv,p,hz⟩:=I.tuple hq
  obtain ⟨u,hu,ru⟩:=rv.get hx
  obtain ⟨f0,f1,f2,f3,f4,f5⟩:=hf it (by simp)
  refine wpAny_pyNext_tuple_item st (show s.heap.IsTuple a its.toArray from p) (x:=u) (by simpa using hu) fun h' st' sb=>?_
  have I1:Inv X pins σ H {s with heap:=h'}:=I.turned (t':=s.toks) (fun b o hb e=>(sb.2 b hb).trans e) f0 f1 f3 f4 f5
  obtain ⟨o,e,c,d⟩:=id st'
  exact ⟨u,rfl,b3t (s:={s with heap:=h'}) e c d (by decide) ⟨x,H,I1,ru,⟨rfl,fun ys hy=>by rw [I.tuple_inj hy hq];exact hx⟩,st',fun b hb=>(hf b hb).1⟩⟩
 done:=by
  intro X hP hw hK hc i pins s σ H E I hf st hg
  subst hP hw hK
  obtain ⟨xs,hq,hx⟩:=hg
  obtain ⟨its,rv,p,hz⟩:=I.tuple hq
  obtain ⟨f0,f1,f2,f3,f4,f5⟩:=hf it (by simp)
  have hl:=rv.length
  exact wpAny_pyNext_tuple_end (I.ok.hd hc) st (show s.heap.IsTuple a its.toArray from p) (by simp;omega) fun h' eb=>⟨rfl,I.turned (t':=s.toks) (fun b o hb e=>eb b o hb e) f0 f1 f3 f4 f5⟩
 self:=fun _ _ _ _ _ st h=>wpAny_pyIter_tupleiter st h
theorem a8B {P:Program} {w:World} {K:Qd} {tg:Expr} (it:Addr) (lo:Int) (n:Nat):b6u P w K tg (Itr lo n) [it] it (fun i h=>IsRangeIter h it (lo+(i:Nat) * 1) ((n:Int) - (i:Nat)) 1) where
 mem:=by simp
 obj:=fun i h st b hb=>by
  have e:b=it:=by simpa using hb
  subst e
  exact ⟨_,st,fun v z=>by
   have z':Data.fields _=Data.cell v:=z
   cases z'⟩
 keep:=fun i h h' st k=>k it (by simp) _ st
 item:=by
  intro X hP hw hK hc i pins s σ H E I hf st hg
  subst hP hw hK
  obtain ⟨f0,f1,f2,f3,f4,f5⟩:=hf it (by simp)
  have W:=Walks.range (prog:=X.prog) (w:=X.w) (I.ok.hd hc) it lo 1 n
  refine W.item i s _ _ hg st fun v h' tk hv st' kk=>?_
  obtain ⟨t,rfl⟩:=hv
  have I1:Inv X pins σ H {s with heap:=h',toks:=tk}:=I.turned (fun b o hb e=>kk b o (by simpa using hb) e) f0 f1 f3 f4 f5
  refine ⟨_,rfl,b3t (s:={s with heap:=h',toks:=tk}) (n:="range_iterator") st' rfl rfl (by decide) ⟨.int (lo+i),H,I1,⟨t,?_⟩,⟨rfl,rfl⟩,st',fun b hb=>(hf b hb).1⟩⟩
  rw [Int.mul_one]
 done:=by
  intro X hP hw hK hc i pins s σ H E I hf st hg
  subst hP hw hK
  obtain ⟨f0,f1,f2,f3,f4,f5⟩:=hf it (by simp)
  exact wpAny_pyNext_range_end (I.ok.hd hc) st (by have:n≤i:=hg;omega) fun h' eb=>⟨rfl,I.turned (t':=s.toks) (fun b o hb e=>eb b o hb e) f0 f1 f3 f4 f5⟩
 self:=fun _ _ _ _ _ st h=>wpAny_pyIter_rangeiter st h
end L2
namespace L2
open PySem PySem.Spec PyProof.Rows
section
variable {X:Cx} {tg:Expr}
def a1E (K:Qd) (tl:TE):TI:=fun σ H R=>tl σ H fun x H1=>∃a,x=.ref a∧(∃xs,SqL K H1 a xs)∧R (Itl K a) H1
def b2C (K:Qd) (tl:TE):TI:=fun σ H R=>tl σ H fun x H1=>∃a,x=.ref a∧(∃xs,SqT K H1 a xs)∧R (Itt K a) H1
theorem b5F {l:Expr} {tl:TE} (hl:PE X l tl):PI X tg l (a1E X.K tl):=by
 intro pins s σ H R I h
 refine thn (hl pins s σ H _ I h) fun v s1 ⟨x,H1,I1,r1,q1⟩=>?_
 obtain ⟨a,e,⟨xs,hq⟩,q⟩:=q1
 subst e
 cases r1
 obtain ⟨its,rv,p,hz⟩:=I1.list hq
 refine wpAny_pyIter_list p.isList ?_
 refine ⟨s1.heap.objs.size,[s1.heap.objs.size],_,_,H1,rfl,I1.kept (t':=s1.toks) fun b o e=>Ql _ e,b0O a _,⟨_,Xf _ rfl,rfl,rfl⟩,fun b hb=>?_,q⟩
 have e:b=s1.heap.objs.size:=by simpa using hb
 subst e
 exact I1.fpOk (Qk _) (I1.hok.fresh (Qk _))
theorem c1h {l:Expr} {tl:TE} (hl:PE X l tl):PI X tg l (b2C X.K tl):=by
 intro pins s σ H R I h
 refine thn (hl pins s σ H _ I h) fun v s1 ⟨x,H1,I1,r1,q1⟩=>?_
 obtain ⟨a,e,⟨xs,hq⟩,q⟩:=q1
 subst e
 cases r1
 obtain ⟨its,rv,p,hz⟩:=I1.tuple hq
 refine wpAny_pyIter_tuple (show s1.heap.IsTuple a its.toArray from p) ?_
 refine ⟨s1.heap.objs.size,[s1.heap.objs.size],_,_,H1,rfl,I1.kept (t':=s1.toks) fun b o e=>Ql _ e,a9k a _,⟨_,Xf _ rfl,rfl,rfl⟩,fun b hb=>?_,q⟩
 have e:b=s1.heap.objs.size:=by simpa using hb
 subst e
 exact I1.fpOk (Qk _) (I1.hok.fresh (Qk _))
theorem a8u {pins:List (Addr×Obj)} {σ:St} {H:Hp} {s:Shared} {R:It→Hp→Prop} {E:Value→Shared→Prop} {lo hi:Int} {t u v:Tok} {tk:Nat} (I:Inv X pins σ H s) (h1:-(2 ^ 62)≤lo) (h2:lo < 2 ^ 62) (h3:-(2 ^ 62)≤hi) (h4:hi < 2 ^ 62)
  (q:R (Itr lo (hi - lo).toNat) H):wpAny (model X.prog X.w) X.A (pyIter (.ref s.heap.objs.size)) (PIE X pins σ tg R) E {s with heap:=s.heap.push {cls:=.type "range",data:=.fields #[.int lo t,.int hi u,.int 1 v]},toks:=tk}:=by
 refine wpAny_pyIter_range (IsRange.new ..) (small_one h1 h2 h3 h4) ?_
 have I1:Inv X pins σ H {s with heap:=s.heap.push {cls:=.type "range",data:=.fields #[.int lo t,.int hi u,.int 1 v]},toks:=tk}:=I.kept fun b o e=>Ql _ e
 refine ⟨(s.heap.push {cls:=.type "range",data:=.fields #[.int lo t,.int hi u,.int 1 v]}).objs.size,[(s.heap.push {cls:=.type "range",data:=.fields #[.int lo t,.int hi u,.int 1 v]}).objs.size],_,_,H,rfl,
  I1.kept (t':=tk) fun b o e=>Ql _ e,a8B _ lo (hi - lo).toNat,?_,fun b hb=>?_,q⟩
 ·have e1:lo+((0:Nat):Int) * 1=lo:=by simp
  have e2:(((hi - lo).toNat:Nat):Int) - ((0:Nat):Int)=Builtin.Range.rangeSize lo hi 1:=by rw [rangeSize_one];split<;>omega
  show IsRangeIter _ _ (lo+((0:Nat):Int) * 1) ((((hi - lo).toNat:Nat):Int) - ((0:Nat):Int)) 1
  rw [e1,e2]
  exact Xf _ rfl
 ·have e:b=(s.heap.push {cls:=.type "range",data:=.fields #[.int lo t,.int hi u,.int 1 v]}).objs.size:=by simpa using hb
  subst e
  exact I1.fpOk (Qk _) (I1.hok.fresh (Qk _))
def a5M (ta:TA):TI:=fun σ H R=>ta σ H fun vs H1=>∃j:Int,vs=[.int j]∧-(2 ^ 62)≤j∧j < 2 ^ 62∧R (Itr 0 j.toNat) H1
def b7K (ta:TA):TI:=fun σ H R=>ta σ H fun vs H1=>∃i j:Int,vs=[.int i,.int j]∧(-(2 ^ 62)≤i∧i < 2 ^ 62∧-(2 ^ 62)≤j∧j < 2 ^ 62)∧R (Itr i (j - i).toNat) H1
theorem b0c {a:Expr} {ta:TA} {p pos:Pos} (hg:Gl X "range") (hm:X.mg "range"=none) (ha:PA X [a] ta) (hs:starEach [a] X.env=[(false,eval a X.env)]:=by rfl):PI X tg (.Call (.Name "range" p) [a] [] pos) (a5M ta):=by
 intro pins s σ H R I h
 refine Call_ (a3v I hg hm boot_range (PyProof.Rows.callWith_type1 (thn (ha pos pins s σ H _ I h) fun us s1 ⟨vs,H1,I1,r1,q1⟩=>?_) hs rfl))
 obtain ⟨j,e,q1,q2,q⟩:=q1
 subst e
 cases r1 with
 | cons r rr=>
  cases rr
  obtain ⟨t,rfl⟩:=r
  exact call_range_1 (a8u I1 (by omega) (by omega) q1 q2 (by simpa using q))
theorem b0g {a b:Expr} {ta:TA} {p pos:Pos} (hg:Gl X "range") (hm:X.mg "range"=none) (ha:PA X [a,b] ta) (hs:starEach [a,b] X.env=[(false,eval a X.env),(false,eval b X.env)]:=by rfl) (hs2:starEach [b] X.env=[(false,eval b X.env)]:=by rfl):
  PI X tg (.Call (.Name "range" p) [a,b] [] pos) (b7K ta):=by
 intro pins s σ H R I h
 refine Call_ (a3v I hg hm boot_range (PyProof.Rows.callWith_type1 (thn (ha pos pins s σ H _ I h) fun us s1 ⟨vs,H1,I1,r1,q1⟩=>?_) (by rw [hs,hs2]) (by rw [hs2];rfl)))
 obtain ⟨i,j,e,⟨q1,q2,q3,q4⟩,q⟩:=q1
 subst e
 cases r1 with
 | cons r rr=>
  cases rr with
  | cons r' rr=>
   cases rr
   obtain ⟨t,rfl⟩:=r
   obtain ⟨t',rfl⟩:=r'
   exact call_range_2 (a8u I1 q1 q2 q3 q4 q)
def b8l (wi:TI) (g:TG) (tb:TS):TS:=fun D σ H=>wi σ H fun J H1=>∃W:Nat→Nat→St→Hp→Prop,(∃m,W 0 m σ H1)∧∀i m σ H,W i m σ H→
 (J.stop i H∧D.nx σ H)∨(J.go i H∧∃N:St→Hp→Prop,(∀σ' H',N σ' H'→∃m',m' < m∧W (i+1) m' σ' H')∧∀x H',J.yld i H x H'→g x σ H' fun σ2 H2=>tb {D with nx:=N,ct:=N,bk:=D.nx} σ2 H2)
def a6B (fp:List Addr) (h:Heap):List (Addr×Obj):=fp.filterMap fun b=>(h.get? b).map fun o=>(b,o)
theorem a2J {fp:List Addr} {h:Heap} {b:Addr} {o:Obj} (hb:b∈fp) (e:h.get? b=some o):(b,o)∈a6B fp h:=Jz.mpr ⟨b,hb,by rw [e];rfl⟩
theorem b0E {fp:List Addr} {h:Heap} {p:Addr×Obj} (hp:p∈a6B fp h):p.1∈fp∧h.get? p.1=some p.2:=by
 obtain ⟨b,hb,e⟩:=Jz.mp hp
 cases q:h.get? b with
 | none=>rw [q] at e;cases e
 | some o=>
  rw [q] at e
  have e':(b,o)=p:=Option.some.inj e
  subst e'
  exact ⟨hb,q⟩
theorem Inv.pinned {pins:List (Addr×Obj)} {σ:St} {H:Hp} {s:Shared} {fp:List Addr} (I:Inv X pins σ H s) (hf:∀b∈fp,a9d X pins H b) (ho:∀b∈fp,∃o,s.heap.get? b=some o∧∀v,o.data≠.cell v):Inv X (pins++a6B fp s.heap) σ H s:=
 I.pins_of fun p hp=>(Qq.mp hp).elim (fun z=>I.pin p (Xc _ z)) fun z=>by
  obtain ⟨hb,e⟩:=b0E z
  obtain ⟨f0,f1,f2,_⟩:=hf p.1 hb
  obtain ⟨o,e',d⟩:=ho p.1 hb
  rw [e] at e';cases e'
  exact ⟨e,f0,f1,f2,d⟩
theorem Inv.unpinned {pins pl:List (Addr×Obj)} {σ:St} {H:Hp} {s:Shared} (I:Inv X (pins++pl) σ H s):Inv X pins σ H s:=I.pins_of fun p hp=>I.pin p (Xc _ (Xx _ hp))
theorem b8u {iter:Expr} {body:List Stmt} {wi:TI} {g:TG} {tb:TS} {pos:Pos} (hp:PassesOwn (model X.prog X.w) X.A X.env X.xe) (hc:X.calm=true) (hi:PI X tg iter wi) (hg:PG X tg g) (hb:PSs X body tb)
  (hs:∀x,foldedSetIterable iter X.env x=pure x:=by intro _;rfl):PS X (.For tg iter body [] pos) (b8l wi g tb):=by
 intro pins s σ H D I h
 refine wpAny_For (thn (hi pins s σ H _ I h) fun v s1 h1=>thn h1 fun itv s2 h2=>?_) hs
 obtain ⟨it,fp,tn,J,H2,e,I2,T,st2,f2,W,⟨m0,w0⟩,turn⟩:=h2
 subst e
 have stat:∀{H':Hp},(∀b∈fp,H' b=none)→∀b∈fp,a9d X pins H' b:=fun hn b hb=>⟨hn b hb,(f2 b hb).2⟩
 refine codeAny_forLoop_any (fun n s'=>∃i σ' H',Inv X pins σ' H' s'∧tn i s'.heap∧(∀b∈fp,H' b=none)∧W i n σ' H') ?_ m0 ⟨0,σ,H2,I2,st2,fun b hb=>(f2 b hb).1,w0⟩
 rintro n s3 ⟨i,σ3,H3,I3,st3,fr3,w3⟩
 rcases turn i n σ3 H3 w3 with ⟨stop,qn⟩ | ⟨go,N,hN,step⟩
 ·refine wpAny_passesOwn hp (thn (T.done X rfl rfl rfl hc i pins s3 σ3 H3 X.xe I3 (stat fr3) st3 stop) fun r s4 ⟨hr,I4⟩=>?_)
  subst hr
  exact wpAny_execs_nil ⟨σ3,H3,I4,qn⟩
 ·refine wpAny_passesOwn hp (thn (T.item X rfl rfl rfl hc i pins s3 σ3 H3 X.xe I3 (stat fr3) st3 go) fun r s4 ⟨u,hr,h4⟩=>?_)
  subst hr
  refine wpAny_passesOwn hp (thn h4 fun _ s5 ⟨x,H5,I5,r5,y5,st5,fr5⟩=>?_)
  have I5':=I5.pinned (stat fr5) (T.obj _ _ st5)
  refine wpAny_passesOwn hp (thn (hg _ s5 σ3 H5 x u _ I5' r5 (step x H5 y5)) fun _ s6 ⟨σ6,H6,I6,q6⟩=>?_)
  refine wpAny_passesOwn hp (thn (hb _ s6 σ6 H6 _ I6 q6) fun f s7 q7=>?_)
  have again:∀{σ7:St} {H7:Hp},Inv X (pins++a6B fp s5.heap) σ7 H7 s7→N σ7 H7→∃m,m < n∧∃i σ' H',Inv X pins σ' H' s7∧tn i s7.heap∧(∀b∈fp,H' b=none)∧W i m σ' H':=fun {σ7 H7} I7 n7=>by
   obtain ⟨m',hm,w7⟩:=hN σ7 H7 n7
   refine ⟨m',hm,i+1,σ7,H7,I7.unpinned,T.keep _ _ _ st5 fun b hb o e=>(I7.pin (b,o) (Xc _ (Xc _ (a2J hb e)))).1,fun b hb=>?_,w7⟩
   obtain ⟨o,e,d⟩:=T.obj _ _ st5 b hb
   exact (I7.pin (b,o) (Xc _ (Xc _ (a2J hb e)))).2.1
  cases f with
  | next=>obtain ⟨σ7,H7,I7,n7⟩:=q7;exact again I7 n7
  | cont=>obtain ⟨σ7,H7,I7,n7⟩:=q7;exact again I7 n7
  | brk=>obtain ⟨σ7,H7,I7,q7⟩:=q7;exact ⟨σ7,H7,I7.unpinned,q7⟩
  | ret v=>obtain ⟨x7,σ7,H7,I7,r7,q7⟩:=q7;exact ⟨x7,σ7,H7,I7.unpinned,r7,q7⟩
end
theorem a1d {K:Qd} {a:Addr} {xs:List V} {g:TG} {tb:TS} {D:a8Y} {σ:St} {H:Hp} (Pv:Nat→St→Hp→Prop) (h0:Pv 0 σ H) (hl:∀i σ H,i≤xs.length→Pv i σ H→SqL K H a xs)
  (hs:∀i x σ H,xs[i]?=some x→Pv i σ H→g x σ H fun σ2 H2=>tb {D with nx:=Pv (i+1),ct:=Pv (i+1),bk:=D.nx} σ2 H2) (hd:∀σ H,Pv xs.length σ H→D.nx σ H):
  ∃W:Nat→Nat→St→Hp→Prop,(∃m,W 0 m σ H)∧∀i m σ H,W i m σ H→
   ((Itl K a).stop i H∧D.nx σ H)∨((Itl K a).go i H∧∃N:St→Hp→Prop,(∀σ' H',N σ' H'→∃m',m' < m∧W (i+1) m' σ' H')∧∀x H',(Itl K a).yld i H x H'→g x σ H' fun σ2 H2=>tb {D with nx:=N,ct:=N,bk:=D.nx} σ2 H2):=by
 refine ⟨fun i m σ H=>m=xs.length - i∧i≤xs.length∧Pv i σ H,⟨xs.length,by simp,Xe _,h0⟩,?_⟩
 rintro i m σ H ⟨rfl,hi,p⟩
 have q:=hl i σ H hi p
 by_cases hlt:i < xs.length
 ·refine .inr ⟨⟨xs,xs[i],q,by simp [hlt]⟩,Pv (i+1),fun σ' H' p'=>⟨xs.length - (i+1),by omega,rfl,hlt,p'⟩,fun x H' y=>?_⟩
  obtain ⟨e,y⟩:=y
  subst e
  exact hs i x σ _ (y xs q) p
 ·have e:i=xs.length:=by omega
  subst e
  exact .inl ⟨⟨xs,q,Qk _⟩,hd σ H p⟩
theorem a5o {K:Qd} {a:Addr} {xs:List V} {g:TG} {tb:TS} {D:a8Y} {σ:St} {H:Hp} (Pv:Nat→St→Hp→Prop) (h0:Pv 0 σ H) (hl:∀i σ H,i≤xs.length→Pv i σ H→SqT K H a xs)
  (hs:∀i x σ H,xs[i]?=some x→Pv i σ H→g x σ H fun σ2 H2=>tb {D with nx:=Pv (i+1),ct:=Pv (i+1),bk:=D.nx} σ2 H2) (hd:∀σ H,Pv xs.length σ H→D.nx σ H):
  ∃W:Nat→Nat→St→Hp→Prop,(∃m,W 0 m σ H)∧∀i m σ H,W i m σ H→
   ((Itt K a).stop i H∧D.nx σ H)∨((Itt K a).go i H∧∃N:St→Hp→Prop,(∀σ' H',N σ' H'→∃m',m' < m∧W (i+1) m' σ' H')∧∀x H',(Itt K a).yld i H x H'→g x σ H' fun σ2 H2=>tb {D with nx:=N,ct:=N,bk:=D.nx} σ2 H2):=by
 refine ⟨fun i m σ H=>m=xs.length - i∧i≤xs.length∧Pv i σ H,⟨xs.length,by simp,Xe _,h0⟩,?_⟩
 rintro i m σ H ⟨rfl,hi,p⟩
 have q:=hl i σ H hi p
 by_cases hlt:i < xs.length
 ·refine .inr ⟨⟨xs,xs[i],q,by simp [hlt]⟩,Pv (i+1),fun σ' H' p'=>⟨xs.length - (i+1),by omega,rfl,hlt,p'⟩,fun x H' y=>?_⟩
  obtain ⟨e,y⟩:=y
  subst e
  exact hs i x σ _ (y xs q) p
 ·have e:i=xs.length:=by omega
  subst e
  exact .inl ⟨⟨xs,q,Qk _⟩,hd σ H p⟩
theorem a2j {lo:Int} {n:Nat} {g:TG} {tb:TS} {D:a8Y} {σ:St} {H:Hp} (Pv:Nat→St→Hp→Prop) (h0:Pv 0 σ H)
  (hs:∀i σ H,i < n→Pv i σ H→g (.int (lo+i)) σ H fun σ2 H2=>tb {D with nx:=Pv (i+1),ct:=Pv (i+1),bk:=D.nx} σ2 H2) (hd:∀σ H,Pv n σ H→D.nx σ H):
  ∃W:Nat→Nat→St→Hp→Prop,(∃m,W 0 m σ H)∧∀i m σ H,W i m σ H→
   ((Itr lo n).stop i H∧D.nx σ H)∨((Itr lo n).go i H∧∃N:St→Hp→Prop,(∀σ' H',N σ' H'→∃m',m' < m∧W (i+1) m' σ' H')∧∀x H',(Itr lo n).yld i H x H'→g x σ H' fun σ2 H2=>tb {D with nx:=N,ct:=N,bk:=D.nx} σ2 H2):=by
 refine ⟨fun i m σ H=>m=n - i∧i≤n∧Pv i σ H,⟨n,by simp,Xe _,h0⟩,?_⟩
 rintro i m σ H ⟨rfl,hi,p⟩
 by_cases hlt:i < n
 ·refine .inr ⟨hlt,Pv (i+1),fun σ' H' p'=>⟨n - (i+1),by omega,rfl,hlt,p'⟩,fun x H' y=>?_⟩
  obtain ⟨e,y⟩:=y
  subst e y
  exact hs i σ _ hlt p
 ·have e:i=n:=by omega
  subst e
  exact .inl ⟨Qk _,hd σ H p⟩
end L2
namespace L2
open PySem PySem.Spec PyProof.Rows
abbrev R2:=V→V→Hp→VK→Prop
def OpR (X:Cx) (f:Value→Value→Sem Value) (r:R2):Prop:=
 ∀(pins:List (Addr×Obj)) (s:Shared) (σ:St) (H:Hp) (x y:V) (v u:Value) (Q:VK),Inv X pins σ H s→a0P x v→a0P y u→r x y H Q→
  wpAny (model X.prog X.w) X.A (f v u) (EP X pins σ Q) X.xe s
def a1H (X:Cx) (f:Value) (r:List V→Hp→VK→Prop):Prop:=
 ∀(pins:List (Addr×Obj)) (s:Shared) (σ:St) (H:Hp) (xs:List V) (us:List Value) (Q:VK),Inv X pins σ H s→a0L xs us→r xs H Q→
  wpAny (model X.prog X.w) X.A (call f us) (EP X pins σ Q) X.xe s
def tOp (r:R2) (ta tb:TE):TE:=fun σ H Q=>ta σ H fun x H1=>tb σ H1 fun y H2=>r x y H2 Q
def rI (C:Int→Int→Prop) (g:Int→Int→V):R2:=fun x y H Q=>∃i j,x=.int i∧y=.int j∧C i j∧Q (g i j) H
def rI0 (g:Int→Int→V):R2:=fun x y H Q=>∃i j,x=.int i∧y=.int j∧Q (g i j) H
section
variable {X:Cx} {a b c:Expr} {ta tb tc:TE} {pos:Pos}
theorem c1K (ha:PE X a ta) (hb:PE X b tb) {pins:List (Addr×Obj)} {s:Shared} {σ:St} {H:Hp} {R:V→V→Hp→Prop} (I:Inv X pins σ H s)
  (h:ta σ H fun x H1=>tb σ H1 fun y H2=>R x y H2) {Q:Value→Shared→Prop} {f:Value→Value→Sem Value}
  (hf:∀v u s2 x y H2,Inv X pins σ H2 s2→a0P x v→a0P y u→R x y H2→wpAny (model X.prog X.w) X.A (f v u) Q X.xe s2):
  wpAny (model X.prog X.w) X.A (eval a X.env) (fun v s₁=>wpAny (model X.prog X.w) X.A (eval b X.env) (fun u s₂=>wpAny (model X.prog X.w) X.A (f v u) Q X.xe s₂) X.xe s₁) X.xe s:=by
 refine thn (ha pins s σ H _ I h) fun v s1 ⟨x,H1,I1,r1,q1⟩=>?_
 refine thn (hb pins s1 σ H1 _ I1 q1) fun u s2 ⟨y,H2,I2,r2,q2⟩=>?_
 exact hf v u s2 x y H2 I2 r1 r2 q2
theorem c1W {op:Operator} {r:R2} (ho:OpR X (binaryOp op) r) (ha:PE X a ta) (hb:PE X b tb):PE X (.BinOp a op b pos) (tOp r ta tb):=by
 intro pins s σ H Q I h
 exact wpAny_BinOp (c1K ha hb I h fun v u s2 x y H2 I2 rx ry q=>ho pins s2 σ H2 x y v u Q I2 rx ry q)
theorem opI {f:Value→Value→Sem Value} {C:Int→Int→Prop} {g:Int→Int→Int}
  (rule:∀(i j:Int) (t u:Tok) (s:Shared) (Q:Value→Shared→Prop) (E:Value→Shared→Prop),C i j→Q (.int (g i j) s.toks) {s with toks:=s.toks+1}→wpAny (model X.prog X.w) X.A (f (.int i t) (.int j u)) Q E s):
  OpR X f (rI C fun i j=>.int (g i j)):=by
 intro pins s σ H x y v u Q I rx ry h
 obtain ⟨i,j,rfl,rfl,hc,q⟩:=h
 obtain ⟨t,rfl⟩:=rx
 obtain ⟨t',rfl⟩:=ry
 exact rule i j t t' s _ _ hc ⟨.int (g i j),H,I.tok _,⟨_,rfl⟩,q⟩
theorem c4Z {f:Value→Value→Sem Value} {g:Int→Int→Int}
  (rule:∀(i j:Int) (t u:Tok) (s:Shared) (Q:Value→Shared→Prop) (E:Value→Shared→Prop),Q (.int (g i j) s.toks) {s with toks:=s.toks+1}→wpAny (model X.prog X.w) X.A (f (.int i t) (.int j u)) Q E s):
  OpR X f (rI0 fun i j=>.int (g i j)):=by
 intro pins s σ H x y v u Q I rx ry h
 obtain ⟨i,j,rfl,rfl,q⟩:=h
 obtain ⟨t,rfl⟩:=rx
 obtain ⟨t',rfl⟩:=ry
 exact rule i j t t' s _ _ ⟨.int (g i j),H,I.tok _,⟨_,rfl⟩,q⟩
theorem c4c {f:Value→Value→Sem Value} {g:Int→Int→Bool}
  (rule:∀(i j:Int) (t u:Tok) (s:Shared) (Q:Value→Shared→Prop) (E:Value→Shared→Prop),Q (.bool (g i j)) s→wpAny (model X.prog X.w) X.A (f (.int i t) (.int j u)) Q E s):
  OpR X f (rI0 fun i j=>.bl (g i j)):=by
 intro pins s σ H x y v u Q I rx ry h
 obtain ⟨i,j,rfl,rfl,q⟩:=h
 obtain ⟨t,rfl⟩:=rx
 obtain ⟨t',rfl⟩:=ry
 exact rule i j t t' s _ _ ⟨.bl (g i j),H,I,rfl,q⟩
def a7F (i j:Int):Prop:=0 < j∧j < 1073741824
def b6R (i j:Int):Prop:=(-(2 ^ 64) < i∧i < 2 ^ 64)∨(-(2 ^ 64) < j∧j < 2 ^ 64)
theorem b6R.ok {i j:Int} (h:b6R i j):IntMulOk i j:=by
 rcases h with ⟨h1,h2⟩ | ⟨h1,h2⟩
 ·exact .of_left (intBits_le_64 h1 h2)
 ·exact .of_right (intBits_le_64 h1 h2)
theorem c0G:OpR X (binaryOp .Add) (rI0 fun i j=>.int (i+j)):=c4Z fun _ _ _ _ _ _ _ q=>add_int q
theorem b4B:OpR X (binaryOp .Sub) (rI0 fun i j=>.int (i - j)):=c4Z fun _ _ _ _ _ _ _ q=>sub_int q
theorem a3Y:OpR X (binaryOp .Mult) (rI b6R fun i j=>.int (i * j)):=opI fun _ _ _ _ _ _ _ hc q=>mul_int q hc.ok
theorem a0M:OpR X (binaryOp .FloorDiv) (rI a7F fun i j=>.int (i / j)):=opI fun i j _ _ _ _ _ hc q=>by
 have h1:(0:Int) < j:=hc.1
 have h2:j < 1073741824:=hc.2
 exact floordiv_int (by omega) (by rw [Int.fdiv_eq_ediv_of_nonneg i (by omega)];exact q) (.inl (PyProof.noPylong_small (by omega)))
theorem a0y:OpR X (binaryOp .Mod) (rI (fun _ j=>0 < j) fun i j=>.int (i % j)):=opI fun i j _ _ _ _ _ hc q=>by
 have h1:(0:Int) < j:=hc
 exact mod_int' (by omega) (by rw [Int.fmod_eq_emod_of_nonneg i (by omega)];exact q)
end
def c5T:V→V→Bool
 | .non,.non=>true | .non,.int _=>true | .int _,.non=>true | .non,.bl _=>true | .bl _,.non=>true | .non,.str _=>true | .str _,.non=>true
 | .int _,.int _=>true | .bl _,.bl _=>true | .str _,.str _=>true | .byt _,.byt _=>true
 | .int _,.str _=>true | .str _,.int _=>true | .bl _,.str _=>true | .str _,.bl _=>true
 | _,_=>false
def rEq:R2:=fun x y H Q=>c5T x y=true∧Q (.bl (decide (x=y))) H
def rNe:R2:=fun x y H Q=>c5T x y=true∧Q (.bl (!decide (x=y))) H
theorem b0D {i j:Int}:decide (V.int i=V.int j)=(i == j):=by
 rw [Xn]
 simp
theorem b5m {i j:Bool}:decide (V.bl i=V.bl j)=(i == j):=by
 rw [Xn]
 simp
theorem b2k {i j:Str}:decide (V.str i=V.str j)=(i == j):=by
 rw [Xn]
 simp
theorem b1N {i j:Array UInt8}:decide (V.byt i=V.byt j)=(i.toList == j.toList):=by
 rw [Xn]
 cases i
 cases j
 simp
section
variable {X:Cx} {a b c:Expr} {ta tb tc:TE} {pos:Pos}
theorem a0u {pins:List (Addr×Obj)} {σ:St} {H:Hp} {s:Shared} {Q:VK} {k k':Bool} (I:Inv X pins σ H s) (q:Q (.bl k) H) (e:k=k'):EP X pins σ Q (.bool k') s:=by
 subst e
 exact ⟨.bl k,H,I,rfl,q⟩
theorem c2d:OpR X (compareOp .Eq) rEq:=by
 intro pins s σ H x y v u Q I rx ry h
 obtain ⟨hs,q⟩:=h
 cases x with
 | non=>
  cases rx
  cases y with
  | non=>cases ry;exact PySem.EqNone.eq_none_none (a0u I q (by simp))
  | bl j=>cases ry;exact PySem.EqNone.eq_none_bool (a0u I q (by simp))
  | int j=>obtain ⟨t',rfl⟩:=ry;exact PySem.EqNone.eq_none_int (a0u I q (by simp))
  | str j=>obtain ⟨t',rfl⟩:=ry;exact PySem.EqNone.eq_none_str (a0u I q (by simp))
  | _=>exact absurd (show false=true from hs) Qo
 | bl i=>
  cases rx
  cases y with
  | non=>cases ry;exact PySem.EqNone.eq_bool_none (a0u I q (by simp))
  | bl j=>cases ry;exact eq_bool (a0u I q b5m)
  | str j=>obtain ⟨t',rfl⟩:=ry;exact PySem.EqMixed.eq_bool_str (a0u I q (by simp))
  | _=>exact absurd (show false=true from hs) Qo
 | int i=>
  obtain ⟨t,rfl⟩:=rx
  cases y with
  | non=>cases ry;exact PySem.EqNone.eq_int_none (a0u I q (by simp))
  | int j=>obtain ⟨t',rfl⟩:=ry;exact eq_int (a0u I q b0D)
  | str j=>obtain ⟨t',rfl⟩:=ry;exact PySem.EqMixed.eq_int_str (a0u I q (by simp))
  | _=>exact absurd (show false=true from hs) Qo
 | str i=>
  obtain ⟨t,rfl⟩:=rx
  cases y with
  | non=>cases ry;exact PySem.EqNone.eq_str_none (a0u I q (by simp))
  | bl j=>cases ry;exact PySem.EqMixed.eq_str_bool (a0u I q (by simp))
  | int j=>obtain ⟨t',rfl⟩:=ry;exact PySem.EqMixed.eq_str_int (a0u I q (by simp))
  | str j=>obtain ⟨t',rfl⟩:=ry;exact eq_str (a0u I q b2k)
  | _=>exact absurd (show false=true from hs) Qo
 | byt i=>
  obtain ⟨t,rfl⟩:=rx
  cases y with
  | byt j=>obtain ⟨t',rfl⟩:=ry;exact PySem.W.eq_bytes (a0u I q b1N)
  | _=>exact absurd (show false=true from hs) Qo
 | _=>cases y<;>exact absurd (show false=true from hs) Qo
theorem c1I:OpR X (compareOp .NotEq) rNe:=by
 intro pins s σ H x y v u Q I rx ry h
 obtain ⟨hs,q⟩:=h
 cases x with
 | non=>
  cases rx
  cases y with
  | non=>cases ry;exact PySem.EqNone.ne_none_none (a0u I q (by simp))
  | bl j=>cases ry;exact PySem.EqNone.ne_none_bool (a0u I q (by simp))
  | int j=>obtain ⟨t',rfl⟩:=ry;exact PySem.EqNone.ne_none_int (a0u I q (by simp))
  | str j=>obtain ⟨t',rfl⟩:=ry;exact PySem.EqNone.ne_none_str (a0u I q (by simp))
  | _=>exact absurd (show false=true from hs) Qo
 | bl i=>
  cases rx
  cases y with
  | non=>cases ry;exact PySem.EqNone.ne_bool_none (a0u I q (by simp))
  | bl j=>cases ry;exact ne_bool (a0u I q (congrArg not b5m))
  | str j=>obtain ⟨t',rfl⟩:=ry;exact PySem.EqMixed.ne_bool_str (a0u I q (by simp))
  | _=>exact absurd (show false=true from hs) Qo
 | int i=>
  obtain ⟨t,rfl⟩:=rx
  cases y with
  | non=>cases ry;exact PySem.EqNone.ne_int_none (a0u I q (by simp))
  | int j=>obtain ⟨t',rfl⟩:=ry;exact ne_int (a0u I q (congrArg not b0D))
  | str j=>obtain ⟨t',rfl⟩:=ry;exact PySem.EqMixed.ne_int_str (a0u I q (by simp))
  | _=>exact absurd (show false=true from hs) Qo
 | str i=>
  obtain ⟨t,rfl⟩:=rx
  cases y with
  | non=>cases ry;exact PySem.EqNone.ne_str_none (a0u I q (by simp))
  | bl j=>cases ry;exact PySem.EqMixed.ne_str_bool (a0u I q (by simp))
  | int j=>obtain ⟨t',rfl⟩:=ry;exact PySem.EqMixed.ne_str_int (a0u I q (by simp))
  | str j=>obtain ⟨t',rfl⟩:=ry;exact ne_str (a0u I q (congrArg not b2k))
  | _=>exact absurd (show false=true from hs) Qo
 | byt i=>
  obtain ⟨t,rfl⟩:=rx
  cases y with
  | byt j=>obtain ⟨t',rfl⟩:=ry;exact PySem.W.ne_bytes (a0u I q (congrArg not b1N))
  | _=>exact absurd (show false=true from hs) Qo
 | _=>cases y<;>exact absurd (show false=true from hs) Qo
theorem c1D:OpR X (compareOp .Lt) (rI0 fun i j=>.bl (decide (i < j))):=c4c fun _ _ _ _ _ _ _ q=>lt_int q
theorem b6Q:OpR X (compareOp .Gt) (rI0 fun i j=>.bl (decide (j < i))):=c4c fun _ _ _ _ _ _ _ q=>gt_int q
theorem b0B:OpR X (compareOp .Lt) (fun x y H Q=>∃i j,x=.str i∧y=.str j∧Q (.bl (decide (i.cps.toList < j.cps.toList))) H):=by
 intro pins s σ H x y v u Q I rx ry h
 obtain ⟨i,j,rfl,rfl,q⟩:=h
 obtain ⟨t,rfl⟩:=rx
 obtain ⟨t',rfl⟩:=ry
 exact lt_str (a0u I q rfl)
theorem b0H:OpR X (compareOp .In) (fun x y H Q=>∃i j,x=.str i∧y=.str j∧Q (.bl (!(Builtin.Str.occurrences j i 0 j.length 1).isEmpty)) H):=by
 intro pins s σ H x y v u Q I rx ry h
 obtain ⟨i,j,rfl,rfl,q⟩:=h
 obtain ⟨t,rfl⟩:=rx
 obtain ⟨t',rfl⟩:=ry
 exact in_str (a0u I q rfl)
theorem c0l:OpR X (compareOp .Is) (fun x y H Q=>y=.non∧Q (.bl (decide (x=.non))) H):=by
 intro pins s σ H x y v u Q I rx ry h
 obtain ⟨rfl,q⟩:=h
 cases ry
 refine is_none_gen (a0u I q ?_)
 cases x<;>first
  | (cases rx;rfl)
  | (obtain ⟨t,rfl⟩:=rx;rfl)
theorem OpR.or {f:Value→Value→Sem Value} {r r':R2} (h:OpR X f r) (h':OpR X f r'):OpR X f (fun x y H Q=>r x y H Q∨r' x y H Q):=by
 intro pins s σ H x y v u Q I rx ry q
 rcases q with q | q
 ·exact h pins s σ H x y v u Q I rx ry q
 ·exact h' pins s σ H x y v u Q I rx ry q
theorem a0p (b:Expr) {op:CmpOp} (h:op≠.In:=by decide) (h2:op≠.NotIn:=by decide):behindInMarks op b=false:=by
 have e1:(op == CmpOp.In)=false:=by cases op<;>first | rfl | exact absurd rfl h
 have e2:(op == CmpOp.NotIn)=false:=by cases op<;>first | rfl | exact absurd rfl h2
 cases b<;>simp [behindInMarks,e1,e2]
theorem b6d {op:CmpOp} {r:R2} (ho:OpR X (compareOp op) r) (ha:PE X a ta) (hb:PE X b tb) (hm:behindInMarks op b=false):PE X (.Compare a [op] [b] pos) (tOp r ta tb):=by
 intro pins s σ H Q I h
 exact wpAny_Compare1 (c1K ha hb I h fun v u s2 x y H2 I2 rx ry q=>ho pins s2 σ H2 x y v u Q I2 rx ry q) hm
def a1l (t:TE):TT:=fun σ H Q=>t σ H fun x H'=>∃k,x=.bl k∧Q k H'
theorem b6x {op:CmpOp} {r:R2} (ho:OpR X (compareOp op) r) (ha:PE X a ta) (hb:PE X b tb) (hm:behindInMarks op b=false):PT X (.Compare a [op] [b] pos) (a1l (tOp r ta tb)):=by
 intro pins s σ H Q I h
 refine wpAny_isTrue_Compare1 (thn (ha pins s σ H _ I h) fun v s1 ⟨x,H1,I1,r1,q1⟩=>thn (hb pins s1 σ H1 _ I1 q1) fun u s2 ⟨y,H2,I2,r2,q2⟩=>
  thn (ho pins s2 σ H2 x y v u _ I2 r1 r2 q2) fun c s3 ⟨z,H3,I3,r3,k,e,q3⟩=>?_) hm
 subst e
 cases r3
 exact wpAny_truthy_bool ⟨H3,I3,q3⟩
theorem a8j:(sizeLine:Nat) < 2 ^ 63:=by rw [sizeLine_eq];decide
theorem a9f:OpR X (binaryOp .Add) (fun x y H Q=>∃i j,x=.str i∧y=.str j∧i.length+j.length≤sizeLine∧Q (.str (i++j)) H):=by
 intro pins s σ H x y v u Q I rx ry h
 obtain ⟨i,j,rfl,rfl,hz,q⟩:=h
 obtain ⟨t,rfl⟩:=rx
 obtain ⟨t',rfl⟩:=ry
 exact add_str (fun t' tk=>⟨.str (i++j),H,I.tok _,⟨_,rfl⟩,q⟩) hz
theorem a3r {x:V} {us:List Value} (r:a0L [x] us):∃u,us=[u]∧a0P x u:=by
 cases r with
 | cons r1 r2=>cases r2;exact ⟨_,rfl,r1⟩
theorem b9o {x y:V} {us:List Value} (r:a0L [x,y] us):∃u w',us=[u,w']∧a0P x u∧a0P y w':=by
 cases r with
 | cons r1 r2=>
  cases r2 with
  | cons r3 r4=>cases r4;exact ⟨_,_,rfl,r1,r3⟩
theorem b0W (hc:X.calm=true):a1H X (.builtin "max") (fun xs H Q=>∃i j,xs=[.int i,.int j]∧Q (.int (if j > i then j else i)) H):=by
 intro pins s σ H xs us Q I r h
 obtain ⟨i,j,rfl,q⟩:=h
 obtain ⟨u,w',rfl,⟨t,rfl⟩,⟨t',rfl⟩⟩:=b9o r
 refine max_two_ints (I.ok.hd hc) fun h' tk k=>⟨_,H,I.kept k,?_,q⟩
 by_cases hj:j > i
 ·rw [if_pos hj,if_pos hj];exact ⟨_,rfl⟩
 ·rw [if_neg hj,if_neg hj];exact ⟨_,rfl⟩
theorem a9A (hc:X.calm=true):a1H X (.builtin "min") (fun xs H Q=>∃i j,xs=[.int i,.int j]∧Q (.int (if j < i then j else i)) H):=by
 intro pins s σ H xs us Q I r h
 obtain ⟨i,j,rfl,q⟩:=h
 obtain ⟨u,w',rfl,⟨t,rfl⟩,⟨t',rfl⟩⟩:=b9o r
 refine min_two_ints (I.ok.hd hc) fun h' tk k=>⟨_,H,I.kept k,?_,q⟩
 by_cases hj:j < i
 ·rw [if_pos hj,if_pos hj];exact ⟨_,rfl⟩
 ·rw [if_neg hj,if_neg hj];exact ⟨_,rfl⟩
def c2I (K:Qd) (x:V) (H:Hp) (n:Nat):Prop:=
 match x with
 | .str y=>y.length≤sizeLine∧n=y.length
 | .byt y=>y.size≤sizeLine∧n=y.size
 | .ref p=>(∃xs,SqL K H p xs∧n=xs.length)∨∃xs,SqT K H p xs∧n=xs.length
 | _=>False
theorem b3r:a1H X (.builtin "len") (fun xs H Q=>∃x n,xs=[x]∧c2I X.K x H n∧Q (.int n) H):=by
 intro pins s σ H xs us Q I r h
 obtain ⟨x,n,rfl,e,q⟩:=h
 obtain ⟨u,rfl,rx⟩:=a3r r
 have hl:=a8j
 have hs:sizeLine=16777216:=sizeLine_eq
 cases x with
 | str y=>
  obtain ⟨t,rfl⟩:=rx
  obtain ⟨hy,e'⟩:y.length≤sizeLine∧n=y.length:=e
  subst e'
  exact len_str (by omega) ⟨.int _,H,I.tok _,⟨_,rfl⟩,q⟩
 | byt y=>
  obtain ⟨t,rfl⟩:=rx
  obtain ⟨hy,e'⟩:y.size≤sizeLine∧n=y.size:=e
  subst e'
  exact PySem.W.len_bytes (by omega) ⟨.int _,H,I.tok _,⟨_,rfl⟩,q⟩
 | ref p=>
  cases rx
  have e':(∃xs,SqL X.K H p xs∧n=xs.length)∨∃xs,SqT X.K H p xs∧n=xs.length:=e
  rcases e' with ⟨xs,hx,e'⟩ | ⟨xs,hx,e'⟩
  ·subst e'
   obtain ⟨its,r',pl,hz⟩:=I.list hx
   have hlen:=r'.length
   exact Calls.call_len_list pl.isList (by simp only [Qv];omega) ⟨.int xs.length,H,I.tok _,⟨_,by simp only [Qv];rw [hlen]⟩,q⟩
  ·subst e'
   obtain ⟨its,r',pl,hz⟩:=I.tuple hx
   have hlen:=r'.length
   exact len_tuple pl (by simp only [Qv];omega) ⟨.int xs.length,H,I.tok _,⟨_,by simp only [Qv];rw [hlen]⟩,q⟩
 | _=>exact (show False from e).elim
end
end L2
namespace L2
open PySem PySem.Spec PyProof.Rows
structure b6w (h:Heap) (x dx C:Addr) (mA:Str→Option Value):Prop where
 obj:h.get? x=some (Zl C dx)
 ns:h.Ns1 dx mA
 ne:dx≠x
theorem b1T {h:Heap} {dx:Addr} {mA:Str→Option Value} (n:h.Ns1 dx mA):∃od,h.get? dx=some od∧∀name,Vb name od=some (mA name):=by
 obtain ⟨o,es,ep,ho,hd,hk,_,hm⟩:=n
 refine ⟨o,ho,fun name=>?_⟩
 have e:=hm name
 unfold nsFind findBy at e
 rw [←Array.find?_toList] at e
 unfold Vb
 rw [hd]
 dsimp only
 split
 ·rename_i y q
  rw [q] at e
  exact congrArg some e
 ·rename_i q
  rw [q] at e
  have a:es.toList.any (·.refKey)=false:=by
   rw [List.any_eq_false]
   intro y hy
   obtain ⟨z,t,hkey⟩:=hk y (Array.mem_toList_iff.mp hy)
   simp [DictEntry.refKey,hkey]
  have a':¬es.toList.any (·.refKey)=true:=by rw [a];exact Qo
  rw [if_neg a']
  exact congrArg some e
theorem b6w.look {h:Heap} {x dx C:Addr} {mA:Str→Option Value} (I:b6w h x dx C mA):∃od,PySem.W.InstAt h x (Zl C dx) C (some od)∧∀name,Vb name od=some (mA name):=
 let ⟨od,ho,hl⟩:=b1T I.ns
 ⟨od,⟨I.obj,rfl,rfl,ho⟩,hl⟩
section
variable {prog:Program} {w:World} {A:Around} {E:Value→Shared→Prop} {s:Shared} {K:Qd} {x dx C f:Addr} {mA:Str→Option Value} {name:Str} {v:Value}
theorem b7n {expr:Bool} {Q:Value→Shared→Prop} (X:K.In s.heap) (I:b6w s.heap x dx C mA) (hg:Um K C name=true) (hh:Vl K C=true)
  (ha:Yt K (.ref C) name=some none) (hv:mA name=some v) (hv':Gj v=true) (h:Q v {s with toks:=s.toks+1}):
  wpAny (model prog w) A (getAttr (.ref x) name expr) Q E s:=by
 obtain ⟨od,J,hl⟩:=I.look
 exact PySem.W.get_value X J (Ux hg).1 (PySem.W.findObj_own hh ha rfl (by rw [hl,hv])) hv' h
theorem b2Y {pl:Sem Bool} {Q:Value×List Value→Shared→Prop} (X:K.In s.heap) (I:b6w s.heap x dx C mA) (hg:Um K C name=true)
  (hf:Yt K (.ref C) name=some (some (.ref f))) (ht:Gf K (.ref f)=true) (hv:mA name=none) (h:Q (.ref f,[.ref x]) s):
  wpAny (model prog w) A (getMethod (.ref x) name pl) Q E s:=by
 obtain ⟨od,J,hl⟩:=I.look
 exact PySem.W.method_fn X J (Ux hg).1 (Ux hg).2 hf (beq_iff_eq.mp ht) (by show (Vb name od).map (·.isSome)=some false;rw [hl,hv];rfl) h
theorem b6l {ns:List Str} {Q:Unit→Shared→Prop} (X:K.In s.heap) (I:b6w s.heap x dx C mA)
  (hs:Yt K (.ref C) "__setattr__"=some (some (.builtin "object.__setattr__"))) (hp:Gh K C=true) (ht:Wf K C name=some none) (hh:Vl K C=true)
  (hw:PySem.Within mA ns) (hsz:ns.length≤sizeLine)
  (h:∀h',b6w h' x dx C (fun y=>if y=name then some v else mA y)→Vp dx s.heap h'→Q () {s with heap:=h',toks:=s.toks+2}):
  wpAny (model prog w) A (setAttr (.ref x) name v) Q E s:=by
 obtain ⟨od,J,hl⟩:=I.look
 refine PySem.W.set_plain X J hs (PySem.W.osa_open (s:={s with toks:=s.toks+1}) (r:=none) X J hp ht fun b=>?_)
 obtain ⟨cd,hc,hd'⟩:=PySem.W.any_some hh
 have hx:s.heap.get? x=some ⟨.ref C,some dx,.plain,#[]⟩:=I.obj
 refine wpAny_bind (wpAny_pure (wpAny_bind (wpAny_bind (wpAny_loadPart hx (wpAny_bind (PySem.W.Looks.here (s:={s with toks:=s.toks+1}) (PySem.W.looks_clsIn X hc) ?_))))))
 rw [hd']
 refine wpAny_pure (a:=some dx) (wpAny_bind (wpAny_pure (wpAny_bind ?_)))
 refine wpAny_nsSet1 (s:={s with toks:=s.toks+1}) I.ns fun h' hn2 hs2=>?_
 obtain ⟨oD,esD,epD,hoD,hdD,hcD⟩:=hn2.count (PySem.Within.cons name v hw)
 refine wpAny_bind (wpAny_lookBehind hoD (by rw [hdD];exact pastItsLine_dict (Qi hcD (by rw [Qr];omega))) ?_)
 exact wpAny_pure (h _ ⟨(hs2.2 _ (Ne.symm I.ne)).trans I.obj,hn2,I.ne⟩ hs2)
theorem b3s {R:Result→Shared→Prop} {vs:List Value} {kw:List (Str×Value)} (X:K.In s.heap) (hm:Gn K C=true)
  (hi:Yt K (.ref C) "__init__"=some (some (.ref f))) (hf:Wr K (.ref f)=some (.type "function"))
  (h:codeAny (model prog w) (A.under (.builtin "type.__call__" ⟨.ref C::vs,kw⟩)) (.call (.ref f) ⟨.ref (s.heap.objs.size+1)::vs,kw⟩) (PySem.W.InitBack (s.heap.objs.size+1) R)
   {s with heap:=(s.heap.push Yu).push (Zl C s.heap.objs.size)}):
  codeAny (model prog w) A (.call (.ref C) ⟨vs,kw⟩) R s:=by
 obtain ⟨hh,g,d,t,os⟩:=s
 exact PySem.W.make_core (PySem.W.makes_of X hm) (PySem.W.looks_findIn X hi) (fun self=>PySem.W.bind_fn X self hf) (.inl rfl) h
end
def a1o (f:Str) (v:V):List (Str×V)→List (Str×V)
 | []=>[(f,v)]
 | (g,x)::r=>if g=f then (g,v)::r else (g,x)::a1o f v r
theorem a0f (f g:Str) (v:V):∀fs:List (Str×V),(a1o f v fs).lookup g=if g=f then some v else fs.lookup g
 | []=>by
  show Jc g [(f,v)]=_
  by_cases h:g=f
  ·have hb:(g == f)=true:=beq_iff_eq.mpr h
   simp only [Jc,hb,if_pos h]
  ·have hb:(g == f)=false:=beq_eq_false_iff_ne.mpr h
   simp only [Jc,hb,if_neg h]
 | (k,x)::r=>by
  have ih:=a0f f g v r
  rw [show a1o f v ((k,x)::r)=(if k=f then (k,v)::r else (k,x)::a1o f v r) from rfl]
  by_cases hk:k=f
  ·rw [if_pos hk]
   by_cases h:g=k
   ·have hb:(g == k)=true:=beq_iff_eq.mpr h
    simp only [Jc,hb,if_pos (h.trans hk)]
   ·have hb:(g == k)=false:=beq_eq_false_iff_ne.mpr h
    simp only [Jc,hb,if_neg (fun e:g=f=>h (e.trans hk.symm))]
  ·rw [if_neg hk]
   by_cases h:g=k
   ·have hb:(g == k)=true:=beq_iff_eq.mpr h
    simp only [Jc,hb,if_neg (fun e:g=f=>hk (h.symm.trans e))]
   ·have hb:(g == k)=false:=beq_eq_false_iff_ne.mpr h
    simp only [Jc,hb]
    exact ih
theorem a4f (f:Str) (v:V):∀fs:List (Str×V),f∈(a1o f v fs).map (·.1)∧∀g,g∈fs.map (·.1)→g∈(a1o f v fs).map (·.1)
 | []=>⟨by simp [a1o],fun g h=>by simp at h⟩
 | (k,x)::r=>by
  obtain ⟨i1,i2⟩:=a4f f v r
  rw [show a1o f v ((k,x)::r)=(if k=f then (k,v)::r else (k,x)::a1o f v r) from rfl]
  by_cases hk:k=f
  ·rw [if_pos hk]
   subst hk
   exact ⟨by simp,fun g h=>by simpa using h⟩
  ·rw [if_neg hk]
   refine ⟨?_,fun g h=>?_⟩
   ·rw [Xg]
    exact Qt _ i1
   ·rw [Xg] at h ⊢
    rcases Qy.mp h with e | e
    ·exact Qy.mpr (.inl e)
    ·exact Qt _ (i2 g e)
theorem a3R (f:Str) (v:V):∀fs:List (Str×V),(a1o f v fs).length≤fs.length+1
 | []=>by simp [a1o]
 | (k,x)::r=>by
  have ih:=a3R f v r
  rw [show a1o f v ((k,x)::r)=(if k=f then (k,v)::r else (k,x)::a1o f v r) from rfl]
  by_cases hk:k=f
  ·rw [if_pos hk,Qr,Qr];omega
  ·rw [if_neg hk,Qr,Qr];omega
theorem a4w.some_of {v:V} {o:Option Value} (r:a4w (some v) o):∃u,o=some u∧a0P v u:=by
 cases o with
 | none=>exact (show False from r).elim
 | some u=>exact ⟨u,rfl,r⟩
theorem a4w.none_of {o:Option Value} (r:a4w none o):o=none:=by
 cases o with
 | none=>rfl
 | some u=>exact (show False from r).elim
theorem b0J {v:V} {u:Value} (r:a0P v u):Gj u=true:=by
 cases v with
 | non=>cases (show u=Value.none from r);rfl
 | bl b=>cases (show u=Value.bool b from r);rfl
 | int i=>obtain ⟨t,e⟩:=(show ∃t,u=Value.int i t from r);cases e;rfl
 | str x=>obtain ⟨t,e⟩:=(show ∃t,u=Value.str x t from r);cases e;rfl
 | byt b=>obtain ⟨t,e⟩:=(show ∃t,u=Value.bytes b t from r);cases e;rfl
 | flt b=>obtain ⟨t,e⟩:=(show ∃t,u=Value.float b t from r);cases e;rfl
 | ref a=>cases (show u=Value.ref a from r);rfl
 | ty n=>cases (show u=Value.type n from r);rfl
section
variable {P:Program} {w:World} {H H':Hp} {h h':Heap} {a C dx:Addr} {fs fs':List (Str×V)}
theorem a7q (hok:HOk P w H h) (e:H a=some (.ins C dx fs)):∃mA,b6w h a dx C mA∧(∀f,a4w (fs.lookup f) (mA f))∧PySem.Within mA (fs.map (·.1))∧fs.length≤1000∧H dx=some (.own a):=by
 obtain ⟨d,z,ne,ob,mA,n,r,q⟩:=(show a1g P w H h a (.ins C dx fs) from hok a _ e)
 exact ⟨mA,⟨ob,n,ne⟩,r,q,z,d⟩
end
structure Cls (K:Qd) (C:Addr):Prop where
 pg:Um K C Str.empty=true
 hd:Vl K C=true
 po:Gh K C=true
 sa:Yt K (.ref C) "__setattr__"=some (some (.builtin "object.__setattr__"))
theorem Cls.get {K:Qd} {C:Addr} (c:Cls K C) (f:Str):Um K C f=true:=c.pg
def a0C (K:Qd) (C:Addr) (f:Str):Prop:=Yt K (.ref C) f=some none
theorem a0C.taker {K:Qd} {C:Addr} {f:Str} (n:a0C K C f):Wf K C f=some none:=by
 unfold Wf
 rw [show Yt K (.ref C) f=some none from n]
 rfl
structure a3I (K:Qd) (C:Addr) (m:Str) (f:Addr):Prop where
 at_:Yt K (.ref C) m=some (some (.ref f))
 fn:Gf K (.ref f)=true
 kp:Zk K (.ref f)=true
section
variable {X:Cx} {pins:List (Addr×Obj)} {σ:St} {H:Hp} {s:Shared} {a C dx:Addr} {fs:List (Str×V)} {f:Str} {v:V} {A:Around} {E:Value→Shared→Prop}
theorem a8H {b:Bool} {Q:Value→Shared→Prop} (I:Inv X pins σ H s) (e:H a=some (.ins C dx fs)) (c:Cls X.K C) (n:a0C X.K C f) (l:fs.lookup f=some v)
  (h:∀u s',Inv X pins σ H s'→a0P v u→Q u s'):wpAny (model X.prog X.w) A (getAttr (.ref a) f b) Q E s:=by
 obtain ⟨mA,O,r,_,_,_⟩:=a7q I.hok e
 obtain ⟨u,hu,ru⟩:=a4w.some_of (v:=v) (o:=mA f) (by rw [←l];exact r f)
 exact b7n I.kIn O (c.get f) c.hd n hu (b0J ru) (h u _ (I.tok _) ru)
theorem a4N {m:Str} {g:Addr} {pl:Sem Bool} {Q:Value×List Value→Shared→Prop} (I:Inv X pins σ H s) (e:H a=some (.ins C dx fs)) (c:Cls X.K C) (k:a3I X.K C m g) (l:fs.lookup m=none)
  (h:Q (.ref g,[.ref a]) s):wpAny (model X.prog X.w) A (getMethod (.ref a) m pl) Q E s:=by
 obtain ⟨mA,O,r,_,_,_⟩:=a7q I.hok e
 have hn:mA m=none:=a4w.none_of (by rw [←l];exact r m)
 exact b2Y I.kIn O (c.get m) k.at_ k.fn hn h
theorem a8W {y:V} {u:Value} {Q:Unit→Shared→Prop} (I:Inv X pins σ H s) (e:H a=some (.ins C dx fs)) (c:Cls X.K C) (n:a0C X.K C f) (hl:fs.length < 1000) (ry:a0P y u)
  (h:∀s',Inv X pins σ (upd H a (.ins C dx (a1o f y fs))) s'→Q () s'):wpAny (model X.prog X.w) A (setAttr (.ref a) f u) Q E s:=by
 obtain ⟨mA,O,r,wi,_,ho⟩:=a7q I.hok e
 have hz:(fs.map (·.1)).length≤sizeLine:=by rw [Qe,sizeLine_eq];omega
 refine b6l I.kIn O c.sa c.po n.taker c.hd wi hz fun h' O' sb=>h _ ?_
 have hd:∃o,h'.get? dx=some o:=let ⟨o,_,_,e',_⟩:=O'.ns;⟨o,e'⟩
 refine I.write (x:=a) (e:=dx) (by rw [e];exact True.intro) (.inr ho) (fun b q hb z=>(sb.2 b hb).trans z) hd ?_
 refine ⟨by rw [a0a O.ne];exact ho,?_,O.ne,O'.obj,_,O'.ns,fun g=>?_,fun g hg=>?_⟩
 ·have:=a3R f y fs;omega
 ·show a4w ((a1o f y fs).lookup g) (if g=f then some u else mA g)
  rw [a0f]
  by_cases q:g=f
  ·rw [if_pos q,if_pos q];exact ry
  ·rw [if_neg q,if_neg q];exact r g
 ·by_cases q:g=f
  ·rw [q];exact (a4f f y fs).1
  ·refine (a4f f y fs).2 g (wi g fun z=>hg ?_)
   show (if g=f then some u else mA g)=none
   rw [if_neg q];exact z
theorem Inv.made (I:Inv X pins σ H s):Inv X pins σ (upd (upd H s.heap.objs.size (.own (s.heap.objs.size+1))) (s.heap.objs.size+1) (.ins C s.heap.objs.size []))
  {s with heap:=(s.heap.push Yu).push (Zl C s.heap.objs.size)}:=by
 have e1:(s.heap.push Yu).get? s.heap.objs.size=some Yu:=Xf s.heap rfl
 have e2:((s.heap.push Yu).push (Zl C s.heap.objs.size)).get? (s.heap.objs.size+1)=some (Zl C s.heap.objs.size):=by
  have:=Xf (s.heap.push Yu) (o:=Zl C s.heap.objs.size) rfl
  rwa [Vc] at this
 have e3:(s.heap.push Yu).Ns s.heap.objs.size (fun _=>none):=⟨Yu,#[],_,e1,rfl,(fun e he=>absurd he (by simp)),fun _=>rfl⟩
 have I1:=I.laid (a:=s.heap.objs.size) (o:=.own (s.heap.objs.size+1)) (h':=s.heap.push Yu) (t':=s.toks) (fun b u q=>Ql _ q) (Qk _) ⟨_,e1⟩
 refine I1.laid (a:=s.heap.objs.size+1) (o:=.ins C s.heap.objs.size []) (t':=s.toks) (fun b u q=>Ql _ q) (Ua (Vc _ _)) ?_
 have ne:s.heap.objs.size≠s.heap.objs.size+1:=Xb (Vq _)
 refine ⟨by rw [a0a ne,a0d],Xe _,ne,e2,fun _=>none,(Heap.Ns1.of_empty e3).at fun o q=>Ql _ q,fun _=>True.intro,fun y hy=>absurd rfl hy⟩
theorem b7A {prog:Program} {w:World} {env:Env} {e:Expr} {f:Str} {pos:Pos} {s:Shared} {Q:Value→Shared→Prop} (hb:attributeBase e f env (eval e env)=eval e env)
  (h:wpAny (model prog w) A (eval e env) (fun o s₁=>wpAny (model prog w) A (getAttr o f true) Q E s₁) E s):wpAny (model prog w) A (eval (.Attribute e f pos) env) Q E s:=
 Attribute_any_ h (by rw [arm_eval_Attribute,hb])
end
def a3E (K:Qd) (ta:TE) (f:Str):TE:=fun σ H Q=>ta σ H fun x H1=>∃a C dx fs v,x=.ref a∧H1 a=some (.ins C dx fs)∧Cls K C∧a0C K C f∧fs.lookup f=some v∧Q v H1
def c0L (K:Qd) (ta tv:TE) (f:Str):TS:=fun D σ H=>tv σ H fun y H1=>ta σ H1 fun x H2=>∃a C dx fs,x=.ref a∧H2 a=some (.ins C dx fs)∧Cls K C∧a0C K C f∧fs.length < 1000∧
 D.nx σ (upd H2 a (.ins C dx (a1o f y fs)))
section
variable {X:Cx} {o e value:Expr} {f:Str} {pos pos' tpos:Pos} {ta tv:TE}
theorem b4M (he:PE X e ta) (hb:attributeBase e f X.env (eval e X.env)=eval e X.env):PE X (.Attribute e f pos) (a3E X.K ta f):=by
 intro pins s σ H Q I h
 refine b7A hb (thn (he pins s σ H _ I h) fun u s1 ⟨x,H1,I1,rx,a,C,dx,fs,v,ex,ea,c,n,l,q⟩=>?_)
 subst ex
 obtain rfl:u=Value.ref a:=rx
 exact a8H I1 ea c n l fun u' s2 I2 ru=>⟨v,H1,I2,ru,q⟩
theorem b9e (ha:PE X o ta) (hv:PE X value tv) (hs:swapsWith value (some (.Attribute o f pos')) pos.line X.env=pure false):PS X (.Assign [.Attribute o f pos'] value pos) (c0L X.K ta tv f):=by
 intro pins s σ H D I h
 refine plainObj_wpAny_Assign_Attribute (thn (hv pins s σ H _ I h) fun u s1 ⟨y,H1,I1,ry,q⟩=>thn (ha pins s1 σ H1 _ I1 q) fun ov s2 ⟨x,H2,I2,rx,a,C,dx,fs,ex,ea,c,n,l,q2⟩=>?_) hs
 subst ex
 obtain rfl:ov=Value.ref a:=rx
 exact a8W I2 ea c n l ry fun s3 I3=>⟨σ,_,I3,q2⟩
end
end L2
namespace L2
open PySem PySem.Spec PyProof.Rows
structure a2u (k:Nat) (A:Around):Prop where
 hd:A.handled=none
 dp:A.depth+3 * k+5 < recursionLimit
 un:A.units+16 * k+200 < cLine
theorem a2u.mono {j k:Nat} {A:Around} (r:a2u k A) (h:j≤k):a2u j A:=⟨r.hd,by have:=r.dp;omega,by have:=r.un;omega⟩
theorem a2u.deeper {k:Nat} {A:Around} (r:a2u (k+1) A) (env:Env):a2u k (A.deeper env):=
 ⟨r.hd,by have:=r.dp;show A.depth+1+3 * k+5 < _;omega,by have:=r.un;show A.units+3+16 * k+200 < _;omega⟩
theorem a2u.in1 {k:Nat} {A:Around} (r:a2u (k+1) A):a2u k A.in1:=
 ⟨r.hd,by have:=r.dp;show A.depth+3 * k+5 < _;omega,by have:=r.un;show A.units+1+16 * k+200 < _;omega⟩
theorem a9j {A:Around} {C:Addr} {us:List Value} {kw:List (Str×Value)}:(A.under (.builtin "type.__call__" ⟨.ref C::us,kw⟩)).depth=A.depth+1:=by
 first | rfl | simp [Around.under,Code.weight,Code.isCreation,Code.isGuard,Code.isCaller,Code.frames,Code.isFrame,guardIds]
theorem a8K {A:Around} {C:Addr} {us:List Value} {kw:List (Str×Value)}:(A.under (.builtin "type.__call__" ⟨.ref C::us,kw⟩)).units=A.units+1:=by
 first | rfl | simp [Around.under,Code.cUnits,Code.frames,Code.isFrame]
theorem a2u.make {k:Nat} {A:Around} (r:a2u (k+1) A) (C:Addr) (us:List Value) (kw:List (Str×Value)):a2u k (A.under (.builtin "type.__call__" ⟨.ref C::us,kw⟩)):=
 ⟨r.hd,by have:=r.dp;rw [a9j];omega,by have:=r.un;rw [a8K];omega⟩
theorem a2u.depth {k:Nat} {A:Around} (r:a2u k A):A.depth < recursionLimit:=by have:=r.dp;omega
theorem a2u.units {k:Nat} {A:Around} (r:a2u k A):A.units+64 < cLine:=by have:=r.un;omega
def a0r:TA:=fun _ H Q=>Q [] H
def a0j (ta:TE) (tr:TA):TA:=fun σ H Q=>ta σ H fun x H1=>tr σ H1 fun xs H2=>Q (x::xs) H2
section
variable {X:Cx} {e:Expr} {es:List Expr} {te:TE} {t:TA} {pos:Pos}
theorem b4D:PA X [] a0r:=fun _ _ _ _ H Q I h=>Calls.spliced_nil ⟨[],H,I,.nil,h⟩
theorem b1b (ha:PE X e te) (hr:PA X es t) (hs:starEach (e::es) X.env=(false,eval e X.env)::starEach es X.env:=by rfl):PA X (e::es) (a0j te t):=by
 intro pos pins s σ H Q I h
 rw [hs]
 show wpAny _ _ (spliced ((false,eval e X.env)::backTo pos (starEach es X.env))) _ _ s
 refine Calls.spliced_cons (thn (ha pins s σ H _ I h) fun u s1 ⟨x,H1,I1,r1,q1⟩=>?_)
 exact thn (hr pos pins s1 σ H1 _ I1 q1) fun us s2 ⟨xs,H2,I2,r2,q2⟩=>⟨x::xs,H2,I2,.cons r1 r2,q2⟩
def a7o (t:TA):TE:=fun σ H Q=>t σ H fun xs H1=>xs.length≤sizeLine∧∀p,H1 p=none→Q (.ref p) (upd H1 p (.tup xs))
def a3n (t:TA):TE:=fun σ H Q=>t σ H fun xs H1=>xs.length≤sizeLine∧∀p,H1 p=none→Q (.ref p) (upd H1 p (.lst xs))
theorem c1r {x1} (h:PA X es t):PE X (.Tuple es x1 pos) (a7o t):=by
 intro pins s σ H Q I hq
 refine wpAny_Tuple_spliced (thn (h pos pins s σ H _ I hq) fun us s1 ⟨xs,H1,I1,r,z,q⟩=>⟨by rw [←r.length];exact z,?_⟩)
 have hf:H1 s1.heap.objs.size=none:=I1.hok.fresh (Qk _)
 refine ⟨.ref s1.heap.objs.size,upd H1 s1.heap.objs.size (.tup xs),I1.laid (t':=s1.toks) (fun b u e=>Ql _ e) (Qk _) ?_,rfl,q _ hf⟩
 exact ⟨z,us,r,⟨_,Xf _ rfl,rfl,_,rfl⟩⟩
theorem c1b (h:PA X es t):PE X (.List es pos) (a3n t):=by
 intro pins s σ H Q I hq
 refine wpAny_List_spliced (thn (h pos pins s σ H _ I hq) fun us s1 ⟨xs,H1,I1,r,z,q⟩=>⟨by rw [←r.length];exact z,?_⟩)
 have hf:H1 s1.heap.objs.size=none:=I1.hok.fresh (Qk _)
 refine ⟨.ref s1.heap.objs.size,upd H1 s1.heap.objs.size (.lst xs),I1.laid (t':=s1.toks) (fun b u e=>Ql _ e) (Qk _) ?_,rfl,q _ hf⟩
 exact ⟨z,us,0,r,Xf _ rfl⟩
end
abbrev Sp:=List V→Hp→VK→XK→Prop
abbrev CXT:=List Env→Hp→Shared→XK→Value→Shared→Prop
structure b6M (P:Program) (w:World) (K:Qd) (mg:Str→Option Value) (base:Heap) (A:Around) (outer:List Env) (s:Shared) (H:Hp):Prop where
 frames:A.frames=some outer
 mod:Mod K mg base
 bs:∀b o,base.get? b=some o→s.heap.get? b=some o∧H b=none
 bsz:base.objs.size≤s.heap.objs.size
 funs:s.heap.FunFrames base outer
 frf:∀b∈frs outer,H b=none
 hok:HOk P w H s.heap
 bare:AllBare s.gens
def CE (outer:List Env) (P:Program) (w:World) (H:Hp) (s:Shared) (Q:VK) (u:Value) (s':Shared):Prop:=
 ∃v H',s'.os=s.os∧AllBare s'.gens∧Un (frs outer) [] H H' s.heap s'.heap∧HOk P w H' s'.heap∧a0P v u∧Q v H'
def CR (CX:CXT) (outer:List Env) (P:Program) (w:World) (H:Hp) (s:Shared) (Q:VK) (E:XK) (r:Result) (s':Shared):Prop:=
 match r with
 | .ok (.ret u)=>CE outer P w H s Q u s'
 | .ok _=>False
 | .error e=>CX outer H s E e s'
structure a0V (P:Program) (w:World) (K:Qd) (mg:Str→Option Value) (base:Heap) (CX:CXT) (k:Nat) (f:Addr) (fd:FuncData) (ps:List Str) (sp:Sp):Prop where
 len:∀vs H Q E,sp vs H Q E→vs.length=ps.length
 run:∀(A:Around) (outer:List Env) (s:Shared) (H:Hp) (args:Args) (us:List Value) (vs:List V) (Q:VK) (E:XK),a2u k A→b6M P w K mg base A outer s H→BindsTo s fd args (ps.zip us)→a0L vs us→sp vs H Q E→
  codeAny (model P w) A (.call (.ref f) args) (CR CX outer P w H s Q E) s
theorem a0V.imp {P:Program} {w:World} {K:Qd} {mg:Str→Option Value} {base:Heap} {CX:CXT} {k:Nat} {f:Addr} {fd:FuncData} {ps:List Str} {sp sp':Sp} (F:a0V P w K mg base CX k f fd ps sp)
  (h:∀vs H Q E,sp' vs H Q E→sp vs H Q E):a0V P w K mg base CX k f fd ps sp':=
 ⟨fun vs H Q E q=>F.len vs H Q E (h _ _ _ _ q),fun A outer s H args us vs Q E hr he hb hv hs=>F.run A outer s H args us vs Q E hr he hb hv (h _ _ _ _ hs)⟩
theorem b6M.make {P:Program} {w:World} {K:Qd} {mg:Str→Option Value} {base:Heap} {A:Around} {outer:List Env} {s:Shared} {H:Hp} (e:b6M P w K mg base A outer s H) (C:Addr) (us:List Value) (kw:List (Str×Value)):
  b6M P w K mg base (A.under (.builtin "type.__call__" ⟨.ref C::us,kw⟩)) outer s H:=⟨by first | exact e.frames | (simpa [Around.under,Code.envs,Code.isFrame,pushEnvs] using e.frames),e.mod,e.bs,e.bsz,e.funs,e.frf,e.hok,e.bare⟩
section
variable {X:Cx} {pins:List (Addr×Obj)} {σ:St} {H:Hp} {s s':Shared}
theorem Inv.env0 (I:Inv X pins σ H s):b6M X.prog X.w X.K X.mg X.base X.A X.stack s H:=
 ⟨I.ok.frames,I.ok.mod,I.bs,Qi I.ok.bsz I.sz,I.stack,I.stkFree,I.hok,I.bare⟩
theorem Inv.after {Q:VK} {u:Value} (I:Inv X pins σ H s) (h:CE X.stack X.prog X.w H s Q u s'):EP X pins σ Q u s':=by
 obtain ⟨v,H',os,bare,un,hok,r,q⟩:=h
 obtain ⟨hh,g,d,t,os'⟩:=s'
 obtain rfl:os'=s.os:=os
 exact ⟨v,H',I.call (h':=hh) (g':=g) (d':=d) (t':=t) (ch:=[]) un hok bare (fun b z=>absurd z (by simp)),r,q⟩
end
def a0x (sp:Sp) (dvs:List V) (E:XK) (t:TA):TE:=fun σ H Q=>t σ H fun vs H1=>sp (vs++dvs) H1 Q E
def a2g (C:Addr) (m:Str) (sp:Sp) (dvs:List V) (E:XK) (ta:TE) (t:TA):TE:=fun σ H Q=>ta σ H fun x H1=>∃a dx fs,x=.ref a∧H1 a=some (.ins C dx fs)∧fs.lookup m=none∧
 t σ H1 fun vs H2=>sp (x::(vs++dvs)) H2 Q E
def b6L (C:Addr) (sp:Sp) (dvs:List V) (E:XK) (t:TA):TE:=fun σ H Q=>t σ H fun vs H1=>∀x dx,H1 x=none→H1 dx=none→dx≠x→
 sp (.ref x::(vs++dvs)) (upd (upd H1 dx (.own x)) x (.ins C dx [])) (fun v H2=>v=.non∧Q (.ref x) H2) E
def a0m (K:Qd) (fd:FuncData) (ps:List Str) (ds:List Value):Prop:=
 ∀(s:Shared) (us:List Value),K.In s.heap→(us++ds).length=ps.length→BindsTo s fd ⟨us,[]⟩ (ps.zip (us++ds))
theorem a0m.all {K:Qd} {fd:FuncData} {ps:List Str} (h:∀us:List Value,us.length=ps.length→bindArgs fd ⟨us,[]⟩=pure (ps.zip us)):a0m K fd ps []:=fun s us _ hl=>by
 rw [Qj] at hl ⊢
 exact .of_eq (h us hl)
def a3s (CX:CXT) (X:Cx) (E:XK):Prop:=∀(pins:List (Addr×Obj)) (σ:St) (H:Hp) (s:Shared) (e:Value) (s':Shared),Inv X pins σ H s→CX X.stack H s E e s'→X.xe e s'
section
variable {X:Cx} {CX:CXT} {k:Nat} {f C:Addr} {fd:FuncData} {ps:List Str} {sp:Sp} {dvs:List V} {ds:List Value} {E:XK} {x m:Str} {p pos apos:Pos} {e o:Expr} {es:List Expr} {ta:TE} {t:TA}
theorem a8q {pins:List (Addr×Obj)} {σ:St} {H:Hp} {s:Shared} {Q:VK} {us:List Value} {vs:List V} (F:a0V X.prog X.w X.K X.mg X.base CX k f fd ps sp) (hr:a2u k X.A) (hb:a0m X.K fd ps ds) (hd:a0L dvs ds) (hx:a3s CX X E)
  (I:Inv X pins σ H s) (r:a0L vs us) (h:sp (vs++dvs) H Q E):wpAny (model X.prog X.w) X.A (call (.ref f) us) (EP X pins σ Q) X.xe s:=by
 have r2:a0L (vs++dvs) (us++ds):=r.append hd
 have hl:(us++ds).length=ps.length:=by rw [←r2.length];exact F.len _ _ _ _ h
 refine wpAny_call (codeAny_mono (F.run X.A X.stack s H ⟨us,[]⟩ (us++ds) (vs++dvs) Q E hr I.env0 (hb s us I.kIn hl) r2 h) fun r s' hq=>?_)
 cases r with
 | error e=>exact hx pins σ H s e s' I hq
 | ok fl=>
  cases fl with
  | ret u=>exact I.after hq
  | next=>exact False.elim hq
  | brk=>exact False.elim hq
  | cont=>exact False.elim hq
theorem b6i (F:a0V X.prog X.w X.K X.mg X.base CX k f fd ps sp) (hr:a2u k X.A) (hg:Gl X x) (hm:X.mg x=some (.ref f)) (hk:Zk X.K (.ref f)=true) (hb:a0m X.K fd ps ds) (hd:a0L dvs ds) (hx:a3s CX X E)
  (ha:PA X (e::es) t) (hdb:(x == ("__debug__":Str))=false:=by decide) (he:starEach (e::es) X.env=(false,eval e X.env)::starEach es X.env:=by rfl) (hpl:(backTo pos (starEach es X.env)).any (·.1)=false:=by rfl):
  PE X (.Call (.Name x p) (e::es) [] pos) (a0x sp dvs E t):=by
 intro pins s σ H Q I h
 refine wpAny_Call_Name_kw (a6U I hg hm ?_ hdb)
 refine Ub (h₀:=X.base) I.ok.mod.kin hk (thn (ha pos pins s σ H _ I h) fun us s1 ⟨vs,H1,I1,r,q⟩=>⟨I1.kIn,?_⟩) he hpl
 exact a8q F hr hb hd hx I1 r q
theorem b7q {pl:Sem Bool} (he:PE X o ta) (c:Cls X.K C) (hm:a3I X.K C m f) (F:a0V X.prog X.w X.K X.mg X.base CX k f fd ps sp) (hr:a2u k X.A) (hb:a0m X.K fd ps ds) (hd:a0L dvs ds) (hx:a3s CX X E) (ha:PA X (e::es) t)
  (hst:starEach (e::es) X.env=(false,eval e X.env)::starEach es X.env:=by rfl) (hpl:(backTo pos (starEach es X.env)).any (·.1)=false:=by rfl)
  (ht:eval (.Call (.Attribute o m apos) (e::es) [] pos) X.env=(do
   let ov ←eval o X.env
   standAt apos.atName
   let (f,first) ←holding [ov] (getMethod ov m pl)
   callWith pos f first (backTo pos (starEach (e::es) X.env)) (backToKw pos (keywordEach [] X.env))):=by rfl):
  PE X (.Call (.Attribute o m apos) (e::es) [] pos) (a2g C m sp dvs E ta t):=by
 intro pins s σ H Q I h
 refine Up (pl:=pl) (thn (he pins s σ H _ I h) fun u s1 ⟨x,H1,I1,rx,a,dx,fs,ex,ea,l,q⟩=>?_) ht
 subst ex
 obtain rfl:u=Value.ref a:=rx
 refine a4N I1 ea c hm l ?_
 refine Ub (first:=[.ref a]) (h₀:=X.base) I.ok.mod.kin hm.kp (thn (ha pos pins s1 σ H1 _ I1 q) fun us s2 ⟨vs,H2,I2,r,q2⟩=>⟨I2.kIn,?_⟩) hst hpl
 exact a8q (us:=.ref a::us) (vs:=.ref a::vs) F hr hb hd hx I2 (.cons rfl r) q2
theorem b3A {pl:Sem Bool} (he:PE X o ta) (c:Cls X.K C) (hm:a3I X.K C m f) (F:a0V X.prog X.w X.K X.mg X.base CX k f fd ps sp) (hr:a2u k X.A) (hb:a0m X.K fd ps ds) (hd:a0L dvs ds) (hx:a3s CX X E)
  (ht:eval (.Call (.Attribute o m apos) [] [] pos) X.env=(do
   let ov ←eval o X.env
   standAt apos.atName
   let (f,first) ←holding [ov] (getMethod ov m pl)
   callWith pos f first (backTo pos (starEach [] X.env)) (backToKw pos (keywordEach [] X.env))):=by rfl):
  PE X (.Call (.Attribute o m apos) [] [] pos) (a2g C m sp dvs E ta a0r):=by
 intro pins s σ H Q I h
 refine Up (pl:=pl) (thn (he pins s σ H _ I h) fun u s1 ⟨x,H1,I1,rx,a,dx,fs,ex,ea,l,q⟩=>?_) ht
 subst ex
 obtain rfl:u=Value.ref a:=rx
 refine a4N I1 ea c hm l ?_
 exact PySem.W.callWith_K0 (first:=[.ref a]) I1.kIn hm.kp (a8q (us:=[.ref a]) (vs:=[.ref a]) F hr hb hd hx I1 (.cons rfl .nil) q)
structure Mk (K:Qd) (C f:Addr):Prop where
 makes:Gn K C=true
 init:Yt K (.ref C) "__init__"=some (some (.ref f))
 fn:Gf K (.ref f)=true
 kp:Zk K (.ref C)=true
theorem b2Q {pins:List (Addr×Obj)} {σ:St} {H:Hp} {s:Shared} {Q:VK} {us:List Value} {vs:List V} (M:Mk X.K C f) (F:a0V X.prog X.w X.K X.mg X.base CX k f fd ps sp) (hr:a2u (k+1) X.A) (hb:a0m X.K fd ps ds) (hd:a0L dvs ds)
  (hx:a3s CX X E) (I:Inv X pins σ H s) (r:a0L vs us)
  (h:∀x dx,H x=none→H dx=none→dx≠x→sp (.ref x::(vs++dvs)) (upd (upd H dx (.own x)) x (.ins C dx [])) (fun v H2=>v=.non∧Q (.ref x) H2) E):
  wpAny (model X.prog X.w) X.A (call (.ref C) us) (EP X pins σ Q) X.xe s:=by
 have hq:=h (s.heap.objs.size+1) s.heap.objs.size (I.hok.fresh (Zh _)) (I.hok.fresh (Qk _)) (Xb (Vq _))
 have I2:=Inv.made (C:=C) I
 have r2:a0L (V.ref (s.heap.objs.size+1)::(vs++dvs)) (Value.ref (s.heap.objs.size+1)::(us++ds)):=.cons rfl (r.append hd)
 have hl:(Value.ref (s.heap.objs.size+1)::us++ds).length=ps.length:=by
  have e:=r2.length
  rw [F.len _ _ _ _ hq] at e
  exact e.symm
 refine wpAny_call (b3s (f:=f) I.kIn M.makes M.init (beq_iff_eq.mp M.fn) (codeAny_mono (F.run _ X.stack _ _ ⟨Value.ref (s.heap.objs.size+1)::us,[]⟩ (Value.ref (s.heap.objs.size+1)::(us++ds)) _ _ E (hr.make C us [])
  (I2.env0.make C us []) (hb _ (Value.ref (s.heap.objs.size+1)::us) I2.kIn hl) r2 hq) fun r s' hq'=>?_))
 cases r with
 | error e=>exact hx pins σ _ _ e s' I2 hq'
 | ok fl=>
  cases fl with
  | ret u=>
   obtain ⟨v,H',I3,rv,ev,q3⟩:=I2.after hq'
   subst ev
   exact ⟨rv,⟨V.ref (s.heap.objs.size+1),H',I3,rfl,q3⟩⟩
  | next=>exact False.elim hq'
  | brk=>exact False.elim hq'
  | cont=>exact False.elim hq'
theorem b7c (M:Mk X.K C f) (F:a0V X.prog X.w X.K X.mg X.base CX k f fd ps sp) (hr:a2u (k+1) X.A) (hg:Gl X x) (hm:X.mg x=some (.ref C)) (hb:a0m X.K fd ps ds) (hd:a0L dvs ds) (hx:a3s CX X E)
  (ha:PA X (e::es) t) (hdb:(x == ("__debug__":Str))=false:=by decide) (he:starEach (e::es) X.env=(false,eval e X.env)::starEach es X.env:=by rfl) (hpl:(backTo pos (starEach es X.env)).any (·.1)=false:=by rfl):
  PE X (.Call (.Name x p) (e::es) [] pos) (b6L C sp dvs E t):=by
 intro pins s σ H Q I h
 refine wpAny_Call_Name_kw (a6U I hg hm ?_ hdb)
 refine Ub (h₀:=X.base) I.ok.mod.kin M.kp (thn (ha pos pins s σ H _ I h) fun us s1 ⟨vs,H1,I1,r,q⟩=>⟨I1.kIn,?_⟩) he hpl
 exact b2Q M F hr hb hd hx I1 r q
end
structure a0g (N P:List Str) (sc:Scope):Prop where
 kind:sc.kind=.function
 co:sc.isCoroutine=false
 gen:sc.isGenerator=false
 nd:N.Nodup
 pre:N.take P.length=P
 par:∀x∈P,sc.names.lookup x=some .local∨sc.names.lookup x=some .cell
 nofree:∀y∈sc.names,y.2≠.free
theorem a5O {kindOf:Str→Option NameKind} {x:Str}:∀{binds:List (Str×Value)} {m:Str→Option Value},(∀v,(x,v)∉binds)→bindL kindOf binds m x=m x
 | [],_,_=>rfl
 | (n,v)::r,m,h=>by
  unfold bindL
  rw [a5O fun w hw=>h w (Qt _ hw)]
  split
  ·have:x≠n:=by rintro rfl;exact h v Qs
   simp [this]
  ·rfl
theorem a6D {kindOf:Str→Option NameKind} {x:Str}:∀{binds:List (Str×Value)} {m:Str→Option Value},(∀v,(x,v)∉binds)→bindC kindOf binds m x=m x
 | [],_,_=>rfl
 | (n,v)::r,m,h=>by
  unfold bindC
  rw [a6D fun w hw=>h w (Qt _ hw)]
  split
  ·rfl
  ·have:x≠n:=by rintro rfl;exact h v Qs
   simp [this]
theorem a6g {kindOf:Str→Option NameKind} {x:Str} {v:Value}:∀{P:List Str} {vs:List Value} {i:Nat} {m:Str→Option Value},P.Nodup→P[i]?=some x→vs[i]?=some v→kindOf x=some .local→
  bindL kindOf (P.zip vs) m x=some v
 | [],_,_,_,_,h,_,_=>by simp at h
 | _::_,[],_,_,_,_,h,_=>by simp at h
 | p::P,w::vs,0,m,nd,h1,h2,hk=>by
  simp at h1 h2;subst h1;subst h2
  show bindL kindOf ((p,w)::P.zip vs) m p=_
  unfold bindL
  rw [a5O fun v hv=>(Yw.mp nd).1 (Wg hv).1,if_pos hk]
  simp
 | p::P,w::vs,i+1,m,nd,h1,h2,hk=>by
  show bindL kindOf ((p,w)::P.zip vs) m x=_
  unfold bindL
  exact a6g (i:=i) (Yw.mp nd).2 (by simpa using h1) (by simpa using h2) hk
theorem a6t {kindOf:Str→Option NameKind} {x:Str} {v:Value}:∀{P:List Str} {vs:List Value} {i:Nat} {m:Str→Option Value},P.Nodup→P[i]?=some x→vs[i]?=some v→kindOf x≠some .local→
  bindC kindOf (P.zip vs) m x=some v
 | [],_,_,_,_,h,_,_=>by simp at h
 | _::_,[],_,_,_,_,h,_=>by simp at h
 | p::P,w::vs,0,m,nd,h1,h2,hk=>by
  simp at h1 h2;subst h1;subst h2
  show bindC kindOf ((p,w)::P.zip vs) m p=_
  unfold bindC
  rw [a6D fun v hv=>(Yw.mp nd).1 (Wg hv).1,if_neg hk]
  simp
 | p::P,w::vs,i+1,m,nd,h1,h2,hk=>by
  show bindC kindOf ((p,w)::P.zip vs) m x=_
  unfold bindC
  exact a6t (i:=i) (Yw.mp nd).2 (by simpa using h1) (by simpa using h2) hk
def start (N:List Str) (vs:List V):St:=vs.map some++List.replicate (N.length - vs.length) none
def b4A (CX:CXT) (P:Program) (w:World) (K:Qd) (mg:Str→Option Value) (base:Heap) (N:List Str) (qual:Str) (scope:Scope) (f:Addr) (cd:Value) (A:Around) (outer:List Env) (s:Shared) (H:Hp) (E:XK):Cx where
 prog:=P
 w:=w
 K:=K
 mg:=mg
 base:=base
 A:=A.deeper (envOfC qual scope s.heap.objs.size f cd)
 N:=N
 s₀:=s
 H₀:=H
 env:=envOfC qual scope s.heap.objs.size f cd
 outer:=outer
 stack:=envOfC qual scope s.heap.objs.size f cd::outer
 ex:=[]
 calm:=true
 fn:=fun _=>true
 pn:=[]
 xe:=fun e s'=>wpAny (model P w) (A.deeper (envOfC qual scope s.heap.objs.size f cd)) (leaving (envOfC qual scope s.heap.objs.size f cd) e) (fun _ s''=>CX outer H s E e s'') (fun e' s''=>CX outer H s E e' s'') s'
theorem a7L {sc:Scope} {n:Nat} {x:Str} (h:sc.names.lookup x=some .cell):∃c,(cellsFrom n sc.names []).lookup x=some c:=by
 have q:=Wi sc.names n [] (.inl h)
 exact Vr.mp q
theorem b0X {CX:CXT} {P:Program} {w:World} {K:Qd} {mg:Str→Option Value} {base:Heap} {N ps:List Str} {qual:Str} {scope:Scope} {f:Addr} {cd:Value} {A:Around} {outer:List Env} {s s1:Shared} {H:Hp} {E:XK} {us:List Value} {vs:List V}
  (S:a0g N ps scope) (hd:A.handled=none) (e0:b6M P w K mg base A outer s H) (hl:vs.length=ps.length) (r:a0L vs us)
  (x:InCallC s s.heap.objs.size (bindL (envOfC qual scope s.heap.objs.size f cd).kindOf (ps.zip us) fun _=>none) (cellsFrom (s.heap.objs.size+1) scope.names []) (bindC (envOfC qual scope s.heap.objs.size f cd).kindOf (ps.zip us) fun _=>none) s1):
  Inv (b4A CX P w K mg base N qual scope f cd A outer s H E) [] (start N vs) H s1:=by
 have hpl:ps.length≤N.length:=by have:=congrArg Yp S.pre;rw [Yo] at this;omega
 obtain ⟨h1,tk,rfl,hk⟩:=x.done
 have noA:∀b:Addr,b∉(b4A CX P w K mg base N qual scope f cd A outer s H E).ex:=fun b z=>absurd (show b∈([]:List Addr) from z) (by simp)
 refine ⟨⟨e0.mod,S.kind,rfl,rfl,Qk _,fun y z c h1 h2=>?_,fun y hy=>?_,fun y c _ h=>?_,fun _=>hd,Around.frames_deeper e0.frames,.inr ⟨rfl,rfl⟩,fun b z=>absurd z (noA b),e0.bs,e0.bsz,fun b _ _=>noA b,fun b z=>absurd z (noA b),e0.funs,e0.frf⟩,
  rfl,e0.bare,Un.kept hk,⟨_,x.toInCall.ns,fun i y v h1 h2 h3=>?_⟩,fun y c h=>⟨_,x.cell y c h⟩,e0.hok.fresh (Qk _),fun y c h=>?_,fun p hp=>absurd (show p∈([]:List (Addr×Obj)) from hp) (by simp),e0.hok.kept hk,?_⟩
 ·exact name_of_addr x.apart (PySem.mem_of_lookup h1) (PySem.mem_of_lookup h2)
 ·have hy:scope.names.lookup y=some .cell∨scope.names.lookup y=some .free:=hy
  rcases hy with hy | hy
  ·exact a7L hy
  ·exact absurd rfl (S.nofree _ (PySem.mem_of_lookup hy))
 ·exact Vo (x.above y c (PySem.mem_of_lookup h))
 ·have hi:i < vs.length:=by
   unfold start at h2
   by_cases hi:i < vs.length
   ·exact hi
   ·rw [Xz (by simpa using hi)] at h2
    rw [List.getElem?_replicate] at h2
    split at h2<;>cases h2
  have ha:vs[i]?=some v:=by
   unfold start at h2
   rw [Yc (by simpa using hi),Qm] at h2
   cases e:vs[i]? with
   | none=>rw [e] at h2;cases h2
   | some a=>rw [e] at h2;cases h2;rfl
  obtain ⟨u,hu,rv⟩:=r.get ha
  have hp:ps[i]?=some y:=by
   rw [←S.pre,List.getElem?_take_of_lt (by omega)];exact h1
  have ndP:ps.Nodup:=by rw [←S.pre];exact S.nd.sublist (List.take_sublist _ _)
  refine ⟨u,rv,?_⟩
  rcases S.par y (Ut hp) with k | k
  ·exact .inl ⟨k,a6g ndP hp hu k⟩
  ·obtain ⟨c,e⟩:=a7L (n:=s.heap.objs.size+1) k
   refine .inr ⟨.inl k,c,e,?_⟩
   have q:=x.cell y c e
   rw [a6t ndP hp hu (by show scope.names.lookup y≠_;rw [k];decide)] at q
   exact q
 ·exact e0.hok.fresh (Vo (x.above y c (PySem.mem_of_lookup h)))
 ·unfold start
  show _=N.length
  rw [Xq,Qe,List.length_replicate]
  omega
theorem b6r {CX:CXT} {P:Program} {w:World} {K:Qd} {mg:Str→Option Value} {base:Heap} {k:Nat} {f:Addr} {name qual:Str} {params:Arguments} {body:List Stmt} {scope:Scope} {dV kV doc pm cdv ct oc:Value} {an od:Option Addr}
  {osl:Array (Option Value)} {N ps:List Str} {sp:Sp} (lk:K.lookup f=some ⟨oc,od,.func (Yy name qual params body scope dV kV doc pm an cdv ct),osl⟩) (hcd:Jp K cdv qual=true) (S:a0g N ps scope)
  (len:∀vs H Q E,sp vs H Q E→vs.length=ps.length)
  (hbody:∀(A:Around) (outer:List Env) (s:Shared) (H:Hp) (vs:List V) (Q:VK) (E:XK),a2u k (A.deeper (envOfC qual scope s.heap.objs.size f cdv))→sp vs H Q E→
   ∃t,PSs (b4A CX P w K mg base N qual scope f cdv A outer s H E) body t∧t {nx:=fun _ H'=>Q .non H',rt:=Q} (start N vs) H):
  a0V P w K mg base CX (k+1) f (Yy name qual params body scope dV kV doc pm an cdv ct) ps sp:=by
 refine ⟨len,fun A outer s H args us vs Q E hr e0 hb r hsp=>?_⟩
 have hl:=len _ _ _ _ hsp
 have KX:K.In s.heap:=e0.mod.kin.keeps fun b o e=>(e0.bs b o e).1
 have lim:s.heap.NoLimit:=e0.mod.nolimit.keeps fun b o e=>(e0.bs b o e).1
 have hkind:∀y∈ps.zip us,scope.names.lookup y.1=some .local∨(scope.names.lookup y.1=some .cell∧((cellsFrom (s.heap.objs.size+1) scope.names []).lookup y.1).isSome=true):=fun ⟨n,v⟩ hy=>by
  rcases S.par n (Wg hy).1 with q | q
  ·exact .inl q
  ·exact .inr ⟨q,Wi _ _ _ (.inl q)⟩
 refine codeAny_call_function hr.depth (KX _ _ lk) rfl S.co S.gen rfl (PySem.W.codeRec_of KX hcd) (hb _ _ _ _ ?_)
 refine wpAny_newFunctionEnv_cells S.kind hkind fun env he s1 x=>?_
 subst he
 refine ⟨lim.keeps x.toInCall.keep,codeAny_func ?_⟩
 obtain ⟨t,ht,hq⟩:=hbody A outer s H vs Q E (hr.deeper _) hsp
 have I:Inv (b4A CX P w K mg base N qual scope f cdv A outer s H E) [] (start N vs) H s1:=b0X S hr.hd e0 hl r x
 refine wpAny_mono (ht [] s1 (start N vs) H _ I hq) (fun fl s' hs=>?_) fun e s' hs=>hs
 have fin:∀{σ':St} {H':Hp} {v:V} {u:Value},Inv (b4A CX P w K mg base N qual scope f cdv A outer s H E) [] σ' H' s'→a0P v u→Q v H'→CE outer P w H s Q u s':=
  fun {σ' H' v u} J rv q=>⟨v,H',J.os,J.bare,J.base,J.hok,rv,q⟩
 cases fl with
 | ret u=>
  obtain ⟨v,σ',H',J,rv,q⟩:=hs
  exact fin J rv q
 | next=>
  obtain ⟨σ',H',J,q⟩:=hs
  exact fin (v:=V.non) (u:=Value.none) J rfl q
 | brk=>
  obtain ⟨_,_,_,q⟩:=hs
  exact False.elim q
 | cont=>
  obtain ⟨_,_,_,q⟩:=hs
  exact False.elim q
end L2
namespace L2
open PySem PySem.Spec PyProof.Rows
section
variable {X:Cx} {x:Str} {p pos:Pos} {e:Expr} {es:List Expr} {t:TA} {id T:String} {r:List V→Hp→VK→Prop}
def tCB (r:List V→Hp→VK→Prop) (t:TA):TE:=fun σ H Q=>t σ H fun vs H1=>r vs H1 Q
theorem b2N (hc:a1H X (.builtin id) r) (hg:Gl X x) (hm:X.mg x=none) (hv:bootBuiltins x=some (.builtin id)) (ha:PA X (e::es) t) (hn:x≠"__name__":=by decide) (hdb:(x == ("__debug__":Str))=false:=by decide)
  (he:starEach (e::es) X.env=(false,eval e X.env)::starEach es X.env:=by rfl) (hpl:(backTo pos (starEach es X.env)).any (·.1)=false:=by rfl):PE X (.Call (.Name x p) (e::es) [] pos) (tCB r t):=by
 intro pins s σ H Q I h
 refine wpAny_Call_Name_kw (a3v I hg hm hv ?_ hn hdb)
 exact PyProof.Rows.callWith_builtin1 (thn (ha pos pins s σ H _ I h) fun us s1 ⟨vs,H1,I1,r1,q1⟩=>hc pins s1 σ H1 vs us Q I1 r1 q1) he hpl
theorem a9W (hc:a1H X (.type T) r) (hg:Gl X x) (hm:X.mg x=none) (hv:bootBuiltins x=some (.type T)) (ha:PA X (e::es) t) (hn:x≠"__name__":=by decide) (hdb:(x == ("__debug__":Str))=false:=by decide)
  (he:starEach (e::es) X.env=(false,eval e X.env)::starEach es X.env:=by rfl) (hpl:(backTo pos (starEach es X.env)).any (·.1)=false:=by rfl):PE X (.Call (.Name x p) (e::es) [] pos) (tCB r t):=by
 intro pins s σ H Q I h
 refine wpAny_Call_Name_kw (a3v I hg hm hv ?_ hn hdb)
 exact PyProof.Rows.callWith_type1 (thn (ha pos pins s σ H _ I h) fun us s1 ⟨vs,H1,I1,r1,q1⟩=>hc pins s1 σ H1 vs us Q I1 r1 q1) he hpl
end
end L2
namespace HT
open PySem PyProof.Rows
section
variable {prog:Program} {w:World} {A:Around} {E:Value→Shared→Prop} {s:Shared}
theorem cat_tup {t b:Addr} {vs ws:List Value} {Q:Value→Shared→Prop} (ht:IsTup s.heap t vs.toArray) (hb:IsTup s.heap b ws.toArray) (hv:vs≠[])
  (h1:ws=[]→Q (.ref t) s) (h2:ws≠[]→Q (.ref s.heap.objs.size) {s with heap:=s.heap.push {cls:=.type "tuple",data:=.seq (vs++ws).toArray}})
  (hsz:vs.length+ws.length≤sizeLine):wpAny (model prog w) A (binaryOp .Add (.ref t) (.ref b)) Q E s:=by
 obtain ⟨⟨cls,dd,data,sl⟩,ho,hc,n,hd⟩:=id ht
 obtain ⟨⟨cls2,dd2,data2,sl2⟩,ho2,hc2,n2,hd2⟩:=id hb
 simp only at hc hd hc2 hd2
 subst hc hd hc2 hd2
 have e:vs.toArray++ws.toArray=(vs++ws).toArray:=by simp
 by_cases hw:ws=[]
 ·exact concat_meets ⟨_,ho,rfl⟩ ⟨_,ho2,rfl⟩ noFill_tuple_add seq_tuple_add Wj Wc (Vs _ _)
   (tuple_addW1 t b vs.toArray ws.toArray n n2 dd dd2 sl sl2 (by simpa using hv) (by simp [hw])) ⟨ho,ho2,h1 hw⟩
 ·refine concat_meets ⟨_,ho,rfl⟩ ⟨_,ho2,rfl⟩ noFill_tuple_add seq_tuple_add Wj Wc (Vs _ _)
   (tuple_addW2 t b vs.toArray ws.toArray n n2 dd dd2 sl sl2 (by simpa using hv) (by simpa using hw) (by rw [Qv,Qv];exact hsz)) ⟨ho,ho2,?_⟩
  rw [e]
  exact h2 hw
def sIx (n d:Nat):Option Int→Nat
 | none=>d
 | some v=>if v < 0 then (v+(n:Int)).toNat else min v.toNat n
theorem b9l (n d:Nat) (hd:d≤n) (o:Option Int):sIx n d o≤n:=by
 cases o with
 | none=>exact hd
 | some v=>
  show (if v < 0 then (v+(n:Int)).toNat else min v.toNat n)≤n
  by_cases hv:v < 0
  ·rw [if_pos hv];omega
  ·rw [if_neg hv];exact Nat.min_le_right _ _
theorem b0C (v:Int) (n d:Nat):(if v < 0 then max (v+(n:Int)) 0 else min v (n:Int))=((sIx n d (some v):Nat):Int):=by
 show (if v < 0 then max (v+(n:Int)) 0 else min v (n:Int))=(((if v < 0 then (v+(n:Int)).toNat else min v.toNat n):Nat):Int)
 by_cases hv:v < 0
 ·simp only [if_pos hv];omega
 ·simp only [if_neg hv];omega
theorem a9i (lo hi:Option Int) (n:Nat):Builtin.Slice.sliceAdjust lo hi 1 (n:Int)=(((sIx n 0 lo:Nat):Int),((sIx n n hi:Nat):Int)):=by
 have h1:¬((1:Int) < 0):=by omega
 unfold Builtin.Slice.sliceAdjust
 simp only [h1,if_false]
 refine Prod.ext ?_ ?_
 ·cases lo with
  | none=>rfl
  | some v=>exact b0C v n 0
 ·cases hi with
  | none=>rfl
  | some v=>exact b0C v n n
theorem a8x (i j:Nat):Builtin.Slice.slicePlaces (i:Int) (j:Int) 1=j - i:=by
 unfold Builtin.Slice.slicePlaces
 have h1:(1:Int) > 0:=by omega
 simp only [h1,if_true,Int.ediv_one]
 split<;>omega
theorem a4U {v:Value} {o:Option Int} {Q:Option Int→Shared→Prop} (p:IsPart v o) (h:Q o s):wpAny (model prog w) A (Builtin.Slice.slicePartIndex v) Q E s:=by
 cases p with
 | none=>exact slicePart_none h
 | int i t=>exact slicePart_int h
theorem a3D {sl:Addr} {vl vu:Value} {lo hi:Option Int} {n:Nat} {Q:Int×Int×Nat→Shared→Prop} (hs:s.heap.IsSliceOf sl vl vu .none) (pl:IsPart vl lo) (pu:IsPart vu hi)
  (h:Q (((sIx n 0 lo:Nat):Int),1,sIx n n hi - sIx n 0 lo) s):wpAny (model prog w) A (Builtin.Slice.sliceApplied (.ref sl) (pure (n:Int))) Q E s:=by
 obtain ⟨os,hos,hcs,hds⟩:=id hs
 unfold Builtin.Slice.sliceApplied Builtin.Slice.sliceFields
 refine wpAny_bind (wpAny_bind (wpAny_field hos hds (x:=vl) rfl (wpAny_bind (wpAny_field hos hds (x:=vu) rfl (wpAny_bind (wpAny_field hos hds (x:=.none) rfl (wpAny_pure ?_)))))))
 refine wpAny_bind (slicePart_none ?_)
 show wpAny _ _ (if ((1:Int) == 0)=true then _ else _) _ _ s
 rw [if_neg (by decide)]
 refine wpAny_bind (a4U pl (wpAny_bind (a4U pu (wpAny_bind (wpAny_pure ?_)))))
 show wpAny _ _ (match Builtin.Slice.sliceAdjust lo hi 1 (n:Int) with | (lo,hi)=>pure (lo,(1:Int),Builtin.Slice.slicePlaces lo hi 1)) _ _ s
 rw [a9i lo hi n]
 show wpAny _ _ (pure (((sIx n 0 lo:Nat):Int),(1:Int),Builtin.Slice.slicePlaces ((sIx n 0 lo:Nat):Int) ((sIx n n hi:Nat):Int) 1)) _ _ s
 rw [a8x]
 exact wpAny_pure h
theorem b3T (xs:Array Value) (i k:Nat):((Xu k).filterMap fun (m:Nat)=>xs[((i:Int)+(m:Int) * 1).toNat]?).toArray=((xs.toList.drop i).take k).toArray:=by
 have e:(fun (m:Nat)=>xs[((i:Int)+(m:Int) * 1).toNat]?)=fun m=>xs[i+m]?:=by
  funext m
  have:((i:Int)+(m:Int) * 1).toNat=i+m:=by omega
  rw [this]
 rw [e]
 have:=pick_run xs i k
 rw [List.filterMap_map] at this
 have e2:((fun x=>xs[x]?)∘fun x=>i+x)=fun m=>xs[i+m]?:=rfl
 rw [e2] at this
 rw [this]
theorem getItem_tuple_cut {t sl:Addr} {items:Array Value} {vl vu:Value} {lo hi:Option Int} {Q:Value→Shared→Prop} (ht:IsTup s.heap t items) (hs:s.heap.IsSliceOf sl vl vu .none) (pl:IsPart vl lo) (pu:IsPart vu hi)
  (hw:¬(sIx items.size 0 lo=0∧sIx items.size items.size hi=items.size))
  (h:Q (.ref s.heap.objs.size) {s with heap:=s.heap.push {cls:=.type "tuple",data:=.seq ((items.toList.drop (sIx items.size 0 lo)).take (sIx items.size items.size hi - sIx items.size 0 lo)).toArray}})
  (hsz:items.size≤sizeLine):wpAny (model prog w) A (getItem (.ref t) (.ref sl)) Q E s:=by
 have htake:sizeOk (.seq ((items.toList.drop (sIx items.size 0 lo)).take (sIx items.size items.size hi - sIx items.size 0 lo)).toArray):=by
  show ((items.toList.drop (sIx items.size 0 lo)).take (sIx items.size items.size hi - sIx items.size 0 lo)).toArray.size≤sizeLine
  rw [Qv,Yo,Jt,Zr]
  omega
 have hj:sIx items.size items.size hi≤items.size:=b9l _ _ (Qk _) hi
 obtain ⟨os,hos,hcs,hds⟩:=id hs
 have hTs:s.TypeIs (.ref sl) "slice":=⟨os,hos,hcs⟩
 unfold getItem
 try with_reducible refine wpAny_holding ?_
 first | refine wpAny_bind (wpAny_pure ?_) | skip
 refine wpAny_bind (wpAny_sequenceKey ht.typeIs (by decide) ?_)
 refine wpAny_bind (wpAny_callSpecial?_slot (name:=Uc "__getitem__") ht.typeIs PyProof.Rows.slot_tuple_getitem
  (wpAny_call_entry PyProof.Rows.slot_tuple_getitem ht.typeIs entry_tuple_getitem ?_ (args_tuple_getitem _ _)))
 show wpAny _ _ (Builtin.Tuple.tupleItemsOf (.ref t) >>= _) _ _ s
 refine wpAny_bind (tupleItemsOf_ ht ?_)
 refine wpAny_bind (wpAny_typeOf hTs ?_)
 rw [if_pos (by decide)]
 refine wpAny_bind (a3D hs pl pu ?_)
 have hno:¬((((sIx items.size 0 lo:Nat):Int) == 0 && (1:Int) == 1 && (sIx items.size items.size hi - sIx items.size 0 lo) == items.size)=true):=by
  intro q
  rw [Xr,Xr] at q
  have q1:((sIx items.size 0 lo:Nat):Int)=0:=eq_of_beq q.1.1
  have q2:sIx items.size items.size hi - sIx items.size 0 lo=items.size:=eq_of_beq q.2
  exact hw ⟨by omega,by omega⟩
 show wpAny _ _ (if (((sIx items.size 0 lo:Nat):Int) == 0 && (1:Int) == 1 && (sIx items.size items.size hi - sIx items.size 0 lo) == items.size)=true then _ else _) _ _ s
 rw [if_neg hno,b3T]
 first
  | exact wpAny_bind (m:=Builtin.Tuple.tupleExact _) (wpAny_newObj_type (wpAny_pure ⟨_,rfl,wpAny_pure h⟩) htake)
  | exact wpAny_bind (m:=Builtin.Tuple.tupleExact _) (wpAny_newObj_type (wpAny_bind (wpAny_pure (wpAny_pure ⟨_,rfl,wpAny_pure h⟩))) htake)
  | exact wpAny_bind (wpAny_bind (m:=Builtin.Tuple.tupleExact _) (wpAny_newObj_type (wpAny_pure (wpAny_pure ⟨_,rfl,wpAny_pure h⟩)) htake))
  | exact wpAny_bind (wpAny_bind (m:=Builtin.Tuple.tupleExact _) (wpAny_newObj_type (wpAny_pure ⟨_,rfl,wpAny_pure h⟩) htake))
end
end HT
namespace L2
open PySem PySem.Spec PyProof.Rows
abbrev TO:=St→Hp→(Option Int→Hp→Prop)→Prop
def PO (X:Cx) (e:Option Expr) (t:TO):Prop:=
 ∀(pins:List (Addr×Obj)) (s:Shared) (σ:St) (H:Hp) (Q:Option Int→Hp→Prop),Inv X pins σ H s→t σ H Q→
  wpAny (model X.prog X.w) X.A (evalPart e X.env) (fun u s'=>∃o H',Inv X pins σ H' s'∧IsPart u o∧Q o H') X.xe s
def a7h:TO:=fun _ H Q=>Q none H
def b3J (t:TE):TO:=fun σ H Q=>t σ H fun x H1=>∃i,x=.int i∧Q (some i) H1
section
variable {X:Cx} {e:Expr} {te:TE} {lo hi:Option Expr} {tl th:TO} {pos p2:Pos}
theorem b5Y:PO X none a7h:=by
 intro pins s σ H Q I h
 rw [evalPart_none]
 exact wpAny_pure ⟨none,H,I,.none,h⟩
theorem b6g (h:PE X e te):PO X (some e) (b3J te):=by
 intro pins s σ H Q I hw
 rw [evalPart_some]
 refine thn (h pins s σ H _ I hw) fun u s1 ⟨x,H1,I1,r1,q1⟩=>?_
 obtain ⟨i,rfl,q⟩:=q1
 obtain ⟨t,rfl⟩:=r1
 exact ⟨some i,H1,I1,.int i t,q⟩
def SlR (X:Cx) (r:V→Option Int→Option Int→Hp→VK→Prop):Prop:=
 ∀(pins:List (Addr×Obj)) (s:Shared) (σ:St) (H:Hp) (x:V) (v vl vu:Value) (lo hi:Option Int) (sl:Addr) (Q:VK),Inv X pins σ H s→a0P x v→s.heap.IsSliceOf sl vl vu .none→IsPart vl lo→IsPart vu hi→r x lo hi H Q→
  ∃T id,typeLookup (.type T) "__getitem__"=pure (some (.builtin id))∧s.TypeIs v T∧wpAny (model X.prog X.w) X.A (getItem v (.ref sl)) (EP X pins σ Q) X.xe s
theorem SlR.or {r r':V→Option Int→Option Int→Hp→VK→Prop} (h:SlR X r) (h':SlR X r'):SlR X (fun x lo hi H Q=>r x lo hi H Q∨r' x lo hi H Q):=by
 intro pins s σ H x v vl vu lo hi sl Q I rx hs pl pu q
 rcases q with q | q
 ·exact h pins s σ H x v vl vu lo hi sl Q I rx hs pl pu q
 ·exact h' pins s σ H x v vl vu lo hi sl Q I rx hs pl pu q
def tSl (r:V→Option Int→Option Int→Hp→VK→Prop) (te:TE) (tl th:TO):TE:=fun σ H Q=>te σ H fun x H1=>tl σ H1 fun l H2=>th σ H2 fun u H3=>r x l u H3 Q
theorem b3W {r:V→Option Int→Option Int→Hp→VK→Prop} (hr:SlR X r) (he:PE X e te) (hl:PO X lo tl) (hu:PO X hi th):PE X (.Subscript e (.Slice lo hi none p2) pos) (tSl r te tl th):=by
 intro pins s σ H Q I h
 refine Subscript_ (thn (he pins s σ H _ I h) fun v s1 ⟨x,H1,I1,r1,q1⟩=>?_)
 refine wpAny_Slice (thn (hl pins s1 σ H1 _ I1 q1) fun vl s2 ⟨l,H2,I2,pl,q2⟩=>thn (hu pins s2 σ H2 _ I2 q2) fun vu s3 ⟨u,H3,I3,pu,q3⟩=>?_)
 rw [evalPart_none]
 refine wpAny_pure ?_
 have I4:Inv X pins σ H3 {s3 with heap:=s3.heap.push {cls:=.type "slice",data:=.fields #[vl,vu,.none]}}:=I3.kept (t':=s3.toks) fun b ob q=>Ql _ q
 obtain ⟨T,id,hT,ht,hg⟩:=hr pins {s3 with heap:=s3.heap.push {cls:=.type "slice",data:=.fields #[vl,vu,.none]}} σ H3 x v vl vu l u s3.heap.objs.size Q I4 r1 (Heap.IsSliceOf.new ..) pl pu q3
 show wpAny (model X.prog X.w) X.A (subscriptTail e (.Slice lo hi none p2) v (.ref s3.heap.objs.size)) (EP X pins σ Q) X.xe {s3 with heap:=s3.heap.push {cls:=.type "slice",data:=.fields #[vl,vu,.none]}}
 exact tail_any (ops:=[.ref s3.heap.objs.size,v]) ht hT hg (by with_unfolding_all rfl)
def b0z (xs:List V) (lo hi:Option Int):List V:=(xs.drop (HT.sIx xs.length 0 lo)).take (HT.sIx xs.length xs.length hi - HT.sIx xs.length 0 lo)
theorem a3T (xs:List V) (lo hi:Option Int):(b0z xs lo hi).length≤xs.length:=by
 unfold b0z
 rw [Yo,Jt]
 omega
def c5z (K:Qd):V→Option Int→Option Int→Hp→VK→Prop:=fun x lo hi H Q=>∃a xs,x=.ref a∧SqT K H a xs∧
 ¬(HT.sIx xs.length 0 lo=0∧HT.sIx xs.length xs.length hi=xs.length)∧∀p,H p=none→Q (.ref p) (upd H p (.tup (b0z xs lo hi)))
theorem c0e:SlR X (c5z X.K):=by
 intro pins s σ H x v vl vu lo hi sl Q I rx hs pl pu h
 obtain ⟨a,xs,rfl,hx,hw,q⟩:=h
 cases rx
 obtain ⟨its,r,ht,hz⟩:=I.tuple hx
 have hlen:its.toArray.size=xs.length:=by rw [Qv];exact r.length.symm
 refine ⟨"tuple",_,PyProof.Rows.slot_tuple_getitem.lookup,ht.typeIs,?_⟩
 refine HT.getItem_tuple_cut ht hs pl pu (by rw [hlen];exact hw) ?_ (by rw [hlen];exact hz)
 rw [hlen]
 refine ⟨.ref s.heap.objs.size,_,I.laid (t':=s.toks) (o:=.tup (b0z xs lo hi)) (fun b ob q=>Ql _ q) (Qk _) ?_,rfl,q _ (I.hok.fresh (Qk _))⟩
 exact ⟨Qi (a3T xs lo hi) hz,_,(r.drop (HT.sIx xs.length 0 lo)).take (HT.sIx xs.length xs.length hi - HT.sIx xs.length 0 lo),IsTup.new _ _⟩
def c0i (K:Qd):R2:=fun x y H Q=>∃a b xs ys,x=.ref a∧y=.ref b∧SqT K H a xs∧SqT K H b ys∧xs≠[]∧xs.length+ys.length≤sizeLine∧
 (ys=[]→Q (.ref a) H)∧(ys≠[]→∀p,H p=none→Q (.ref p) (upd H p (.tup (xs++ys))))
theorem a0L.nil_iff {xs:List V} {us:List Value} (r:a0L xs us):us=[]↔xs=[]:=by
 cases r with
 | nil=>simp
 | cons _ _=>simp
theorem b5H:OpR X (binaryOp .Add) (c0i X.K):=by
 intro pins s σ H x y v u Q I rx ry h
 obtain ⟨a,b,xs,ys,rfl,rfl,ha,hb,hx,hz,q1,q2⟩:=h
 cases rx
 cases ry
 obtain ⟨its,r1,p1,_⟩:=I.tuple ha
 obtain ⟨its2,r2,p2,_⟩:=I.tuple hb
 refine HT.cat_tup p1 p2 (fun z=>hx (r1.nil_iff.mp z)) (fun z=>⟨.ref a,H,I,rfl,q1 (r2.nil_iff.mp z)⟩) (fun z=>?_) (by rw [←r1.length,←r2.length];exact hz)
 refine ⟨.ref s.heap.objs.size,_,I.laid (t':=s.toks) (o:=.tup (xs++ys)) (fun b ob q=>Ql _ q) (Qk _) ?_,rfl,q2 (fun w=>z (r2.nil_iff.mpr w)) _ (I.hok.fresh (Qk _))⟩
 exact ⟨by rw [Xq];exact hz,_,r1.append r2,IsTup.new _ _⟩
end
end L2
namespace L2
open PySem PySem.Spec PyProof.Rows
def ixN (n:Nat) (i:Int):Option Nat:=if 0≤i then (if i < n then some i.toNat else none) else if -(n:Int)≤i then some (i+n).toNat else none
def atI {α:Type} (xs:List α) (i:Int):Option α:=(ixN xs.length i).bind fun j=>xs[j]?
theorem b6b {n:Nat} {i:Int} {j:Nat} (h:ixN n i=some j):seqIndex? i n=some j∧j < n∧-(n:Int)≤i∧i < n:=by
 unfold ixN at h
 by_cases h0:0≤i
 ·rw [if_pos h0] at h
  by_cases h1:i < n
  ·rw [if_pos h1] at h
   have e:i.toNat=j:=Option.some.inj h
   exact ⟨by rw [seqIndex_of h0 h1,e],by omega,by omega,h1⟩
  ·rw [if_neg h1] at h;cases h
 ·rw [if_neg h0] at h
  by_cases h1:-(n:Int)≤i
  ·rw [if_pos h1] at h
   have e:(i+n).toNat=j:=Option.some.inj h
   exact ⟨by rw [seqIndex_neg (by omega) h1,e],by omega,h1,by omega⟩
  ·rw [if_neg h1] at h;cases h
theorem a7l {α:Type} {xs:List α} {i:Int} {v:α} (h:atI xs i=some v):∃j,seqIndex? i xs.length=some j∧xs[j]?=some v∧j < xs.length∧-(xs.length:Int)≤i∧i < xs.length:=by
 unfold atI at h
 cases e:ixN xs.length i with
 | none=>rw [e] at h;cases h
 | some j=>
  rw [e] at h
  obtain ⟨h1,h2,h3,h4⟩:=b6b e
  exact ⟨j,h1,h,h2,h3,h4⟩
def b6X (b:Expr):Prop:=∀o i,subscripted b false o i=operate [o,i] (getItem o i)
def IxR (X:Cx) (r:R2):Prop:=
 ∀(value slice:Expr) (pins:List (Addr×Obj)) (s:Shared) (σ:St) (H:Hp) (x y:V) (v u:Value) (Q:VK),Inv X pins σ H s→a0P x v→a0P y u→r x y H Q→
  subscripted slice false v u=operate [v,u] (getItem v u)→wpAny (model X.prog X.w) X.A (subscriptTail value slice v u) (EP X pins σ Q) X.xe s
def MtR (X:Cx) (id:String) (r:V→List V→Hp→VK→Prop):Prop:=
 ∀(pins:List (Addr×Obj)) (s:Shared) (σ:St) (H:Hp) (x:V) (xs:List V) (v:Value) (us:List Value) (Q:VK),Inv X pins σ H s→a0P x v→a0L xs us→r x xs H Q→
  wpAny (model X.prog X.w) X.A (call (.builtin id) (v::us)) (EP X pins σ Q) X.xe s
section
variable {X:Cx} {a b:Expr} {ta tb:TE} {pos:Pos}
theorem IxR.or {r r':R2} (h:IxR X r) (h':IxR X r'):IxR X (fun x y H Q=>r x y H Q∨r' x y H Q):=by
 intro value slice pins s σ H x y v u Q I rx ry q hs
 rcases q with q | q
 ·exact h value slice pins s σ H x y v u Q I rx ry q hs
 ·exact h' value slice pins s σ H x y v u Q I rx ry q hs
theorem c2h {r:R2} (hr:IxR X r) (ha:PE X a ta) (hb:PE X b tb) (hs:b6X b):PE X (.Subscript a b pos) (tOp r ta tb):=by
 intro pins s σ H Q I h
 exact Subscript_ (c1K ha hb I h fun v u s2 x y H2 I2 rx ry q=>hr a b pins s2 σ H2 x y v u Q I2 rx ry q (hs _ _))
def c4j (K:Qd):R2:=fun x y H Q=>∃p xs i v,x=.ref p∧y=.int i∧SqL K H p xs∧atI xs i=some v∧Q v H
def c5D (K:Qd):R2:=fun x y H Q=>∃p xs i v,x=.ref p∧y=.int i∧SqT K H p xs∧atI xs i=some v∧Q v H
def c3c:R2:=fun x y H Q=>∃z i c,x=.str z∧y=.int i∧z.length≤sizeLine∧atI z.cps.toList i=some c∧Q (.str ⟨#[c]⟩) H
theorem b5W:IxR X (c4j X.K):=by
 intro value slice pins s σ H x y v u Q I rx ry h hs
 obtain ⟨p,xs,i,z,rfl,rfl,hq,he,q⟩:=h
 cases rx
 obtain ⟨t,rfl⟩:=ry
 obtain ⟨its,r,pl,hz⟩:=I.list hq
 obtain ⟨j,h1,h2,h3,h4,h5⟩:=a7l he
 obtain ⟨w,ew,rw'⟩:=r.get h2
 have hl:=r.length
 have hn:=a8j
 have fin:EP X pins σ Q w s:=⟨z,H,I,rw',q⟩
 by_cases h0:0≤i
 ·have hj:i.toNat=j:=by
   rw [seqIndex_of h0 h5] at h1
   exact Option.some.inj h1
  exact item_listR pl.isList h0 (by omega) (by rw [hj];simpa using ew) fin hs
 ·have hj:(i+(its.toArray.size:Int)).toNat=j:=by
   rw [seqIndex_neg (by omega) h4] at h1
   rw [Qv,←hl]
   exact Option.some.inj h1
  exact subscriptTail_builtinR (x:=w) pl.isList.typeIs slot_list_getitem.lookup
   (wpAny_getItem_list_neg (Q:=fun r s'=>r=w∧EP X pins σ Q r s') pl.isList (by omega) (by rw [Qv]<;>omega) (by omega) (by rw [hj];simpa using ew) ⟨rfl,fin⟩) hs
theorem b7G:IxR X (c5D X.K):=by
 intro value slice pins s σ H x y v u Q I rx ry h hs
 obtain ⟨p,xs,i,z,rfl,rfl,hq,he,q⟩:=h
 cases rx
 obtain ⟨t,rfl⟩:=ry
 obtain ⟨its,r,pl,hz⟩:=I.tuple hq
 obtain ⟨j,h1,h2,h3,h4,h5⟩:=a7l he
 obtain ⟨w,ew,rw'⟩:=r.get h2
 have hl:=r.length
 have hn:=a8j
 have fin:EP X pins σ Q w s:=⟨z,H,I,rw',q⟩
 exact subscriptTail_builtinR (x:=w) pl.typeIs slot_tuple_getitem.lookup
  (getItem_tuple (j:=j) (Q:=fun r s'=>r=w∧EP X pins σ Q r s') pl (by omega) (by omega) (by rw [Qv,←hl];exact h1) (by simpa using ew) ⟨rfl,fin⟩) hs
theorem b8q:IxR X c3c:=by
 intro value slice pins s σ H x y v u Q I rx ry h hs
 obtain ⟨z,i,c,rfl,rfl,hz,he,q⟩:=h
 obtain ⟨t,rfl⟩:=rx
 obtain ⟨t',rfl⟩:=ry
 obtain ⟨j,h1,h2,h3,h4,h5⟩:=a7l he
 have hl:z.cps.toList.length=z.length:=by simp [Str.length]
 rw [hl] at h1 h4 h5
 have hn:=a8j
 exact tail_any (typeIs_str s z t) slot_str_getitem.lookup (getItem_str (c:=c) (by
  have e1:decide (i < -(2 ^ 63:Int))=false:=decide_eq_false (by omega)
  have e2:decide (i≥2 ^ 63)=false:=decide_eq_false (by omega)
  rw [e1,e2,Bool.or_false]) (by rw [h1];simpa using h2) ⟨.str ⟨#[c]⟩,H,I.tok _,⟨_,rfl⟩,q⟩) hs
def rIx (K:Qd):R2:=fun x y H Q=>c4j K x y H Q∨c5D K x y H Q∨c3c x y H Q
theorem a0H:IxR X (rIx X.K):=b5W.or (b7G.or b8q)
theorem Inv.lst {pins:List (Addr×Obj)} {σ:St} {H:Hp} {s:Shared} {p:Addr} {xs:List V} (I:Inv X pins σ H s) (h:H p=some (.lst xs)):
  ∃(its:List Value) (n:Nat),a0L xs its∧s.heap.get? p=some {cls:=.type "list",data:=.seq its.toArray n}∧xs.length≤sizeLine:=by
 obtain ⟨z,its,n,r,e⟩:=I.hok p _ h
 exact ⟨its,n,r,e,z⟩
theorem a6E (lo hi:Option Int) (n:Nat):(sliceBounds lo hi none n).1=((HT.sIx n 0 lo:Nat):Int)∧(sliceBounds lo hi none n).2.1=((HT.sIx n n hi:Nat):Int)∧(sliceBounds lo hi none n).2.2=1:=by
 refine ⟨?_,?_,rfl⟩
 ·cases lo with
  | none=>simp [sliceBounds,HT.sIx]
  | some i=>
   simp only [sliceBounds,HT.sIx,Gk,show (1:Int) > 0 by decide,if_true]
   by_cases h:i < 0
   ·simp only [h,if_true]<;>omega
   ·simp only [h,if_false]<;>omega
 ·cases hi with
  | none=>simp [sliceBounds,HT.sIx]
  | some i=>
   simp only [sliceBounds,HT.sIx,Gk,show (1:Int) > 0 by decide,if_true]
   by_cases h:i < 0
   ·simp only [h,if_true]<;>omega
   ·simp only [h,if_false]<;>omega
theorem a5y (its:List Value) (lo hi:Option Int):slicePick its.toArray lo hi none=((its.drop (HT.sIx its.length 0 lo)).take (HT.sIx its.length its.length hi - HT.sIx its.length 0 lo)).toArray:=by
 obtain ⟨h1,h2,h3⟩:=a6E lo hi its.toArray.size
 unfold slicePick
 rw [h1,h2,h3]
 simp only [sliceRange_one,pick_run,Qv]<;>rfl
def c6a (K:Qd):V→Option Int→Option Int→Hp→VK→Prop:=fun x lo hi H Q=>∃a xs,x=.ref a∧SqL K H a xs∧∀p,H p=none→Q (.ref p) (upd H p (.lst (b0z xs lo hi)))
theorem b6A:SlR X (c6a X.K):=by
 intro pins s σ H x v vl vu lo hi sl Q I rx hs pl pu h
 obtain ⟨a,xs,rfl,hx,q⟩:=h
 cases rx
 obtain ⟨its,r,ht,hz⟩:=I.list hx
 have hlen:=r.length
 refine ⟨"list",_,slot_list_getitem.lookup,ht.isList.typeIs,?_⟩
 refine wpAny_getItem_list_slice ht.isList hs pl pu .none (by simp) ?_ (by rw [Qv]<;>omega)
 rw [a5y,←hlen]
 refine ⟨.ref s.heap.objs.size,_,I.laid (t':=s.toks) (o:=.lst (b0z xs lo hi)) (fun b ob q=>Ql _ q) (Qk _) ?_,rfl,q _ (I.hok.fresh (Qk _))⟩
 exact ⟨Qi (a3T xs lo hi) hz,_,0,(r.drop (HT.sIx xs.length 0 lo)).take (HT.sIx xs.length xs.length hi - HT.sIx xs.length 0 lo),Xf _ rfl⟩
def a5H:V→Bool
 | .non=>true
 | .bl _=>true
 | .int _=>true
 | .str _=>true
 | _=>false
def eqV:V→V→Bool
 | .non,.non=>true
 | .bl a,.bl b=>a == b
 | .bl a,.int b=>(if a then 1 else 0) == b
 | .int a,.bl b=>a == (if b then 1 else 0)
 | .int a,.int b=>a == b
 | .str a,.str b=>a == b
 | _,_=>false
theorem b9N {A:Around} {s:Shared} {y x:V} {u v:Value} (ry:a0P y u) (rx:a0P x v) (fy:a5H y=true) (fx:a5H x=true):Yn A s u v (eqV y x):=by
 cases y with
 | non=>
  cases ry
  cases x with
  | non=>cases rx;exact Yn.same _
  | bl b=>cases rx;exact Yn.none_bool b
  | int b=>obtain ⟨t,rfl⟩:=rx;exact Yn.none_int b t
  | str b=>obtain ⟨t,rfl⟩:=rx;exact Yn.none_str b t
  | _=>exact absurd (show false=true from fx) Qo
 | bl a=>
  cases ry
  cases x with
  | non=>cases rx;exact Yn.bool_none a
  | bl b=>cases rx;exact Yn.bool_bool a b
  | int b=>obtain ⟨t,rfl⟩:=rx;exact Yn.bool_int a b t
  | str b=>obtain ⟨t,rfl⟩:=rx;exact Yn.bool_str a b t
  | _=>exact absurd (show false=true from fx) Qo
 | int a=>
  obtain ⟨t',rfl⟩:=ry
  cases x with
  | non=>cases rx;exact Yn.int_none a t'
  | bl b=>cases rx;exact Yn.int_bool a t' b
  | int b=>obtain ⟨t,rfl⟩:=rx;exact Yn.int_int a t' b t
  | str b=>obtain ⟨t,rfl⟩:=rx;exact Yn.int_str a t' b t
  | _=>exact absurd (show false=true from fx) Qo
 | str a=>
  obtain ⟨t',rfl⟩:=ry
  cases x with
  | non=>cases rx;exact Yn.str_none a t'
  | bl b=>cases rx;exact Yn.str_bool a t' b
  | int b=>obtain ⟨t,rfl⟩:=rx;exact Yn.str_int a t' b t
  | str b=>obtain ⟨t,rfl⟩:=rx;exact Yn.str_str a t' b t
  | _=>exact absurd (show false=true from fx) Qo
 | _=>exact absurd (show false=true from fy) Qo
def eqU (x:V) (u:Value):Bool:=match u with
 | .none=>eqV .non x
 | .bool b=>eqV (.bl b) x
 | .int i _=>eqV (.int i) x
 | .str z _=>eqV (.str z) x
 | _=>false
theorem b5n {x y:V} {u:Value} (r:a0P y u) (f:a5H y=true):eqU x u=eqV y x:=by
 cases y with
 | non=>cases r;rfl
 | bl b=>cases r;rfl
 | int i=>obtain ⟨t,rfl⟩:=r;rfl
 | str z=>obtain ⟨t,rfl⟩:=r;rfl
 | _=>exact absurd (show false=true from f) Qo
theorem a6W {x:V}:∀{xs:List V} {us:List Value},a0L xs us→xs.all a5H=true→us.any (eqU x)=xs.any fun y=>eqV y x
 | _,_,.nil,_=>rfl
 | y::xs,u::us,.cons r t,f=>by
  rw [Vi,Xr] at f
  rw [Jk,Jk,b5n r f.1,a6W t f.2]
theorem a5h {A:Around} {s:Shared} {x:V} {v:Value} (rx:a0P x v) (fx:a5H x=true):∀{xs:List V} {us:List Value},a0L xs us→xs.all a5H=true→∀u∈us,Yn A s u v (eqU x u)
 | _,_,.nil,_=>fun u hu=>by cases hu
 | y::xs,u::us,.cons r t,f=>fun u' hu=>by
  rw [Vi,Xr] at f
  rcases Qy.mp hu with rfl | hu
  ·rw [b5n r f.1];exact b9N r rx f.1 fx
  ·exact a5h rx fx t f.2 u' hu
def inV (x:V) (xs:List V):Bool:=xs.any fun y=>eqV y x
def rIn (K:Qd) (neg:Bool):R2:=fun x y H Q=>∃p xs,y=.ref p∧(SqL K H p xs∨SqT K H p xs)∧a5H x=true∧xs.all a5H=true∧Q (.bl (if neg then !inV x xs else inV x xs)) H
theorem b2q:OpR X (compareOp .In) (rIn X.K false):=by
 intro pins s σ H x y v u Q I rx ry h
 obtain ⟨p,xs,rfl,hq,fx,fs,q⟩:=h
 cases ry
 rcases hq with hq | hq
 ·obtain ⟨its,r,pl,hz⟩:=I.list hq
  refine SeqAt.in_listAt (eqU x) pl.isList (fun w hw=>a5h rx fx r fs w (by simpa using hw)) ⟨.bl _,H,I,rfl,?_⟩
  rw [show its.toArray.any (eqU x)=its.any (eqU x) by simp,a6W r fs]
  exact q
 ·obtain ⟨its,r,pl,hz⟩:=I.tuple hq
  refine SeqAt.in_tupleAt (eqU x) pl (fun w hw=>a5h rx fx r fs w (by simpa using hw)) ⟨.bl _,H,I,rfl,?_⟩
  rw [show its.toArray.any (eqU x)=its.any (eqU x) by simp,a6W r fs]
  exact q
theorem a1H.or {f:Value} {r r':List V→Hp→VK→Prop} (h:a1H X f r) (h':a1H X f r'):a1H X f (fun xs H Q=>r xs H Q∨r' xs H Q):=by
 intro pins s σ H xs us Q I rs q
 rcases q with q | q
 ·exact h pins s σ H xs us Q I rs q
 ·exact h' pins s σ H xs us Q I rs q
theorem a6e:a1H X (.type "list") (fun xs H Q=>∃p ys,xs=[.ref p]∧(SqL X.K H p ys∨SqT X.K H p ys)∧∀l,H l=none→Q (.ref l) (upd H l (.lst ys))):=by
 intro pins s σ H xs us Q I r h
 obtain ⟨p,ys,rfl,hq,q⟩:=h
 obtain ⟨u,rfl,rx⟩:=a3r r
 cases rx
 have fin:∀(its:List Value),a0L ys its→ys.length≤sizeLine→∀(h':Heap) (c':Nat),(∀b o',s.heap.get? b=some o'→h'.get? b=some o')→
   h'.get? s.heap.objs.size=some {cls:=.type "list",dict:=none,data:=.seq its.toArray c',slots:=#[]}→EP X pins σ Q (.ref s.heap.objs.size) {s with heap:=h'}:=fun its r' hz h' c' kp e=>
  ⟨.ref s.heap.objs.size,_,I.laid (t':=s.toks) kp (Qk _) (show a1g X.prog X.w _ h' _ (.lst ys) from ⟨hz,its,c',r',e⟩),rfl,q _ (I.hok.fresh (Qk _))⟩
 rcases hq with hq | hq
 ·obtain ⟨its,r',pl,hz⟩:=I.list hq
  have hlen:=r'.length
  obtain ⟨o,ho,hc,n,hd⟩:=pl.isList
  exact call_list_seq p (.inl rfl) ho hc hd (fun h' c' kp e=>fin its r' hz h' c' kp e) (by simp only [Qv]<;>omega)
 ·obtain ⟨its,r',pl,hz⟩:=I.tuple hq
  have hlen:=r'.length
  obtain ⟨o,ho,hc,n,hd⟩:=pl
  exact call_list_seq p (.inr rfl) ho hc hd (fun h' c' kp e=>fin its r' hz h' c' kp e) (by simp only [Qv]<;>omega)
theorem a5C:a1H X (.type "tuple") (fun xs H Q=>∃p ys,xs=[.ref p]∧((SqL X.K H p ys∧∀l,H l=none→Q (.ref l) (upd H l (.tup ys)))∨(SqT X.K H p ys∧Q (.ref p) H))):=by
 intro pins s σ H xs us Q I r h
 obtain ⟨p,ys,rfl,h⟩:=h
 obtain ⟨u,rfl,rx⟩:=a3r r
 cases rx
 rcases h with ⟨hq,q⟩ | ⟨hq,q⟩
 ·obtain ⟨its,r',pl,hz⟩:=I.list hq
  have hlen:=r'.length
  refine call_tuple_list pl.isList (fun h' kp=>?_) (by simp only [Qv]<;>omega)
  have I1:Inv X pins σ H {s with heap:=h'}:=I.kept (t':=s.toks) kp
  have I2:Inv X pins σ (upd H h'.objs.size (.tup ys)) {s with heap:=h'.push {cls:=.type "tuple",data:=.seq its.toArray}}:=
   I1.laid (t':=s.toks) (fun b o e=>Ql _ e) (Qk _) (show a1g X.prog X.w _ _ _ (.tup ys) from ⟨hz,its,r',IsTup.new _ _⟩)
  exact ⟨.ref h'.objs.size,_,I2,rfl,q _ (I1.hok.fresh (Qk _))⟩
 ·obtain ⟨its,r',pl,hz⟩:=I.tuple hq
  exact call_tuple_same pl ⟨.ref p,H,I,rfl,q⟩
def tyV (K:Qd) (T:String) (x:V) (H:Hp):Prop:=match x with
 | .str _=>T="str"
 | .int _=>T="int"
 | .ref p=>(T="list"∧∃xs,SqL K H p xs)∨(T="tuple"∧∃o,K.lookup p=some o∧o.cls=.type "tuple"∧o.dict=none)∨
   (T="dict"∧((∃kvs,H p=some (.dK kvs))∨∃kvs,H p=some (.dT kvs)))∨(T="set"∧∃S n,H p=some (.set S n))
 | _=>False
theorem b8W {pins:List (Addr×Obj)} {σ:St} {H:Hp} {s:Shared} {T:String} {x:V} {v:Value} (I:Inv X pins σ H s) (r:a0P x v) (ty:tyV X.K T x H):
  s.TypeIs v T∧∀a,v=.ref a→∃ob,s.heap.get? a=some ob∧ob.dict=none:=by
 cases x with
 | str z=>
  obtain ⟨t,rfl⟩:=r
  cases (show T="str" from ty)
  exact ⟨typeIs_str s z t,fun _ e=>nomatch e⟩
 | int i=>
  obtain ⟨t,rfl⟩:=r
  cases (show T="int" from ty)
  exact ⟨typeIs_int s i t,fun _ e=>nomatch e⟩
 | ref p=>
  cases r
  rcases ty with ⟨rfl,xs,hq⟩ | ⟨rfl,o,hk,hc,hd⟩ | ⟨rfl,hk⟩ | ⟨rfl,S,n,hk⟩
  ·obtain ⟨its,_,pl,_⟩:=I.list hq
   refine ⟨pl.isList.typeIs,fun a e=>?_⟩
   cases e
   obtain ⟨o,n,e,c,hd,_⟩:=pl
   exact ⟨o,e,hd⟩
  ·refine ⟨⟨o,I.kIn p o hk,hc⟩,fun a e=>?_⟩
   cases e
   exact ⟨o,I.kIn _ o hk,hd⟩
  ·have z:∃o,s.heap.get? p=some o∧o.ExactDict:=by
    rcases hk with ⟨kvs,hk⟩ | ⟨kvs,hk⟩
    ·obtain ⟨_,_,_,_,o,_,_,e,ex,_⟩:=I.hok p _ hk
     exact ⟨o,e,ex⟩
    ·obtain ⟨_,_,_,_,o,_,_,e,ex,_⟩:=I.hok p _ hk
     exact ⟨o,e,ex⟩
   obtain ⟨o,e,ex⟩:=z
   refine ⟨⟨o,e,ex.1⟩,fun a e2=>?_⟩
   cases e2
   exact ⟨o,e,ex.2.1⟩
  ·obtain ⟨o,_,_,_,e,ex,_⟩:=I.hok p _ hk
   refine ⟨⟨o,e,ex.1⟩,fun a e2=>?_⟩
   cases e2
   exact ⟨o,e,ex.2.1⟩
 | _=>exact False.elim ty
def tBM (K:Qd) (T:String) (r:V→List V→Hp→VK→Prop) (to:TE) (t:TA):TE:=fun σ H Q=>to σ H fun x H1=>tyV K T x H1∧t σ H1 fun xs H2=>r x xs H2 Q
variable {o e:Expr} {es:List Expr} {to:TE} {t:TA} {name:Str} {apos cpos:Pos} {T id:String} {r:V→List V→Hp→VK→Prop}
theorem c1T (pa:PlainAttrs T) (slot:Slot T name id) (hty:typeOf (.builtin id)=pure (.type "method_descriptor")) (hm:MtR X id r) (ho:PE X o to) (ha:PA X (e::es) t)
  (hbase:attributeBase o name X.env (eval o X.env)=eval o X.env:=by rfl)
  (hfew:((backTo cpos (starEach (e::es) X.env)).all (fun x=>!x.1) && (backToKw cpos (keywordEach [] X.env)).all (fun x=>x.1.isSome)
   && decide ((e::es).length+([]:List Keyword).length+(if ([]:List Keyword).isEmpty then 0 else 1) < 30))=true:=by rfl)
  (hline:(apos.endLine == cpos.line)=true:=by rfl) (hs:starEach (e::es) X.env=(false,eval e X.env)::starEach es X.env:=by rfl) (hplain:(backTo cpos (starEach es X.env)).any (·.1)=false:=by rfl):
  PE X (.Call (.Attribute o name apos) (e::es) [] cpos) (tBM X.K T r to t):=by
 intro pins s σ H Q I h
 refine wpAny_Call_method_late hbase hfew hline rfl (thn (ho pins s σ H _ I h) fun v s1 ⟨x,H1,I1,r1,ty,q1⟩=>?_)
 obtain ⟨h1,h2⟩:=b8W I1 r1 ty
 refine ⟨T,id,pa,slot,hty,h1,h2,?_⟩
 have hA:=ha cpos pins s1 σ H1 _ I1 q1
 rw [hs] at hA ⊢
 refine Calls.callWith_builtin (by show (false || (backTo cpos (starEach es X.env)).any (·.1))=false;rw [hplain]<;>rfl) (Calls.evalArgs_plain ?_)
 exact thn hA fun us s2 ⟨vs,H2,I2,r2,q2⟩=>hm pins s2 σ H2 x vs v us Q I2 r1 r2 q2
end
end L2
namespace L2
open PySem PySem.Spec PyProof.Rows
def MtM (X:Cx) (id:String) (r:V→List V→Hp→VK→Prop):Prop:=
 ∀(pins:List (Addr×Obj)) (s:Shared) (σ:St) (H:Hp) (x:V) (xs:List V) (v:Value) (us:List Value) (Q:VK),Inv X pins σ H s→a0P x v→a0L xs us→r x xs H Q→
  wpAny (model X.prog X.w) X.A (call (.builtin id) (v::us)) (EP X pins σ Q) X.xe s
theorem a0L.one:∀{x:V} {us:List Value},a0L [x] us→∃u,us=[u]∧a0P x u
 | _,_,.cons r .nil=>⟨_,rfl,r⟩
theorem a0L.reverse {xs:List V} {us:List Value} (h:a0L xs us):a0L xs.reverse us.reverse:=by
 induction h with
 | nil=>exact .nil
 | cons r t ih=>rw [List.reverse_cons,List.reverse_cons];exact a0L.append ih (.cons r .nil)
section
variable {X:Cx} {pins:List (Addr×Obj)} {σ:St} {H:Hp} {s:Shared} {l b:Addr} {xs ys zs:List V}
theorem Inv.lset {its its':List Value} {n:Nat} {f:Array Value→Array Value} {t':Nat} (I:Inv X pins σ H s) (hH:H l=some (.lst xs))
  (e:s.heap.get? l=some {cls:=.type "list",data:=.seq its.toArray n}) (hf:f its.toArray=its'.toArray) (hv:a0L ys its') (hz:ys.length≤sizeLine):
  Inv X pins σ (upd H l (.lst ys)) {s with heap:=s.heap.update l (Obj.mapSeq f),toks:=t'}:=by
 have q:=PySem.IsL.update e f
 rw [hf] at q
 refine I.write (x:=l) (e:=l) (by rw [hH];exact trivial) (.inl rfl) (fun b' u hb hu=>(Wk s.heap (Obj.mapSeq f) (Ne.symm hb)).trans hu) ⟨_,q⟩ ?_
 exact ⟨hz,its',_,hv,q⟩
theorem Inv.lnew {its:List Value} {t':Nat} (I:Inv X pins σ H s) (hv:a0L ys its) (hz:ys.length≤sizeLine):
  Inv X pins σ (upd H s.heap.objs.size (.lst ys)) {s with heap:=s.heap.push {cls:=.type "list",data:=.seq its.toArray},toks:=t'}:=
 I.laid (fun _ _ q=>Ql _ q) (Qk _) ⟨hz,its,0,hv,Xf _ rfl⟩
theorem Inv.fresh (I:Inv X pins σ H s):H s.heap.objs.size=none:=I.hok.fresh (Qk _)
theorem Inv.lstM (I:Inv X pins σ H s) (hH:H l=some (.lst xs)):xs.length≤sizeLine∧∃(its:List Value) (n:Nat),a0L xs its∧xs.length=its.length∧s.heap.get? l=some {cls:=.type "list",data:=.seq its.toArray n}:=by
 obtain ⟨z,its,n,r,e⟩:=I.hok l _ hH
 exact ⟨z,its,n,r,r.length,e⟩
end
section
variable {X:Cx}
def b6a:V→List V→Hp→VK→Prop:=fun x vs H Q=>∃l xs y,x=.ref l∧vs=[y]∧H l=some (.lst xs)∧xs.length < sizeLine∧Q .non (upd H l (.lst (xs++[y])))
theorem a1c:MtM X "list.append" b6a:=by
 intro pins s σ H x vs v us Q I rx rv h
 obtain ⟨l,xs,y,rfl,rfl,hH,hz,q⟩:=h
 cases rx
 obtain ⟨u,rfl,ru⟩:=rv.one
 obtain ⟨z,its,n,r,hl,e⟩:=I.lstM hH
 refine call_meets F.slot_list_append ⟨_,e,rfl⟩ F.entry_list_append (F.args_list_append_2 _ _) (PySem.list_append l its.toArray n u (by rw [Qv];omega)) ⟨e,?_⟩
 refine ⟨.non,_,I.lset (its':=its++[u]) hH e (by simp) (r.append (.cons ru .nil)) ?_,rfl,q⟩
 rw [Xq,Uq]
 omega
def c5R:R2:=fun x y H Q=>∃l b xs zs,x=.ref l∧y=.ref b∧H l=some (.lst xs)∧H b=some (.lst zs)∧xs.length+zs.length≤sizeLine∧∀p,H p=none→Q (.ref p) (upd H p (.lst (xs++zs)))
theorem b9h:OpR X (binaryOp .Add) c5R:=by
 intro pins s σ H x y v u Q I rx ry h
 obtain ⟨l,b,xs,zs,rfl,rfl,hH,hB,hz,q⟩:=h
 cases rx
 cases ry
 obtain ⟨z,its,n,r,hl,e⟩:=I.lstM hH
 obtain ⟨z2,its2,n2,r2,hl2,e2⟩:=I.lstM hB
 refine PySem.P.add_list e e2 ?_ (by rw [Qv,Qv];omega)
 have ea:its.toArray++its2.toArray=(its++its2).toArray:=by simp
 rw [ea]
 exact ⟨.ref _,_,I.lnew (t':=s.toks) (r.append r2) (by rw [Xq];omega),rfl,q _ I.fresh⟩
end
section
variable {prog:Program} {w:World} {A:Around} {E:Value→Shared→Prop} {s:Shared}
set_option maxRecDepth 100000 in
end
end L2
namespace L2
open PySem PySem.Spec PyProof.Rows
section
variable {κ:Type} [DecidableEq κ]
def a0N (kvs:List (κ×V)) (k:κ):Option V:=(kvs.find? fun kv=>decide (kv.1=k)).map (·.2)
def a1W (kvs:List (κ×V)) (k:κ) (v:V):List (κ×V):=
 if (kvs.any fun kv=>decide (kv.1=k))=true then kvs.map (fun kv=>if kv.1=k then (kv.1,v) else kv) else kvs++[(k,v)]
def b9A (kvs:List (κ×V)) (k:κ):List (κ×V):=kvs.filter fun kv=>decide (kv.1≠k)
theorem a0F {p:κ×V} {r:List (κ×V)} {k:κ} (e:p.1=k):a0N (p::r) k=some p.2:=by simp [a0N,Zd,e]
theorem a0w {p:κ×V} {r:List (κ×V)} {k:κ} (e:¬p.1=k):a0N (p::r) k=a0N r k:=by simp [a0N,Zd,e]
theorem a1V (k:κ):∀kvs:List (κ×V),(kvs.any fun kv=>decide (kv.1=k))=(a0N kvs k).isSome
 | []=>rfl
 | p::r=>by
  rw [Jk]
  by_cases e:p.1=k
  ·simp only [a0F e,decide_eq_true e,Bool.true_or,Gg]
  ·rw [a0w e,decide_eq_false e,Bool.false_or];exact a1V k r
theorem a7K (k j:κ) (y:V):∀kvs:List (κ×V),a0N (kvs.map fun kv=>if kv.1=k then (kv.1,y) else kv) j=(a0N kvs j).map fun x=>if j=k then y else x
 | []=>rfl
 | p::r=>by
  have ih:=a7K k j y r
  rw [Xg]
  by_cases h:p.1=k
  ·rw [if_pos h]
   by_cases e:p.1=j
   ·rw [a0F (p:=(p.1,y)) e,a0F e,Jl,if_pos (e.symm.trans h)]
   ·rw [a0w (p:=(p.1,y)) e,a0w e,ih]
  ·rw [if_neg h]
   by_cases e:p.1=j
   ·rw [a0F (p:=p) e,a0F e,Jl,if_neg (fun z=>h (e.trans z))]
   ·rw [a0w (p:=p) e,a0w e,ih]
theorem a6p (k j:κ) (y:V):∀kvs:List (κ×V),a0N kvs k=none→a0N (kvs++[(k,y)]) j=if j=k then some y else a0N kvs j
 | [],_=>by
  by_cases e:k=j
  ·rw [if_pos e.symm];exact a0F (p:=(k,y)) e
  ·rw [if_neg (fun z=>e z.symm)];exact a0w (p:=(k,y)) e
 | p::r,hn=>by
  rw [Ju]
  have hk:¬p.1=k:=fun z=>by rw [a0F z] at hn;cases hn
  rw [a0w hk] at hn
  have ih:=a6p k j y r hn
  by_cases e:p.1=j
  ·rw [a0F e,a0F e,if_neg (fun z=>hk (e.trans z))]
  ·rw [a0w e,a0w e,ih]
theorem a1k (kvs:List (κ×V)) (k j:κ) (y:V):a0N (a1W kvs k y) j=if j=k then some y else a0N kvs j:=by
 unfold a1W
 by_cases a:(kvs.any fun kv=>decide (kv.1=k))=true
 ·rw [if_pos a,a7K]
  rw [a1V] at a
  by_cases e:j=k
  ·obtain ⟨x,hx⟩:=Vr.mp a
   rw [if_pos e,e,hx,Jl,if_pos rfl]
  ·rw [if_neg e]
   cases a0N kvs j with
   | none=>rfl
   | some x=>rw [Jl,if_neg e]
 ·rw [if_neg a]
  refine a6p k j y kvs ?_
  rw [a1V] at a
  cases q:a0N kvs k with
  | none=>rfl
  | some x=>rw [q] at a;exact (a rfl).elim
theorem a0z (kvs:List (κ×V)) (k:κ) (v:V):(a1W kvs k v).length≤kvs.length+1:=by
 unfold a1W
 split
 ·rw [Qe];omega
 ·rw [Xq,Qr,Xl];omega
theorem a5t {kvs:List (κ×V)} {k:κ} (v:V) (h:a0N kvs k=none):a1W kvs k v=kvs++[(k,v)]:=by
 unfold a1W
 rw [a1V,h]
 exact if_neg (by decide)
theorem a4w.isSome_eq {o:Option V} {u:Option Value} (r:a4w o u):o.isSome=u.isSome:=by
 cases o with
 | none=>cases u with
  | none=>rfl
  | some _=>exact (show False from r).elim
 | some _=>cases u with
  | none=>exact (show False from r).elim
  | some _=>rfl
theorem a4w.getD {o:Option V} {u:Option Value} {d:V} {d':Value} (r:a4w o u) (rd:a0P d d'):a0P (o.getD d) (u.getD d'):=by
 cases o with
 | none=>cases u with
  | none=>exact rd
  | some _=>exact (show False from r).elim
 | some _=>cases u with
  | none=>exact (show False from r).elim
  | some _=>exact r
theorem KV.val {kvs:List (κ×V)} {vs:List (κ×Value)} (r:KV kvs vs) (k:κ):a4w (a0N kvs k) (valueAt vs k):=by
 unfold KV at r
 induction r with
 | nil=>exact True.intro
 | @cons p q ps qs h t ih=>
  obtain ⟨h1,h2⟩:=h
  by_cases e:p.1=k
  ·have e':q.1=k:=h1.symm.trans e
   have b:valueAt (q::qs) k=some q.2:=by simp [valueAt,Zd,e']
   rw [a0F e,b];exact h2
  ·have e':¬q.1=k:=fun z=>e (h1.trans z)
   have b:valueAt (q::qs) k=valueAt qs k:=by simp [valueAt,Zd,e']
   rw [a0w e,b];exact ih
theorem KV.any {kvs:List (κ×V)} {vs:List (κ×Value)} (r:KV kvs vs) (k:κ):(kvs.any fun kv=>decide (kv.1=k))=vs.any fun kv=>decide (kv.1=k):=by
 unfold KV at r
 induction r with
 | nil=>rfl
 | cons h t ih=>rw [Jk,Jk,ih,h.1]
theorem KV.repl {kvs:List (κ×V)} {vs:List (κ×Value)} (r:KV kvs vs) (k:κ) {y:V} {u:Value} (ry:a0P y u):
  KV (kvs.map fun kv=>if kv.1=k then (kv.1,y) else kv) (vs.map fun kv=>if kv.1=k then (kv.1,u) else kv):=by
 unfold KV at r ⊢
 induction r with
 | nil=>exact .nil
 | @cons p q ps qs h t ih=>
  rw [Xg,Xg]
  refine .cons ?_ ih
  obtain ⟨h1,h2⟩:=h
  by_cases e:p.1=k
  ·rw [if_pos e,if_pos (h1.symm.trans e)];exact ⟨h1,ry⟩
  ·rw [if_neg e,if_neg (fun z=>e (h1.trans z))];exact ⟨h1,h2⟩
theorem KV.put {kvs:List (κ×V)} {vs:List (κ×Value)} (r:KV kvs vs) (k:κ) {y:V} {u:Value} (ry:a0P y u):KV (a1W kvs k y) (stored vs k u):=by
 unfold a1W stored
 rw [r.any k]
 by_cases e:(vs.any fun kv=>decide (kv.1=k))=true
 ·rw [if_pos e,if_pos e];exact r.repl k ry
 ·rw [if_neg e,if_neg e];exact Paired.snoc r ⟨rfl,ry⟩
theorem KV.drop {kvs:List (κ×V)} {vs:List (κ×Value)} (r:KV kvs vs) (k:κ):KV (b9A kvs k) (without vs k):=by
 unfold KV at r ⊢
 unfold b9A without
 induction r with
 | nil=>exact .nil
 | @cons p q ps qs h t ih=>
  obtain ⟨h1,h2⟩:=h
  rw [Xw,Xw]
  by_cases e:p.1=k
  ·have a:¬decide (p.1≠k)=true:=by simp [e]
   have b:¬decide (q.1≠k)=true:=by simp [h1.symm.trans e]
   rw [if_neg a,if_neg b];exact ih
  ·have e':¬q.1=k:=fun z=>e (h1.trans z)
   have a:decide (p.1≠k)=true:=by simp [e]
   have b:decide (q.1≠k)=true:=by simp [e']
   rw [if_pos a,if_pos b];exact .cons ⟨h1,h2⟩ ih
theorem KV.length {kvs:List (κ×V)} {vs:List (κ×Value)} (r:KV kvs vs):kvs.length=vs.length:=Paired.length r
end
theorem a6K {P:Program} {w:World} {k:Key} {u:Value} (r:a0P (kV k) u):(a0s P w).is k u=true:=by
 cases k with
 | inl i=>obtain ⟨t,e⟩:=(show ∃t,u=Value.int i t from r);subst e;exact a6T P w i t
 | inr x=>obtain ⟨t,e⟩:=(show ∃t,u=Value.str x t from r);subst e;exact a7j P w x t
theorem a6o {P:Program} {w:World}:∀{ks:List Key} {us:List Value},a0L (ks.map kV) us→ItemsAre (a0s P w) ks us
 | [],_,r=>by rw [Jq] at r;cases r;exact .nil
 | k::ks,_,r=>by
  rw [Xg] at r
  cases r with
  | cons h t=>exact .cons (a6K h) (a6o t)
abbrev KT (H:Hp):List (List Key×V)→List (List Key×Addr×Value)→Prop:=Paired fun p q=>p.1=q.1∧H q.2.1=some (.tup (p.1.map kV))∧a0P p.2 q.2.2
theorem KT.val {H:Hp} {kvs:List (List Key×V)} {xs:List (List Key×Addr×Value)} (r:KT H kvs xs) (k:List Key):a4w (a0N kvs k) ((atKey xs k).map (·.2)):=by
 induction r with
 | nil=>exact True.intro
 | @cons p q ps qs h t ih=>
  obtain ⟨h1,_,h2⟩:=h
  by_cases e:p.1=k
  ·have e':q.1=k:=h1.symm.trans e
   have b:atKey (q::qs) k=some q.2:=by simp [atKey,Zd,e']
   rw [a0F e,b];exact h2
  ·have e':¬q.1=k:=fun z=>e (h1.trans z)
   have b:atKey (q::qs) k=atKey qs k:=by simp [atKey,Zd,e']
   rw [a0w e,b];exact ih
theorem KT.repl {H:Hp} {kvs:List (List Key×V)} {xs:List (List Key×Addr×Value)} (r:KT H kvs xs) (k:List Key) {y:V} {u:Value} (ry:a0P y u):
  KT H (kvs.map fun kv=>if kv.1=k then (kv.1,y) else kv) (xs.map (putAt k u)):=by
 induction r with
 | nil=>exact .nil
 | @cons p q ps qs h t ih=>
  rw [Xg,Xg]
  refine .cons ?_ ih
  obtain ⟨h1,h2,h3⟩:=h
  unfold putAt
  by_cases e:p.1=k
  ·rw [if_pos e,if_pos (h1.symm.trans e)];exact ⟨h1,h2,ry⟩
  ·rw [if_neg e,if_neg (fun z=>e (h1.trans z))];exact ⟨h1,h2,h3⟩
theorem KT.put {H:Hp} {kvs:List (List Key×V)} {xs:List (List Key×Addr×Value)} (r:KT H kvs xs) (k:List Key) {b:Addr} {y:V} {u:Value} (hb:H b=some (.tup (k.map kV))) (ry:a0P y u):
  KT H (a1W kvs k y) (storedH xs k b u):=by
 have e:(kvs.any fun kv=>decide (kv.1=k))=(atKey xs k).isSome:=by
  rw [a1V,(r.val k).isSome_eq,Ug]
 unfold a1W storedH
 rw [e]
 by_cases q:(atKey xs k).isSome=true
 ·rw [if_pos q,if_pos q];exact r.repl k ry
 ·rw [if_neg q,if_neg q];exact Paired.snoc r ⟨rfl,hb,ry⟩
theorem KT.keeps {H H':Hp} {kvs:List (List Key×V)} {xs:List (List Key×Addr×Value)} (r:KT H kvs xs) (ht:∀b ys,H b=some (.tup ys)→H' b=some (.tup ys)):KT H' kvs xs:=
 Paired.mapP r fun _ _ z=>⟨z.1,ht _ _ z.2.1,z.2.2⟩
section
variable {P:Program} {w:World} {H:Hp} {h:Heap} {a:Addr}
theorem c0c {u:HO} (ok:HOk P w H h) (e:Rd H a u):a1g P w H h a u:=e.ok ok
theorem a4z {kvs:List (Key×V)} (ok:HOk P w H h) (e:Rd H a (.dK kvs)):kvs.length≤sizeLine∧(a == sysModules)=false∧∃vs,KV kvs vs∧h.DictOf (a0s P w) a vs:=
 show a1g P w H h a (.dK kvs) from c0c ok e
theorem a9m {kvs:List (Key×V)} (ok:HOk P w H h) (e:H a=some (.dK kvs)):kvs.length≤sizeLine∧(a == sysModules)=false∧∃vs,KV kvs vs∧h.DictOf (a0s P w) a vs:=a4z ok (.inl e)
theorem a4K {ks:List Key} (ok:HOk P w H h) (e:H a=some (.tup (ks.map kV))):(tupleKind (a0s P w)).is h ks a:=by
 obtain ⟨_,its,r,o,h1,h2,n,h3⟩:=(show a1g P w H h a (.tup (ks.map kV)) from ok a _ e)
 exact ⟨o,its.toArray,n,h1,h2,h3,by simpa using a6o r⟩
theorem a6X {kvs:List (List Key×V)} (ok:HOk P w H h) (e:Rd H a (.dT kvs)):kvs.length≤sizeLine∧(a == sysModules)=false∧
  ∃xs,KT H kvs xs∧h.DictOfH (tupleKind (a0s P w)) a xs:=by
 obtain ⟨z,y,xs,r,o,es,ep,h1,h2,h3,h4,h5⟩:=(show a1g P w H h a (.dT kvs) from c0c ok e)
 refine ⟨z,y,xs,r,o,es,ep,h1,h2,h3,h4,fun x hx=>?_,h5⟩
 have all:∀{l:List (List Key×V)} {m:List (List Key×Addr×Value)},KT H l m→∀x∈m,(tupleKind (a0s P w)).is h x.1 x.2.1:=by
  intro l m q
  induction q with
  | nil=>intro x hx;exact nomatch hx
  | @cons p q ps qs hq t ih=>
   intro x hx
   rcases Qy.mp hx with e | hx
   ·subst e
    exact a4K ok (by rw [←hq.1];exact hq.2.1)
   ·exact ih x hx
 exact all r x hx
theorem c1S {kvs:List (List Key×V)} (ok:HOk P w H h) (e:H a=some (.dT kvs)):kvs.length≤sizeLine∧(a == sysModules)=false∧
  ∃xs,KT H kvs xs∧h.DictOfH (tupleKind (a0s P w)) a xs:=a6X ok (.inl e)
end
def a2K (H:Hp) (a:Addr) (y:V) (r:Option V):Prop:=
 (∃kvs k,Rd H a (.dK kvs)∧y=kV k∧r=a0N kvs k)∨∃kvs k b,Rd H a (.dT kvs)∧y=.ref b∧H b=some (.tup (k.map kV))∧r=a0N kvs k
def a4u (H:Hp) (a:Addr) (y v:V) (H':Hp):Prop:=
 (∃kvs k,H a=some (.dK kvs)∧y=kV k∧kvs.length < sizeLine∧H'=upd H a (.dK (a1W kvs k v)))∨
 ∃kvs k b,H a=some (.dT kvs)∧y=.ref b∧H b=some (.tup (k.map kV))∧kvs.length < sizeLine∧H'=upd H a (.dT (a1W kvs k v))
theorem a2K.k {H:Hp} {a:Addr} {kvs:List (Key×V)} {k:Key} (e:H a=some (.dK kvs)):a2K H a (kV k) (a0N kvs k):=.inl ⟨kvs,k,.inl e,rfl,rfl⟩
theorem a2K.t {H:Hp} {a b:Addr} {kvs:List (List Key×V)} {k:List Key} (e:H a=some (.dT kvs)) (eb:H b=some (.tup (k.map kV))):a2K H a (.ref b) (a0N kvs k):=.inr ⟨kvs,k,b,.inl e,rfl,eb,rfl⟩
theorem a4u.k {H:Hp} {a:Addr} {kvs:List (Key×V)} {k:Key} {v:V} (e:H a=some (.dK kvs)) (hl:kvs.length < sizeLine):a4u H a (kV k) v (upd H a (.dK (a1W kvs k v))):=.inl ⟨kvs,k,e,rfl,hl,rfl⟩
theorem a4u.t {H:Hp} {a b:Addr} {kvs:List (List Key×V)} {k:List Key} {v:V} (e:H a=some (.dT kvs)) (eb:H b=some (.tup (k.map kV))) (hl:kvs.length < sizeLine):
  a4u H a (.ref b) v (upd H a (.dT (a1W kvs k v))):=.inr ⟨kvs,k,b,e,rfl,eb,hl,rfl⟩
section
variable {X:Cx} {pins:List (Addr×Obj)} {σ:St} {H:Hp} {s:Shared} {a:Addr} {y v:V} {u r:Value} {o:Option V} {A:Around} {E:Value→Shared→Prop}
theorem Inv.big (I:Inv X pins σ H s):sysModules < s.heap.objs.size:=by
 have h:mainGlobals < s.heap.objs.size:=(I.mod.glob.keeps I.bk).lt
 exact Nat.lt_trans (by decide) h
theorem a9F {Q:Value→Shared→Prop} (hu:A.units+1 < cLine) (I:Inv X pins σ H s) (g:a2K H a y (some v)) (ry:a0P y u) (h:∀w' s',Inv X pins σ H s'→a0P v w'→Q w' s'):
  wpAny (model X.prog X.w) A (getItem (.ref a) u) Q E s:=by
 rcases g with ⟨kvs,k,e,ey,l⟩ | ⟨kvs,k,b,e,ey,eb,l⟩
 ·subst ey
  obtain ⟨z,hd,vs,rel,dd⟩:=a4z I.hok e
  obtain ⟨w',hw,rw'⟩:=a4w.some_of (v:=v) (o:=valueAt vs k) (by rw [l];exact rel.val k)
  exact wpAny_getItem_of (a6K ry) dd.mapOf hw (h w' _ (I.tok _) rw')
 ·subst ey
  cases (show u=Value.ref b from ry)
  obtain ⟨z,hd,xs,rel,dd⟩:=a6X I.hok e
  obtain ⟨w',hw,rw'⟩:=a4w.some_of (v:=v) (o:=(atKey xs k).map (·.2)) (by rw [l];exact rel.val k)
  obtain ⟨p,hp,hp2⟩:=Jn.mp hw
  refine wpAny_getItem_heap (tupleKind_room_in1 hu) (a4K I.hok eb) dd hp ?_
  rw [hp2]
  exact h w' _ (I.tok _) rw'
theorem c7F {Q:Value→Shared→Prop} (hu:A.units+1 < cLine) (I:Inv X pins σ H s) (g:a2K H a y o) (ry:a0P y u) (h:∀s',Inv X pins σ H s'→Q (.bool o.isSome) s'):
  wpAny (model X.prog X.w) A (compareOp .In u (.ref a)) Q E s:=by
 rcases g with ⟨kvs,k,e,ey,l⟩ | ⟨kvs,k,b,e,ey,eb,l⟩
 ·subst ey
  obtain ⟨z,hd,vs,rel,dd⟩:=a4z I.hok e
  refine wpAny_in_of (a6K ry) hd dd.mapOf ?_
  rw [←(rel.val k).isSome_eq,←l]
  exact h _ (I.tok _)
 ·subst ey
  cases (show u=Value.ref b from ry)
  obtain ⟨z,hd,xs,rel,dd⟩:=a6X I.hok e
  refine wpAny_in_heap (tupleKind_room_in1 hu) (a4K I.hok eb) hd dd ?_
  have q:=(rel.val k).isSome_eq
  rw [Ug] at q
  rw [←q,←l]
  exact h _ (I.tok _)
theorem b6f {Q:Value→Shared→Prop} (hu:A.units+1 < cLine) (I:Inv X pins σ H s) (g:a2K H a y o) (ry:a0P y u) (h:∀s',Inv X pins σ H s'→Q (.bool (!o.isSome)) s'):
  wpAny (model X.prog X.w) A (compareOp .NotIn u (.ref a)) Q E s:=by
 rcases g with ⟨kvs,k,e,ey,l⟩ | ⟨kvs,k,b,e,ey,eb,l⟩
 ·subst ey
  obtain ⟨z,hd,vs,rel,dd⟩:=a4z I.hok e
  refine wpAny_notIn_of (a6K ry) hd dd.mapOf ?_
  rw [←(rel.val k).isSome_eq,←l]
  exact h _ (I.tok _)
 ·subst ey
  cases (show u=Value.ref b from ry)
  obtain ⟨z,hd,xs,rel,dd⟩:=a6X I.hok e
  refine wpAny_notIn_heap (tupleKind_room_in1 hu) (a4K I.hok eb) hd dd ?_
  have q:=(rel.val k).isSome_eq
  rw [Ug] at q
  rw [←q,←l]
  exact h _ (I.tok _)
theorem a5g {h':Heap} {t':Nat} {ob:HO} (I:Inv X pins σ H s) (mu:Mut (H a)) (hs:Vp a s.heap h') (he:∃q,h'.get? a=some q) (new:a1g X.prog X.w (upd H a ob) h' a ob):
  Inv X pins σ (upd H a ob) {s with heap:=h',toks:=t'}:=
 I.write (x:=a) (e:=a) mu (.inl rfl) (fun b q hb z=>(hs.2 b hb).trans z) he new
theorem b2a {P:Program} {w:World} {H':Hp} {h':Heap} {kvs:List (Key×V)} {vs:List (Key×Value)} (z:kvs.length≤sizeLine) (hd:(a == sysModules)=false) (rel:KV kvs vs) (dd:h'.DictOf (a0s P w) a vs):
  a1g P w H' h' a (.dK kvs):=⟨z,hd,vs,rel,dd⟩
theorem b1m {H':Hp} {Q:Unit→Shared→Prop} (hu:A.units+1 < cLine) (I:Inv X pins σ H s) (g:a4u H a y v H') (ry:a0P y u) (rv:a0P v r) (h:∀s',Inv X pins σ H' s'→Q () s'):
  wpAny (model X.prog X.w) A (setItem (.ref a) u r) Q E s:=by
 rcases g with ⟨kvs,k,e,ey,l,eH⟩ | ⟨kvs,k,b,e,ey,eb,l,eH⟩
 ·subst ey eH
  obtain ⟨z,hd,vs,rel,dd⟩:=a9m I.hok e
  have hz:vs.length≤sizeLine:=by rw [←rel.length];exact z
  have hl:(a1W kvs k v).length≤sizeLine:=by have:=a0z kvs k v;omega
  refine wpAny_setItem_pairs (hsz:=hz) (a6K ry) dd fun h' dd' hs=>h _ ?_
  have he:∃q,h'.get? a=some q:=let ⟨q,_,_,hq,_⟩:=dd';⟨q,hq⟩
  exact a5g I (by rw [e];exact True.intro) hs he (b2a hl hd (rel.put k rv) dd')
 ·subst ey eH
  cases (show u=Value.ref b from ry)
  obtain ⟨z,hd,xs,rel,dd⟩:=c1S I.hok e
  have hz:xs.length≤sizeLine:=by rw [←Paired.length rel];exact z
  have hl:(a1W kvs k v).length≤sizeLine:=by have:=a0z kvs k v;omega
  refine wpAny_setItem_heap (hsz:=hz) (tupleKind_room_in1 hu) (a4K I.hok eb) dd fun h' dd' hs=>h _ ?_
  obtain ⟨q,es,ep,hq,h2,h3,h4,_,h5⟩:=dd'
  refine a5g I (by rw [e];exact True.intro) hs ⟨q,hq⟩ ⟨hl,hd,_,(rel.put k eb rv).keeps fun c ys ec=>?_,q,es,ep,hq,h2,h3,h4,h5⟩
  rw [a0a (a0G ec e (fun z=>nomatch z))]
  exact ec
end
section
variable {X:Cx} {pins:List (Addr×Obj)} {σ:St} {H:Hp} {s:Shared} {a:Addr} {kvs:List (Key×V)} {k:Key} {u:Value} {A:Around} {E:Value→Shared→Prop}
theorem c2j {Q:Value→Shared→Prop} (I:Inv X pins σ H s) (e:Rd H a (.dK kvs)) (h:∀t s',Inv X pins σ H s'→Q (.int kvs.length t) s'):wpAny (model X.prog X.w) A (call (.builtin "len") [.ref a]) Q E s:=by
 obtain ⟨z,hd,vs,rel,dd⟩:=a4z I.hok e
 refine call_len_dict hd dd (by rw [←rel.length];rw [sizeLine_eq] at z;omega) ?_
 rw [←rel.length]
 exact h _ _ (I.tok _)
end
def c5F (i:Expr):Prop:=∀ov iv,subscripted i false ov iv=operate [ov,iv] (getItem ov iv)
theorem b6F {prog:Program} {w:World} {A:Around} {E:Value→Shared→Prop} {s:Shared} {env:Env} {value slice:Expr} {pos:Pos} {T id:String} {Q:Value→Shared→Prop}
  (hl:typeLookup (.type T) "__getitem__"=pure (some (.builtin id))) (hs:c5F slice)
  (h:wpAny (model prog w) A (eval value env) (fun o s₁=>wpAny (model prog w) A (eval slice env) (fun i s₂=>s₂.TypeIs o T∧wpAny (model prog w) A (getItem o i) Q E s₂) E s₁) E s):
  wpAny (model prog w) A (eval (.Subscript value slice pos) env) Q E s:=by
 refine Subscript_ (wpAny_mono h (fun o s₁ h₁=>wpAny_mono h₁ (fun i s₂ h₂=>?_) fun _ _ x=>x) fun _ _ x=>x)
 obtain ⟨hT,h₂⟩:=h₂
 unfold subscriptTail
 refine wpAny_bind ?_
 rw [getitemInPython_of_ne hT.not_modules]
 refine wpAny_bind (wpAny_specialOf hT hl ?_)
 have fin:wpAny (model prog w) A (subscripted slice false o i) (fun r s₃=>wpAny (model prog w) A (letTemporaryGo value o r >>= fun _=>pure r) Q E s₃) E s₂:=by
  rw [hs o i]
  exact wpAny_operating (wpAny_mono h₂ (fun r s₃ h₃=>wpAny_bind (wpAny_letTemporaryGo (wpAny_pure h₃))) fun _ _ x=>x)
 first
  | exact wpAny_pure (wpAny_bind fin)
  | exact wpAny_bind (wpAny_pure (wpAny_bind fin))
  | exact wpAny_bind fin
theorem a6M {X:Cx} {pins:List (Addr×Obj)} {σ:St} {H:Hp} {s:Shared} {a:Addr} {y:V} {o:Option V} (I:Inv X pins σ H s) (g:a2K H a y o):s.TypeIs (.ref a) "dict":=by
 rcases g with ⟨kvs,k,e,_,_⟩ | ⟨kvs,k,b,e,_,_,_⟩
 ·obtain ⟨_,_,vs,_,dd⟩:=a4z I.hok e
  exact dd.typeIs
 ·obtain ⟨_,_,xs,_,dd⟩:=a6X I.hok e
  exact dd.typeIs
def b2f (td ty:TE):TE:=fun σ H Q=>td σ H fun x H1=>ty σ H1 fun y H2=>∃a v,x=.ref a∧a2K H2 a y (some v)∧Q v H2
def a9q (ty td:TE):TE:=fun σ H Q=>ty σ H fun y H1=>td σ H1 fun x H2=>∃a o,x=.ref a∧a2K H2 a y o∧Q (.bl o.isSome) H2
def a2n (ty td:TE):TE:=fun σ H Q=>ty σ H fun y H1=>td σ H1 fun x H2=>∃a o,x=.ref a∧a2K H2 a y o∧Q (.bl (!o.isSome)) H2
def a3l (td ty tv:TE):TS:=fun D σ H=>tv σ H fun v H1=>td σ H1 fun x H2=>ty σ H2 fun y H3=>∃a H4,x=.ref a∧a4u H3 a y v H4∧D.nx σ H4
section
variable {X:Cx} {o i e value:Expr} {pos pos' tpos:Pos} {td ty tv:TE}
theorem b5Q (hu:X.A.units+1 < cLine) (ho:PE X o td) (hi:PE X i ty) (hs:c5F i):PE X (.Subscript o i pos) (b2f td ty):=by
 intro pins s σ H Q I h
 refine b6F PySem.F.slot_dict_getitem.lookup hs (thn (ho pins s σ H _ I h) fun u s1 ⟨x,H1,I1,rx,q1⟩=>thn (hi pins s1 σ H1 _ I1 q1) fun iv s2 ⟨y,H2,I2,ry,a,v,ex,g,q2⟩=>?_)
 subst ex
 obtain rfl:u=Value.ref a:=rx
 exact ⟨a6M I2 g,a9F hu I2 g ry fun w' s3 I3 rw'=>⟨v,H2,I3,rw',q2⟩⟩
theorem a1A (hu:X.A.units+1 < cLine) (hi:PE X i ty) (ho:PE X o td):PC X .In i o (a9q ty td):=by
 intro pins s σ H Q I h
 refine thn (hi pins s σ H _ I h) fun iv s1 ⟨y,H1,I1,ry,q1⟩=>thn (ho pins s1 σ H1 _ I1 q1) fun u s2 ⟨x,H2,I2,rx,a,ov,ex,g,q2⟩=>?_
 subst ex
 obtain rfl:u=Value.ref a:=rx
 exact c7F hu I2 g ry fun s3 I3=>⟨.bl ov.isSome,H2,I3,rfl,q2⟩
theorem a9t (hu:X.A.units+1 < cLine) (hi:PE X i ty) (ho:PE X o td):PC X .NotIn i o (a2n ty td):=by
 intro pins s σ H Q I h
 refine thn (hi pins s σ H _ I h) fun iv s1 ⟨y,H1,I1,ry,q1⟩=>thn (ho pins s1 σ H1 _ I1 q1) fun u s2 ⟨x,H2,I2,rx,a,ov,ex,g,q2⟩=>?_
 subst ex
 obtain rfl:u=Value.ref a:=rx
 exact b6f hu I2 g ry fun s3 I3=>⟨.bl (!ov.isSome),H2,I3,rfl,q2⟩
theorem b5V (hu:X.A.units+1 < cLine) (ho:PE X o td) (hi:PE X i ty) (hv:PE X value tv) (hs:swapsWith value (some (.Subscript o i pos')) pos.line X.env=pure false):
  PS X (.Assign [.Subscript o i pos'] value pos) (a3l td ty tv):=by
 intro pins s σ H D I h
 refine wpAny_Assign_Subscript (thn (hv pins s σ H _ I h) fun r s1 ⟨v,H1,I1,rv,q1⟩=>thn (ho pins s1 σ H1 _ I1 q1) fun u s2 ⟨x,H2,I2,rx,q2⟩=>thn (hi pins s2 σ H2 _ I2 q2) fun iv s3 ⟨y,H3,I3,ry,a,H4,ex,g,q3⟩=>?_) hs
 subst ex
 obtain rfl:u=Value.ref a:=rx
 exact b1m hu I3 g ry rv fun s4 I4=>⟨σ,H4,I4,q3⟩
end
theorem b3i {P:Program} {w:World} {H:Hp} (h:Heap) (hb:sysModules < h.objs.size):a1g P w H (h.push {cls:=.type "dict",data:=.dict #[]}) h.objs.size (.dK []):=
 ⟨Xe _,beq_eq_false_iff_ne.mpr (Ne.symm (Xb hb)),[],.nil,Heap.DictOf.new h⟩
theorem b3F {P:Program} {w:World} {H:Hp} (h:Heap) (hb:sysModules < h.objs.size):a1g P w H (h.push {cls:=.type "dict",data:=.dict #[]}) h.objs.size (.dT []):=
 ⟨Xe _,beq_eq_false_iff_ne.mpr (Ne.symm (Xb hb)),[],.nil,_,#[],0,Xf _ rfl,⟨rfl,rfl,rfl⟩,rfl,rfl,Jr⟩
def a1L:TE:=fun _ H Q=>∀p,H p=none→Q (.ref p) (upd H p (.dK []))
def b8S:TE:=fun _ H Q=>∀p,H p=none→Q (.ref p) (upd H p (.dT []))
section
variable {X:Cx} {pos:Pos}
theorem b2K:PE X (.Dict [] [] pos) a1L:=fun pins s σ H Q I h=>
 wpAny_Dict_empty ⟨.ref s.heap.objs.size,_,I.laid (a:=s.heap.objs.size) (o:=.dK []) (t':=s.toks) (fun _ _ q=>Ql _ q) (Qk _) (b3i s.heap I.big),rfl,h _ (I.hok.fresh (Qk _))⟩
theorem b2S:PE X (.Dict [] [] pos) b8S:=fun pins s σ H Q I h=>
 wpAny_Dict_empty ⟨.ref s.heap.objs.size,_,I.laid (a:=s.heap.objs.size) (o:=.dT []) (t':=s.toks) (fun _ _ q=>Ql _ q) (Qk _) (b3F s.heap I.big),rfl,h _ (I.hok.fresh (Qk _))⟩
end
def a1N (kvs more:List (Key×V)):List (Key×V):=more.foldl (fun acc kv=>a1W acc kv.1 kv.2) kvs
theorem KV.merge:∀{more:List (Key×V)} {rs:List (Key×Value)} {kvs:List (Key×V)} {vs:List (Key×Value)},KV more rs→KV kvs vs→KV (a1N kvs more) (merged vs rs):=by
 intro more rs kvs vs r
 unfold KV at r
 induction r generalizing kvs vs with
 | nil=>intro q;exact q
 | @cons p q ps qs h t ih=>
  intro r0
  have e:KV (a1W kvs p.1 p.2) (stored vs q.1 q.2):=by
   have:=r0.put p.1 h.2
   rw [←h.1];exact this
  exact ih e
theorem a1I:∀(more kvs:List (Key×V)),(a1N kvs more).length≤kvs.length+more.length
 | [],kvs=>by show kvs.length≤kvs.length+0;omega
 | p::r,kvs=>by
  have h1:=a1I r (a1W kvs p.1 p.2)
  have h2:=a0z kvs p.1 p.2
  show (a1N (a1W kvs p.1 p.2) r).length≤_
  rw [Qr];omega
structure M2 (X:Cx) (o:Expr) (m:Str) (apos:Pos) (e f:Expr) (cpos:Pos):Prop where
 base:attributeBase o m X.env (eval o X.env)=eval o X.env
 few:((backTo cpos (starEach [e,f] X.env)).all (fun x=>!x.1) && (backToKw cpos (keywordEach [] X.env)).all (fun x=>x.1.isSome)
  && decide (([e,f]:List Expr).length+([]:List Keyword).length+(if ([]:List Keyword).isEmpty then 0 else 1) < 30))=true
 line:(apos.endLine == cpos.line)=true
 trees:backTo cpos (starEach [e,f] X.env)=[(false,eval e X.env),(false,eval f X.env)]
def IsD (H:Hp) (a:Addr):Prop:=(∃kvs,Rd H a (.dK kvs))∨∃kvs,Rd H a (.dT kvs)
theorem b4V {X:Cx} {pins:List (Addr×Obj)} {σ:St} {H:Hp} {s:Shared} {a:Addr} (I:Inv X pins σ H s) (d:IsD H a):
  s.TypeIs (.ref a) "dict"∧(∀b,Value.ref a=.ref b→∃ob,s.heap.get? b=some ob∧ob.dict=none)∧(a == sysModules)=false:=by
 rcases d with ⟨kvs,e⟩ | ⟨kvs,e⟩
 ·obtain ⟨_,hd,vs,_,dd⟩:=a4z I.hok e
  refine ⟨dd.typeIs,fun b q=>?_,hd⟩
  cases q
  obtain ⟨ob,_,_,h1,h2,_⟩:=dd
  exact ⟨ob,h1,h2.2.1⟩
 ·obtain ⟨_,hd,xs,_,dd⟩:=a6X I.hok e
  refine ⟨dd.typeIs,fun b q=>?_,hd⟩
  cases q
  obtain ⟨ob,_,_,h1,h2,_⟩:=dd
  exact ⟨ob,h1,h2.2.1⟩
section
variable {X:Cx} {pins:List (Addr×Obj)} {σ:St} {H:Hp} {s:Shared} {a:Addr} {y d:V} {u r:Value} {o:Option V} {A:Around} {E:Value→Shared→Prop}
theorem b9t {Q:Value→Shared→Prop} (hu:A.units+1 < cLine) (I:Inv X pins σ H s) (g:a2K H a y o) (ry:a0P y u) (rd:a0P d r) (h:∀w' s',Inv X pins σ H s'→a0P (o.getD d) w'→Q w' s'):
  wpAny (model X.prog X.w) A (call (.builtin "dict.get") [.ref a,u,r]) Q E s:=by
 rcases g with ⟨kvs,k,e,ey,l⟩ | ⟨kvs,k,b,e,ey,eb,l⟩
 ·subst ey
  obtain ⟨z,hd,vs,rel,dd⟩:=a4z I.hok e
  refine call_meetsIn Ur dd.typeIs Wl (Wd _ _ _) (meets_dict_get_default (a0s X.prog X.w) a (a6K ry) hd r) ⟨_,dd.mapOf,h _ _ (I.tok _) ?_⟩
  rw [l]
  exact (rel.val k).getD rd
 ·subst ey
  cases (show u=Value.ref b from ry)
  obtain ⟨z,hd,xs,rel,dd⟩:=a6X I.hok e
  refine call_meetsIn Ur dd.typeIs Wl (Wd _ _ _) (meetsH_dict_get_default (tupleKind (a0s X.prog X.w)) a b hd r) ⟨tupleKind_room_in1 hu,k,xs,a4K I.hok eb,dd,h _ _ (I.tok _) ?_⟩
  rw [l]
  exact (rel.val k).getD rd
end
def a4V (td ty tx:TE):TE:=fun σ H Q=>td σ H fun x H1=>∃a,x=.ref a∧IsD H1 a∧ty σ H1 fun y H2=>tx σ H2 fun z H3=>∃o,a2K H3 a y o∧Q (o.getD z) H3
section
variable {X:Cx} {o e f:Expr} {apos cpos:Pos} {td ty tx:TE}
theorem b3K (hu:X.A.units+1 < cLine) (ho:PE X o td) (he:PE X e ty) (hf:PE X f tx) (m:M2 X o "get" apos e f cpos):PE X (.Call (.Attribute o "get" apos) [e,f] [] cpos) (a4V td ty tx):=by
 intro pins s σ H Q I h
 refine wpAny_Call_method m.base m.few m.line Jj Ur PySem.F.type_dict_get (thn (ho pins s σ H _ I h) fun u s1 ⟨x,H1,I1,rx,a,ex,d,q1⟩=>?_)
 subst ex
 obtain rfl:u=Value.ref a:=rx
 obtain ⟨t1,t2,_⟩:=b4V I1 d
 refine ⟨t1,t2,?_⟩
 rw [m.trees]
 refine Calls.callWith_builtin rfl (Calls.evalArgs_plain (Calls.spliced_cons (thn (he pins s1 σ H1 _ I1 q1) fun iv s2 ⟨y,H2,I2,ry,q2⟩=>
  Calls.spliced_cons (thn (hf pins s2 σ H2 _ I2 q2) fun fv s3 ⟨z,H3,I3,rz,ov,g,q3⟩=>Calls.spliced_nil ?_))))
 exact b9t hu I3 g ry rz fun w' s4 I4 rw'=>⟨_,H3,I4,rw',q3⟩
end
end L2
namespace Att
open PySem PySem.W PySem.Calls PyProof.Rows
theorem a4e {P:Params} {h:Heap}:∀(ns:List Int) (vs:List Value),WellAll P h vs (ns.map WData.int)→IntsAre vs ns:=by
 intro ns
 induction ns with
 | nil=>
  intro vs w
  rw [Jq] at w
  cases w
  exact .nil
 | cons n ns ih=>
  intro vs w
  rw [Xg] at w
  cases w with
  | cons a b=>
   cases a
   exact .cons _ _ (ih _ b)
theorem b1D {l:OpenLaw} {n:Nat} (hn:l.most=some n) {P:Params} {h:Heap} {args:List WData} {vals:List Value}
  (hpre:l.row.toRowW.claim.pre args=true) (hwl:WellAll P h vals args):
  ∃a vs ns,vals=[Value.ref a]∧args=[WData.list (ns.map WData.int)]∧h.get? a=some {cls:=.type "list",data:=.seq vs.toArray}∧IntsAre vs ns∧ns.length≤n:=by
 have hsh:WShape.hasAll [] args [.list .int]=true:=(pre_splitW hpre).1
 have hc:l.pre.holds [] {args:=args}=true:=(pre_splitW hpre).2
 obtain ⟨d,r,rfl,h1,h2⟩:=hasAllW_cons hsh
 obtain rfl:=hasAllW_nil h2
 obtain ⟨xs,rfl,h3⟩:=hasW_list h1
 obtain ⟨ns,rfl⟩:=items_int h3
 have hlen:ns.length≤n:=by
  unfold OpenLaw.pre at hc
  have h4:(WTm.not (.lt (.lit (.int (n:Int))) (.len (.arg 0)))).holds [] {args:=[.list (ns.map .int)]}=true:=by
   have h4:=(holds_andW hc).1
   rw [hn] at h4
   exact h4
  have h5:=condW_of h4 (w_not (w_lt w_lit (w_len_list (w_arg rfl))))
  rw [Qe] at h5
  refine Nat.le_of_not_lt fun q=>?_
  have q':(n:Int) < ((ns.length:Nat):Int):=by omega
  first
   | (rw [decide_eq_true q'] at h5;exact absurd h5 (by decide))
   | (simp at h5;omega)
 cases hwl with
 | cons w1 w2=>
  cases w2
  cases w1 with
  | list ho hall=>exact ⟨_,_,ns,rfl,rfl,ho,a4e ns _ hall,hlen⟩
theorem a9w (l:OpenLaw) (args:List WData):l.row.toRowW.claim.post args (.bool true) args=true:=
 postW_of (r:=l.row.toRowW) (X:=(true == true))
  (show WShape.has [] (.bool true) .bool=true by first | rfl | decide | simp [WShape.has,WShape.arms,WShape.armsAll])
  (show (WTm.eq .res (.lit (.bool true))).value [] {args:=args,res:=some (.bool true),after:=args}=some (.bool (true == true)) from w_eq_bool (w_res rfl) w_lit) rfl
theorem attach_call {l:OpenLaw} {n:Nat} {q:Program} {loose:List Str} {XP:(Str→Option Value)→Heap→Prop} {YP:World→Heap→Prop} {d:DefRec}
  (hn:l.most=some n) (hdf:d.params.defaults=[])
  (call:∀(w:World) (s₀ s₁:Shared) (mg mb:Str→Option Value) (fa:Addr) (o:Obj) (pm cd doc:Value) (a:Addr) (vs:List Value) (ns:List Int),
   Ground q loose [] XP w s₀ mg mb s₁.heap→YP w s₁.heap→
   s₁.heap.get? fa=some o→o.data=.func (docDef d.name d.params d.body d.scope pm cd doc)→s₁.heap.CodeRec cd d.name→mg d.name=some (.ref fa)→
   s₁.heap.get? a=some {cls:=.type "list",data:=.seq vs.toArray}→IntsAre vs ns→ns.length≤n→s₁.gens=#[]→
   codeAny (model l.prog w) callerA (.call (.ref fa) ⟨[.ref a],[]⟩) (fun r s'=>r=.ok (.ret (.bool true))∧OldK s₁.heap s'.heap∧s'.os=s₁.os∧AllBare s'.gens) s₁):
  WalkO q loose XP YP l.row.toRowW d [] (fun f vs=>PySem.call f vs):=by
 intro w s₀ s₁ mg mb G Y fa o pm cd doc dV kV ho hd hcd hD hmg hg args vals as hpre hlay hrd hwl hlo
 obtain rfl:dV=.none:=Dflts.none hD hdf
 obtain rfl:kV=.none:=Dflts.noKw hD
 obtain ⟨a,vs,ns,rfl,rfl,hobj,hints,hlen⟩:=b1D hn hpre hwl
 refine enter_call (codeAny_mono (call w s₀ s₁ mg mb fa o pm cd doc a vs ns G Y ho (fd_plain hd) hcd hmg hobj hints hlen hg) fun r s' hq=>?_)
 obtain ⟨rfl,h2,h3,h4⟩:=hq
 exact ⟨.inl ⟨.bool true,.bool true,[],rfl,fun _=>rfl,.bool true,a9w l _,fun _=>⟨Wz.nil,fun _ hm=>(nomatch hm)⟩⟩,h2,h3,h4⟩
end Att
namespace L2
open PySem PySem.Spec PyProof.Rows
theorem a6j:∀{vs:List Value} {ns:List Int},IntsAre vs ns→a0L (ns.map V.int) vs
 | _,_,.nil=>.nil
 | _,_,.cons n t h=>.cons ⟨t,rfl⟩ (a6j h)
end L2
namespace L2
open PySem PySem.Spec PyProof.Rows
abbrev KOf {K:Qd} {h:Heap} (_:K.In h):Qd:=K
end L2
namespace L2
open PySem PySem.Spec PyProof.Rows












abbrev CX0:CXT:=fun _ _ _ _ _ _=>False
abbrev E0:XK:=fun _ _ _=>False
theorem a9v {X:Cx}:a3s CX0 X E0:=fun _ _ _ _ _ _ _ h=>h.elim
structure Fun (K:Qd) (x qual:Str) (st:Stmt) (f:Addr) (fd:FuncData):Prop where
 ex:∃(oc:Value) (od:Option Addr) (kV doc pm:Value) (an:Option Addr) (cdv ct:Value) (osl:Array (Option Value)),
  fd=Yy x qual (a1M st) (a1m st) (a0b st) .none kV doc pm an cdv ct∧K.lookup f=some ⟨oc,od,.func fd,osl⟩∧Jp K cdv qual=true
 kp:Zk K (.ref f)=true
section
variable {P:Program} {w:World} {K:Qd} {mg:Str→Option Value} {base:Heap}
theorem Fun.ok {x qual:Str} {st:Stmt} {f:Addr} {fd:FuncData} {N ps:List Str} {k:Nat} {sp:Sp} (F:Fun K x qual st f fd) (S:a0g N ps (a0b st)) (len:∀vs H Q E,sp vs H Q E→vs.length=ps.length)
  (hbody:∀(cdv:Value) (A:Around) (outer:List Env) (s:Shared) (H:Hp) (vs:List V) (Q:VK) (E:XK),a2u k (A.deeper (envOfC qual (a0b st) s.heap.objs.size f cdv))→sp vs H Q E→
   ∃t,PSs (b4A CX0 P w K mg base N qual (a0b st) f cdv A outer s H E).nox (a1m st) t∧t {nx:=fun _ H'=>Q .non H',rt:=Q} (start N vs) H):a0V P w K mg base CX0 (k+1) f fd ps sp:=by
 obtain ⟨oc,od,kV,doc,pm,an,cdv,ct,osl,rfl,lk,hcd⟩:=F.ex
 refine b6r lk hcd S len fun A outer s H vs Q E hr hsp=>?_
 obtain ⟨t,h,q⟩:=hbody cdv A outer s H vs Q E hr hsp
 exact ⟨t,h.nox,q⟩
theorem b8D {x qual:Str} {st:Stmt} {f:Addr} {oc:Value} {od an:Option Addr} {osl:Array (Option Value)} {kV doc pm cdv ct:Value} (l:K.lookup f=some ⟨oc,od,.func (Yy x qual (a1M st) (a1m st) (a0b st) .none kV doc pm an cdv ct),osl⟩)
  (c:Jp K cdv qual=true) (k:Zk K (.ref f)=true):Fun K x qual st f (Yy x qual (a1M st) (a1m st) (a0b st) .none kV doc pm an cdv ct):=⟨⟨oc,od,kV,doc,pm,an,cdv,ct,osl,rfl,l,c⟩,k⟩
end
theorem a1Y {A:Around} {k:Nat} (hr:a2u k A):A.units+1 < cLine:=Xm (Nat.add_le_add_left (by decide:1≤64) _) hr.units
section
variable {X:Cx}
theorem pv (i:Nat) {x:Str} {pos:Pos} (hN:X.N[i]?=some x:=by rfl) (hv:Vis X.env.scope x:=by first | exact Or.inl rfl | exact Or.inr (Or.inl rfl) | exact Or.inr (Or.inr rfl)) (hd:(x == ("__debug__":Str))=false:=by decide)
  (hcd:(x == ("__classdict__":Str))=false:=by decide):PE X (.Name x pos) (a0k i):=b8m hN hv hd hcd
end
theorem a1K {c A B:Prop} [Decidable c] (h1:c→A) (h2:¬c→B):if c then A else B:=by
 by_cases h:c
 ·rw [if_pos h]
  exact h1 h
 ·rw [if_neg h]
  exact h2 h
def a0h (H H':Hp):Prop:=∀b o,H b=some o→H' b=some o
theorem a0h.refl (H:Hp):a0h H H:=fun _ _ h=>h
theorem a0h.trans {H H1 H2:Hp} (a:a0h H H1) (b:a0h H1 H2):a0h H H2:=fun c o h=>b c o (a c o h)
theorem a0h.free {H H':Hp} (e:a0h H H') {l:Addr} (h:H' l=Option.none):H l=Option.none:=by
 cases q:H l with
 | none=>rfl
 | some o=>
  rw [e l o q] at h
  cases h
theorem a0h.seq {K:Qd} {H H':Hp} {a:Addr} {xs:List V} (e:a0h H H') (h:SqL K H a xs):SqL K H' a xs:=by
 rcases h with (h | ⟨o,h⟩) | h
 ·exact .inl (.inl (e _ _ h))
 ·exact .inl (.inr ⟨o,e _ _ h⟩)
 ·exact .inr h
section
variable {X:Cx}
theorem b2m:a1H X (.builtin "len") (fun xs H Q=>∃a kvs,xs=[V.ref a]∧H a=some (.dK kvs)∧Q (.int kvs.length) H):=by
 intro pins s σ H xs us Q I r h
 obtain ⟨a,kvs,rfl,ha,q⟩:=h
 obtain ⟨u,rfl,ru⟩:=a3r r
 cases ru
 exact c2j I (.inl ha) fun t s' I'=>⟨.int kvs.length,H,I',⟨t,rfl⟩,q⟩
end
end L2
namespace Tx
open PySem PySem.Builtin PySem.Builtin.Str PySem.StrLaws PyProof.Rows
abbrev mk (l:List Nat):Str:=⟨l.toArray⟩
theorem c0P (x:Str):mk x.cps.toList=x:=by obtain ⟨⟨l⟩⟩:=x;rfl
theorem a0A (l:List Nat):(mk l).length=l.length:=by show l.toArray.size=_;simp
theorem a2z (a b:List Nat):mk a++mk b=mk (a++b):=by
 show (⟨a.toArray++b.toArray⟩:Str)=_
 simp
theorem a6a {a b:List Nat} (h:mk a=mk b):a=b:=by simpa [mk] using h
theorem b1g (l:List Nat) (c i:Nat):subAt (mk l) (mk [c]) i=decide (l[i]?=some c):=by
 rw [subAt_eq]
 show ((l.drop i).take 1 == [c])=_
 cases e:l[i]? with
 | none=>
  have:l.drop i=[]:=List.drop_eq_nil_of_le (by simpa using e)
  rw [this];simp
 | some d=>
  have hi:=(Qn.mp e)
  obtain ⟨h1,h2⟩:=hi
  rw [List.drop_eq_getElem_cons h1,h2]
  show (d == c && true)=decide (some d=some c)
  by_cases z:d=c
  ·subst z;simp
  ·simp [z]
theorem b9Q (l:List Nat) (i j:Nat):strSub (mk l) i j=mk ((l.drop i).take (j - i)):=by
 rw [←c0P (strSub (mk l) i j),strSub_toList]
theorem a9o (c:Nat) (l:List Nat):Js (mk l) (mk [c])=decide (l[0]?=some c):=by
 unfold Js
 rw [b1g,a0A,a0A]
 cases l with
 | nil=>rfl
 | cons d r=>simp
theorem a8T (l:List Nat) {i:Int} (h0:0≤i) (h1:i≤l.length):Vf (mk l) (some i) none=mk (l.drop i.toNat):=by
 have:=slice_closes_fromL (x:=mk l) (b:=l.length) h0 (by rw [a0A];exact h1) (by rw [a0A])
 have e:=eq_of_beq this
 rw [e]
 simp
 rw [List.take_of_length_le]
 rw [Jt];omega
end Tx
namespace L2
open PySem PySem.Spec PyProof.Rows
abbrev NoE:Value→Shared→Prop:=fun _ _=>False
section
variable {prog:Program} {w:World} {A:Around} {R:Result→Shared→Prop} {s:Shared}
theorem a5X {elt target iter:Expr} {ifs:List Expr} {scope:Scope} {pos:Pos} {it acc:Value} {env:Env} (I:Nat→Shared→Prop)
  (turn:∀n s,I n s→wpAny (model prog w) A (pyNext it) (fun r s₁=>match r with
   | none=>R (.ok .next) s₁
   | some v=>wpAny (model prog w) A (letOwnedTupleGo target it v) (fun _ s₂=>wpAny (model prog w) A (assign target env v) (fun _ s₃=>
     wpAny (model prog w) A (forIn ifs true fun c r=>if r=true then do let ok ←isTrue c env (eval c env);pure (ForInStep.yield ok) else pure (ForInStep.yield r)) (fun ok s₄=>
      if ok=true then wpAny (model prog w) A (eval elt env) (fun x s₅=>wpAny (model prog w) A (call (.builtin "list.append") [acc,x]) (fun _ s₆=>∃m,m < n∧I m s₆) NoE s₅) NoE s₄
      else ∃m,m < n∧I m s₄) NoE s₃) NoE s₂) NoE s₁) NoE s)
  (n:Nat) (h:I n s):codeAny (model prog w) A (.compLoop (.ListComp elt [⟨target,iter,ifs,0⟩] scope pos) 0 it acc env) R s:=by
 refine codeAny_loop rfl I (fun n s hI=>?_) n h
 show wpAny _ A ((compTurn (.ListComp elt [⟨target,iter,ifs,0⟩] scope pos) 0 it acc env).onRaise (fun x=>do noteFrame x env;theTreesLotGoes x)) _ _ s
 refine wpAny_noted ?_
 rw [compTurn_list]
 refine wpAny_noRaise ?_
 refine wpAny_bind (wpAny_standAt (wpAny_bind (wpAny_mono (turn n s hI) (fun r s₁ h₁=>?_) fun _ _ h'=>h')))
 cases r with
 | none=>exact wpAny_pure h₁
 | some v=>
  refine wpAny_bind (wpAny_mono h₁ (fun _ s₂ h₂=>wpAny_bind (wpAny_mono h₂ (fun _ s₃ h₃=>wpAny_bind (wpAny_mono h₃ (fun ok s₄ h₄=>?_) fun _ _ h'=>h')) fun _ _ h'=>h')) fun _ _ h'=>h')
  cases ok with
  | false=>exact wpAny_pure ⟨rfl,h₄⟩
  | true=>exact wpAny_bind (wpAny_bind (wpAny_mono h₄ (fun x s₅ h₅=>wpAny_bind (wpAny_mono h₅ (fun _ s₆ h₆=>wpAny_pure (wpAny_pure ⟨rfl,h₆⟩)) fun _ _ h'=>h')) fun _ _ h'=>h'))
end
def a2r (env:Env):List (Str×NameKind)→List (Str×Addr)→List (Str×Addr)
 | [],cs=>cs
 | (n,k)::r,cs=>a2r env r (if (k == NameKind.free)=true then (n,(env.cells.lookup n).getD 0)::cs else cs)
theorem a1Q {scope:Scope} {env:Env} (h:∀y∈scope.names,y.2=NameKind.free→∃c,env.cells.lookup y.1=some c):closureFor scope env=pure (a2r env scope.names []):=by
 have all:∀(l:List (Str×NameKind)) (cs:List (Str×Addr)),(∀y∈l,y.2=NameKind.free→∃c,env.cells.lookup y.1=some c)→
   (forIn l cs fun (x:Str×NameKind) (cs:List (Str×Addr))=>(if (x.2 == NameKind.free)=true then do let a ←cellOf env x.1;pure (ForInStep.yield ((x.1,a)::cs)) else pure (ForInStep.yield cs):Sem (ForInStep (List (Str×Addr)))))=pure (a2r env l cs):=by
  intro l
  induction l with
  | nil=>intro cs _;rfl
  | cons y l ih=>
   intro cs hy
   obtain ⟨n,k⟩:=y
   rw [List.forIn_cons]
   by_cases hk:(k == NameKind.free)=true
   ·obtain ⟨c,hc⟩:=hy (n,k) Qs (by simpa using hk)
    have e1:cellOf env n=pure c:=by unfold cellOf;rw [hc]
    have e2:a2r env ((n,k)::l) cs=a2r env l ((n,c)::cs):=by
     show a2r env l (if (k == NameKind.free)=true then (n,(env.cells.lookup n).getD 0)::cs else cs)=_
     rw [if_pos hk,hc];rfl
    rw [e2,←ih ((n,c)::cs) fun z hz=>hy z (Qt _ hz)]
    simp only [hk,if_true,e1,pure_bind]
   ·have e2:a2r env ((n,k)::l) cs=a2r env l cs:=by
     show a2r env l (if (k == NameKind.free)=true then (n,(env.cells.lookup n).getD 0)::cs else cs)=_
     rw [if_neg hk]
    rw [e2,←ih cs fun z hz=>hy z (Qt _ hz)]
    have hk':(k == NameKind.free)=false:=by simpa using hk
    simp only [hk',Yz,if_false,pure_bind]
 have e:=all scope.names [] h
 unfold closureFor
 first
  | (rw [show (pure (a2r env scope.names []):Sem (List (Str×Addr)))=(pure (a2r env scope.names []) >>= fun cs=>pure cs) from rfl,←e];rfl)
  | (simp only [bind_pure];exact e)
  | (simpa using e)
theorem a3W {env:Env} {x:Str} {c:Addr}:∀{l:List (Str×NameKind)} {cs:List (Str×Addr)},(∀y∈l,y.2=NameKind.free→∃c,env.cells.lookup y.1=some c)→
  (∀y d,cs.lookup y=some d→env.cells.lookup y=some d)→(a2r env l cs).lookup x=some c→env.cells.lookup x=some c
 | [],_,_,hc,h=>hc x c h
 | (n,k)::r,cs,hy,hc,h=>by
  refine a3W (l:=r) (cs:=if (k == NameKind.free)=true then (n,(env.cells.lookup n).getD 0)::cs else cs) (fun z hz=>hy z (Qt _ hz)) (fun y d q=>?_) h
  by_cases hk:(k == NameKind.free)=true
  ·rw [if_pos hk] at q
   obtain ⟨c',hc'⟩:=hy (n,k) Qs (by simpa using hk)
   rw [hc',Yj] at q
   by_cases e:(y == n)=true
   ·rw [e] at q
    have e':y=n:=by simpa using e
    rw [e',hc'];exact q
   ·have e':(y == n)=false:=by simpa using e
    rw [e'] at q
    exact hc y d q
  ·rw [if_neg hk] at q
   exact hc y d q
theorem a3i {env:Env} {x:Str}:∀{l:List (Str×NameKind)} {cs:List (Str×Addr)},((x,NameKind.free)∈l∨∃c,cs.lookup x=some c)→∃c,(a2r env l cs).lookup x=some c
 | [],_,h=>by
  rcases h with h | h
  ·cases h
  ·exact h
 | (n,k)::r,cs,h=>by
  refine a3i (l:=r) (cs:=if (k == NameKind.free)=true then (n,(env.cells.lookup n).getD 0)::cs else cs) ?_
  rcases h with h | ⟨c,h⟩
  ·rcases Qy.mp h with e | e
   ·cases e
    refine .inr ?_
    rw [if_pos (by rfl),Yj,beq_self_eq_true]
    exact ⟨_,rfl⟩
   ·exact .inl e
  ·refine .inr ?_
   by_cases hk:(k == NameKind.free)=true
   ·rw [if_pos hk,Yj]
    by_cases e:(x == n)=true
    ·rw [e];exact ⟨_,rfl⟩
    ·have e':(x == n)=false:=by simpa using e
     rw [e'];exact ⟨c,h⟩
   ·rw [if_neg hk];exact ⟨c,h⟩
theorem a1P {env:Env}:∀{names:List (Str×NameKind)} {x:Str},names.lookup x=some .free→
  (names.map fun (n,k)=>if (k == NameKind.free && env.scope.kind == .function && env.kindOf n == some .cell) then (n,NameKind.cell) else (n,k)).lookup x=some .cell∨
  (names.map fun (n,k)=>if (k == NameKind.free && env.scope.kind == .function && env.kindOf n == some .cell) then (n,NameKind.cell) else (n,k)).lookup x=some .free
 | [],_,h=>by simp at h
 | (n,k)::r,x,h=>by
  have ih:=@a1P env r x
  rw [Xg]
  show Jc x ((if (k == NameKind.free && env.scope.kind == .function && env.kindOf n == some .cell)=true then (n,NameKind.cell) else (n,k))::_)=_∨Jc x ((if (k == NameKind.free && env.scope.kind == .function && env.kindOf n == some .cell)=true then (n,NameKind.cell) else (n,k))::_)=_
  cases hx:x == n with
  | true=>
   simp only [Yj,hx] at h
   cases h
   by_cases hc:(NameKind.free == NameKind.free && env.scope.kind == .function && env.kindOf n == some .cell)=true
   ·rw [if_pos hc];exact .inl (by simp only [Yj,hx])
   ·rw [if_neg hc];exact .inr (by simp only [Yj,hx])
  | false=>
   simp only [Yj,hx] at h
   by_cases hc:(k == NameKind.free && env.scope.kind == .function && env.kindOf n == some .cell)=true
   ·rw [if_pos hc];simp only [Yj,hx];exact ih h
   ·rw [if_neg hc];simp only [Yj,hx];exact ih h
theorem a4Z {env:Env}:∀{names:List (Str×NameKind)} {x:Str},(∀y∈names,y.2≠NameKind.cell)→
  ((names.map fun (n,k)=>if (k == NameKind.free && env.scope.kind == .function && env.kindOf n == some .cell) then (n,NameKind.cell) else (n,k)).lookup x=some .cell∨
  (names.map fun (n,k)=>if (k == NameKind.free && env.scope.kind == .function && env.kindOf n == some .cell) then (n,NameKind.cell) else (n,k)).lookup x=some .free)→(x,NameKind.free)∈names
 | [],_,_,h=>by rcases h with h | h<;>simp at h
 | (n,k)::r,x,hn,h=>by
  have ih:=@a4Z env r x fun y hy=>hn y (Qt _ hy)
  have hk:=hn (n,k) Qs
  rw [Xg] at h
  by_cases hc:(k == NameKind.free && env.scope.kind == .function && env.kindOf n == some .cell)=true
  ·have hk1:k=NameKind.free:=by
    rw [Xr,Xr] at hc
    simpa using hc.1.1
   simp only [hc,if_true,Yj] at h
   cases hx:x == n with
   | true=>have e:x=n:=(by simpa using hx);rw [e,hk1];exact Qs
   | false=>rw [hx] at h;exact Qt _ (ih h)
  ·have hc':(k == NameKind.free && env.scope.kind == .function && env.kindOf n == some .cell)=false:=by simpa using hc
   simp only [hc',Yz,if_false,Yj] at h
   cases hx:x == n with
   | true=>
    rw [hx] at h
    have e:x=n:=by simpa using hx
    rcases h with h | h
    ·exact absurd (Option.some.inj h) hk
    ·rw [e,Option.some.inj h];exact Qs
   | false=>rw [hx] at h;exact Qt _ (ih h)
def a1u (X:Cx) (Nc:List Str) (scope:Scope) (cl:List (Str×Addr)) (C:Addr) (s:Shared) (H:Hp) (ex:List Addr):Cx where
 prog:=X.prog
 w:=X.w
 K:=X.K
 mg:=X.mg
 base:=X.base
 A:=X.A
 N:=Nc
 s₀:=s
 H₀:=H
 env:=compEnvC scope cl C X.env
 outer:=X.stack
 stack:=X.stack
 ex:=ex
 fn:=fun _=>false
 calm:=X.calm
 pn:=[]
 xe:=NoE
def a1G (js:List (Option Nat)) (σ:St):St:=js.map fun o=>match o with
 | none=>none
 | some j=>(σ[j]?).getD none
structure a3y (X:Cx) (Nc:List Str) (js:List (Option Nat)) (scope:Scope):Prop where
 kind:scope.kind=.function
 nocell:∀y∈scope.names,y.2≠NameKind.cell
 names:∀y∈scope.names,y.2=NameKind.local→scope.names.lookup y.1=some NameKind.local
 free:∀y∈scope.names,y.2=NameKind.free→X.env.kindOf y.1=some NameKind.cell∨X.env.kindOf y.1=some NameKind.free
 len:js.length=Nc.length
 map:∀(i:Nat) (y:Str) (j:Nat),Nc[i]?=some y→js[i]?=some (some j)→X.N[j]?=some y∧scope.names.lookup y=some NameKind.free
def c0C (sc:Scope) (N Nc:List Str) (js:List (Option Nat)) (scope:Scope):Bool:=
 scope.kind == .function && scope.names.all (fun y=>y.2 != NameKind.cell) && scope.names.all (fun y=>y.2 != NameKind.local || scope.names.lookup y.1 == some NameKind.local) &&
 scope.names.all (fun y=>y.2 != NameKind.free || sc.names.lookup y.1 == some NameKind.cell || sc.names.lookup y.1 == some NameKind.free) && js.length == Nc.length &&
 (Nc.zip js).all (fun p=>match p.2 with | none=>true | some j=>N[j]? == some p.1 && scope.names.lookup p.1 == some NameKind.free)
theorem b2l {X:Cx} {sc:Scope} {N Nc:List Str} {js:List (Option Nat)} {scope:Scope} (hsc:X.env.scope=sc) (hN:X.N=N) (h:c0C sc N Nc js scope=true):a3y X Nc js scope:=by
 unfold c0C at h
 rw [Xr,Xr,Xr,Xr,Xr] at h
 obtain ⟨⟨⟨⟨⟨h1,h2⟩,h3⟩,h4⟩,h5⟩,h6⟩:=h
 rw [Ys] at h2 h3 h4 h6
 have h5':js.length=Nc.length:=by simpa using h5
 refine ⟨by simpa using h1,fun y hy=>by simpa using h2 y hy,fun y hy e=>?_,fun y hy e=>?_,h5',fun i y j e1 e2=>?_⟩
 ·have q:=h3 y hy
  rw [e] at q
  simpa using q
 ·have q:=h4 y hy
  rw [e] at q
  show X.env.scope.names.lookup y.1=_∨X.env.scope.names.lookup y.1=_
  rw [hsc]
  simpa using q
 ·have hm:(y,some j)∈Nc.zip js:=by
   refine Ut (i:=i) ?_
   rw [List.getElem?_zip_eq_some]
   exact ⟨e1,e2⟩
  have q:=h6 _ hm
  simp only [Xr,beq_iff_eq] at q
  rw [hN]
  exact q
def PTs (X:Cx) (ifs:List Expr) (t:TT):Prop:=
 ∀(pins:List (Addr×Obj)) (s:Shared) (σ:St) (H:Hp) (Q:Bool→Hp→Prop),Inv X pins σ H s→t σ H Q→
  wpAny (model X.prog X.w) X.A (forIn ifs true fun c r=>if r=true then do let ok ←isTrue c X.env (eval c X.env);pure (ForInStep.yield ok) else pure (ForInStep.yield r)) (TP X pins σ Q) X.xe s
def b7C:TT:=fun _ H Q=>Q true H
theorem b6E {X:Cx}:PTs X [] b7C:=fun pins s σ H Q I h=>wpAny_tests_nil ⟨H,I,h⟩
theorem b5S {X:Cx} {c:Expr} {t:TT} (hc:PT X c t):PTs X [c] t:=fun pins s σ H Q I h=>wpAny_tests_one (hc pins s σ H Q I h)
def b2L (js:List (Option Nat)) (wi:TI) (g:TG) (tt:TT) (te:TE):TE:=fun σ H Q=>wi σ H fun J H1=>∀D,H1 D=none→∃W:Nat→Nat→St→Hp→List V→Prop,(∃m,W 0 m (a1G js σ) (upd H1 D (.lst [])) [])∧
 ∀i m σ' H' ys,W i m σ' H' ys→H' D=some (.lst ys)∧((J.stop i H'∧Q (.ref D) H')∨(J.go i H'∧ys.length < sizeLine∧∀x H2,J.yld i H' x H2→g x σ' H2 fun σ2 H3=>tt σ2 H3 fun b H4=>
  if b=true then te σ2 H4 fun v H5=>H5 D=some (.lst ys)∧∃m',m' < m∧W (i+1) m' σ2 (upd H5 D (.lst (ys++[v]))) (ys++[v]) else ∃m',m' < m∧W (i+1) m' σ2 H4 ys))
section
variable {X:Cx} {elt target iter:Expr} {ifs:List Expr} {scope:Scope} {pos:Pos} {Nc:List Str} {js:List (Option Nat)} {wi:TI} {g:TG} {tt:TT} {te:TE}
theorem a4W {pins:List (Addr×Obj)} {σ:St} {H2:Hp} {s₂:Shared} {E:Value→Shared→Prop} {it:Addr} {fp:List Addr} {tn:Nat→Heap→Prop} {J:It} {Q:VK} {RR:Value→Addr→Result→Shared→Prop} (ok:a3y X Nc js scope) (hc:X.calm=true)
  (hg:∀C cl s H ex,PG (a1u X Nc scope cl C s H ex) target g) (ht:∀C cl s H ex,PTs (a1u X Nc scope cl C s H ex) ifs tt) (he:∀C cl s H ex,PE (a1u X Nc scope cl C s H ex) elt te)
  (I2:Inv X pins σ H2 s₂) (T:b6u X.prog X.w X.K target J fp it tn) (st2:tn 0 s₂.heap) (f2:∀b∈fp,a9d X pins H2 b)
  (h:∀D,H2 D=none→∃W:Nat→Nat→St→Hp→List V→Prop,(∃m,W 0 m (a1G js σ) (upd H2 D (.lst [])) [])∧
   ∀i m σ' H' ys,W i m σ' H' ys→H' D=some (.lst ys)∧((J.stop i H'∧Q (.ref D) H')∨(J.go i H'∧ys.length < sizeLine∧∀x H2,J.yld i H' x H2→g x σ' H2 fun σ2 H3=>tt σ2 H3 fun b H4=>
    if b=true then te σ2 H4 fun v H5=>H5 D=some (.lst ys)∧∃m',m' < m∧W (i+1) m' σ2 (upd H5 D (.lst (ys++[v]))) (ys++[v]) else ∃m',m' < m∧W (i+1) m' σ2 H4 ys)))
  (hRR:∀(D C:Addr) (s':Shared) (H':Hp) (m:Str→Option Value),Inv X pins σ H' s'→s'.heap.Ns C m→a9d X pins H' C→Q (.ref D) H'→RR (.ref D) C (.ok .next) s'):
  wpAny (model X.prog X.w) X.A (newList []) (fun acc s₃=>wpAny (model X.prog X.w) X.A (newFunctionEnv scope X.env.globals (a2r X.env scope.names []) [] X.env.qual none .none (some X.env)) (fun cenv s₄=>
   codeAny (model X.prog X.w) X.A (.compStart (.ListComp elt [⟨target,iter,ifs,0⟩] scope pos) 0 (.ref it) acc {cenv with scope:=relabel scope X.env}) (RR acc cenv.locals) s₄) E s₃) E s₂:=by
 have hfr:∀y∈scope.names,y.2=NameKind.free→∃c,X.env.cells.lookup y.1=some c:=fun y hy e=>I2.ok.has y.1 (ok.free y hy e)
 refine wpAny_newObj_type (wpAny_newFunctionEnv ok.nocell (by intro y hy;simp at hy) (fun h₁ hns₁ hsb₁=>?_) ok.kind)
 dsimp only at hns₁ hsb₁ ⊢
 generalize hHL:s₂.heap.push {cls:=.type "list",dict:=none,data:=.seq ([]:List Value).toArray}=HL at hns₁ hsb₁ ⊢
 have hC:HL.objs.size=s₂.heap.objs.size+1:=by rw [←hHL,Vc]
 have hCle:s₂.heap.objs.size≤HL.objs.size:=by rw [hC];exact Zh _
 have hDC:s₂.heap.objs.size≠HL.objs.size:=by rw [hC];exact Xb (Vq _)
 have old:∀b o,s₂.heap.get? b=some o→h₁.get? b=some o:=fun b o e=>hsb₁.extBut b o (Xb (Xj (Qu e) hCle)) (Ql _ (hHL ▸ Ql _ e))
 have hacc:h₁.get? s₂.heap.objs.size=some {cls:=.type "list",dict:=none,data:=.seq ([]:List Value).toArray}:=hsb₁.extBut _ _ hDC (Ql _ (hHL ▸ Xf _ rfl))
 have hD0:H2 s₂.heap.objs.size=none:=I2.hok.fresh (Qk _)
 have hC0:H2 HL.objs.size=none:=I2.hok.fresh hCle
 obtain ⟨W,⟨m0,w0⟩,turn⟩:=h _ hD0
 have hlook:∀x c,(a2r X.env scope.names []).lookup x=some c→X.env.cells.lookup x=some c:=fun x c e=>a3W hfr (fun y d q=>by simp at q) e
 have hlt:∀b∈fp,b < s₂.heap.objs.size:=fun b hb=>let ⟨o,e,_⟩:=T.obj 0 _ st2 b hb;Qu e
 have okc:(a1u X Nc scope (a2r X.env scope.names []) HL.objs.size s₂ H2 fp).Ok:=by
  refine ⟨I2.ok.mod,by show scope.kind=_;exact ok.kind,I2.ok.glob,I2.ok.blt,hCle,fun x y c e1 e2=>I2.ok.inj x y c (hlook x c e1) (hlook y c e2),fun x hx=>?_,fun x c z _=>absurd z Qo,I2.ok.hd,I2.ok.frames,.inl rfl,fun b hb=>⟨?_,fun x c e=>(f2 b hb).2.2.2.2.1 x c (hlook x c e)⟩,
   I2.bs,Qi I2.ok.bsz I2.sz,fun b o e hb=>?_,fun b hb z=>?_,I2.stack,I2.stkFree⟩
  ·exact a3i (.inl (a4Z ok.nocell hx))
  ·exact Xb (Xj (hlt b hb) hCle)
  ·rcases (f2 b hb).2.2.2.1 with z | z
   ·exact I2.ok.noex b o e z
   ·exact absurd (Xj (Qu e) (Qi I2.ok.bsz z)) (Zq _)
  ·rcases Qy.mp (I2.stkSub b z) with e | e
   ·exact (f2 b hb).2.1 e
   ·exact (f2 b hb).2.2.1 e
 have fpc:∀{H':Hp},(∀b∈fp,H' b=none)→∀b∈fp,a9d (a1u X Nc scope (a2r X.env scope.names []) HL.objs.size s₂ H2 fp) [] H' b:=fun {H'} hn b hb=>
  ⟨hn b hb,(okc.exf b hb).1,okc.exfs b hb,.inl hb,(okc.exf b hb).2,fun p hp=>absurd (show p∈([]:List (Addr×Obj)) from hp) (by simp)⟩
 have Ic:Inv (a1u X Nc scope (a2r X.env scope.names []) HL.objs.size s₂ H2 fp) [] (a1G js σ) (upd H2 s₂.heap.objs.size (.lst [])) {s₂ with heap:=h₁,toks:=s₂.toks+([]:List (Str×Value)).length}:=by
  refine ⟨okc,rfl,I2.bare,Un.laid old (Qk _) hD0,⟨_,hns₁,fun i x v e1 e2 e3=>?_⟩,fun x c e=>?_,?_,fun x c e=>?_,fun p hp=>absurd (show p∈([]:List (Addr×Obj)) from hp) (by simp),?_,?_⟩
  ·have e1':Nc[i]?=some x:=e1
   unfold a1G at e2
   rw [Qm] at e2
   cases ej:js[i]? with
   | none=>rw [ej] at e2;simp at e2
   | some oj=>
    rw [ej] at e2
    cases oj with
    | none=>simp at e2
    | some j=>
     have e2':(σ[j]?).getD none=some v:=by simpa using e2
     have e2'':σ[j]?=some (some v):=by
      cases q:σ[j]? with
      | none=>rw [q] at e2';simp at e2'
      | some z=>rw [q] at e2';simp at e2';rw [e2']
     obtain ⟨hN,hF⟩:=ok.map i x j e1' ej
     have hmem:(x,NameKind.free)∈scope.names:=PySem.mem_of_lookup hF
     have hkX:=ok.free _ hmem rfl
     obtain ⟨m,hn,hl⟩:=I2.loc
     have hvis:Vis X.env.scope x:=by
      rcases hkX with z | z
      ·exact .inr (.inl z)
      ·exact .inr (.inr z)
     obtain ⟨u,ru,lk⟩:=hl j x v hN e2'' hvis
     refine ⟨u,ru,.inr ?_⟩
     rcases lk with ⟨k1,_⟩ | ⟨_,c,ec,ic⟩
     ·have k1':X.env.kindOf x=some NameKind.local:=k1
      rcases hkX with z | z
      ·rw [z] at k1';cases k1'
      ·rw [z] at k1';cases k1'
     ·obtain ⟨c',hc'⟩:=a3i (env:=X.env) (l:=scope.names) (cs:=[]) (x:=x) (.inl hmem)
      have e':=hlook x c' hc'
      rw [ec] at e'
      cases e'
      exact ⟨a1P hF,c,hc',ic.keeps old⟩
  ·obtain ⟨v,q⟩:=I2.cell x c (hlook x c e)
   exact ⟨v,q.keeps old⟩
  ·show upd H2 s₂.heap.objs.size (.lst []) HL.objs.size=none
   rw [a0a (Ne.symm hDC)];exact hC0
  ·obtain ⟨v,q⟩:=I2.cell x c (hlook x c e)
   rw [a0a (Xb q.lt)]
   exact I2.freeC x c (hlook x c e)
  ·exact I2.hok.laid old (Qk _) ⟨Xe _,[],_,.nil,hacc⟩
  ·show (a1G js σ).length=Nc.length
   unfold a1G
   rw [Qe];exact ok.len
 have back:∀{σ':St} {H':Hp} {s':Shared},Inv (a1u X Nc scope (a2r X.env scope.names []) HL.objs.size s₂ H2 fp) [] σ' H' s'→Inv X pins σ H' s':=fun {σ' H' s'} I4=>
  I2.call' (ch:=fp) I4.os I4.base I4.hok I4.bare fun b hb=>⟨(f2 b hb).2.2.2.1,(f2 b hb).2.1,(f2 b hb).2.2.2.2.1,(f2 b hb).2.2.2.2.2⟩
 have st1:tn 0 h₁:=T.keep 0 _ _ st2 fun b _ o e=>old b o e
 have loop:∀s₃:Shared,s₃={s₂ with heap:=h₁,toks:=s₂.toks+([]:List (Str×Value)).length}→
   codeAny (model X.prog X.w) X.A (.compLoop (.ListComp elt [⟨target,iter,ifs,0⟩] scope pos) 0 (.ref it) (.ref s₂.heap.objs.size) (compEnvC scope (a2r X.env scope.names []) HL.objs.size X.env))
    (RR (.ref s₂.heap.objs.size) HL.objs.size) s₃:=by
  rintro s₃ rfl
  refine a5X (fun n s'=>∃i σ' H' ys,Inv (a1u X Nc scope (a2r X.env scope.names []) HL.objs.size s₂ H2 fp) [] σ' H' s'∧tn i s'.heap∧(∀b∈fp,H' b=none)∧W i n σ' H' ys) ?_ m0
   ⟨0,a1G js σ,_,[],Ic,st1,fun b hb=>by rw [a0a (Xb (hlt b hb))];exact (f2 b hb).1,w0⟩
  rintro n s3 ⟨i,σ3,H3,ys,I3,st3,fr3,w3⟩
  obtain ⟨hD3,tn3⟩:=turn i n σ3 H3 ys w3
  rcases tn3 with ⟨stop,q⟩ | ⟨go,hys,step⟩
  ·refine thn (T.done (a1u X Nc scope (a2r X.env scope.names []) HL.objs.size s₂ H2 fp) rfl rfl rfl hc i [] s3 σ3 H3 NoE I3 (fpc fr3) st3 stop) fun r s4 ⟨hr,I4⟩=>?_
   subst hr
   obtain ⟨m4,n4,_⟩:=I4.loc
   exact hRR _ _ s4 H3 m4 (back I4) n4 (I2.fpOk hCle I4.free) q
  ·refine thn (T.item (a1u X Nc scope (a2r X.env scope.names []) HL.objs.size s₂ H2 fp) rfl rfl rfl hc i [] s3 σ3 H3 NoE I3 (fpc fr3) st3 go) fun r s4 ⟨u,hr,h4⟩=>?_
   subst hr
   refine thn h4 fun _ s5 ⟨x,H5,I5,r5,y5,st5,fr5⟩=>?_
   have I5':=I5.pinned (fpc fr5) (T.obj _ _ st5)
   have fin:∀{σ7:St} {H7:Hp} {s7:Shared} {zs:List V} {m':Nat},Inv (a1u X Nc scope (a2r X.env scope.names []) HL.objs.size s₂ H2 fp) ([]++a6B fp s5.heap) σ7 H7 s7→m' < n→W (i+1) m' σ7 H7 zs→
     ∃m,m < n∧∃i σ' H' ys,Inv (a1u X Nc scope (a2r X.env scope.names []) HL.objs.size s₂ H2 fp) [] σ' H' s7∧tn i s7.heap∧(∀b∈fp,H' b=none)∧W i m σ' H' ys:=fun {σ7 H7 s7 zs m'} I7 hm w7=>by
    refine ⟨m',hm,i+1,σ7,H7,zs,I7.unpinned,T.keep _ _ _ st5 fun b hb o e=>(I7.pin (b,o) (Xc _ (Xc _ (a2J hb e)))).1,fun b hb=>?_,w7⟩
    obtain ⟨o,e,d⟩:=T.obj _ _ st5 b hb
    exact (I7.pin (b,o) (Xc _ (Xc _ (a2J hb e)))).2.1
   refine thn (hg _ _ _ _ _ _ s5 σ3 H5 x u _ I5' r5 (step x H5 y5)) fun _ s6 ⟨σ6,H6,I6,q6⟩=>?_
   refine thn (ht _ _ _ _ _ _ s6 σ6 H6 _ I6 q6) fun b s7 ⟨H7,I7,q7⟩=>?_
   cases b with
   | false=>
    obtain ⟨m',hm,w7⟩:=q7
    exact fin I7 hm w7
   | true=>
    refine thn (he _ _ _ _ _ _ s7 σ6 H7 _ I7 q7) fun v s8 ⟨y,H8,I8,r8,hD8,m',hm,w8⟩=>?_
    refine thn (a1c _ s8 σ6 H8 (.ref s₂.heap.objs.size) [y] (.ref s₂.heap.objs.size) [v] (fun _ H9=>H9=upd H8 s₂.heap.objs.size (.lst (ys++[y]))) I8 rfl (.cons r8 .nil) ⟨_,ys,y,rfl,rfl,hD8,hys,rfl⟩) fun v9 s9 ⟨_,H9,I9,_,e9⟩=>?_
    subst e9
    exact fin I9 hm w8
 exact codeAny_compStart_list (loop _ rfl) (T.self X.A 0 _ _ _ st1 (loop _ rfl))
theorem b6D (ok:a3y X Nc js scope) (hc:X.calm=true) (hi:PI X target iter wi)
  (hg:∀C cl s H ex,PG (a1u X Nc scope cl C s H ex) target g) (ht:∀C cl s H ex,PTs (a1u X Nc scope cl C s H ex) ifs tt) (he:∀C cl s H ex,PE (a1u X Nc scope cl C s H ex) elt te)
  (hs:∀x,foldedSetIterable iter X.env x=pure x:=by intro _;rfl):PE X (.ListComp elt [⟨target,iter,ifs,0⟩] scope pos) (b2L js wi g tt te):=by
 intro pins s σ H Q I h
 have hfr:∀y∈scope.names,y.2=NameKind.free→∃c,X.env.cells.lookup y.1=some c:=fun y hy e=>I.ok.has y.1 (ok.free y hy e)
 rw [eval_ListComp]
 refine wpAny_comprehension_free (use:=none) rfl hs (a1Q hfr) ok.kind ok.names (thn (hi pins s σ H _ I h) fun v s1 h1=>thn h1 fun itv s2 h2=>?_)
 obtain ⟨it,fp,tn,J,H2,e,I2,T,st2,f2,h⟩:=h2
 subst e
 refine a4W (RR:=fun acc C=>compPost (model X.prog X.w) X.A X.xe none (EP X pins σ Q) acc C) (Q:=Q) ok hc hg ht he I2 T st2 f2 h ?_
 intro D C s' H' m I' n' fC q
 refine ⟨m,n',fun h' sb=>⟨.ref D,H',?_,rfl,q⟩⟩
 exact I'.turned (t':=s'.toks) (fun b o hb e=>(sb.2 b hb).trans e) fC.1 fC.2.1 fC.2.2.2.1 fC.2.2.2.2.1 fC.2.2.2.2.2
theorem a8U {i:Nat} {y:Str} {py spos:Pos} (ok:a3y X Nc js scope) (hc:X.calm=true) (hi:PI X target iter wi)
  (hg:∀C cl s H ex,PG (a1u X Nc scope cl C s H ex) target g) (ht:∀C cl s H ex,PTs (a1u X Nc scope cl C s H ex) ifs tt) (he:∀C cl s H ex,PE (a1u X Nc scope cl C s H ex) elt te)
  (hN:X.N.Nodup) (hy:X.N[i]?=some y) (hx:Loc X.env.scope y) (hsw:swapsWith (.ListComp elt [⟨target,iter,ifs,0⟩] scope pos) (some (.Name y py)) spos.line X.env=pure true)
  (hs:∀x,foldedSetIterable iter X.env x=pure x:=by intro _;rfl) (hf:X.fn y=true∨X.env.scope.names.lookup y=some .local:=by first | exact .inl rfl | exact .inr rfl | assumption):
  PS X (.Assign [.Name y py] (.ListComp elt [⟨target,iter,ifs,0⟩] scope pos) spos) (fun D σ H=>b2L js wi g tt te σ H fun v H'=>D.nx (σ.set i (some v)) H'):=by
 intro pins s σ H D I h
 have hfr:∀y∈scope.names,y.2=NameKind.free→∃c,X.env.cells.lookup y.1=some c:=fun y hy e=>I.ok.has y.1 (ok.free y hy e)
 rw [exec_Assign_Name_used _ _ _ _ hsw]
 refine wpAny_bind (wpAny_standAt (wpAny_bind ?_))
 show wpAny _ X.A (do let _ ←comprehension (.ListComp elt [⟨target,iter,ifs,0⟩] scope pos) scope X.env _ (newList []) false (eval iter X.env) (some (assign (.Name y py) X.env))) _ _ s
 refine wpAny_bind (thn (wpAny_comprehension_free (use:=some (assign (.Name y py) X.env)) (Q:=fun _ s'=>SP X pins D .next s') rfl hs (a1Q hfr) ok.kind ok.names
  (thn (hi pins s σ H _ I h) fun v s1 h1=>thn h1 fun itv s2 h2=>?_)) fun _ s' hq=>wpAny_pure (wpAny_pure hq))
 obtain ⟨it,fp,tn,J,H2,e,I2,T,st2,f2,h⟩:=h2
 subst e
 refine a4W (RR:=fun acc C=>compPost (model X.prog X.w) X.A X.xe (some (assign (.Name y py) X.env)) (fun _ s'=>SP X pins D .next s') acc C) (Q:=fun v H'=>D.nx (σ.set i (some v)) H') ok hc hg ht he I2 T st2 f2 h ?_
 intro Da C s' H' m I' n' fC q
 show wpAny _ X.A (assign (.Name y py) X.env (.ref Da)) _ _ _
 refine wpAny_assign_Name (a5W I' hN hy hx (show a0P (.ref Da) (.ref Da) from rfl) (fun s'' I'' hsb=>?_) hf)
 obtain ⟨a,sb,ha⟩:=hsb
 have hCa:C≠a:=by
  rcases ha with e | e
  ·rw [e];exact fC.2.1
  ·exact fun z=>fC.2.2.2.2.1 y a e z.symm
 refine ⟨m,n'.sameBut sb hCa,fun h' sb'=>⟨σ.set i (some (.ref Da)),H',?_,q⟩⟩
 exact I''.turned (t':=s''.toks) (fun b o hb e=>(sb'.2 b hb).trans e) fC.1 fC.2.1 fC.2.2.2.1 fC.2.2.2.2.1 fC.2.2.2.2.2
end
section
variable {js:List (Option Nat)} {g:TG} {tt:TT} {te:TE} {σ:St} {H:Hp} {Q:VK}
def a4y (J:It) (js:List (Option Nat)) (g:TG) (tt:TT) (te:TE) (σ:St) (H:Hp) (Q:VK):Prop:=
 ∀D,H D=none→∃W:Nat→Nat→St→Hp→List V→Prop,(∃m,W 0 m (a1G js σ) (upd H D (.lst [])) [])∧
 ∀i m σ' H' ys,W i m σ' H' ys→H' D=some (.lst ys)∧((J.stop i H'∧Q (.ref D) H')∨(J.go i H'∧ys.length < sizeLine∧∀x H2,J.yld i H' x H2→g x σ' H2 fun σ2 H3=>tt σ2 H3 fun b H4=>
  if b=true then te σ2 H4 fun v H5=>H5 D=some (.lst ys)∧∃m',m' < m∧W (i+1) m' σ2 (upd H5 D (.lst (ys++[v]))) (ys++[v]) else ∃m',m' < m∧W (i+1) m' σ2 H4 ys))
structure Src (J:It) (n:Nat) (f:Nat→V) (Ok:Hp→Prop):Prop where
 go:∀i H,i < n→Ok H→J.go i H
 yld:∀i H x H',i < n→Ok H→J.yld i H x H'→H'=H∧x=f i
 stop:∀H,Ok H→J.stop n H
theorem a3j {K:Qd} {a:Addr} {xs:List V}:Src (Itl K a) xs.length (fun i=>(xs[i]?).getD .non) (fun H=>SqL K H a xs):=
 ⟨fun i H hi h=>⟨xs,xs[i],h,by simp [hi]⟩,fun i H x H' hi h y=>⟨y.1,by rw [y.2 xs h];rfl⟩,fun H h=>⟨xs,h,Qk _⟩⟩
theorem a3V {K:Qd} {a:Addr} {xs:List V}:Src (Itt K a) xs.length (fun i=>(xs[i]?).getD .non) (fun H=>SqT K H a xs):=
 ⟨fun i H hi h=>⟨xs,xs[i],h,by simp [hi]⟩,fun i H x H' hi h y=>⟨y.1,by rw [y.2 xs h];rfl⟩,fun H h=>⟨xs,h,Qk _⟩⟩
theorem a3g {lo:Int} {n:Nat}:Src (Itr lo n) n (fun i=>.int (lo+i)) (fun _=>True):=
 ⟨fun i H hi _=>hi,fun i H x H' hi _ y=>y,fun H _=>Qk _⟩
theorem a6Q {J:It} {n:Nat} {f:Nat→V} {Ok:Hp→Prop} (S:Src J n f Ok) (hn:n≤sizeLine) (Pv:Addr→Nat→St→Hp→List V→Prop) (h0:∀D,H D=none→Pv D 0 (a1G js σ) (upd H D (.lst [])) [])
  (hk:∀D i σ' H' ys,H D=none→i≤n→Pv D i σ' H' ys→Ok H'∧H' D=some (.lst ys)∧ys.length≤i)
  (hs:∀D i σ' H' ys (R:St→Hp→List V→Prop),H D=none→i < n→Pv D i σ' H' ys→(∀a b c,Pv D (i+1) a b c→R a b c)→g (f i) σ' H' fun σ2 H3=>tt σ2 H3 fun b H4=>
   if b=true then te σ2 H4 fun v H5=>H5 D=some (.lst ys)∧R σ2 (upd H5 D (.lst (ys++[v]))) (ys++[v]) else R σ2 H4 ys)
  (hd:∀D σ' H' ys,H D=none→Pv D n σ' H' ys→Q (.ref D) H'):a4y J js g tt te σ H Q:=by
 intro D hD
 refine ⟨fun i m σ' H' ys=>m=n - i∧i≤n∧Pv D i σ' H' ys,⟨n,by simp,Xe _,h0 D hD⟩,?_⟩
 rintro i m σ' H' ys ⟨rfl,hi,p⟩
 obtain ⟨q1,q2,q3⟩:=hk D i σ' H' ys hD hi p
 refine ⟨q2,?_⟩
 by_cases hlt:i < n
 ·refine .inr ⟨S.go i H' hlt q1,by omega,fun x H2 y=>?_⟩
  obtain ⟨rfl,rfl⟩:=S.yld i H' x H2 hlt q1 y
  exact hs D i σ' _ ys (fun σ2 H3 ys'=>∃m',m' < n - i∧(m'=n - (i+1)∧i+1≤n∧Pv D (i+1) σ2 H3 ys')) hD hlt p fun a b c r=>⟨n - (i+1),by omega,rfl,hlt,r⟩
 ·have e:i=n:=by omega
  subst e
  exact .inl ⟨S.stop H' q1,hd D σ' H' ys hD p⟩
end
end L2
namespace L2
open PySem PySem.Spec PyProof.Rows
section
variable {X:Cx}
theorem a7w {bs:List Bool} {its:List Value} (r:a0L (bs.map V.bl) its) {i:Nat} {v:Value} (h:its[i]?=some v):∃b,bs[i]?=some b∧v=.bool b:=by
 have hi:i < its.length:=(Qn.mp h).1
 have hl:=r.length
 rw [Qe] at hl
 have hb:bs[i]?=some bs[i]:=Qc (by omega)
 obtain ⟨u,hu,ru⟩:=r.get (i:=i) (x:=V.bl bs[i]) (by rw [Qm,hb];rfl)
 rw [h] at hu;cases hu
 exact ⟨_,hb,ru⟩
theorem a2Q (hc:X.calm=true):a1H X (.builtin "all") (fun xs H Q=>∃(p:Addr) (bs:List Bool),xs=[.ref p]∧SqL X.K H p (bs.map V.bl)∧Q (.bl (bs.all id)) H):=by
 intro pins s σ H xs us Q I r h
 obtain ⟨p,bs,rfl,hq,q⟩:=h
 obtain ⟨u,rfl,ru⟩:=a3r r
 cases ru
 obtain ⟨its,rv,pl,hz⟩:=I.list hq
 have hl:=pl.isList
 have hlt:p < s.heap.objs.size:=by obtain ⟨_,e,_⟩:=hl;exact Qu e
 refine call_all_walk (wpAny_pyIter_list hl ?_)
 refine ⟨s.heap.objs.size,[s.heap.objs.size,p],[s.heap.objs.size],its.toArray.size,_,_,fun i=>(bs[i]?).getD true,rfl,Walks.list (A:=X.A.in1) (I.ok.hd hc) _ p (Xb hlt) its.toArray,
  ⟨⟨_,Xf _ rfl,rfl,rfl⟩,hl.push _⟩,fun i v s' Q' E' hP hQ=>?_,fun h' tk hk=>?_⟩
 ·obtain ⟨b,e,rfl⟩:=a7w rv (i:=i) (v:=v) (by simpa using hP)
  simp only [e,Xi] at hQ
  exact wpAny_truthy_bool hQ
 ·have e:((Xu its.toArray.size).all fun i=>(bs[i]?).getD true)=bs.all id:=by
   have hb:=rv.length
   rw [Qe] at hb
   rw [Qv,←hb];exact LSm.range_all bs
  rw [e]
  exact ⟨.bl (bs.all id),H,I.kept (t':=tk) (LSm.kept_iter hk),rfl,q⟩
theorem a1Z (hc:X.calm=true):a1H X (.builtin "any") (fun xs H Q=>∃(p:Addr) (bs:List Bool),xs=[.ref p]∧SqL X.K H p (bs.map V.bl)∧Q (.bl (bs.any id)) H):=by
 intro pins s σ H xs us Q I r h
 obtain ⟨p,bs,rfl,hq,q⟩:=h
 obtain ⟨u,rfl,ru⟩:=a3r r
 cases ru
 obtain ⟨its,rv,pl,hz⟩:=I.list hq
 have hl:=pl.isList
 have hlt:p < s.heap.objs.size:=by obtain ⟨_,e,_⟩:=hl;exact Qu e
 refine call_any_walk (wpAny_pyIter_list hl ?_)
 refine ⟨s.heap.objs.size,[s.heap.objs.size,p],[s.heap.objs.size],its.toArray.size,_,_,fun i=>(bs[i]?).getD false,rfl,Walks.list (A:=X.A.in1) (I.ok.hd hc) _ p (Xb hlt) its.toArray,
  ⟨⟨_,Xf _ rfl,rfl,rfl⟩,hl.push _⟩,fun i v s' Q' E' hP hQ=>?_,fun h' tk hk=>?_⟩
 ·obtain ⟨b,e,rfl⟩:=a7w rv (i:=i) (v:=v) (by simpa using hP)
  simp only [e,Xi] at hQ
  exact wpAny_truthy_bool hQ
 ·have e:((Xu its.toArray.size).any fun i=>(bs[i]?).getD false)=bs.any id:=by
   have hb:=rv.length
   rw [Qe] at hb
   rw [Qv,←hb];exact LSm.range_any bs
  rw [e]
  exact ⟨.bl (bs.any id),H,I.kept (t':=tk) (LSm.kept_iter hk),rfl,q⟩
def c2H:V→Option Int→Option Int→Hp→VK→Prop:=fun x lo hi H Q=>∃z,x=.str z∧z.length≤sizeLine∧Q (.str (Vf z lo hi)) H
theorem b9H:SlR X c2H:=by
 intro pins s σ H x v vl vu lo hi sl Q I rx hs pl pu h
 obtain ⟨z,rfl,hz,q⟩:=h
 obtain ⟨t,rfl⟩:=rx
 obtain ⟨o,ho,hc,hd⟩:=hs
 refine ⟨"str",_,PySem.F.slot_str_getitem.lookup,typeIs_str _ _ _,?_⟩
 have fin:∀(l u:Option Int) (t':Tok) (k:Nat),Q (.str (Vf z l u)) H→EP X pins σ Q (.str (Vf z l u) t') {s with toks:=k}:=fun l u t' k q=>⟨.str _,H,I.tok _,⟨_,rfl⟩,q⟩
 cases pl with
 | none=>
  cases pu with
  | none=>exact wpAny_getItem_str_slice (l:=none) (u:=none) (st:=none) ⟨o,ho,hc,hd⟩ rfl (post_val_or_str ⟨Qi (Vt z _ _) hz,fun t' k=>fin _ _ t' k q⟩)
  | int j uj=>exact wpAny_getItem_str_slice (l:=none) (u:=some (j,uj)) (st:=none) ⟨o,ho,hc,hd⟩ rfl (post_val_or_str ⟨Qi (Vt z _ _) hz,fun t' k=>fin _ _ t' k q⟩)
 | int i ui=>
  cases pu with
  | none=>exact wpAny_getItem_str_slice (l:=some (i,ui)) (u:=none) (st:=none) ⟨o,ho,hc,hd⟩ rfl (post_val_or_str ⟨Qi (Vt z _ _) hz,fun t' k=>fin _ _ t' k q⟩)
  | int j uj=>exact wpAny_getItem_str_slice (l:=some (i,ui)) (u:=some (j,uj)) (st:=none) ⟨o,ho,hc,hd⟩ rfl (post_val_or_str ⟨Qi (Vt z _ _) hz,fun t' k=>fin _ _ t' k q⟩)
theorem a5f:MtR X "str.startswith" (fun x xs H Q=>∃a b,x=.str a∧xs=[.str b]∧Q (.bl (Js a b)) H):=by
 intro pins s σ H x xs v us Q I rx rs h
 obtain ⟨a,b,rfl,rfl,q⟩:=h
 obtain ⟨t,rfl⟩:=rx
 obtain ⟨u,rfl,t',rfl⟩:=a3r rs
 exact SC.startswith ⟨.bl _,H,I,rfl,q⟩
end
end L2
namespace L2
open PySem PySem.Spec PyProof.Rows
theorem a1D:bootBuiltins "len"=some (.builtin "len"):=by decide+kernel
theorem a6w:bootBuiltins "all"=some (.builtin "all"):=by decide+kernel
theorem a4j:bootBuiltins "any"=some (.builtin "any"):=by decide+kernel
theorem a2H:bootBuiltins "list"=some (.type "list"):=by decide+kernel
theorem a2q:bootBuiltins "tuple"=some (.type "tuple"):=by decide+kernel
section
variable {X:Cx}
def c1Y:R2:=fun x y H Q=>∃i j,x=.str i∧y=.str j∧i.length+j.length≤sizeLine∧Q (.str (i++j)) H
def c2i:R2:=rI0 fun i j=>.int (i+j)
def b4f (K:Qd):R2:=fun x y H Q=>c2i x y H Q∨c1Y x y H Q∨c5R x y H Q∨c0i K x y H Q
theorem a0q:OpR X (binaryOp .Add) (b4f X.K):=c0G.or (a9f.or (b9h.or b5H))
theorem a0O {K:Qd} {i j:Int} {H:Hp} {Q:VK}:b4f K (.int i) (.int j) H Q↔Q (.int (i+j)) H:=by
 constructor
 ·rintro (⟨a,b,e1,e2,q⟩ | ⟨a,b,e1,_⟩ | ⟨a,b,_,_,e1,_⟩ | ⟨a,b,_,_,e1,_⟩)
  ·cases e1;cases e2;exact q
  ·cases e1
  ·cases e1
  ·cases e1
 ·exact fun q=>.inl ⟨i,j,rfl,rfl,q⟩
theorem a1z {K:Qd} {i j:Str} {H:Hp} {Q:VK}:b4f K (.str i) (.str j) H Q↔(i.length+j.length≤sizeLine∧Q (.str (i++j)) H):=by
 constructor
 ·rintro (⟨a,b,e1,_⟩ | ⟨a,b,e1,e2,q⟩ | ⟨a,b,_,_,e1,_⟩ | ⟨a,b,_,_,e1,_⟩)
  ·cases e1
  ·cases e1;cases e2;exact q
  ·cases e1
  ·cases e1
 ·exact fun q=>.inr (.inl ⟨i,j,rfl,rfl,q⟩)
theorem b2e {i j:Int} {H:Hp} {Q:VK}:rEq (.int i) (.int j) H Q↔Q (.bl (decide (i=j))) H:=by
 unfold rEq
 have e:decide (V.int i=V.int j)=decide (i=j):=by
  by_cases h:i=j
  ·subst h;simp
  ·simp [h]
 rw [e]
 exact ⟨fun h=>h.2,fun h=>⟨rfl,h⟩⟩
theorem b1I {i j:Str} {H:Hp} {Q:VK}:rEq (.str i) (.str j) H Q↔Q (.bl (decide (i=j))) H:=by
 unfold rEq
 have e:decide (V.str i=V.str j)=decide (i=j):=by
  by_cases h:i=j
  ·subst h;simp
  ·simp [h]
 rw [e]
 exact ⟨fun h=>h.2,fun h=>⟨rfl,h⟩⟩
def inS (c s:Str):Bool:=!(Builtin.Str.occurrences s c 0 s.length 1).isEmpty
def c5m:R2:=fun x y H Q=>∃i j,x=.str i∧y=.str j∧Q (.bl (inS i j)) H
def b7D (K:Qd):R2:=fun x y H Q=>c5m x y H Q∨rIn K false x y H Q
theorem b9m:OpR X (compareOp .In) c5m:=b0H
theorem a4Q:OpR X (compareOp .In) (b7D X.K):=b9m.or b2q
def b5O (K:Qd):List V→Hp→VK→Prop:=fun xs H Q=>(∃x n,xs=[x]∧c2I K x H n∧Q (.int n) H)∨∃a kvs,xs=[V.ref a]∧H a=some (.dK kvs)∧Q (.int kvs.length) H
theorem a1C:a1H X (.builtin "len") (b5O X.K):=b3r.or b2m
theorem b2z {K:Qd} {z:Str} {H:Hp} {Q:VK}:b5O K [.str z] H Q↔(z.length≤sizeLine∧Q (.int z.length) H):=by
 constructor
 ·rintro (⟨x,n,e1,e2,q⟩ | ⟨a,kvs,e1,_⟩)
  ·cases e1
   obtain ⟨h1,rfl⟩:z.length≤sizeLine∧n=z.length:=e2
   exact ⟨h1,q⟩
  ·cases e1
 ·exact fun q=>.inl ⟨.str z,z.length,rfl,⟨q.1,rfl⟩,q.2⟩
theorem a2c {K:Qd} {a:Addr} {xs:List V} {H:Hp} {Q:VK} (h:SqL K H a xs) (q:Q (.int xs.length) H):b5O K [.ref a] H Q:=.inl ⟨.ref a,xs.length,rfl,.inl ⟨xs,h,rfl⟩,q⟩
def c5N (K:Qd):V→Option Int→Option Int→Hp→VK→Prop:=fun x lo hi H Q=>c2H x lo hi H Q∨c6a K x lo hi H Q∨c5z K x lo hi H Q
theorem b8b:SlR X (c5N X.K):=b9H.or (b6A.or c0e)
theorem a7O {K:Qd} {z:Str} {lo hi:Option Int} {H:Hp} {Q:VK}:c5N K (.str z) lo hi H Q↔(z.length≤sizeLine∧Q (.str (Vf z lo hi)) H):=by
 constructor
 ·rintro (⟨x,e1,q⟩ | ⟨a,xs,e1,_⟩ | ⟨a,xs,e1,_⟩)
  ·cases e1;exact q
  ·cases e1
  ·cases e1
 ·exact fun q=>.inl ⟨z,rfl,q⟩
theorem b6j {K:Qd} {z:Str} {i:Int} {H:Hp} {Q:VK}:rIx K (.str z) (.int i) H Q↔(z.length≤sizeLine∧∃c,atI z.cps.toList i=some c∧Q (.str ⟨#[c]⟩) H):=by
 constructor
 ·rintro (⟨p,xs,j,v,e1,_⟩ | ⟨p,xs,j,v,e1,_⟩ | ⟨y,j,c,e1,e2,h1,h2,q⟩)
  ·cases e1
  ·cases e1
  ·cases e1;cases e2;exact ⟨h1,c,h2,q⟩
 ·rintro ⟨h1,c,h2,q⟩
  exact .inr (.inr ⟨z,i,c,rfl,rfl,h1,h2,q⟩)
theorem a0E {K:Qd} {a:Addr} {xs:List V} {i:Int} {v:V} {H:Hp} {Q:VK} (h:SqL K H a xs) (e:atI xs i=some v) (q:Q v H):rIx K (.ref a) (.int i) H Q:=.inl ⟨a,xs,i,v,rfl,rfl,h,e,q⟩
theorem a1F {K:Qd} {a:Addr} {xs:List V} {i:Int} {v:V} {H:Hp} {Q:VK} (h:SqT K H a xs) (e:atI xs i=some v) (q:Q v H):rIx K (.ref a) (.int i) H Q:=.inr (.inl ⟨a,xs,i,v,rfl,rfl,h,e,q⟩)
theorem a0T {C:Int→Int→Prop} {g:Int→Int→V} {i j:Int} {H:Hp} {Q:VK}:rI C g (.int i) (.int j) H Q↔(C i j∧Q (g i j) H):=by
 constructor
 ·rintro ⟨a,b,e1,e2,q⟩;cases e1;cases e2;exact q
 ·exact fun q=>⟨i,j,rfl,rfl,q⟩
theorem a5b {g:Int→Int→V} {i j:Int} {H:Hp} {Q:VK}:rI0 g (.int i) (.int j) H Q↔Q (g i j) H:=by
 constructor
 ·rintro ⟨a,b,e1,e2,q⟩;cases e1;cases e2;exact q
 ·exact fun q=>⟨i,j,rfl,rfl,q⟩
theorem a1p {k:Bool} {P:Bool→Prop}:(∃c,V.bl k=V.bl c∧P c)↔P k:=by
 constructor
 ·rintro ⟨c,e,q⟩;cases e;exact q
 ·exact fun q=>⟨k,rfl,q⟩
theorem b7b {k:Int} {P:Int→Prop}:(∃c,V.int k=V.int c∧P c)↔P k:=by
 constructor
 ·rintro ⟨c,e,q⟩;cases e;exact q
 ·exact fun q=>⟨k,rfl,q⟩
theorem a0e {v:V} {P:V→Prop}:(∃x,some (some v)=some (some x)∧P x)↔P v:=by
 constructor
 ·rintro ⟨c,e,q⟩;cases e;exact q
 ·exact fun q=>⟨v,rfl,q⟩
end
theorem a0h.upd {H:Hp} {a:Addr} {o:HO} (h:H a=none):a0h H (upd H a o):=fun b u e=>by rw [a0a (a0c e h)];exact e
section
variable {X:Cx} {st:Stmt} {a5Q:List Stmt} {t u:TS}
def c6Z (t u:TS):TS:=fun D σ H=>∃M:St→Hp→Prop,t {D with nx:=M} σ H∧∀σ' H',M σ' H'→u D σ' H'
theorem b6p (h1:PS X st t) (h2:PSs X a5Q u):PSs X (st::a5Q) (c6Z t u):=by
 intro pins s σ H D I h
 obtain ⟨M,q1,q2⟩:=h
 refine wpAny_execs_cons (thn (h1 pins s σ H {D with nx:=M} I q1) fun f s1 q=>?_)
 cases f with
 | next=>
  obtain ⟨σ',H',I',q⟩:=q
  exact h2 pins s1 σ' H' D I' (q2 σ' H' q)
 | ret v=>exact q
 | brk=>exact q
 | cont=>exact q
end
end L2
namespace L2
open PySem PySem.Spec PyProof.Rows
theorem a0t {k:Addr} {P:Addr→Prop}:(∃c,V.ref k=V.ref c∧P c)↔P k:=by
 constructor
 ·rintro ⟨c,e,q⟩;cases e;exact q
 ·exact fun q=>⟨k,rfl,q⟩
theorem b1L {i j:Int} {H:Hp} {Q:VK}:rNe (.int i) (.int j) H Q↔Q (.bl (!decide (i=j))) H:=by
 unfold rNe
 have e:decide (V.int i=V.int j)=decide (i=j):=by
  by_cases h:i=j
  ·subst h;simp
  ·simp [h]
 rw [e]
 exact ⟨fun h=>h.2,fun h=>⟨rfl,h⟩⟩
theorem b1n {i j:Str} {H:Hp} {Q:VK}:rNe (.str i) (.str j) H Q↔Q (.bl (!decide (i=j))) H:=by
 unfold rNe
 have e:decide (V.str i=V.str j)=decide (i=j):=by
  by_cases h:i=j
  ·subst h;simp
  ·simp [h]
 rw [e]
 exact ⟨fun h=>h.2,fun h=>⟨rfl,h⟩⟩
theorem a3w {α:Type} {xs:List α} {i:Int} (h0:0≤i) (h1:i < xs.length):∃v,atI xs i=some v∧v∈xs∧xs[i.toNat]?=some v:=by
 have hk:i.toNat < xs.length:=by omega
 refine ⟨xs[i.toNat],?_,Xd hk,Qc hk⟩
 unfold atI ixN
 rw [if_pos h0,if_pos h1]
 exact Qc hk
theorem a1n {i j:Int} (h:0 < j):0≤i % j∧i % j < j:=⟨Ze _ (by omega),Za _ h⟩
theorem a7u {A B:Prop}:(if false=true then A else B)=B:=if_neg Qo
theorem a1f {H:Hp} {p:Addr} (hp:H p=none) (o:HO):∃H',upd H p o=H'∧a0h H H'∧H' p=some o:=⟨_,rfl,a0h.upd hp,a0d⟩
def c4k (J:It) (g:TG) (tb:TS) (D:a8Y) (σ:St) (H:Hp):Prop:=∃W:Nat→Nat→St→Hp→Prop,(∃m,W 0 m σ H)∧∀i m σ H,W i m σ H→
 (J.stop i H∧D.nx σ H)∨(J.go i H∧∃N:St→Hp→Prop,(∀σ' H',N σ' H'→∃m',m' < m∧W (i+1) m' σ' H')∧∀x H',J.yld i H x H'→g x σ H' fun σ2 H2=>tb {D with nx:=N,ct:=N,bk:=D.nx} σ2 H2)
theorem a0D {wi:TI} {g:TG} {tb:TS} {D:a8Y} {σ:St} {H:Hp}:b8l wi g tb D σ H=wi σ H fun J H1=>c4k J g tb D σ H1:=rfl
theorem a0n {js:List (Option Nat)} {wi:TI} {g:TG} {tt:TT} {te:TE} {σ:St} {H:Hp} {Q:VK}:b2L js wi g tt te σ H Q=wi σ H fun J H1=>a4y J js g tt te σ H1 Q:=rfl
theorem a3S {J:It} {n:Nat} {f:Nat→V} {Ok:Hp→Prop} {js:List (Option Nat)} {te:TE} {σ:St} {H:Hp} {Q:VK} (S:Src J n f Ok) (hn:n≤sizeLine) (σr:St) (hσ:a1G js σ=none::σr) (Pr:Nat→V→Prop)
  (hOk:∀H',a0h H H'→Ok H') (hs:∀i H' (R:V→Hp→Prop),i < n→a0h H H'→(∀v H'',a0h H' H''→Pr i v→R v H'')→te (some (f i)::σr) H' R)
  (hd:∀D H' ys,H D=none→a0h H H'→H' D=some (.lst ys)→ys.length=n→(∀i v,ys[i]?=some v→Pr i v)→Q (.ref D) H'):a4y J js (a0l 0) b7C te σ H Q:=by
 refine a6Q S hn (fun D i σ' H' ys=>(∃a,σ'=a::σr)∧a0h H H'∧H' D=some (.lst ys)∧ys.length=i∧∀j v,ys[j]?=some v→Pr j v) ?_ ?_ ?_ ?_
 ·intro D hD
  exact ⟨⟨none,hσ⟩,a0h.upd hD,a0d,rfl,fun j v e=>by simp at e⟩
 ·rintro D i σ' H' ys hD hi ⟨_,s,h,hl,_⟩
  exact ⟨hOk _ s,h,Ua hl⟩
 ·rintro D i σ' H' ys R hD hi ⟨⟨a,rfl⟩,s,h,hl,hp⟩ hR
  show te (some (f i)::σr) H' _
  refine hs i H' _ hi s fun v H'' s2 pv=>⟨s2 _ _ h,hR _ _ _ ⟨⟨_,rfl⟩,?_,a0d,by simp [hl],fun j v' e=>?_⟩⟩
  ·intro b o e
   rw [a0a (a0c e hD)]
   exact s2 b o (s b o e)
  ·rw [Wv] at e
   split at e
   ·exact hp j v' e
   ·rename_i hj
    have e1:j=ys.length:=by
     have:=(Qn.mp e).1
     simp at this;omega
    subst e1
    simp at e
    subst e
    rw [hl];exact pv
 ·rintro D σ' H' ys hD ⟨_,s,h,hl,hp⟩
  exact hd D H' ys hD s h hl hp
end L2
namespace L2
open PySem PySem.Spec PyProof.Rows
section
variable {K:Qd} {H:Hp} {Q:VK}
def b1c:V→List V→Hp→VK→Prop:=fun x xs H Q=>∃a b,x=.str a∧xs=[.str b]∧Q (.bl (Js a b)) H
theorem a4S {a b:Str}:b1c (.str a) [.str b] H Q↔Q (.bl (Js a b)) H:=⟨by rintro ⟨_,_,e1,e2,q⟩;cases e1;cases e2;exact q,fun q=>⟨_,_,rfl,rfl,q⟩⟩
theorem b2n {z:Str} {P:Prop}:(tyV K "str" (.str z) H∧P)↔P:=⟨fun h=>h.2,fun h=>⟨rfl,h⟩⟩
def b7L (K:Qd):List V→Hp→VK→Prop:=fun xs H Q=>∃p ys,xs=[.ref p]∧((SqL K H p ys∧∀l,H l=none→Q (.ref l) (upd H l (.tup ys)))∨SqT K H p ys∧Q (.ref p) H)
def b0k (K:Qd):List V→Hp→VK→Prop:=fun xs H Q=>∃p ys,xs=[.ref p]∧(SqL K H p ys∨SqT K H p ys)∧∀l,H l=none→Q (.ref l) (upd H l (.lst ys))
end
def c1Z:R2:=fun x y H Q=>y=.non∧Q (.bl (decide (x=.non))) H
section
variable {H:Hp} {Q:VK}
theorem b3u {a:Addr}:c1Z (.ref a) .non H Q↔Q (.bl false) H:=⟨fun h=>h.2,fun h=>⟨rfl,h⟩⟩
theorem b4g:c1Z .non .non H Q↔Q (.bl true) H:=⟨fun h=>h.2,fun h=>⟨rfl,h⟩⟩
end
mutual
inductive Den (K:Qd) (H:Hp):V→PyData→Prop
 | non:Den K H .non .none
 | bl (b:Bool):Den K H (.bl b) (.bool b)
 | int (i:Int):Den K H (.int i) (.int i)
 | str (x:Str):Den K H (.str x) (.str x)
 | lst {a:Addr} {xs:List V} {ds:List PyData}:SqL K H a xs→DenAll K H xs ds→Den K H (.ref a) (.list ds)
 | tup {a:Addr} {xs:List V} {ds:List PyData}:SqT K H a xs→DenAll K H xs ds→Den K H (.ref a) (.tuple ds)
inductive DenAll (K:Qd) (H:Hp):List V→List PyData→Prop
 | nil:DenAll K H [] []
 | cons {x:V} {xs:List V} {d:PyData} {ds:List PyData}:Den K H x d→DenAll K H xs ds→DenAll K H (x::xs) (d::ds)
end
theorem a5i {K:Qd} {H:Hp}:∀ys:List Str,DenAll K H (ys.map V.str) (ys.map Jm)
 | []=>.nil
 | y::ys=>.cons (.str y) (a5i ys)
def c2B (K:Qd):R2:=fun x y H Q=>∃d e,Den K H x d∧Den K H y e∧Je d=true∧Je e=true∧Q (.bl (Yx d e)) H
def c4q (K:Qd):R2:=fun x y H Q=>∃d e,Den K H x d∧Den K H y e∧Je d=true∧Je e=true∧Q (.bl (!PyData.eqv d e)) H
def b6e (K:Qd):R2:=fun x y H Q=>rEq x y H Q∨c2B K x y H Q
def b4X (K:Qd):R2:=fun x y H Q=>rNe x y H Q∨c4q K x y H Q
section
variable {K:Qd} {H:Hp} {Q:VK}
theorem a3H {i j:Str}:b6e K (.str i) (.str j) H Q↔Q (.bl (decide (i=j))) H:=by
 constructor
 ·rintro (h | ⟨d,e,h1,h2,_,_,q⟩)
  ·exact b1I.mp h
  ·cases h1;cases h2
   rw [show decide (i=j)=Yx (.str i) (.str j) from by simp only [Yx];by_cases z:i=j<;>simp [z]];exact q
 ·exact fun q=>.inl (b1I.mpr q)
theorem a2I {i j:Int}:b6e K (.int i) (.int j) H Q↔Q (.bl (decide (i=j))) H:=by
 constructor
 ·rintro (h | ⟨d,e,h1,h2,_,_,q⟩)
  ·exact b2e.mp h
  ·cases h1;cases h2
   rw [show decide (i=j)=Yx (.int i) (.int j) from by simp only [Yx];by_cases z:i=j<;>simp [z]];exact q
 ·exact fun q=>.inl (b2e.mpr q)
theorem a5s {i j:Str}:b4X K (.str i) (.str j) H Q↔Q (.bl (!decide (i=j))) H:=by
 constructor
 ·rintro (h | ⟨d,e,h1,h2,_,_,q⟩)
  ·exact b1n.mp h
  ·cases h1;cases h2
   rw [show decide (i=j)=Yx (.str i) (.str j) from by simp only [Yx];by_cases z:i=j<;>simp [z]];exact q
 ·exact fun q=>.inl (b1n.mpr q)
theorem a7t {i j:Int}:b4X K (.int i) (.int j) H Q↔Q (.bl (!decide (i=j))) H:=by
 constructor
 ·rintro (h | ⟨d,e,h1,h2,_,_,q⟩)
  ·exact b1L.mp h
  ·cases h1;cases h2
   rw [show decide (i=j)=Yx (.int i) (.int j) from by simp only [Yx];by_cases z:i=j<;>simp [z]];exact q
 ·exact fun q=>.inl (b1L.mpr q)
end
section
variable {X:Cx}
theorem b7J:OpR X (compareOp .Is) c1Z:=c0l
theorem a5V:MtR X "str.startswith" b1c:=a5f
theorem a2G:a1H X (.type "tuple") (b7L X.K):=by
 intro pins s σ H xs us Q I r h
 obtain ⟨p,ys,e,h⟩:=h
 exact a5C pins s σ H xs us Q I r ⟨p,ys,e,h⟩
theorem a2W:a1H X (.type "list") (b0k X.K):=a6e
mutual
theorem Den.reads {pins:List (Addr×Obj)} {σ:St} {H:Hp} {s:Shared} (I:Inv X pins σ H s):∀{x:V} {d:PyData} {u:Value},Den X.K H x d→a0P x u→∃as,Reads s.heap u d as
 | _,_,_,.non,r=>by cases r;exact ⟨_,.none⟩
 | _,_,_,.bl b,r=>by cases r;exact ⟨_,.bool b⟩
 | _,_,_,.int i,r=>by obtain ⟨t,rfl⟩:=r;exact ⟨_,.int i t⟩
 | _,_,_,.str x,r=>by obtain ⟨t,rfl⟩:=r;exact ⟨_,.str x t⟩
 | _,_,_,.lst h hs,r=>by
  cases r
  obtain ⟨its,rv,pl,_⟩:=I.list h
  obtain ⟨o,ho,hc,n,hd⟩:=pl.isList
  obtain ⟨as,ra⟩:=DenAll.reads I hs rv
  exact ⟨_,.list ho hc hd (by simpa using ra)⟩
 | _,_,_,.tup h hs,r=>by
  cases r
  obtain ⟨its,rv,pl,_⟩:=I.tuple h
  obtain ⟨o,ho,hc,n,hd⟩:=pl
  obtain ⟨as,ra⟩:=DenAll.reads I hs rv
  exact ⟨_,.tuple ho hc hd (by simpa using ra)⟩
theorem DenAll.reads {pins:List (Addr×Obj)} {σ:St} {H:Hp} {s:Shared} (I:Inv X pins σ H s):∀{xs:List V} {ds:List PyData} {us:List Value},DenAll X.K H xs ds→a0L xs us→∃as,ReadsAll s.heap us ds as
 | _,_,_,.nil,r=>by cases r;exact ⟨_,.nil⟩
 | _,_,_,.cons h hs,r=>by
  cases r with
  | cons r1 r2=>
   obtain ⟨as,ra⟩:=Den.reads I h r1
   obtain ⟨bs,rb⟩:=DenAll.reads I hs r2
   exact ⟨_,.cons ra rb⟩
end
theorem c0V (hu:X.A.units+64 < cLine):OpR X (compareOp .Eq) (c2B X.K):=by
 intro pins s σ H x y v u Q I rx ry h
 obtain ⟨d,e,h1,h2,s1,s2,q⟩:=h
 obtain ⟨as,ra⟩:=h1.reads I rx
 obtain ⟨bs,rb⟩:=h2.reads I ry
 exact eq_dataH ra rb s1 s2 hu ⟨.bl _,H,I,rfl,q⟩
theorem b7M (hu:X.A.units+64 < cLine):OpR X (compareOp .NotEq) (c4q X.K):=by
 intro pins s σ H x y v u Q I rx ry h
 obtain ⟨d,e,h1,h2,s1,s2,q⟩:=h
 obtain ⟨as,ra⟩:=h1.reads I rx
 obtain ⟨bs,rb⟩:=h2.reads I ry
 exact ne_dataH ra rb s1 s2 hu ⟨.bl _,H,I,rfl,q⟩
theorem a1t (hu:X.A.units+64 < cLine):OpR X (compareOp .Eq) (b6e X.K):=c2d.or (c0V hu)
theorem a2v (hu:X.A.units+64 < cLine):OpR X (compareOp .NotEq) (b4X X.K):=c1I.or (b7M hu)
variable {K:Qd}
theorem b0u (h:X.K=K):OpR X (binaryOp .Add) (b4f K):=h ▸ a0q
theorem b4L (h:X.K=K):OpR X (compareOp .In) (b7D K):=h ▸ a4Q
theorem a8o (hu:X.A.units+64 < cLine) (h:X.K=K):OpR X (compareOp .Eq) (b6e K):=h ▸ a1t hu
theorem b4I (hu:X.A.units+64 < cLine) (h:X.K=K):OpR X (compareOp .NotEq) (b4X K):=h ▸ a2v hu
theorem a2S (h:X.K=K):IxR X (rIx K):=h ▸ a0H
end
end L2
namespace L2
open PySem PySem.Spec PyProof.Rows PySem.W
end L2
namespace L2
open PySem PySem.Spec PyProof.Rows
theorem a9G {J:It} {n:Nat} {f:Nat→V} {Ok:Hp→Prop} {js:List (Option Nat)} {te:TE} {σ:St} {H:Hp} {Q:VK} (S:Src J n f Ok) (hn:n≤sizeLine) (σr:St) (hσ:a1G js σ=none::σr) (Pr:Addr→Nat→V→Hp→Prop)
  (mono:∀D i v (H1 H2:Hp),(∀b o,b≠D→H1 b=some o→H2 b=some o)→Pr D i v H1→Pr D i v H2)
  (hOk:∀H',a0h H H'→Ok H') (hs:∀D i H' (R:V→Hp→Prop),i < n→H D=none→a0h H H'→(∃ys,H' D=some (.lst ys))→(∀v H'',a0h H' H''→Pr D i v H''→R v H'')→te (some (f i)::σr) H' R)
  (hd:∀D H' ys,H D=none→a0h H H'→H' D=some (.lst ys)→ys.length=n→(∀i v,ys[i]?=some v→Pr D i v H')→Q (.ref D) H'):a4y J js (a0l 0) b7C te σ H Q:=by
 refine a6Q S hn (fun D i σ' H' ys=>(∃a,σ'=a::σr)∧a0h H H'∧H' D=some (.lst ys)∧ys.length=i∧∀j v,ys[j]?=some v→Pr D j v H') ?_ ?_ ?_ ?_
 ·intro D hD
  exact ⟨⟨none,hσ⟩,a0h.upd hD,a0d,rfl,fun j v e=>by simp at e⟩
 ·rintro D i σ' H' ys hD hi ⟨_,s,h,hl,_⟩
  exact ⟨hOk _ s,h,Ua hl⟩
 ·rintro D i σ' H' ys R hD hi ⟨⟨a,rfl⟩,s,h,hl,hp⟩ hR
  show te (some (f i)::σr) H' _
  refine hs D i H' _ hi hD s ⟨_,h⟩ fun v H'' s2 pv=>⟨s2 _ _ h,hR _ _ _ ⟨⟨_,rfl⟩,?_,a0d,by simp [hl],fun j v' e=>?_⟩⟩
  ·intro b o e
   rw [a0a (a0c e hD)]
   exact s2 b o (s b o e)
  ·have up:∀b o,b≠D→H'' b=some o→upd H'' D (.lst (ys++[v])) b=some o:=fun b o hb e=>by rw [a0a hb];exact e
   rw [Wv] at e
   split at e
   ·exact mono _ _ _ _ _ (fun b o hb e=>up b o hb (s2 b o e)) (hp j v' e)
   ·have e1:j=ys.length:=by
     have:=(Qn.mp e).1
     simp at this;omega
    subst e1
    simp at e
    subst e
    rw [hl];exact mono _ _ _ _ _ up pv
 ·rintro D σ' H' ys hD ⟨_,s,h,hl,hp⟩
  exact hd D H' ys hD s h hl hp
theorem a4d {J:It} {n:Nat} {f:Nat→V} {Ok:Hp→Prop} {js:List (Option Nat)} {tt:TT} {te:TE} {σ:St} {H:Hp} {Q:VK} (S:Src J n f Ok) (hn:n≤sizeLine) (σr:St) (hσ:a1G js σ=none::σr) (keep:Nat→Bool) (val:Nat→V)
  (hOk:∀H',a0h H H'→Ok H') (hs:∀i H' (R:Bool→Hp→Prop),i < n→a0h H H'→(∀H'',a0h H' H''→R (keep i) H'')→tt (some (f i)::σr) H' R)
  (he:∀i H' (R:V→Hp→Prop),i < n→a0h H H'→(∀H'',a0h H' H''→R (val i) H'')→te (some (f i)::σr) H' R)
  (hd:∀D H',H D=none→a0h H H'→H' D=some (.lst (((Xu n).filter keep).map val))→Q (.ref D) H'):a4y J js (a0l 0) tt te σ H Q:=by
 refine a6Q S hn (fun D i σ' H' ys=>(∃a,σ'=a::σr)∧a0h H H'∧H' D=some (.lst ys)∧ys=((Xu i).filter keep).map val) ?_ ?_ ?_ ?_
 ·intro D hD
  exact ⟨⟨none,hσ⟩,a0h.upd hD,a0d,rfl⟩
 ·rintro D i σ' H' ys hD hi ⟨_,s,h,rfl⟩
  refine ⟨hOk _ s,h,?_⟩
  rw [Qe]
  exact Qi (Qz _ _) (by simp)
 ·rintro D i σ' H' ys R hD hi ⟨⟨a,rfl⟩,s,h,rfl⟩ hR
  show tt (some (f i)::σr) H' _
  refine hs i H' _ hi s fun H2 s2=>?_
  cases hk:keep i with
  | false=>
   rw [if_neg Qo]
   refine hR _ _ _ ⟨⟨_,rfl⟩,s.trans s2,s2 _ _ h,?_⟩
   rw [Jx,Zv,Xw,hk];simp
  | true=>
   rw [if_pos rfl]
   refine he i H2 _ hi (s.trans s2) fun H3 s3=>⟨s3 _ _ (s2 _ _ h),hR _ _ _ ⟨⟨_,rfl⟩,?_,a0d,?_⟩⟩
   ·intro b o e
    rw [a0a (a0c e hD)]
    exact s3 b o (s2 b o (s b o e))
   ·rw [Jx,Zv,Xw,hk];simp
 ·rintro D σ' H' ys hD ⟨_,s,h,rfl⟩
  exact hd D H' hD s h
structure b8H (K:Qd) (C:Addr) (m:Str) (f:Addr):Prop where
 ga:Gi K (.ref C) "__getattribute__"=some (some (.builtin "type.__getattribute__"))
 rd:PySem.W.readsIn K C (.type "type")=true
 at_:PySem.W.findCls K (.ref C) (.type "type") m=some (.val (.ref f))
 kp:Zk K (.ref f)=true
structure TyI (K:Qd) (C:Addr):Prop where
 ha:Yt K (.ref C) "__class__"=some (some (.builtin "object.__class__"))
 hn:Gi K (.builtin "object.__class__") "__get__"=some (some (.builtin "getset_descriptor.__get__"))
 htk:PySem.W.takesIn K (.builtin "object.__class__")=some true
 hm:PySem.W.mroIn K C (.type "object")=some true
theorem b9X {K:Qd} {C D:Addr} {cd:ClassData} {b:Bool} (hc:PySem.W.clsIn K D=some cd) (ht:Wr K (.ref D)=some (.type "type")) (hs:Ga K (.ref C) (.ref D)=some b) (ho:Ga K (.ref C) (.ref C)=some true):
  Yq K (.ref C) (.ref D)=some b:=by
 unfold Yq
 by_cases e:(Value.ref C == Value.ref D)=true
 ·rw [if_pos e]
  have e':C=D:=by
   have:=eq_of_beq e
   injection this
  rw [←e',ho] at hs
  exact hs
 ·rw [if_neg e]
  show (if ((PySem.W.clsIn K D).isSome && Wr K (.ref D) == some (.type "type"))=true then Ga K (.ref C) (.ref D) else none)=_
  rw [hc,ht,if_pos (by simp),hs]
section
variable {X:Cx}
def c7i:R2:=fun x y H Q=>∃i j,x=.str i∧y=.str j∧Q (.bl (decide (i.cps.toList < j.cps.toList))) H
def c3z:R2:=fun x y H Q=>rI0 (fun i j=>.bl (decide (i < j))) x y H Q∨c7i x y H Q
theorem b4m:OpR X (compareOp .Lt) c3z:=c1D.or b0B
theorem a7B {i j:Int} {H:Hp} {Q:VK}:c3z (.int i) (.int j) H Q↔Q (.bl (decide (i < j))) H:=by
 constructor
 ·rintro (⟨a,b,e1,e2,q⟩ | ⟨a,b,e1,_⟩)
  ·cases e1;cases e2;exact q
  ·cases e1
 ·exact fun q=>.inl ⟨i,j,rfl,rfl,q⟩
end
section
variable {X:Cx} {o e:Expr} {es:List Expr} {apos pos:Pos} {m:Str} {C f:Addr} {fd:FuncData} {ps:List Str} {sp:Sp} {CX:CXT} {k:Nat} {E:XK} {dvs:List V} {ds:List Value} {ta:TE} {t:TA}
def c0w (t u:TE):TE:=fun σ H Q=>t σ H Q∨u σ H Q
theorem b9K {t u:TE} (h1:PE X e t) (h2:PE X e u):PE X e (c0w t u):=fun pins s σ H Q I h=>h.elim (h1 pins s σ H Q I) (h2 pins s σ H Q I)
def b4l (C:Addr) (sp:Sp) (dvs:List V) (E:XK) (ta:TE) (t:TA):TE:=fun σ H Q=>ta σ H fun x H1=>x=.ref C∧t σ H1 fun vs H2=>sp (vs++dvs) H2 Q E
theorem b3p {pl:Sem Bool} (he:PE X o ta) (hm:b8H X.K C m f) (F:a0V X.prog X.w X.K X.mg X.base CX k f fd ps sp) (hr:a2u k X.A) (hb:a0m X.K fd ps ds) (hd:a0L dvs ds) (hx:a3s CX X E) (ha:PA X (e::es) t)
  (hst:starEach (e::es) X.env=(false,eval e X.env)::starEach es X.env:=by rfl) (hpl:(backTo pos (starEach es X.env)).any (·.1)=false:=by rfl)
  (ht:eval (.Call (.Attribute o m apos) (e::es) [] pos) X.env=(do
   let ov ←eval o X.env
   standAt apos.atName
   let (f,first) ←holding [ov] (getMethod ov m pl)
   callWith pos f first (backTo pos (starEach (e::es) X.env)) (backToKw pos (keywordEach [] X.env))):=by rfl):
  PE X (.Call (.Attribute o m apos) (e::es) [] pos) (b4l C sp dvs E ta t):=by
 intro pins s σ H Q I h
 refine Up (pl:=pl) (thn (he pins s σ H _ I h) fun u s1 ⟨x,H1,I1,rx,ex,q⟩=>?_) ht
 subst ex
 obtain rfl:u=Value.ref C:=rx
 refine PySem.W.method_cls I1.kIn hm.ga (PySem.W.cls_value I1.kIn hm.rd hm.at_ rfl ?_)
 refine Ub (first:=[]) (h₀:=X.base) I.ok.mod.kin hm.kp (thn (ha pos pins _ σ H1 _ (I1.tok _) q) fun us s2 ⟨vs,H2,I2,r,q2⟩=>⟨I2.kIn,?_⟩) hst hpl
 exact a8q (us:=us) (vs:=vs) F hr hb hd hx I2 r q2
end
end L2
namespace L2
open PySem PySem.Spec PyProof.Rows
theorem a5j {c:TT} {tb:TS} {D:a8Y} {σ:St} {H:Hp} (W:Nat→St→Hp→Prop) (m0:Nat) (h0:W m0 σ H)
  (hs:∀m σ H,W m σ H→c σ H fun b H1=>if b=true then ∃N:St→Hp→Prop,(∀σ' H',N σ' H'→∃m',m' < m∧W m' σ' H')∧tb {D with nx:=N,ct:=N,bk:=D.nx} σ H1 else D.nx σ H1):b5d c tb D σ H:=⟨W,⟨m0,h0⟩,hs⟩
theorem a0U {α β:Type} (d:α) (P:α→Bool) (g:α→β):∀ps:List α,((Xu ps.length).filter fun i=>P ((ps[i]?).getD d)).map (fun i=>g ((ps[i]?).getD d))=(ps.filter P).map g:=by
 intro ps
 have h:(Xu ps.length).map (fun i=>(ps[i]?).getD d)=ps:=by
  refine Uh fun i=>?_
  rw [Qm]
  by_cases hi:i < ps.length
  ·rw [Gb hi,Qc hi,Jl,Qc hi];rfl
  ·rw [Yh (by simp;omega),Yh (by omega)];rfl
 conv=>rhs;rw [←h]
 rw [Zm,Xo];rfl
theorem b1K (z:Str) (r:List Str):inV (.str z) (r.map V.str)=decide (z∈r):=by
 unfold inV
 rw [Xn,Yk,decide_eq_true_eq]
 constructor
 ·rintro ⟨v,hv,e⟩
  obtain ⟨l,hl,rfl⟩:=Qf.mp hv
  have e':(l == z)=true:=e
  rw [←eq_of_beq e'];exact hl
 ·intro h
  exact ⟨.str z,Qf.mpr ⟨z,h,rfl⟩,(beq_self_eq_true z:(z == z)=true)⟩
theorem a6A (qs:List Str):(qs.map V.str).all a5H=true:=by
 rw [Ys];intro v hv
 obtain ⟨l,_,rfl⟩:=Qf.mp hv;rfl
theorem b1A {K:Qd} {H:Hp} {Q:VK} {z:Str} {a:Addr} {r:List Str} (h:SqL K H a (r.map V.str)) (q:Q (.bl (decide (z∈r))) H):b7D K (.str z) (.ref a) H Q:=
 .inr ⟨a,_,rfl,.inl h,rfl,a6A _,by rw [if_neg Qo,b1K];exact q⟩
theorem none_of {H H':Hp} (s:a0h H H') {p:Addr} (h:H' p=none):H p=none:=by
 cases e:H p with
 | none=>rfl
 | some o=>rw [s _ _ e] at h;cases h
section
variable {X:Cx}
theorem b6K {K:Qd} {pos:Pos} {es:List Expr} {k:Nat} {t:TGs} {n:Nat} (hK:X.K=K) (hc:X.calm=true) (h:PGs X es t)
  (hn:(assignEach es X.env).length=n:=by rfl) (hst:(assignEach es X.env).findIdx? (·.1)=none:=by rfl):PG X (.Tuple es k pos) (c1c K n t):=hK ▸ b4w hc h hn hst
end
theorem b2c:bootBuiltins "min"=some (.builtin "min"):=by decide+kernel
end L2
namespace L2
open PySem PySem.Spec PyProof.Rows PySem.W
def Ite (K:Qd) (a:Addr):It:=
 ⟨fun i H=>∃xs x,SqL K H a xs∧xs[i]?=some x,fun i H x H'=>∃p v,H p=none∧(∀xs,SqL K H a xs→xs[i]?=some v)∧x=.ref p∧H'=upd H p (.tup [.int i,v]),fun i H=>∃xs,SqL K H a xs∧xs.length≤i⟩
def b6G (K:Qd) (ta:TA):TI:=fun σ H R=>ta σ H fun vs H1=>∃a,vs=[.ref a]∧(∃xs,SqL K H1 a xs)∧R (Ite K a) H1
theorem b5i {K:Qd} {a:Addr} {xs:List V} {js:List (Option Nat)} {te:TE} {σ:St} {H:Hp} {Q:VK} (hn:xs.length≤sizeLine) (σr:St) (hσ:a1G js σ=none::none::σr) (Pr:Addr→Nat→V→Hp→Prop)
  (mono:∀D i v (H1 H2:Hp),(∀b o,b≠D→H1 b=some o→H2 b=some o)→Pr D i v H1→Pr D i v H2)
  (ha:SqL K H a xs) (hs:∀D i H' (R:V→Hp→Prop) (hi:i < xs.length),H D=none→a0h H H'→(∃ys,H' D=some (.lst ys))→(∀v H'',a0h H' H''→Pr D i v H''→R v H'')→te (some (.int i)::some xs[i]::σr) H' R)
  (hd:∀D H' ys,H D=none→a0h H H'→H' D=some (.lst ys)→ys.length=xs.length→(∀i v,ys[i]?=some v→Pr D i v H')→Q (.ref D) H'):a4y (Ite K a) js (c1c K 2 (a9S (a0l 0) (a9S (a0l 1) c1A))) b7C te σ H Q:=by
 intro D hD
 refine ⟨fun i m σ' H' ys=>m=xs.length - i∧i≤xs.length∧(∃u v,σ'=u::v::σr)∧a0h H H'∧H' D=some (.lst ys)∧ys.length=i∧∀j v,ys[j]?=some v→Pr D j v H',⟨xs.length,by simp,Xe _,⟨none,none,hσ⟩,a0h.upd hD,a0d,rfl,fun j v e=>by simp at e⟩,?_⟩
 rintro i m σ' H' ys ⟨rfl,hi,⟨u,v,rfl⟩,s,h,hl,hp⟩
 refine ⟨h,?_⟩
 by_cases hlt:i < xs.length
 ·refine .inr ⟨⟨xs,xs[i],s.seq ha,Qc hlt⟩,by omega,?_⟩
  rintro x H2 ⟨p,w,hpn,hw,rfl,rfl⟩
  have ew:w=xs[i]:=by have:=hw xs (s.seq ha);rw [Qc hlt] at this;exact (Option.some.inj this).symm
  subst ew
  obtain ⟨H3,e3,s3,h3⟩:∃H3,upd H' p (.tup [.int i,xs[i]])=H3∧a0h H' H3∧H3 p=some (.tup [.int i,xs[i]]):=⟨_,rfl,a0h.upd hpn,a0d⟩
  rw [e3]
  refine ⟨p,_,rfl,SqT.of h3,rfl,_,_,rfl,_,_,rfl,rfl,?_⟩
  unfold b7C;dsimp only
  rw [if_pos rfl]
  show te (some (.int i)::some xs[i]::σr) H3 _
  refine hs D i H3 _ hlt hD (s.trans s3) ⟨_,s3 _ _ h⟩ fun v H'' s2 pv=>⟨s2 _ _ (s3 _ _ h),xs.length - (i+1),by omega,rfl,hlt,⟨_,_,rfl⟩,?_,a0d,by simp [hl],fun j v' e=>?_⟩
  ·intro b o e
   rw [a0a (a0c e hD)];exact s2 _ _ (s3 _ _ (s b o e))
  ·have up:∀b o,b≠D→H'' b=some o→upd H'' D (.lst (ys++[v])) b=some o:=fun b o hb q=>by rw [a0a hb];exact q
   by_cases hj:j < ys.length
   ·rw [Yc hj] at e
    exact mono _ _ _ _ _ up (mono _ _ _ _ _ (fun b o _ q=>s2 _ _ (s3 _ _ q)) (hp j v' e))
   ·have hj2:=(Qn.mp e).1
    have ej:j=ys.length:=by simp at hj2;omega
    subst ej
    rw [Xz (Qk _),Vu] at e
    cases e
    rw [hl];exact mono _ _ _ _ _ up pv
 ·have e:i=xs.length:=by omega
  subst e
  exact .inl ⟨⟨xs,s.seq ha,Qk _⟩,hd D H' ys hD s h hl hp⟩
def a8h (K:Qd) (te:TE):TE:=fun σ H Q=>te σ H fun x H1=>∃a xs,x=.ref a∧SqL K H1 a xs∧∀p,H1 p=none→Q (.ref p) (upd H1 p (.lst xs.reverse))
def c1d (te:TE):TE:=fun σ H Q=>∃(a:Addr) (kvs:List (Key×V)),H a=some (.dK kvs)∧te σ H fun v H1=>∃o,H1 a=some (.frz o (.dK kvs))∧Q v (upd H1 a (.dK kvs))
section
variable {X:Cx} {pins:List (Addr×Obj)} {σ:St} {H:Hp} {s:Shared} {h':Heap} {tg:Expr}
theorem Inv.turned2 {t':Nat} {e it:Addr} (I:Inv X pins σ H s) (k:∀b o,b≠e→b≠it→s.heap.get? b=some o→h'.get? b=some o) (f1:a9d X pins H e) (f2:a9d X pins H it):Inv X pins σ H {s with heap:=h',toks:=t'}:=by
 obtain ⟨a0,a1,a2,a3,a4,a5⟩:=f1
 obtain ⟨b0,b1,b2,b3,b4,b5⟩:=f2
 have ne:∀b u,H b=some u→b≠e:=fun b u q z=>by rw [z,a0] at q;cases q
 have nit:∀b u,H b=some u→b≠it:=fun b u q z=>by rw [z,b0] at q;cases q
 refine I.step (g':=s.gens) (d':=s.drawn) (ch:=[e,it]) (fun b hb=>?_) (fun b o _ _ hc q _=>k b o (fun z=>hc (by simp [z])) (fun z=>hc (by simp [z])) q) (fun b o _ _ hc q _=>⟨o.slots,k b o (fun z=>hc (by simp [z])) (fun z=>hc (by simp [z])) q⟩) (fun _ _ _ _ n=>n)
  (fun b o hc q=>⟨o,k b o (fun z=>hc (by simp [z])) (fun z=>hc (by simp [z])) q⟩) (fun _ _ q=>q) (fun _ _ _ q=>q) (fun b ps q=>⟨#[],by rw [q];simp⟩) (fun m hm=>?_) (fun b u q=>?_) I.bare
 ·rcases Qy.mp hb with z | z
  ·subst z;exact ⟨a3,a1,a4,a5⟩
  ·rw [Xa.mp z];exact ⟨b3,b1,b4,b5⟩
 ·obtain ⟨o,es,ep,ho,r⟩:=hm
  exact ⟨o,es,ep,k _ o (Ne.symm a1) (Ne.symm b1) ho,r⟩
 ·refine (I.hok b u q).stay (fun c v hc z=>k c v ?_ ?_ z) (fun _ z=>z) fun _ _ z=>z
  ·rcases hc with z | z
   ·rw [z];exact ne b u q
   ·exact ne c _ z
  ·rcases hc with z | z
   ·rw [z];exact nit b u q
   ·exact nit c _ z
theorem b1Z {P:Program} {w:World} {K:Qd} {elts:List Expr} {x1:Nat} {pos:Pos} (a e it:Addr) (hei:e≠it):b6u P w K (.Tuple elts x1 pos) (Ite K a) [e,it] e (fun i h=>(∃old,IsEnum h e it i old)∧h.IsListIter it a i) where
 mem:=by simp
 obj:=fun i h st b hb=>by
  obtain ⟨⟨old,he⟩,o,e1,c,d⟩:=st
  rcases Qy.mp hb with z | z
  ·subst z;exact ⟨_,he,fun v z=>by cases z⟩
  ·rw [Xa.mp z];exact ⟨o,e1,fun v z=>by rw [d] at z;cases z⟩
 keep:=fun i h h' st k=>by
  obtain ⟨⟨old,he⟩,hit⟩:=st
  exact ⟨⟨old,k e (by simp) _ he⟩,hit.at fun o q=>k it (by simp) o q⟩
 item:=by
  intro X hP hw hK hc i pins s σ H E I hf st hg
  subst hP hw hK
  obtain ⟨⟨old,he⟩,hit⟩:=st
  obtain ⟨xs,x,hq,hx⟩:=hg
  obtain ⟨its,rv,p,hz⟩:=I.list hq
  obtain ⟨u,hu,ru⟩:=rv.get hx
  refine wpAny_pyNext_enum_item he hit p.isList (x:=u) (by simpa using hu) hei fun h' ho hit' hT hsz hk=>?_
  refine ⟨_,rfl,?_⟩
  refine wpAny_letOwnedTupleGo_enum ho fun h2 he2 hs2=>?_
  have hfr:H s.heap.objs.size=none:=I.hok.fresh (Qk _)
  have helt:e < s.heap.objs.size:=Qu he
  have hilt:it < s.heap.objs.size:=by obtain ⟨_,z,_⟩:=hit;exact Qu z
  have hL:=Xf s.heap (o:={cls:=.type "tuple",data:=.seq #[.int i s.toks,u]}) rfl
  have I1:Inv X pins σ (upd H s.heap.objs.size (.tup [.int i,x])) {s with heap:=s.heap.push {cls:=.type "tuple",data:=.seq #[.int i s.toks,u]},toks:=s.toks+1}:=
   I.laid (t':=s.toks+1) (fun b o q=>Ql _ q) (Qk _) ⟨by simp only [Qr,Xl];decide,[.int i s.toks,u],.cons ⟨_,rfl⟩ (.cons ru .nil),⟨_,hL,rfl,_,rfl⟩⟩
  have up:∀b,b < s.heap.objs.size→upd H s.heap.objs.size (.tup [.int i,x]) b=H b:=fun b hb=>a0a (Xb hb)
  have fp:∀b,b < s.heap.objs.size→a9d X pins H b→a9d X pins (upd H s.heap.objs.size (.tup [.int i,x])) b:=fun b hb ⟨c0,c1,c2,c3,c4,c5⟩=>⟨by rw [up b hb];exact c0,c1,c2,c3,c4,c5⟩
  have I2:Inv X pins σ (upd H s.heap.objs.size (.tup [.int i,x])) {s with heap:=h2,toks:=s.toks+1}:=by
   refine I1.turned2 (h':=h2) (t':=s.toks+1) (fun b o h1 h3 q=>?_) (fp e helt (hf e (by simp))) (fp it hilt (hf it (by simp)))
   rw [hs2.2 b h1]
   by_cases z:b=s.heap.objs.size
   ·subst z
    have q':(s.heap.push {cls:=.type "tuple",data:=.seq #[.int i s.toks,u]}).get? s.heap.objs.size=some o:=q
    rw [hL] at q';rw [←q'];exact hT
   ·have q':s.heap.get? b=some o:=by
     have q2:(s.heap.push {cls:=.type "tuple",data:=.seq #[.int i s.toks,u]}).get? b=some o:=q
     rw [Zp _ _ _ z] at q2;exact q2
    exact hk b o h1 h3 q'
  exact ⟨.ref s.heap.objs.size,_,I2,rfl,⟨s.heap.objs.size,x,hfr,fun ys hy=>by rw [I.list_inj hy hq];exact hx,rfl,rfl⟩,⟨⟨_,by simpa using he2⟩,hit'.at fun o y=>(hs2.2 it hei.symm).trans y⟩,fun b hb=>by
   have hb':b < s.heap.objs.size:=by
    rcases Qy.mp hb with z | z
    ·rw [z];exact helt
    ·rw [Xa.mp z];exact hilt
   rw [up b hb'];exact (hf b hb).1⟩
 done:=by
  intro X hP hw hK hc i pins s σ H E I hf st hg
  subst hP hw hK
  obtain ⟨⟨old,he⟩,hit⟩:=st
  obtain ⟨xs,hq,hx⟩:=hg
  obtain ⟨its,rv,p,hz⟩:=I.list hq
  have hl:=rv.length
  exact wpAny_pyNext_enum_end (I.ok.hd hc) he hit p.isList (by simp;omega) fun h' hk=>⟨rfl,I.turned2 (t':=s.toks) (fun b o h1 h3 q=>hk b o h3 q) (hf e (by simp)) (hf it (by simp))⟩
 self:=fun _ _ _ _ _ st h=>by
  obtain ⟨⟨old,he⟩,_⟩:=st
  exact wpAny_pyIter_enum he h
theorem a3X:bootBuiltins "enumerate"=some (.type "enumerate"):=by decide+kernel
theorem b6C {a:Expr} {ta:TA} {p pos:Pos} {elts:List Expr} {x1:Nat} {tpos:Pos} (hg:Gl X "enumerate") (hm:X.mg "enumerate"=none) (ha:PA X [a] ta) (hs:starEach [a] X.env=[(false,eval a X.env)]:=by rfl):PI X (.Tuple elts x1 tpos) (.Call (.Name "enumerate" p) [a] [] pos) (b6G X.K ta):=by
 intro pins s σ H R I h
 refine Call_ (a3v I hg hm a3X (PyProof.Rows.callWith_type1 (thn (ha pos pins s σ H _ I h) fun us s1 ⟨vs,H1,I1,r1,q1⟩=>?_) hs rfl))
 obtain ⟨l,e,⟨xs,hq⟩,q⟩:=q1
 subst e
 cases r1 with
 | cons r rr=>
  cases rr
  cases r
  obtain ⟨its,rv,pl,hz⟩:=I1.list hq
  refine call_enumerate_list pl.isList fun h' he hit hsz hk=>?_
  refine wpAny_pyIter_enum he ?_
  have I2:=I1.kept (t':=s1.toks) hk
  refine ⟨s1.heap.objs.size+1,[s1.heap.objs.size+1,s1.heap.objs.size],_,_,H1,rfl,I2,b1Z l _ _ (Nat.succ_ne_self _),⟨⟨_,he⟩,hit⟩,fun b hb=>?_,q⟩
  have hb':s1.heap.objs.size≤b:=by
   rcases Qy.mp hb with z | z
   ·rw [z];exact Zh _
   ·rw [Xa.mp z];exact Qk _
  exact I1.fpOk hb' (I1.hok.fresh hb')
theorem b5z {K:Qd} {e:Expr} {ta:TE} {f:Str} {pos:Pos} (hK:X.K=K) (he:PE X e ta) (hb:attributeBase e f X.env (eval e X.env)=eval e X.env):PE X (.Attribute e f pos) (a3E K ta f):=hK ▸ b4M he hb
end
end L2
namespace L2
open PySem PySem.Spec PyProof.Rows PySem.W
section
variable {prog:Program} {w:World} {A:Around} {E:Value→Shared→Prop} {s:Shared}
theorem b1x:typeLookup (.type "list_reverseiterator") "__len__"=pure none:=by rw [typeLookup_type,builtinLookup_eq_fast];kernel_rfl
theorem b3M:typeLookup (.type "list_reverseiterator") "__length_hint__"=pure (some (.builtin "list_reverseiterator.__length_hint__")):=by rw [typeLookup_type,builtinLookup_eq_fast];kernel_rfl
theorem a4x {I l:Addr} {i:Int} {Q:Bool→Shared→Prop} (hit:s.heap.IsRevIter I l i) (h:Q false s):wpAny (model prog w) A (Builtin.List.listLengthHint (.ref I)) Q E s:=by
 unfold Builtin.List.listLengthHint
 refine wpAny_bind (wpAny_specialOf hit.typeIs b1x ?_)
 show wpAny _ A (specialOf (Value.ref I) (Uc "__length_hint__") >>= _) _ _ _
 refine wpAny_bind (wpAny_specialOf hit.typeIs b3M ?_)
 generalize hid:("list_reverseiterator.__length_hint__":String)=id0
 wp_delta
 rw [show splitId id0=some ("list_reverseiterator","__length_hint__") from by subst hid;decide+kernel]
 subst hid
 refine wpAny_bind (wpAny_isInstance (b:=true) hit.typeIs (by rw [isSubtype_type];kernel_rfl) ?_)
 exact wpAny_pure h
theorem a3B {R:Result→Shared→Prop} {I l:Addr} {items:Array Value} (hh:A.handled=none) (hit:s.heap.IsRevIter I l ((items.size:Int) - 1)) (hl:s.heap.IsList l items) (hlI:l≠I) (hsz:items.size≤sizeLine) (S:Addr) (res:Value) (c₀:Nat)
  (hS:s.heap.get? S=some {cls:=.type "list",data:=.seq #[] c₀}) (hSI:S≠I) (hSl:S≠l)
  (hR:∀h' tk acc' c',(∀b o,b≠S→b≠I→s.heap.get? b=some o→h'.get? b=some o)→h'.get? S=some {cls:=.type "list",dict:=none,data:=.seq acc' c',slots:=#[]}→
   ItemsOf (fun i v=>items[items.size - 1 - i]?=some v) acc' items.size→R (.ok (.ret res)) {s with heap:=h',toks:=tk}):
  wpAny (model prog w) A.in1 (Builtin.List.listExtendWith (.ref S) (.ref I) res)
   (fun fin s'=>match fin with | .done f=>R (.ok f) s' | .again c'=>c'.quiet=true∧codeAny (model prog w) A c' R s') (fun e s'=>R (.error e) s') s:=by
 have W:=(Walks.listRev (prog:=prog) (w:=w) (A:=A.in1) hh I l hlI items).toS
 have hSf:S∉[I,l]:=fun hm=>by
  rcases Qy.mp hm with z | z
  ·exact hSI z
  ·exact hSl (Xa.mp z)
 unfold Builtin.List.listExtendWith
 refine wpAny_bind (wpAny_typeOf hit.typeIs ?_)
 have h1:Builtin.List.listSameRef (.ref S) (.ref I)=false:=by simp [Builtin.List.listSameRef,hSI]
 have h2:(Value.type "list_reverseiterator" == Value.type "list")=false:=by decide
 have h3:(Value.type "list_reverseiterator" == Value.type "tuple")=false:=by decide
 simp only [h1,h2,h3,Bool.or_false,Yz,if_false]
 refine wpAny_bind (wpAny_pyIter_revIter hit ?_)
 refine wpAny_bind (wpAny_holding (a4x hit ?_))
 refine wpAny_ite_split (fun hab=>absurd hab (by decide)) (fun _=>wpAny_pure ⟨plainId_quiet F.plain_extend_loop _,codeAny_extend_loopS W hsz S hSf res items.size 0 _ #[] c₀ rfl (Xe _) ⟨Xe _,by simpa using hit,hl⟩ hS (ItemsOf.nil _) fun s' acc' c' hm hS' hacc=>?_⟩)
 rw [Moved.eq_with hm]
 refine hR s'.heap s'.toks acc' c' (fun b o hb hbI e=>hm.heap b o (fun hmem=>?_) e) hS' hacc
 rcases Qy.mp hmem with e' | hmem
 ·exact hb e'
 ·exact hbI (Xa.mp hmem)
theorem a5F {Q:Value→Shared→Prop} {I l:Addr} {items:Array Value} (hh:A.handled=none) (hit:s.heap.IsRevIter I l ((items.size:Int) - 1)) (hl:s.heap.IsList l items) (hlI:l≠I) (hsz:items.size≤sizeLine)
  (hQ:∀h' tk acc' c',(∀b o,b≠I→s.heap.get? b=some o→h'.get? b=some o)→
   h'.get? s.heap.objs.size=some {cls:=.type "list",dict:=none,data:=.seq acc' c',slots:=#[]}→ItemsOf (fun i v=>items[items.size - 1 - i]?=some v) acc' items.size→Q (.ref s.heap.objs.size) {s with heap:=h',toks:=tk}):
  wpAny (model prog w) A (call (.type "list") [.ref I]) Q E s:=by
 refine callType_codes (Q₁:=fun obj s₁=>obj=.ref s.heap.objs.size∧s₁={s with heap:=s.heap.push {cls:=.type "list",data:=.seq #[]}}) F.called_list (F.typeCall_list_1 _) F.entry_list_init
  (code_list_new _ ⟨rfl,rfl⟩) fun obj s₁ h₁=>?_
 obtain ⟨rfl,rfl⟩:=h₁
 have hS:(s.heap.push {cls:=.type "list",data:=.seq #[]}).get? s.heap.objs.size=some {cls:=.type "list",data:=.seq #[]}:=Xf _ rfl
 have hIlt:I < s.heap.objs.size:=by obtain ⟨_,z,_⟩:=hit;exact Qu z
 have hllt:l < s.heap.objs.size:=by obtain ⟨_,z,_⟩:=hl;exact Qu z
 refine ⟨⟨_,hS,rfl⟩,F.args_list_init_2 _ _,?_⟩
 show wpAny _ _ (do let old ←Builtin.List.listItems (.ref s.heap.objs.size);Builtin.List.listUpdate (.ref s.heap.objs.size) (fun _=>#[]);letGo old.toList.reverse;Builtin.List.listExtendWith (.ref s.heap.objs.size) (.ref I) .none) _ _ _
 refine wpAny_bind ?_
 unfold Builtin.List.listItems
 refine wpAny_bind (wpAny_seqItems hS rfl (wpAny_pure ?_))
 show wpAny _ _ (updateSeq s.heap.objs.size (fun _=>#[]) >>= fun _=>letGo (#[]:Array Value).toList.reverse >>= fun _=>Builtin.List.listExtendWith (.ref s.heap.objs.size) (.ref I) .none) _ _ _
 refine wpAny_bind (wpAny_updateSeq hS rfl ?_)
 have hS₂:=Heap.get?_update_self (Obj.mapSeq (fun _=>(#[]:Array Value))) hS rfl
 have oth:∀b o,b≠s.heap.objs.size→s.heap.get? b=some o→((s.heap.push {cls:=.type "list",data:=.seq #[]}).update s.heap.objs.size (Obj.mapSeq (fun _=>(#[]:Array Value)))).get? b=some o:=
  fun b o hb e=>(Wk _ _ (Ne.symm hb)).trans (Ql _ e)
 refine wpAny_bind (wpAny_letGo ?_)
 refine a3B (A:=A.in1) hh (hit.at fun o e=>oth I o (Xb hIlt) e) (hl.at fun o e=>oth l o (Xb hllt) e) hlI hsz s.heap.objs.size .none _ hS₂ (Jo hIlt) (Jo hllt) fun h' tk acc' c' hk hS' hacc=>?_
 exact ⟨rfl,hQ h' tk acc' c' (fun b o hb e=>hk b o (Xb (Qu e)) hb (oth b o (Xb (Qu e)) e)) hS' hacc⟩
end
section
variable {X:Cx}
theorem a4B:bootBuiltins "reversed"=some (.type "reversed"):=by decide+kernel
theorem b0S {its:List Value} {acc:Array Value} (h:ItemsOf (fun i v=>its.toArray[its.toArray.size - 1 - i]?=some v) acc its.toArray.size):acc.toList=its.reverse:=by
 obtain ⟨h1,h2⟩:=h
 have h1':acc.size=its.length:=by simpa using h1
 refine Uh fun i=>?_
 by_cases hi:i < its.length
 ·have hi':i < acc.size:=by omega
  have e:its[its.length - 1 - i]?=some acc[i]:=by simpa using h2 i acc[i] (Array.getElem?_eq_getElem hi')
  rw [Us hi,e]
  simp [hi']
 ·rw [Yh (by simp;omega),Yh (by simp;omega)]
theorem a8N {e:Expr} {te:TE} {p1 p2 q1 q2:Pos} (hc:X.calm=true) (hg1:Gl X "list") (hm1:X.mg "list"=none) (hg2:Gl X "reversed") (hm2:X.mg "reversed"=none) (he:PE X e te)
  (hs1:starEach [Expr.Call (.Name "reversed" p2) [e] [] q2] X.env=[(false,eval (.Call (.Name "reversed" p2) [e] [] q2) X.env)]:=by rfl) (hs2:starEach [e] X.env=[(false,eval e X.env)]:=by rfl):
  PE X (.Call (.Name "list" p1) [.Call (.Name "reversed" p2) [e] [] q2] [] q1) (a8h X.K te):=by
 intro pins s σ H Q I h
 refine Call_ (a3v I hg1 hm1 a2H (PyProof.Rows.callWith_type1 ?_ hs1 rfl))
 rw [hs1]
 show wpAny _ _ (spliced ((false,eval (.Call (.Name "reversed" p2) [e] [] q2) X.env)::[])) _ _ s
 refine Calls.spliced_cons ?_
 refine Call_ (a3v I hg2 hm2 a4B (PyProof.Rows.callWith_type1 ?_ hs2 rfl))
 rw [hs2]
 show wpAny _ _ (spliced ((false,eval e X.env)::[])) _ _ s
 refine Calls.spliced_cons (thn (he pins s σ H _ I h) fun u s1 ⟨x,H1,I1,r1,q1⟩=>?_)
 refine Calls.spliced_nil ?_
 obtain ⟨a,xs,rfl,hq,q⟩:=q1
 cases r1
 obtain ⟨its,rv,pl,hz⟩:=I1.list hq
 have hl:=pl.isList
 have hlt:a < s1.heap.objs.size:=by obtain ⟨_,z,_⟩:=hl;exact Qu z
 refine call_reversed_list hl ?_
 refine Calls.spliced_nil ?_
 have hlen:=rv.length
 refine a5F (I:=s1.heap.objs.size) (l:=a) (items:=its.toArray) (I1.ok.hd hc) ⟨_,Xf _ rfl,rfl,rfl⟩ (hl.push _) (Xb hlt) (by rw [Qv,←hlen];exact hz) fun h' tk acc' c' hk hS' hacc=>?_
 have hp:(s1.heap.push (revObj a ((its.toArray.size:Int) - 1))).objs.size=s1.heap.objs.size+1:=Vc ..
 have keep:∀b u,s1.heap.get? b=some u→h'.get? b=some u:=fun b u z=>hk b u (Xb (Qu z)) (Ql _ z)
 have hfr:H1 (s1.heap.objs.size+1)=none:=I1.hok.fresh (Zh _)
 have hS2:h'.get? (s1.heap.objs.size+1)=some {cls:=.type "list",dict:=none,data:=.seq acc' c',slots:=#[]}:=by rw [←hp];exact hS'
 have ea:acc'=its.reverse.toArray:=by rw [←b0S hacc]
 refine ⟨.ref (s1.heap.objs.size+1),upd H1 (s1.heap.objs.size+1) (.lst xs.reverse),I1.laid (t':=tk) keep (Zh _) ⟨by rw [Ji];exact hz,its.reverse,c',rv.reverse,by rw [hS2,ea]⟩,?_,q _ hfr⟩
 show Value.ref _=Value.ref _
 rw [←hp]
end
section
variable {X:Cx} {pins:List (Addr×Obj)} {σ:St} {H:Hp} {s:Shared} {a:Addr} {kvs:List (Key×V)} {tg:Expr}
theorem Inv.freeze (I:Inv X pins σ H s) (e:H a=some (.dK kvs)):∃o,s.heap.get? a=some o∧Inv X pins σ (upd H a (.frz o (.dK kvs))) s:=by
 obtain ⟨z,hd,vs,rel,dd⟩:=a9m I.hok e
 obtain ⟨o,es,ep,ho,r⟩:=id dd
 exact ⟨o,ho,I.write (x:=a) (e:=a) (t':=s.toks) (h':=s.heap) (by rw [e];exact True.intro) (.inl rfl) (fun b u _ q=>q) ⟨o,ho⟩ ⟨ho,z,hd,vs,rel,dd⟩⟩
theorem Inv.thaw {o:Obj} (I:Inv X pins σ H s) (e:H a=some (.frz o (.dK kvs))) (hn:∀ob u,X.H₀ a≠some (.frz ob u)):Inv X pins σ (upd H a (.dK kvs)) s:=by
 have ne:∀b,H b=none→b≠a:=fun b q z=>by rw [z,e] at q;cases q
 refine ⟨I.ok,I.os,I.bare,⟨I.base.keep,I.base.slot,fun b ob q n hx=>?_,I.base.there,fun b xs q=>?_,fun b ob u q=>?_,fun b ps q=>?_⟩,I.loc,I.cell,?_,fun x c q=>?_,fun p hp=>?_,fun b u q=>?_,I.len⟩
 ·have:=I.base.free b ob q n hx;rw [a0a (ne b this)];exact this
 ·have:=I.base.tups b xs q;rw [a0a (a0G this e (by intro z;cases z))];exact this
 ·have:=I.base.frzs b ob u q
  by_cases z:b=a
  ·subst z;exact absurd q (hn _ _)
  ·rw [a0a z];exact this
 ·obtain ⟨m,h⟩:=I.base.tbls b ps q
  exact ⟨m,by rw [a0a (a0G h e (by intro z;cases z))];exact h⟩
 ·rw [a0a (ne _ I.free)];exact I.free
 ·rw [a0a (ne _ (I.freeC x c q))];exact I.freeC x c q
 ·obtain ⟨h1,h2,h3⟩:=I.pin p hp
  exact ⟨h1,by rw [a0a (ne _ h2)];exact h2,h3⟩
 ·have ow:∀c y,H c=some (.own y)→upd H a (.dK kvs) c=some (.own y):=fun c y r=>by rw [a0a (a0G r e (by intro z;cases z))];exact r
  have tu:∀c xs,H c=some (.tup xs)→upd H a (.dK kvs) c=some (.tup xs):=fun c xs r=>by rw [a0a (a0G r e (by intro z;cases z))];exact r
  by_cases z:b=a
  ·subst z
   rw [a0d] at q;cases q
   exact (show a1g X.prog X.w H s.heap b (.dK kvs) from (I.hok b _ e).2).stay (fun c v _ r=>r) (fun c r=>ow c _ r) tu
  ·rw [a0a z] at q
   exact (I.hok b u q).stay (fun c v _ r=>r) (fun c r=>ow c _ r) tu
theorem b6k {e:Expr} {te:TE} (he:PE X e te):PE X e (c1d te):=by
 intro pins s σ H Q I h
 obtain ⟨a,kvs,hH,h⟩:=h
 refine thn (he pins s σ H _ I h) fun v s1 ⟨x,H1,I1,r1,o,e1,q⟩=>?_
 refine ⟨x,_,I1.thaw e1 (fun ob u z=>?_),r1,q⟩
 have:=I.base.frzs a ob u z
 rw [hH] at this;cases this
end
structure b4u (K:Qd) (x qual:Str) (st:Stmt) (f:Addr) (fd:FuncData) (T:Addr) (ds:List Value):Prop where
 ex:∃(oc:Value) (od:Option Addr) (kV doc pm:Value) (an:Option Addr) (cdv ct:Value) (osl:Array (Option Value)) (oT:Obj) (nT:Nat),
  fd=Yy x qual (a1M st) (a1m st) (a0b st) (.ref T) kV doc pm an cdv ct∧K.lookup f=some ⟨oc,od,.func fd,osl⟩∧Jp K cdv qual=true∧K.lookup T=some oT∧oT.data=.seq ds.toArray nT
 kp:Zk K (.ref f)=true
section
variable {P:Program} {w:World} {K:Qd} {mg:Str→Option Value} {base:Heap}
theorem b4u.ok {x qual:Str} {st:Stmt} {f:Addr} {fd:FuncData} {T:Addr} {ds:List Value} {N ps:List Str} {k:Nat} {sp:Sp} (F:b4u K x qual st f fd T ds) (S:a0g N ps (a0b st)) (len:∀vs H Q E,sp vs H Q E→vs.length=ps.length)
  (hbody:∀(cdv:Value) (A:Around) (outer:List Env) (s:Shared) (H:Hp) (vs:List V) (Q:VK) (E:XK),a2u k (A.deeper (envOfC qual (a0b st) s.heap.objs.size f cdv))→sp vs H Q E→
   ∃t,PSs (b4A CX0 P w K mg base N qual (a0b st) f cdv A outer s H E).nox (a1m st) t∧t {nx:=fun _ H'=>Q .non H',rt:=Q} (start N vs) H):a0V P w K mg base CX0 (k+1) f fd ps sp:=by
 obtain ⟨oc,od,kV,doc,pm,an,cdv,ct,osl,oT,nT,rfl,lk,hcd,_⟩:=F.ex
 refine b6r lk hcd S len fun A outer s H vs Q E hr hsp=>?_
 obtain ⟨t,h,q⟩:=hbody cdv A outer s H vs Q E hr hsp
 exact ⟨t,h.nox,q⟩
theorem b4u.binds {x qual:Str} {st:Stmt} {f:Addr} {fd:FuncData} {T:Addr} {ds:List Value} {ps:List Str} (es:List Value) (F:b4u K x qual st f fd T ds)
  (h:∀(kV doc pm:Value) (an:Option Addr) (cdv ct:Value) (us:List Value),(us++es).length=ps.length→∃k,bindArgs (Yy x qual (a1M st) (a1m st) (a0b st) (.ref T) kV doc pm an cdv ct) ⟨us,[]⟩=seqItems? (.ref T) >>= k∧k (some ds.toArray)=pure (ps.zip (us++es))):a0m K fd ps es:=by
 obtain ⟨oc,od,kV,doc,pm,an,cdv,ct,osl,oT,nT,rfl,lk,hcd,lT,hT⟩:=F.ex
 intro s us X hl
 obtain ⟨k,h1,h2⟩:=h kV doc pm an cdv ct us hl
 exact PySem.W.binds_K X rfl lT hT h1 h2
theorem a6S {x qual:Str} {st:Stmt} {f T:Addr} {oc:Value} {od an:Option Addr} {osl:Array (Option Value)} {kV doc pm cdv ct:Value} {oT:Obj} {nT:Nat} {ds:List Value} (l:K.lookup f=some ⟨oc,od,.func (Yy x qual (a1M st) (a1m st) (a0b st) (.ref T) kV doc pm an cdv ct),osl⟩)
  (c:Jp K cdv qual=true) (k:Zk K (.ref f)=true) (lT:K.lookup T=some oT) (hT:oT.data=.seq ds.toArray nT):b4u K x qual st f (Yy x qual (a1M st) (a1m st) (a0b st) (.ref T) kV doc pm an cdv ct) T ds:=⟨⟨oc,od,kV,doc,pm,an,cdv,ct,osl,oT,nT,rfl,l,c,lT,hT⟩,k⟩
end
end L2
namespace L2
open PySem PySem.Spec PyProof.Rows PySem.W
end L2
namespace L2
open PySem PySem.Spec PyProof.Rows PySem.W
section
variable {X:Cx} {pins:List (Addr×Obj)} {σ:St} {H:Hp} {s:Shared} {a:Addr} {kvs:List (Key×V)} {k:Key} {u:Value} {A:Around} {E:Value→Shared→Prop}
theorem b7S {z:V} {r:Value} {Q:Value→Shared→Prop} (I:Inv X pins σ H s) (e:H a=some (.dK kvs)) (ry:a0P (kV k) u) (rz:a0P z r) (hz:kvs.length < sizeLine)
  (h1:∀v w' s',a0N kvs k=some v→Inv X pins σ H s'→a0P v w'→Q w' s') (h2:a0N kvs k=none→∀s',Inv X pins σ (upd H a (.dK (a1W kvs k z))) s'→Q r s'):
  wpAny (model X.prog X.w) A (call (.builtin "dict.setdefault") [.ref a,u,r]) Q E s:=by
 obtain ⟨z0,hd,vs,rel,dd⟩:=a9m I.hok e
 refine call_meetsIn Vd dd.typeIs PySem.F.entry_dict_setdefault (PySem.F.args_dict_setdefault_3 _ _ _) (kt_meets_setdefault (a0s X.prog X.w) a (a6K ry) hd r) ⟨vs,dd,by rw [←rel.length];exact z0,fun v hv=>?_,fun hn h' dd' hs=>?_⟩
 ·cases l:a0N kvs k with
  | none=>
   have:=a4w.none_of (o:=valueAt vs k) (by rw [←l];exact rel.val k)
   rw [this] at hv;cases hv
  | some x=>
   obtain ⟨w',hw,rw'⟩:=a4w.some_of (v:=x) (o:=valueAt vs k) (by rw [←l];exact rel.val k)
   rw [hw] at hv;cases hv
   exact h1 x _ _ l (I.tok _) rw'
 ·have l:a0N kvs k=none:=by
   cases l:a0N kvs k with
   | none=>rfl
   | some x=>
    obtain ⟨w',hw,_⟩:=a4w.some_of (v:=x) (o:=valueAt vs k) (by rw [←l];exact rel.val k)
    rw [hw] at hn;cases hn
  refine h2 l _ ?_
  have he:∃q,h'.get? a=some q:=let ⟨q,_,_,hq,_⟩:=dd';⟨q,hq⟩
  exact a5g I (by rw [e];exact True.intro) hs he (b2a (by have:=a0z kvs k z;omega) hd (rel.put k rz) dd')
end
def a7y (td ty tx:TE):TE:=fun σ H Q=>td σ H fun x H1=>∃a,x=.ref a∧IsD H1 a∧ty σ H1 fun y H2=>tx σ H2 fun z H3=>∃kvs k,H3 a=some (.dK kvs)∧y=kV k∧kvs.length < sizeLine∧
 (∀v,a0N kvs k=some v→Q v H3)∧(a0N kvs k=none→Q z (upd H3 a (.dK (a1W kvs k z))))
section
variable {X:Cx} {o e f:Expr} {apos cpos:Pos} {td ty tx:TE}
theorem b3E (ho:PE X o td) (he:PE X e ty) (hf:PE X f tx) (m:M2 X o "setdefault" apos e f cpos):PE X (.Call (.Attribute o "setdefault" apos) [e,f] [] cpos) (a7y td ty tx):=by
 intro pins s σ H Q I h
 refine wpAny_Call_method m.base m.few m.line Jj Vd PySem.F.type_dict_setdefault (thn (ho pins s σ H _ I h) fun u s1 ⟨x,H1,I1,rx,a,ex,d,q1⟩=>?_)
 subst ex
 obtain rfl:u=Value.ref a:=rx
 obtain ⟨t1,t2,_⟩:=b4V I1 d
 refine ⟨t1,t2,?_⟩
 rw [m.trees]
 refine Calls.callWith_builtin rfl (Calls.evalArgs_plain (Calls.spliced_cons (thn (he pins s1 σ H1 _ I1 q1) fun iv s2 ⟨y,H2,I2,ry,q2⟩=>
  Calls.spliced_cons (thn (hf pins s2 σ H2 _ I2 q2) fun fv s3 ⟨z,H3,I3,rz,kvs,k,hH,ey,hz,q3,q4⟩=>Calls.spliced_nil ?_))))
 subst ey
 exact b7S I3 hH ry rz hz (fun v w' s' l I' r'=>⟨v,H3,I',r',q3 v l⟩) (fun l s' I'=>⟨z,_,I',rz,q4 l⟩)
end
section
variable {α β:Type}
def TOk (n:Nat) (P:α→Prop):KasT α→Prop
 | .ret a=>P a
 | .ask i j k=>i < n∧j < n∧∀b,TOk n P (k b)
def a0X (lt:Nat→Nat→Bool):KasT α→α
 | .ret a=>a
 | .ask i j k=>a0X lt (k (lt i j))
theorem TOk.run {n:Nat} {P:α→Prop} {lt:Nat→Nat→Bool}:∀{t:KasT α},TOk n P t→P (a0X lt t)
 | .ret _,h=>h
 | .ask i j k,h=>show P (a0X lt (k (lt i j))) from TOk.run (h.2.2 (lt i j))
theorem TOk.wp {n:Nat} {P:α→Prop} {lt:Nat→Nat→Bool} {cmp:Nat→Nat→(Bool→Shared→Prop)→Shared→Prop} {Q:α→Shared→Prop} {s:Shared} (hc:∀i j C,i < n→j < n→C (lt i j) s→cmp i j C s):∀{t:KasT α},TOk n P t→Q (a0X lt t) s→t.kasWp cmp Q s
 | .ret _,_,q=>q
 | .ask i j k,h,q=>hc i j _ h.1 h.2.1 (TOk.wp hc (h.2.2 _) q)
theorem TOk.bind {n:Nat} {P:α→Prop} {R:β→Prop} {f:α→KasT β} (hf:∀a,P a→TOk n R (f a)):∀{t:KasT α},TOk n P t→TOk n R (t.bind f)
 | .ret _,h=>hf _ h
 | .ask i j k,h=>⟨h.1,h.2.1,fun b=>TOk.bind hf (h.2.2 b)⟩
end
def a0B (n:Nat) (p:Array Nat):Prop:=p.Perm (Xv (Xu n))
theorem a0B.list {n:Nat} {p:Array Nat} (h:a0B n p):p.toList.Perm (Xu n):=Array.perm_iff_toList_perm.mp h
theorem a0B.lt {n:Nat} {p:Array Nat} (h:a0B n p) (hn:0 < n) (i:Nat):p.getD i 0 < n:=by
 by_cases hi:i < p.size
 ·have h1:p[i]∈Xu n:=h.list.mem_iff.mp (by simp)
  have e:p.getD i 0=p[i]:=by simp [Jv,hi]
  rw [e];exact Zs.mp h1
 ·have e:p.getD i 0=0:=by simp [Jv,hi]
  rw [e];exact hn
theorem a0B.rev {n:Nat} {p:Array Nat} (h:a0B n p) (i j:Nat):a0B n (kas_rev p i j):=(mirror_perm _ _ _ _).trans h
theorem a0B.bub {n:Nat} {p:Array Nat} (h:a0B n p) (i j:Nat):a0B n (bubble p i j):=(bubble_perm _ _ _).trans h
section
variable {n:Nat} (hn:0 < n)
include hn
theorem b0M {p:Array Nat} (hp:a0B n p):∀f m,TOk n (fun _=>True) (kas_asc p f m)
 | 0,m=>trivial
 | f+1,m=>⟨hp.lt hn _,hp.lt hn _,fun b=>by
   show TOk n _ (if b=true then _ else _)
   split
   ·exact trivial
   ·exact b0M hp f (m+1)⟩
theorem a5w:∀f (p:Array Nat) m q,a0B n p→TOk n (fun r=>a0B n r.1) (kas_desc f p m q)
 | 0,p,m,q,hp=>hp
 | f+1,p,m,q,hp=>⟨hp.lt hn _,hp.lt hn _,fun b=>by
   show TOk n _ (if b=true then _ else _)
   split
   ·split
    ·exact a5w f _ _ _ (hp.rev _ _)
    ·exact a5w f _ _ _ hp
   ·refine ⟨hp.lt hn _,hp.lt hn _,fun d=>?_⟩
    show TOk n _ (if d=true then _ else _)
    split
    ·exact hp
    ·exact a5w f _ _ _ hp⟩
theorem a8d {p:Array Nat} (hp:a0B n p) (m r:Nat):TOk n (fun r=>a0B n r.2) (kas_tail3 m r p):=by
 unfold kas_tail3
 refine TOk.bind (P:=fun _=>True) (fun k _=>?_) (b0M hn (hp.rev _ _) _ _)
 exact hp.rev 0 m
theorem a4n {p:Array Nat} (hp:a0B n p) (m r:Nat):TOk n (fun r=>a0B n r.2) (kas_descPart m r p):=TOk.bind (fun a ha=>by
 split
 ·exact a8d hn (a0B.rev ha _ _) _ _
 ·exact a8d hn ha _ _) (a5w hn _ _ _ _ hp)
theorem b3m {p:Array Nat} (hp:a0B n p) (r:Nat):TOk n (fun r=>a0B n r.2) (kas_count r p):=TOk.bind (fun a _=>by
 split
 ·exact hp
 ·split
  ·refine ⟨hp.lt hn _,hp.lt hn _,fun b=>?_⟩
   show TOk n _ (if b=true then _ else _)
   split
   ·exact hp
   ·exact a4n hn (hp.rev _ _) _ _
  ·exact a4n hn hp _ _) (b0M hn hp _ _)
theorem a5l {p:Array Nat} (hp:a0B n p) (k:Nat):∀f l r,TOk n (fun _=>True) (kas_place p k f l r)
 | 0,l,r=>trivial
 | f+1,l,r=>by
  show TOk n _ (if l≥r then _ else _)
  split
  ·exact trivial
  ·refine ⟨hp.lt hn _,hp.lt hn _,fun b=>?_⟩
   show TOk n _ (if b=true then _ else _)
   split
   ·exact a5l hp k f _ _
   ·exact a5l hp k f _ _
theorem b4H:∀f (p:Array Nat) k,a0B n p→TOk n (a0B n) (kas_bin f p k)
 | 0,p,k,hp=>hp
 | f+1,p,k,hp=>TOk.bind (fun l _=>b4H f _ _ (hp.bub _ _)) (a5l hn hp k _ _ _)
theorem b1l:TOk n (a0B n) (kas_sort n):=TOk.bind (fun r hr=>by
 split
 ·exact b4H hn _ _ _ hr
 ·exact hr) (b3m hn (Ww.refl _) n)
end
theorem a8R (vs:List Value):(Xu vs.length).map (fun i=>vs.getD i Value.none)=vs:=by
 refine Jf (by simp) fun i h1 h2=>?_
 simp [h2]
section
variable {prog:Program} {w:World} {A:Around} {E:Value→Shared→Prop} {s:Shared}
theorem a2F {a:Addr} {vs:List Value} {n:Nat} {P:PySem.Fin→Shared→Prop} (ho:s.heap.get? a=some (seqObj "list" vs.toArray n)) (h64:vs.length < 64) (lt:Nat→Nat→Bool) (κ:SortKind)
  (hk:2≤vs.length→∀h',(∀b o,b≠a→s.heap.get? b=some o→h'.get? b=some o)→∀Q:SortKind→Shared→Prop,Q κ {s with heap:=h'}→wpAny (model prog w) A (keyKind' vs.toArray) Q (fun _ _=>False) {s with heap:=h'})
  (hask:∀h',(∀b o,b≠a→s.heap.get? b=some o→h'.get? b=some o)→∀i j C,i < vs.length→j < vs.length→C (lt i j) {s with heap:=h'}→kas_ask prog w A κ vs i j C {s with heap:=h'})
  (h:∀p:Array Nat,a0B vs.length p→(2≤vs.length→p=a0X lt (kas_sort vs.length))→P (.done (.ret .none)) {s with heap:=sortedHeap s.heap a vs (Xv (p.toList.map fun i=>vs.getD i Value.none))}):
  wpAny (model prog w) A (Builtin.«list.sort» ⟨[.ref a],[]⟩) P E s:=by
 rw [list_sort_plain]
 have ha:a < s.heap.objs.size:=Qu ho
 refine wpAny_bind (listItems_at ho rfl ?_)
 refine wpAny_bind (listUpdate_at ho rfl ?_ (by rw [Qv,sizeLine_eq];omega) (Xe _))
 obtain ⟨e1,ho1⟩:∃e1,(s.heap.update a (Obj.mapSeq fun _=>#[])).get? a=some (seqObj "list" #[] e1):=⟨_,get?_update_seq ho (fun _=>#[])⟩
 refine wpAny_bind (seqEpoch_at ho1 rfl ?_)
 refine wpAny_bind (wpAny_newTuple ?_ (by show vs.length≤_;rw [sizeLine_eq];omega))
 refine wpAny_bind (wpAny_newList ?_ (Xe _))
 refine wpAny_holding ?_
 have ho6:(((s.heap.update a (Obj.mapSeq fun _=>#[])).push (seqObj "tuple" vs.toArray 0)).push (seqObj "list" #[] 0)).get? a=some (seqObj "list" #[] e1):=by
  rw [Zp _ _ _ (by rw [size_push',Uo];exact Xb (Ym ha)),Zp _ _ _ (by rw [Uo];exact Xb ha)]
  exact ho1
 have keep:∀b o,b≠a→s.heap.get? b=some o→(((s.heap.update a (Obj.mapSeq fun _=>(#[]:Array Value))).push (seqObj "tuple" vs.toArray 0)).push (seqObj "list" #[] 0)).get? b=some o:=fun b o hb e=>by
  refine Ql _ (Ql _ ?_)
  rw [Zf _ _ _ _ hb];exact e
 show wpAny (model prog w) A _ P E {s with heap:=((s.heap.update a (Obj.mapSeq fun _=>(#[]:Array Value))).push (seqObj "tuple" vs.toArray 0)).push (seqObj "list" #[] 0)}
 dsimp only
 by_cases h2:vs.toArray.size < 2
 ·rw [if_pos h2,if_pos h2]
  refine wpAny_bind (wpAny_pure ?_)
  rw [StateT.run_pure]
  refine wpAny_bind (wpAny_pure ?_)
  dsimp only
  refine wpAny_bind (seqEpoch_at ho6 rfl ?_)
  have hz:((arrOf (SortSt.mk' general' (vs.toArray.zip vs.toArray) #[] 7 none)).map (·.2))=Xv ((Xv (Xu vs.length)).toList.map fun i=>vs.getD i Value.none):=by
   have e:=a8R vs
   show ((vs.toArray.zip vs.toArray).map (·.2))=Xv ((Xu vs.length).map fun i=>vs.getD i Value.none)
   rw [e]
   apply Vv.mp
   simp
   exact Vw (Qk _)
  rw [hz]
  refine wpAny_bind (listUpdate_at ho6 rfl ?_ (Xe _) (by simp only [Qv,Qe,Zc];rw [sizeLine_eq];omega))
  simp only [bne_self_eq_false,Yz,if_false]
  exact wpAny_pure (h (Xv (Xu vs.length)) (Ww.refl _) (fun z=>by rw [Qv] at h2;omega))
 ·rw [if_neg h2,if_neg h2]
  rw [Qv] at h2
  have h2':2≤vs.length:=by omega
  refine wpAny_bind (wpAny_mono (hk h2' _ keep (fun κ' s0=>κ'=κ∧s0={s with heap:=((s.heap.update a (Obj.mapSeq fun _=>(#[]:Array Value))).push (seqObj "tuple" vs.toArray 0)).push (seqObj "list" #[] 0)}) ⟨rfl,rfl⟩) (fun κ' s0 hk'=>?_) fun _ _ x=>x.elim)
  obtain ⟨rfl,rfl⟩:=hk'
  have hok:=b1l (n:=vs.length) (by omega)
  refine wpAny_bind (wpAny_mono (kat_run (Q:=fun st' s'=>∃p:Array Nat,p.size=vs.length∧arrOf st'=p.map (kas_item (vs.toArray.zip vs.toArray))∧failedOf st'=none∧p=a0X lt (kas_sort vs.length)∧s'={s with heap:=((s.heap.update a (Obj.mapSeq fun _=>(#[]:Array Value))).push (seqObj "tuple" vs.toArray 0)).push (seqObj "list" #[] 0)})
   (G:=fun p s'=>p=a0X lt (kas_sort vs.length)∧s'={s with heap:=((s.heap.update a (Obj.mapSeq fun _=>(#[]:Array Value))).push (seqObj "tuple" vs.toArray 0)).push (seqObj "list" #[] 0)})
   rfl h2' h64 (fun p' st' s' a1 a2 a3 a4=>⟨p',a1,a2,a3,a4.1,a4.2⟩) (TOk.wp (lt:=lt) (fun i j C hi hj hC=>hask _ keep i j C hi hj hC) hok ⟨rfl,rfl⟩)) ?_ fun _ _ e=>e)
  rintro ⟨⟨⟩,st'⟩ s' ⟨p,hp,har,hf,hpe,rfl⟩
  dsimp only
  have hP:a0B vs.length p:=by rw [hpe];exact hok.run
  refine wpAny_bind (seqEpoch_at ho6 rfl ?_)
  rw [kat_snds rfl har]
  refine wpAny_bind (listUpdate_at ho6 rfl ?_ (Xe _) (by simp only [Qv,Qe,Zr];rw [sizeLine_eq];omega))
  rw [hf]
  simp only [bne_self_eq_false,Yz,if_false]
  exact wpAny_pure (h p hP fun _=>hpe)
end
def b4K (K:Qd):List V→Hp→VK→Prop:=fun xs H Q=>∃(p:Addr) (ss:List Str),xs=[.ref p]∧SqL K H p (ss.map V.str)∧ss.length < 64∧∀l ss',H l=none→ss'.Perm ss→sortedS ss'=true→Q (.ref l) (upd H l (.lst (ss'.map V.str)))
def b4y:List V→Hp→VK→Prop:=fun xs H Q=>∃(p:Addr) (kvs:List (Key×V)) (ss:List Str),xs=[.ref p]∧Rd H p (.dK kvs)∧kvs.map (·.1)=ss.map Sum.inr∧ss.length < 64∧∀l ss',H l=none→ss'.Perm ss→sortedS ss'=true→Q (.ref l) (upd H l (.lst (ss'.map V.str)))
theorem a4L:∀{ss:List Str} {its:List Value},a0L (ss.map V.str) its→StrsAre its ss
 | [],_,r=>by cases r;exact .nil
 | x::ss,_,r=>by
  cases r with
  | cons h t=>obtain ⟨t0,rfl⟩:=h;exact .cons _ _ (a4L t)
theorem a4k {ss:List Str} {its:List Value} (h:StrsAre its ss):a0L (ss.map V.str) its:=by
 induction h with
 | nil=>exact .nil
 | cons x t h ih=>exact .cons ⟨t,rfl⟩ ih
section
variable {X:Cx}
theorem a9n:a1H X (.builtin "sorted") (b4K X.K):=by
 intro pins s σ H xs us Q I r h
 obtain ⟨p,ss,rfl,hq,h64,q⟩:=h
 obtain ⟨u,rfl,ru⟩:=a3r r
 cases ru
 obtain ⟨its,rv,pl,hz⟩:=I.list hq
 have hn:=rv.length
 rw [Qe] at hn
 refine sorted_strs pl.isList (a4L rv) (by omega) fun out ss' a1 a2 a3=>?_
 obtain ⟨e,he⟩:=sortedAll_at s.heap its out
 have hl:ss'.length < 64:=by rw [a2.length_eq];exact h64
 have I1:=I.laid (a:=s.heap.objs.size+1) (o:=.lst (ss'.map V.str)) (h':=sortedAll s.heap its out) (t':=s.toks) (fun _ _ q=>sortedAll_old q) (Zh _) ⟨by rw [Qe,sizeLine_eq];omega,out.toList,e,a4k a1,he⟩
 exact ⟨.ref (s.heap.objs.size+1),_,I1,rfl,q _ _ (I.hok.fresh (Zh _)) a2 a3⟩
theorem b1O {P:Program} {w:World} {z:Str} {v:Value} (h:(a0s P w).is (Sum.inr z) v=true):∃t,v=.str z t:=Value.isStrOf_shape h
theorem a3o:∀{its:List Value} {ss:List Str},its.length=ss.length→(∀(j:Nat) v,its[j]?=some v→∃z t,ss[j]?=some z∧v=.str z t)→StrsAre its ss
 | [],[],_,_=>.nil
 | [],_::_,h,_=>by simp at h
 | _::_,[],h,_=>by simp at h
 | v::its,z::ss,h,hv=>by
  obtain ⟨z',t,e1,e2⟩:=hv 0 v rfl
  cases e1
  rw [e2]
  exact .cons _ _ (a3o (by simpa using h) fun j u e=>by
   obtain ⟨a,b,c,d⟩:=hv (j+1) u (by simpa using e)
   exact ⟨a,b,by simpa using c,d⟩)
theorem b4Y:∀{r:List (Key×V)} {rs:List (Key×Value)},KV r rs→∀{i:Nat} {k:Key} {x:Value},rs[i]?=some (k,x)→∃y,r[i]?=some (k,y)∧a0P y x:=by
 intro r rs h
 unfold KV at h
 induction h with
 | nil=>intro i k x e;simp at e
 | @cons p q ps qs h t ih=>
  intro i k x e
  cases i with
  | zero=>
   simp only [Qa,Option.some.injEq] at e
   subst e
   exact ⟨p.2,by simp only [Qa];rw [show (k,p.2)=p from by rw [←show p.1=k from h.1]],h.2⟩
  | succ i=>exact ih (by simpa using e)
theorem a8A (hc:X.calm=true):a1H X (.builtin "sorted") b4y:=by
 intro pins s σ H xs us Q I r h
 obtain ⟨p,kvs,ss,rfl,hq,hks,h64,q⟩:=h
 obtain ⟨u,rfl,ru⟩:=a3r r
 cases ru
 obtain ⟨z,hd,vs,rel,dd⟩:=a4z I.hok hq
 obtain ⟨ep,hat⟩:=dd.dictAt
 have hn:vs.length=ss.length:=by rw [←rel.length];have:=congrArg Yp hks;simpa using this
 refine Calls.call_function_entry kind_sorted plain_sorted entry_sorted (args_sorted1 _) ?_
 unfold Builtin.«sorted»
 refine wpAny_bind (m:=checkCount "sorted" 1 1 _) (wpAny_pure ?_)
 refine wpAny_bind (kdu_collect (A:=X.A.in1) (kdl_dict (knd:=a0s X.prog X.w) (kvs:=vs) (ep:=ep) hd) (I.ok.hd hc) hat (by rw [sizeLine_eq];omega) fun h' tk acc hk hacc=>?_)
 have hal:acc.toList.length=ss.length:=by rw [Zr];exact hacc.1.trans hn
 have hS:StrsAre acc.toList ss:=a3o hal fun j v e=>by
  obtain ⟨k,x,hx,hkv⟩:=hacc.2 j v (by rw [←Ws];exact e)
  obtain ⟨y,hy,_⟩:=b4Y rel hx
  have h1:(kvs.map (·.1))[j]?=some k:=by rw [Qm,hy];rfl
  rw [hks,Qm] at h1
  cases e2:ss[j]? with
  | none=>rw [e2] at h1;cases h1
  | some z'=>
   rw [e2] at h1
   cases h1
   obtain ⟨t,ht⟩:=b1O hkv
   exact ⟨z',t,rfl,ht⟩
 refine wpAny_bind (wpAny_newList ?_ (by rw [hal,sizeLine_eq];omega))
 have hoL:(h'.push (seqObj "list" acc.toList.toArray 0)).get? h'.objs.size=some (seqObj "list" acc.toList.toArray 0):=Xf _ rfl
 refine wpAny_bind (wpAny_holding (wpAny_call_entry slot_list_sort ⟨_,hoL,rfl⟩ entry_list_sort (list_sort_treeK (s:={s with heap:=h'.push (seqObj "list" acc.toList.toArray 0),toks:=tk}) (vs:=acc.toList) strKind_oneLt hoL hS.keysOf (fun v₁ v₂ a5Q e=>keyKind_strs (by rw [←e];exact hS)) (by omega) fun st' a1 a2=>⟨_,rfl,?_⟩) (args_list_sort _)))
 refine wpAny_pure ⟨_,rfl,?_⟩
 obtain ⟨ss',b1,b2,b3⟩:=sorted_out_str hS a1 a2
 generalize (arrOf st').map (·.2)=out at b1 ⊢
 obtain ⟨e,he⟩:=sortedHeap_at (out:=out) hoL
 have hl:ss'.length < 64:=by rw [b2.length_eq];exact h64
 have I1:=I.kept (t':=tk) hk
 have I2:=I1.laid (a:=h'.objs.size) (o:=.lst (ss'.map V.str)) (h':=sortedHeap (h'.push (seqObj "list" acc.toList.toArray 0)) h'.objs.size acc.toList out) (t':=tk) (fun b o e=>by
  have hb:b < h'.objs.size:=Qu e
  rw [sortedHeap_old (Xb hb) (by rw [size_push'];exact Ym hb)]
  exact Ql _ e) (Qk _) ⟨by rw [Qe,sizeLine_eq];omega,out.toList,e,a4k b1,he⟩
 exact ⟨.ref h'.objs.size,_,I2,rfl,q _ _ (I1.hok.fresh (Qk _)) b2 b3⟩
def a2k (H:Hp):V→Int×Str
 | .ref a=>match H a with
  | some (.tup [.int i,.str z])=>(i,z)
  | _=>(0,"")
 | _=>(0,"")
def ltP (x y:Int×Str):Bool:=if x.1=y.1 then (if x.2=y.2 then false else decide (x.2.cps.toList < y.2.cps.toList)) else decide (x.1 < y.1)
theorem b0i {P:Program} {w:World} {H:Hp} {h:Heap} {a:Addr} {i:Int} {z:Str} (ok:a1g P w H h a (.tup [.int i,.str z])):∃o n t t',h.get? a=some o∧o.cls=.type "tuple"∧o.data=.seq #[.int i t,.str z t'] n:=by
 obtain ⟨_,its,rv,o,ho,hc,n,hd⟩:=ok
 cases rv with
 | cons h1 r=>
  cases r with
  | cons h2 r=>
   cases r
   obtain ⟨t,rfl⟩:=h1
   obtain ⟨t',rfl⟩:=h2
   exact ⟨o,n,t,t',ho,hc,hd⟩
theorem a6N {P:Program} {w:World} {H:Hp} {h h':Heap} (hok:∀a o,H a=some o→a1g P w H h a o) (hk:∀b o,h.get? b=some o→h'.get? b=some o):∀{ys:List V} {its:List Value},a0L ys its→(∀v∈ys,∃a i z,v=.ref a∧H a=some (.tup [.int i,.str z]))→
  ∃fs,KatTups h' its fs∧fs.length=its.length∧∀v∈fs,∃i t,v=.int i t
 | [],_,r,_=>by cases r;exact ⟨[],trivial,rfl,by simp⟩
 | y::ys,_,r,hT=>by
  cases r with
  | cons h1 r=>
   obtain ⟨fs,g1,g2,g3⟩:=a6N hok hk r fun v hv=>hT v (Qt _ hv)
   obtain ⟨a,i,z,rfl,ha⟩:=hT y Qs
   cases h1
   obtain ⟨o,n,t,t',e1,e2,e3⟩:=b0i (hok _ _ ha)
   refine ⟨.int i t::fs,KatTups.cons (hk _ _ e1) e2 e3 rfl g1,by simp [g2],fun v hv=>?_⟩
   rcases Qy.mp hv with e | e
   ·exact ⟨i,t,e⟩
   ·exact g3 v e
theorem a3d {ys:List V} {its:List Value} (r:a0L ys its):∀(l:List Nat),(∀i∈l,i < ys.length)→a0L (l.map fun i=>ys.getD i .non) (l.map fun i=>its.getD i Value.none)
 | [],_=>.nil
 | i::l,h=>by
  have hi:=h i Qs
  obtain ⟨u,hu,ru⟩:=r.get (Qc hi)
  refine .cons ?_ (a3d r l fun j hj=>h j (Qt _ hj))
  show a0P (ys.getD i .non) (its.getD i Value.none)
  rw [Xh,Qc hi,Xh,hu]
  exact ru
theorem a4D (vs:List V):(Xu vs.length).map (fun i=>vs.getD i .non)=vs:=by
 refine Jf (by simp) fun i h1 h2=>?_
 simp [h2]
theorem a2C:bootBuiltins "sorted"=some (.builtin "sorted"):=by decide+kernel
end
end L2
namespace L2
open PySem PySem.Spec PyProof.Rows PySem.W
def b7P:List V→Hp→VK→Prop:=fun xs H Q=>∃(p:Addr) (kvs:List (Key×V)),xs=[.ref p]∧Rd H p (.dK kvs)∧∀l,H l=none→Q (.ref l) (upd H l (.lst (kvs.map fun kv=>kV kv.1)))
def b4P (K:Qd):List V→Hp→VK→Prop:=fun xs H Q=>b0k K xs H Q∨b7P xs H Q
def a0R (H:Hp) (xs:List V) (pl:List (Str×Str)):Prop:=∃as:List Addr,xs=as.map V.ref∧as.length=pl.length∧∀(i:Nat) (a:Addr) (p:Str×Str),as[i]?=some a→pl[i]?=some p→H a=some (.tup [.str p.1,.str p.2])
def b2D (H:Hp) (a:Addr):Option (Str×Str):=match H a with
 | some (.tup [.str x,.str y])=>some (x,y)
 | _=>none
def c3O (K:Qd):R2:=fun x y H Q=>∃(q l:Addr) (a b:Str) (xs:List V) (pl:List (Str×Str)),x=.ref q∧y=.ref l∧H q=some (.tup [.str a,.str b])∧SqL K H l xs∧a0R H xs pl∧(Yb a=true∧Yb b=true)∧(∀p∈pl,Yb p.1=true∧Yb p.2=true)∧Q (.bl (decide ((a,b)∈pl))) H
section
variable {X:Cx} {pos:Pos}
theorem a7x {K:Qd} {H:Hp} {a:Addr} {x y:Str} (h:H a=some (.tup [.str x,.str y])):Den K H (.ref a) (.tuple [.str x,.str y]):=.tup (SqT.of h) (.cons (.str x) (.cons (.str y) .nil))
theorem a7N {x y:Str} (h1:Yb x=true) (h2:Yb y=true):Xy (.tuple [.str x,.str y])=true:=by
 show (Xy (.str x) && (Xy (.str y) && true))=true
 rw [show Xy (.str x)=true from h1,show Xy (.str y)=true from h2];rfl
theorem b3O (x y a b:Str):Yx (.tuple [.str x,.str y]) (.tuple [.str a,.str b])=decide ((x,y)=(a,b)):=by
 have e:Yx (.tuple [.str x,.str y]) (.tuple [.str a,.str b])=(decide (x=a) && (decide (y=b) && true)):=by first | rfl | simp [Yx,PyData.eqvAll]
 rw [e]
 by_cases h1:x=a<;>by_cases h2:y=b<;>simp [h1,h2]
theorem c1l (hu:X.A.units+64 < cLine):OpR X (compareOp .In) (c3O X.K):=by
 intro pins s σ H x y v u Q I rx ry h
 obtain ⟨q,l,a,b,xs,pl,rfl,rfl,hq,hl,⟨as,rfl,hal,hat⟩,hab,hpo,qq⟩:=h
 cases rx
 cases ry
 obtain ⟨its,rv,p1,hz⟩:=I.list hl
 have hits:its=as.map Value.ref:=by
  have:∀{as:List Addr} {its:List Value},a0L (as.map V.ref) its→its=as.map Value.ref:=by
   intro as
   induction as with
   | nil=>intro its r;cases r;rfl
   | cons a as ih=>
    intro its r
    cases r with
    | cons h t=>cases h;rw [ih t];rfl
  exact this rv
 subst hits
 have hpr:∀c∈as,∃p∈pl,H c=some (.tup [.str p.1,.str p.2]):=fun c hc=>by
  obtain ⟨i,hi,rfl⟩:=Zg hc
  have hi':i < pl.length:=by omega
  exact ⟨pl[i],Xd hi',hat i _ _ (Qc hi) (Qc hi')⟩
 obtain ⟨bs,rb⟩:=(a7x (K:=X.K) hq).reads I (show a0P (V.ref q) (Value.ref q) from rfl)
 refine SeqAt.in_listAt (fun w=>match w with | .ref c=>decide (b2D H c=some (a,b)) | _=>false) p1.isList (fun w hw=>?_) ⟨.bl _,H,I,rfl,?_⟩
 ·obtain ⟨c,hc,rfl⟩:=Qf.mp (show w∈as.map Value.ref by simpa using hw)
  obtain ⟨p,hp,hc2⟩:=hpr c hc
  obtain ⟨cs,rc⟩:=(a7x (K:=X.K) hc2).reads I (show a0P (V.ref c) (Value.ref c) from rfl)
  have e0:=SeqAt.eqAt_reads _ _ X.A.in1 s _ _ _ _ rc rb (a7N (hpo p hp).1 (hpo p hp).2) (a7N hab.1 hab.2) (by
   have h1:min (Zb (.tuple [.str p.1,.str p.2])) (Zb (.tuple [.str a,.str b]))≤1:=Qi (Nat.min_le_left _ _) (by simp [Zb,Zx])
   have h2:X.A.in1.units≤X.A.units+1:=by first | exact Qk _ | exact Zh _ | (simp [Around.in1])
   omega)
  rw [b3O] at e0
  have e1:(match Value.ref c with | .ref c=>decide (b2D H c=some (a,b)) | _=>false)=decide ((p.1,p.2)=(a,b)):=by
   show decide (b2D H c=some (a,b))=_
   have:b2D H c=some (p.1,p.2):=by unfold b2D;rw [hc2]
   rw [this,Xn,decide_eq_true_eq,decide_eq_true_eq,Option.some.injEq]
  rw [e1];exact e0
 ·have e2:(Xv (as.map Value.ref)).any (fun w=>match w with | .ref c=>decide (b2D H c=some (a,b)) | _=>false)=decide ((a,b)∈pl):=by
   rw [List.any_toArray,Jg,Xn,Yk,decide_eq_true_eq]
   constructor
   ·rintro ⟨c,hc,e⟩
    obtain ⟨p,hp,hc2⟩:=hpr c hc
    have e':b2D H c=some (a,b):=of_decide_eq_true e
    have:b2D H c=some (p.1,p.2):=by unfold b2D;rw [hc2]
    rw [this] at e'
    have e3:p=(a,b):=Option.some.inj e'
    rw [←e3];exact hp
   ·intro hm
    obtain ⟨i,hi,e⟩:=Zg hm
    have hi':i < as.length:=by omega
    have h1:=hat i _ _ (Qc hi') (Qc hi)
    refine ⟨as[i],Xd hi',decide_eq_true ?_⟩
    unfold b2D;rw [h1,e]
  rw [e2];exact qq
theorem b6h {K:Qd} (hu:X.A.units+64 < cLine) (hK:X.K=K):OpR X (compareOp .In) (c3O K):=hK ▸ c1l hu
end
def c0N (t u:TT):TT:=fun σ H Q=>t σ H Q∨u σ H Q
theorem b8e {X:Cx} {e:Expr} {t u:TT} (h1:PT X e t) (h2:PT X e u):PT X e (c0N t u):=fun pins s σ H Q I h=>h.elim (h1 pins s σ H Q I) (h2 pins s σ H Q I)
end L2
namespace L2
open PySem PySem.Spec PyProof.Rows PySem.W
end L2
namespace L2
open PySem PySem.Spec PySem.W PyProof.Rows
theorem a2e {α β:Type} {lt:Nat→Nat→Bool} {f:α→KasT β}:∀(t:KasT α),a0X lt (t.bind f)=a0X lt (f (a0X lt t))
 | .ret _=>rfl
 | .ask i j k=>a2e (k (lt i j))
theorem a6V {α:Type} {lt:Nat→Nat→Bool} {c:Prop} [Decidable c] {x y:KasT α}:a0X lt (if c then x else y)=if c then a0X lt x else a0X lt y:=by split<;>rfl
structure c1x (lt:Nat→Nat→Bool) (n:Nat):Prop where
 irr:∀i,i < n→lt i i=false
 tr:∀i j k,i < n→j < n→k < n→lt i j=true→lt j k=true→lt i k=true
 tot:∀i j,i < n→j < n→i≠j→lt i j=true∨lt j i=true
def Asc (lt:Nat→Nat→Bool) (p:Array Nat) (m:Nat):Prop:=∀i j,i < j→j < m→lt (p.getD i 0) (p.getD j 0)=true
def Dsc (lt:Nat→Nat→Bool) (p:Array Nat) (m:Nat):Prop:=∀i j,i < j→j < m→lt (p.getD j 0) (p.getD i 0)=true
theorem a4X (p:Array Nat) (i:Nat):p.getD i 0=(p[i]?).getD 0:=by
 by_cases h:i < p.size<;>simp [Jv,h]
theorem a0B.size {n:Nat} {p:Array Nat} (h:a0B n p):p.size=n:=by
 have:=Ww.size_eq h;simpa using this
theorem a0B.inj {n:Nat} {p:Array Nat} (h:a0B n p) {i j:Nat} (hi:i < n) (hj:j < n) (e:i≠j):p.getD i 0≠p.getD j 0:=by
 have nd:p.toList.Nodup:=(h.list.nodup_iff).mpr Vx
 have hs:=h.size
 rw [List.nodup_iff_pairwise_ne,Vm] at nd
 have e1:p.getD i 0=p[i]'(by omega):=by simp [Jv,show i < p.size by omega]
 have e2:p.getD j 0=p[j]'(by omega):=by simp [Jv,show j < p.size by omega]
 rw [e1,e2]
 rcases Nat.lt_or_gt_of_ne e with q | q
 ·exact nd i j (by simpa using (by omega:i < p.size)) (by simpa using (by omega:j < p.size)) q
 ·exact Ne.symm (nd j i (by simpa using (by omega:j < p.size)) (by simpa using (by omega:i < p.size)) q)
section
variable {lt:Nat→Nat→Bool} {n:Nat} (L:c1x lt n) (hn:0 < n)
include L hn
theorem c1x.flip {p:Array Nat} (hp:a0B n p) {i j:Nat} (hi:i < n) (hj:j < n) (e:i≠j) (h:lt (p.getD i 0) (p.getD j 0)=false):lt (p.getD j 0) (p.getD i 0)=true:=by
 rcases L.tot _ _ (hp.lt hn i) (hp.lt hn j) (hp.inj hi hj e) with q | q
 ·rw [h] at q;cases q
 ·exact q
theorem Asc.more {p:Array Nat} (hp:a0B n p) {m:Nat} (hm:1≤m) (a:Asc lt p m) (h:lt (p.getD (m - 1) 0) (p.getD m 0)=true):Asc lt p (m+1):=fun i j hij hj=>by
 by_cases q:j < m
 ·exact a i j hij q
 ·obtain rfl:j=m:=by omega
  by_cases r:i=j - 1
  ·rw [r];exact h
  ·exact L.tr _ _ _ (hp.lt hn _) (hp.lt hn _) (hp.lt hn _) (a i (j - 1) (by omega) (by omega)) h
theorem Dsc.more {p:Array Nat} (hp:a0B n p) {m:Nat} (hm:1≤m) (a:Dsc lt p m) (h:lt (p.getD m 0) (p.getD (m - 1) 0)=true):Dsc lt p (m+1):=fun i j hij hj=>by
 by_cases q:j < m
 ·exact a i j hij q
 ·obtain rfl:j=m:=by omega
  by_cases r:i=j - 1
  ·rw [r];exact h
  ·exact L.tr _ _ _ (hp.lt hn _) (hp.lt hn _) (hp.lt hn _) h (a i (j - 1) (by omega) (by omega))
theorem a7p {p:Array Nat} (hp:a0B n p):∀f m,1≤m→m+f≤n→Asc lt p m→
  m≤a0X lt (kas_asc p f m)∧a0X lt (kas_asc p f m)≤m+f∧Asc lt p (a0X lt (kas_asc p f m))∧(a0X lt (kas_asc p f m) < m+f→lt (p.getD (a0X lt (kas_asc p f m)) 0) (p.getD (a0X lt (kas_asc p f m) - 1) 0)=true)
 | 0,m,h1,hf,a=>⟨Qk _,Qk _,a,fun z=>absurd z (Zq _)⟩
 | f+1,m,h1,hf,a=>by
  have e:a0X lt (kas_asc p (f+1) m)=if lt (p.getD m 0) (p.getD (m - 1) 0)=true then m else a0X lt (kas_asc p f (m+1)):=by
   show a0X lt (if lt (p.getD m 0) (p.getD (m - 1) 0)=true then .ret m else kas_asc p f (m+1))=_
   rw [a6V];rfl
  rw [e]
  by_cases c:lt (p.getD m 0) (p.getD (m - 1) 0)=true
  ·rw [if_pos c];exact ⟨Qk _,by omega,a,fun _=>c⟩
  ·rw [if_neg c]
   have a':Asc lt p (m+1):=Asc.more L hn hp h1 a (L.flip hn hp (by omega) (by omega) (by omega) (by simpa using c))
   obtain ⟨x1,x2,x3,x4⟩:=a7p hp f (m+1) (by omega) (by omega) a'
   exact ⟨by omega,by omega,x3,fun z=>x4 (by omega)⟩
theorem a8a {p:Array Nat} (hp:a0B n p):∀f m,1≤m→m+f≤n→Dsc lt p m→∃r,a0X lt (kas_desc f p m 0)=(p,r,0)∧m≤r∧r≤m+f∧Dsc lt p r
 | 0,m,h1,hf,a=>⟨m,rfl,Qk _,Qk _,a⟩
 | f+1,m,h1,hf,a=>by
  have e:a0X lt (kas_desc (f+1) p m 0)=if lt (p.getD m 0) (p.getD (m - 1) 0)=true then a0X lt (kas_desc f p (m+1) 0) else
    a0X lt (if lt (p.getD (m - 1) 0) (p.getD m 0)=true then KasT.ret (p,m,0) else kas_desc f p (m+1) (0+1)):=by
   show a0X lt (if lt (p.getD m 0) (p.getD (m - 1) 0)=true then (if 0 > 0 then _ else kas_desc f p (m+1) 0) else _)=_
   rw [a6V];rfl
  rw [e]
  by_cases c:lt (p.getD m 0) (p.getD (m - 1) 0)=true
  ·rw [if_pos c]
   obtain ⟨r,x1,x2,x3,x4⟩:=a8a hp f (m+1) (by omega) (by omega) (Dsc.more L hn hp h1 a c)
   exact ⟨r,x1,by omega,by omega,x4⟩
  ·rw [if_neg c,if_pos (L.flip hn hp (by omega) (by omega) (by omega) (by simpa using c))]
   exact ⟨m,rfl,Qk _,by omega,a⟩
omit L hn in
theorem a9E {p:Array Nat} {m:Nat} (hm:m≤p.size) {i:Nat} (hi:i < m):(kas_rev p 0 m).getD i 0=p.getD (m - 1 - i) 0:=by
 rw [a4X,a4X]
 unfold kas_rev
 rw [getElem?_mirror_all hm,if_pos ⟨Xe _,hi⟩]
 simp
theorem b1k {p:Array Nat} (hp:a0B n p) {m:Nat} (h1:1≤m) (hm:m≤n) (a:Dsc lt p m):
  a0B n (a0X lt (kas_tail3 m n p)).2∧m≤(a0X lt (kas_tail3 m n p)).1∧(a0X lt (kas_tail3 m n p)).1≤n∧Asc lt (a0X lt (kas_tail3 m n p)).2 (a0X lt (kas_tail3 m n p)).1:=by
 have hs:=hp.size
 have e:a0X lt (kas_tail3 m n p)=(a0X lt (kas_asc (kas_rev p 0 m) (n - m) m),kas_rev p 0 m):=by
  unfold kas_tail3;rw [a2e];rfl
 rw [e]
 have a':Asc lt (kas_rev p 0 m) m:=fun i j hij hj=>by
  rw [a9E (by omega) (by omega),a9E (by omega) hj]
  exact a _ _ (by omega) (by omega)
 obtain ⟨x1,x2,x3,_⟩:=a7p L hn (hp.rev 0 m) (n - m) m h1 (by omega) a'
 exact ⟨hp.rev 0 m,x1,by omega,x3⟩
theorem a6F {p:Array Nat} (hp:a0B n p) {m:Nat} (h1:1≤m) (hm:m+1≤n) (a:Dsc lt p (m+1)):
  a0B n (a0X lt (kas_descPart m n p)).2∧1≤(a0X lt (kas_descPart m n p)).1∧(a0X lt (kas_descPart m n p)).1≤n∧Asc lt (a0X lt (kas_descPart m n p)).2 (a0X lt (kas_descPart m n p)).1:=by
 obtain ⟨r,x1,x2,x3,x4⟩:=a8a L hn hp (n - (m+1)) (m+1) (by omega) (by omega) a
 have e:a0X lt (kas_descPart m n p)=a0X lt (kas_tail3 r n p):=by
  unfold kas_descPart;rw [a2e,x1];rfl
 rw [e]
 obtain ⟨y1,y2,y3,y4⟩:=b1k L hn hp (m:=r) (by omega) (by omega) x4
 exact ⟨y1,by omega,y3,y4⟩
theorem a9C {p:Array Nat} (hp:a0B n p):
  a0B n (a0X lt (kas_count n p)).2∧1≤(a0X lt (kas_count n p)).1∧(a0X lt (kas_count n p)).1≤n∧Asc lt (a0X lt (kas_count n p)).2 (a0X lt (kas_count n p)).1:=by
 obtain ⟨x1,x2,x3,x4⟩:=a7p L hn hp (n - 1) 1 (Qk _) (by omega) (fun i j hij hj=>by omega)
 unfold kas_count
 rw [a2e]
 generalize a0X lt (kas_asc p (n - 1) 1)=m at x1 x2 x3 x4 ⊢
 by_cases c:(m == n)=true
 ·rw [if_pos c];exact ⟨hp,x1,by have:=beq_iff_eq.mp c;show m≤n;omega,x3⟩
 ·have hmn:m≠n:=fun z=>c (beq_iff_eq.mpr z)
  rw [if_neg c]
  by_cases d:m > 1
  ·rw [if_pos d]
   show a0B n (a0X lt (if lt (p.getD 0 0) (p.getD (m - 1) 0)=true then .ret (m,p) else kas_descPart m n (kas_rev p 0 m))).2∧1≤(a0X lt (if lt (p.getD 0 0) (p.getD (m - 1) 0)=true then .ret (m,p) else kas_descPart m n (kas_rev p 0 m))).1∧(a0X lt (if lt (p.getD 0 0) (p.getD (m - 1) 0)=true then .ret (m,p) else kas_descPart m n (kas_rev p 0 m))).1≤n∧Asc lt (a0X lt (if lt (p.getD 0 0) (p.getD (m - 1) 0)=true then .ret (m,p) else kas_descPart m n (kas_rev p 0 m))).2 (a0X lt (if lt (p.getD 0 0) (p.getD (m - 1) 0)=true then .ret (m,p) else kas_descPart m n (kas_rev p 0 m))).1
   rw [if_pos (x3 0 (m - 1) (by omega) (by omega))]
   exact ⟨hp,x1,by show m≤n;omega,x3⟩
  ·rw [if_neg d]
   obtain rfl:m=1:=by omega
   exact a6F L hn hp (Qk _) (by omega) (fun i j hij hj=>by
    obtain rfl:j=1:=by omega
    obtain rfl:i=0:=by omega
    exact x4 (by omega))
theorem a4b {p:Array Nat} (hp:a0B n p) {k:Nat} (hk:k < n) (a:Asc lt p k):∀f l r,r - l≤f→l≤r→r≤k→(∀i,i < l→lt (p.getD i 0) (p.getD k 0)=true)→(∀i,r≤i→i < k→lt (p.getD k 0) (p.getD i 0)=true)→
  a0X lt (kas_place p k f l r)≤k∧(∀i,i < a0X lt (kas_place p k f l r)→lt (p.getD i 0) (p.getD k 0)=true)∧∀i,a0X lt (kas_place p k f l r)≤i→i < k→lt (p.getD k 0) (p.getD i 0)=true
 | 0,l,r,hf,hl,hr,h1,h2=>⟨by show l≤k;omega,h1,fun i x y=>h2 i (by have:l≤i:=x;omega) y⟩
 | f+1,l,r,hf,hl,hr,h1,h2=>by
  by_cases c:l≥r
  ·have e:a0X lt (kas_place p k (f+1) l r)=l:=by unfold kas_place;rw [if_pos c];rfl
   rw [e]
   exact ⟨by omega,h1,fun i x y=>h2 i (by omega) y⟩
  ·have e:a0X lt (kas_place p k (f+1) l r)=if lt (p.getD k 0) (p.getD ((l+r) / 2) 0)=true then a0X lt (kas_place p k f l ((l+r) / 2)) else a0X lt (kas_place p k f ((l+r) / 2+1) r):=by
    rw [kas_place,if_neg c]
    show a0X lt (if lt (p.getD k 0) (p.getD ((l+r) / 2) 0)=true then _ else _)=_
    rw [a6V]
   rw [e]
   by_cases d:lt (p.getD k 0) (p.getD ((l+r) / 2) 0)=true
   ·rw [if_pos d]
    refine a4b hp hk a f l ((l+r) / 2) (by omega) (by omega) (by omega) h1 fun i x y=>?_
    by_cases q:i=(l+r) / 2
    ·rw [q];exact d
    ·exact L.tr _ _ _ (hp.lt hn _) (hp.lt hn _) (hp.lt hn _) d (a _ _ (by omega) y)
   ·rw [if_neg d]
    have d':=L.flip hn hp (by omega) (by omega) (by omega) (show lt (p.getD k 0) (p.getD ((l+r) / 2) 0)=false by simpa using d)
    refine a4b hp hk a f ((l+r) / 2+1) r (by omega) (by omega) hr (fun i x=>?_) h2
    by_cases q:i=(l+r) / 2
    ·rw [q];exact d'
    ·exact L.tr _ _ _ (hp.lt hn _) (hp.lt hn _) (hp.lt hn _) (a _ _ (by omega) (by omega)) d'
omit L hn in
theorem b1Q {p:Array Nat} {k l:Nat} (hk:k < p.size) (hl:l≤k) (i:Nat):(bubble p k (k - l)).getD i 0=if i=l then p.getD k 0 else if l < i∧i≤k then p.getD (i - 1) 0 else p.getD i 0:=by
 rw [a4X,getElem?_bubble hk _ (by omega),show k - (k - l)=l by omega,a4X p k,a4X p (i - 1),a4X p i]
 by_cases h1:i=l
 ·rw [if_pos h1,if_pos h1]
 ·rw [if_neg h1,if_neg h1]
  by_cases h2:l < i∧i≤k
  ·rw [if_pos h2,if_pos h2]
  ·rw [if_neg h2,if_neg h2]
theorem b0h:∀f (p:Array Nat) k,a0B n p→1≤k→k+f≤n→Asc lt p k→a0B n (a0X lt (kas_bin f p k))∧Asc lt (a0X lt (kas_bin f p k)) (k+f)
 | 0,p,k,hp,_,_,a=>⟨hp,a⟩
 | f+1,p,k,hp,h1,hf,a=>by
  have e:a0X lt (kas_bin (f+1) p k)=a0X lt (kas_bin f (bubble p k (k - a0X lt (kas_place p k k 0 k))) (k+1)):=by
   rw [kas_bin,a2e]
  rw [e]
  obtain ⟨x1,x2,x3⟩:=a4b L hn hp (k:=k) (by omega) a k 0 k (by omega) (by omega) (Qk _) (fun i z=>by omega) (fun i z y=>by omega)
  generalize a0X lt (kas_place p k k 0 k)=l at x1 x2 x3 ⊢
  have hs:=hp.size
  have a':Asc lt (bubble p k (k - l)) (k+1):=fun i j hij hj=>by
   rw [b1Q (by omega) x1,b1Q (by omega) x1]
   by_cases i1:i=l
   ·rw [if_pos i1,if_neg (by omega),if_pos (by omega)]
    exact x3 _ (by omega) (by omega)
   ·rw [if_neg i1]
    by_cases i2:l < i∧i≤k
    ·rw [if_pos i2,if_neg (by omega),if_pos (by omega)]
     exact a _ _ (by omega) (by omega)
    ·rw [if_neg i2]
     by_cases j1:j=l
     ·rw [if_pos j1];exact x2 _ (by omega)
     ·rw [if_neg j1]
      by_cases j2:l < j∧j≤k
      ·rw [if_pos j2]
       by_cases q:i=j - 1
       ·omega
       ·exact a _ _ (by omega) (by omega)
      ·rw [if_neg j2];exact a _ _ hij (by omega)
  obtain ⟨y1,y2⟩:=b0h f _ (k+1) (hp.bub k (k - l)) (by omega) (by omega) a'
  exact ⟨y1,fun i j hij hj=>y2 i j hij (by omega)⟩
theorem a8s:Asc lt (a0X lt (kas_sort n)) n:=by
 unfold kas_sort
 rw [a2e]
 obtain ⟨x1,x2,x3,x4⟩:=a9C L hn (p:=Xv (Xu n)) (Ww.refl _)
 generalize a0X lt (kas_count n (Xv (Xu n)))=r at x1 x2 x3 x4 ⊢
 by_cases c:r.1 < n
 ·rw [if_pos c]
  have hm:max r.1 1=r.1:=by omega
  rw [hm]
  have:=(b0h L hn (n - r.1) r.2 r.1 x1 x2 (by omega) x4).2
  exact fun i j hij hj=>this i j hij (by omega)
 ·rw [if_neg c]
  exact fun i j hij hj=>x4 i j hij (by omega)
end
theorem b9G (a b:List Nat) (h:a≠b):a < b∨b < a:=by
 by_cases q:a < b
 ·exact .inl q
 ·have:=List.not_lt.mp q
  rcases List.le_iff_lt_or_eq.mp this with r | r
  ·exact .inr r
  ·exact absurd r.symm h
theorem b2b (x:Int×Str):ltP x x=false:=by simp [ltP]
theorem a7n (x y:Int×Str):ltP x y=true↔x.1 < y.1∨(x.1=y.1∧x.2.cps.toList < y.2.cps.toList):=by
 unfold ltP
 by_cases h1:x.1=y.1
 ·rw [if_pos h1]
  by_cases h2:x.2=y.2
  ·rw [if_pos h2,h2]
   constructor
   ·intro z;cases z
   ·intro z
    rcases z with z | ⟨_,z⟩
    ·omega
    ·exact absurd z (List.lt_irrefl _)
  ·rw [if_neg h2,decide_eq_true_iff]
   constructor
   ·exact fun z=>.inr ⟨h1,z⟩
   ·intro z
    rcases z with z | ⟨_,z⟩
    ·omega
    ·exact z
 ·rw [if_neg h1,decide_eq_true_iff]
  constructor
  ·exact .inl
  ·intro z
   rcases z with z | ⟨z,_⟩
   ·exact z
   ·exact absurd z h1
theorem b5q {x y z:Int×Str} (a:ltP x y=true) (b:ltP y z=true):ltP x z=true:=by
 rw [a7n] at a b ⊢
 rcases a with a | ⟨a,a'⟩<;>rcases b with b | ⟨b,b'⟩
 ·exact .inl (by omega)
 ·exact .inl (by omega)
 ·exact .inl (by omega)
 ·exact .inr ⟨by omega,List.lt_trans a' b'⟩
theorem a9B {x y:Int×Str} (h:x≠y):ltP x y=true∨ltP y x=true:=by
 rw [a7n,a7n]
 rcases Int.lt_trichotomy x.1 y.1 with q | q | q
 ·exact .inl (.inl q)
 ·have hn:x.2.cps.toList≠y.2.cps.toList:=fun z=>h (by
   obtain ⟨x1,⟨x2⟩⟩:=x
   obtain ⟨y1,⟨y2⟩⟩:=y
   have z':x2=y2:=Vv.mp z
   have q':x1=y1:=q
   rw [z',q'])
  rcases b9G _ _ hn with r | r
  ·exact .inl (.inr ⟨q,r⟩)
  ·exact .inr (.inr ⟨q.symm,r⟩)
 ·exact .inr (.inl q)
def a6q (K:Qd) (cv:Value):Option Addr:=
 match cv with
 | .ref c=>match K.lookup c with
  | some o=>match o.cls,o.data with
   | .type n,.fields vs=>match (vs[11]?:Option Value),vs.getD 18 .none,vs.getD 7 .none,vs.getD 9 .none,vs.getD 10 .none with
    | some (Value.ref P),Value.str _ _,Value.int _ _,Value.bool _,Value.int _ _=>if (n == "code" && c != P)=true then some P else none
    | _,_,_,_,_=>none
   | _,_=>none
  | none=>none
 | _=>none
theorem b1V {K:Qd} {h:Heap} {cv:Value} {T:Addr} (X:K.In h) (e:a6q K cv=some T):∃c,cv=.ref c∧CodeHd h c T:=by
 unfold a6q at e
 split at e
 ·rename_i c
  split at e
  ·rename_i o ho
   split at e
   ·rename_i n vs hcl hd
    split at e
    ·rename_i P file tf flags tg inF text tt e11 e18 e7 e9 e10
     split at e
     ·rename_i hc
      cases e
      rw [Xr] at hc
      have h1:n="code":=by simpa using hc.1
      have h2:c≠T:=by simpa using hc.2
      refine ⟨c,rfl,o,vs,_,_,_,_,_,_,_,X _ _ ho,by rw [hcl,h1],hd,e11,?_,e18,e7,e9,e10,h2⟩
      have e11':vs.getD 11 Value.none=(vs[11]?).getD Value.none:=by
       by_cases q:11 < vs.size<;>simp [Jv,q]
      rw [e11',e11];rfl
     ·cases e
    ·cases e
   ·cases e
  ·cases e
 ·cases e
def b8o (K:Qd) (bm:Addr):Bool:=bm != builtinsNs && (match K.lookup bm with
 | some o=>(match o.cls,o.dict,o.data with
  | .type t,some d,.plain=>t == "module" && d == builtinsNs
  | _,_,_=>false)
 | none=>false)
structure c1B (K:Qd) (mg:Str→Option Value):Prop where
 ex:∃bm o,mg "__builtins__"=some (.ref bm)∧bm≠builtinsNs∧K.lookup bm=some o∧o.cls=.type "module"∧o.dict=some builtinsNs∧o.data=.plain
theorem b5E {K:Qd} {mg:Str→Option Value} {bm:Addr} (e:mg "__builtins__"=some (.ref bm)) (h:b8o K bm=true):c1B K mg:=by
 unfold b8o at h
 rw [Xr] at h
 obtain ⟨h1,h2⟩:=h
 split at h2
 ·rename_i o ho
  split at h2
  ·rename_i t d e1 e2 e3
   rw [Xr] at h2
   exact ⟨bm,o,e,by simpa using h1,ho,by rw [e1];simpa using h2.1,by rw [e2];simpa using h2.2,e3⟩
  ·cases h2
 ·cases h2
def a2A (H:Hp) (q:Str) (cv:Value):Prop:=∃c' o vs t,cv=.ref c'∧H c'=some (.frz o (.own c'))∧o.data=.fields vs∧vs[1]?=some (.str q t)
def a3L (T:Addr) (q:Str) (H:Hp):Prop:=∃ps,H T=some (.tbl ps)∧TriplesOk ps.toList∧∀pos cv,codeAmong pos ps.toList=some cv→a2A H q cv
abbrev Ex (H H':Hp):Prop:=∀a o,H a=some o→H' a=some o
theorem a3L.start {T:Addr} {q:Str} {H:Hp} (h:H T=some (.tbl #[])):a3L T q H:=⟨#[],h,trivial,fun pos cv e=>by simp [codeAmong] at e⟩
theorem a2A.mono {q:Str} {cv:Value} {H H':Hp} (h:a2A H q cv) (k:Ex H H'):a2A H' q cv:=let ⟨c',o,vs,t,a,b,r⟩:=h;⟨c',o,vs,t,a,k _ _ b,r⟩
theorem a3L.mono {T:Addr} {q:Str} {H H':Hp} (h:a3L T q H) (k:Ex H H'):a3L T q H':=let ⟨ps,a,b,c⟩:=h;⟨ps,k _ _ a,b,fun pos cv e=>(c pos cv e).mono k⟩
theorem a5v {pos:Pos} {a b:Int} {c cv:Value}:∀(l:List Value),TriplesOk l→codeAmong pos (l++[rawInt a,rawInt b,c])=some cv→codeAmong pos l=some cv∨cv=c:=by
 intro l
 fun_induction TriplesOk l with
 | case1=>
  intro _ e
  right
  simp only [Uu,codeAmong,rawInt] at e
  split at e
  ·cases e;rfl
  ·cases e
 | case2 x t y u z a5Q ih=>
  intro h e
  simp only [Ju,codeAmong] at e ⊢
  split at e
  ·rename_i hc;rw [if_pos hc];exact .inl e
  ·rename_i hc;rw [if_neg hc];exact ih h e
 | case3 l h1 h2=>intro h _;exact h.elim
section
variable {X:Cx} {pins:List (Addr×Obj)} {σ:St} {H:Hp} {s:Shared}
structure b7B (X:Cx) (pins:List (Addr×Obj)) (a:Addr):Prop where
 s0:X.s₀.heap.objs.size≤a
 loc:a≠X.env.locals
 cell:∀x c,X.env.cells.lookup x=some c→c≠a
 pin:∀p∈X.pn++pins,p.1≠a
 fs:a∉X.fs
theorem Inv.mine (I:Inv X pins σ H s) {a:Addr} (h:s.heap.objs.size≤a):b7B X pins a:=
 ⟨Qi I.sz h,Jo (Xj I.lt h),fun x c e z=>by
  obtain ⟨v,q⟩:=I.cell x c e
  exact absurd (Xj q.lt h) (by rw [z];exact Zq _),fun p hp z=>by
  obtain ⟨e,_⟩:=I.pin p hp
  exact absurd (Xj (Qu e) h) (by rw [z];exact Zq _),I.nofs h⟩
theorem Inv.adopt {t':Nat} {a:Addr} {o:HO} {h':Heap} (I:Inv X pins σ H s) (hn:H a=none) (hm:b7B X pins a) (k:∀b u,b≠a→s.heap.get? b=some u→h'.get? b=some u)
  (new:a1g X.prog X.w (upd H a o) h' a o):Inv X pins σ (upd H a o) {s with heap:=h',toks:=t'}:=by
 have na:∀b u,H b=some u→b≠a:=fun b u e z=>by rw [z,hn] at e;cases e
 refine I.step (g':=s.gens) (d':=s.drawn) (ch:=[a]) (fun b hb=>?_) (fun b o _ _ hc e _=>k b o (fun z=>hc (by simp [z])) e) (fun b o _ _ hc e _=>⟨o.slots,k b o (fun z=>hc (by simp [z])) e⟩)
  (fun b _ hc _ n=>by rw [a0a (fun z=>hc (by simp [z]))];exact n) (fun b o hc e=>⟨o,k b o (fun z=>hc (by simp [z])) e⟩) (fun b _ e=>by rw [a0a (na b _ e)];exact e) (fun b _ _ e=>by rw [a0a (na b _ e)];exact e)
  (fun b ps e=>⟨#[],by rw [a0a (na b _ e),e];simp⟩) (fun m hm'=>?_) (fun b u e=>?_) I.bare
 ·have e:b=a:=by simpa using hb
  subst e
  exact ⟨.inr hm.s0,hm.loc,hm.cell,hm.pin⟩
 ·obtain ⟨ob,es,ep,ho,r⟩:=hm'
  exact ⟨ob,es,ep,k _ ob (Ne.symm hm.loc) ho,r⟩
 ·by_cases hb:b=a
  ·subst hb;rw [a0d] at e;cases e;exact new
  ·rw [a0a hb] at e
   refine (I.hok b u e).stay (fun c v hc q=>k c v ?_ q) (fun c q=>by rw [a0a (na c _ q)];exact q) fun c xs q=>by rw [a0a (na c _ q)];exact q
   rcases hc with z | z
   ·rw [z];exact hb
   ·exact na c _ z
theorem b3B {args:Arguments} {body:Expr} {scope:Scope} {pos:Pos} {Nc:List Str} {js:List (Option Nat)} {T:Addr} {q:Str} {Q:Value→Shared→Prop} (I:Inv X pins σ H s) (hcb:a6q X.K X.env.code=some T) (hbk:c1B X.K X.mg) (ok:a3y X Nc js scope)
  (hq:X.env.qual++"<lambda>"=q) (hdef:defaultsOf args X.env=([],[])) (lt:a3L T q H)
  (h:∀(f:Addr) (pm cv ctv:Value) (H':Hp) (s':Shared),Inv X pins σ H' s'→a3L T q H'→(∀a o,a≠T→H a=some o→H' a=some o)→a2A H' q cv→H' f=none→b7B X pins f→
   s'.heap.get? f=some {cls:=.type "function",data:=.func (kla_fn "<lambda>" q args body scope (a2r X.env scope.names []) pm cv ctv)}→Q (.ref f) s'):
  wpAny (model X.prog X.w) X.A (eval (.Lambda args body scope pos) X.env) Q X.xe s:=by
 obtain ⟨ps,hT,htr,hcs⟩:=lt
 obtain ⟨c,hcode,C⟩:=b1V I.kIn hcb
 have hP:s.heap.get? T=some (tabObj ps):=I.hok T _ hT
 have hTs:T < s.heap.objs.size:=Qu hP
 have hfr:∀y∈scope.names,y.2=NameKind.free→∃c,X.env.cells.lookup y.1=some c:=fun y hy e=>I.ok.has y.1 (ok.free y hy e)
 have hcl:=a1Q hfr
 have hg:s.heap.Ns mainGlobals X.mg:=I.ok.mod.glob.keeps I.bk
 obtain ⟨bm,ob,b1,b2,b3,b4,b5,b6⟩:=hbk.ex
 have hbo:=I.kIn _ _ b3
 have hgP:mainGlobals≠T:=fun z=>by
  obtain ⟨o,es,ep,e,hd,_⟩:=hg
  rw [z,hP] at e;cases e;cases hd
 have hbG:bm≠mainGlobals:=fun z=>by
  obtain ⟨o,es,ep,e,hd,_⟩:=hg
  rw [z,e] at hbo;cases hbo;rw [hd] at b6;cases b6
 have hbT:bm≠T:=fun z=>by rw [z,hP] at hbo;cases hbo;cases b4
 rw [arm_eval_Lambda,hdef]
 refine wpAny_bind (PyProof.Rows.evalAll_nil ?_)
 refine wpAny_bind (wpAny_holding (wpAny_pure ?_))
 rw [hq]
 cases hnf:codeAmong pos ps.toList with
 | none=>
  refine kla_makeFunction (mg:=X.mg) hcl I.ok.glob hg hcode C hP htr hnf hgP ⟨bm,ob,b1,b2,hbG,hbT,hbo,b4,b5,b6⟩ fun c' ctv h' tk hx hge hlt hrec htb=>?_
  obtain ⟨c₂,oc,vs,t,e2,hoc,hd,hv⟩:=hrec
  cases e2
  have hcn:H c'=none:=I.hok.fresh hge
  have hcT:c'≠T:=Jo (Xj hTs hge)
  have nT:∀b u,H b=some u→(∀ps,u≠.tbl ps)→b≠T:=fun b u e n z=>by rw [z,hT] at e;cases e;exact n _ rfl
  have nc:∀b u,H b=some u→b≠c':=fun b u e z=>by rw [z,hcn] at e;cases e
  have hk:∀b o,b≠T→s.heap.get? b=some o→(h'.push (kla_obj "<lambda>" q args body scope (a2r X.env scope.names []) ((X.mg "__name__").getD .none) c' ctv)).get? b=some o:=fun b o hb e=>Ql _ (hx b o hb e)
  have hTn:=Ql (kla_obj "<lambda>" q args body scope (a2r X.env scope.names []) ((X.mg "__name__").getD .none) c' ctv) htb
  have hHT:upd (upd H T (.tbl (ps++#[rawInt pos.line,rawInt pos.col,.ref c']))) c' (.frz oc (.own c')) T=some (.tbl (ps++#[rawInt pos.line,rawInt pos.col,.ref c'])):=by rw [a0a hcT.symm,a0d]
  have hHo:∀b,b≠T→b≠c'→upd (upd H T (.tbl (ps++#[rawInt pos.line,rawInt pos.col,.ref c']))) c' (.frz oc (.own c')) b=H b:=fun b n1 n2=>by rw [a0a n2,a0a n1]
  have hu:Un X.fs [] H (upd (upd H T (.tbl (ps++#[rawInt pos.line,rawInt pos.col,.ref c']))) c' (.frz oc (.own c'))) s.heap (h'.push (kla_obj "<lambda>" q args body scope (a2r X.env scope.names []) ((X.mg "__name__").getD .none) c' ctv)):=by
   have nN:∀b,H b=none→b≠T:=fun b n z=>by rw [z,hT] at n;cases n
   refine ⟨fun b o e n _ _=>hk b o (nN b n) e,fun b o e n _ _=>⟨o.slots,hk b o (nN b n) e⟩,fun b o e n _=>?_,fun b o e _=>?_,fun b xs e=>?_,fun b o u e=>?_,fun b ps' e=>?_⟩
   ·rw [hHo b (nN b n) (Xb (Xj (Qu e) hge))];exact n
   ·by_cases z:b=T
    ·rw [z];exact ⟨_,hTn⟩
    ·exact ⟨o,hk b o z e⟩
   ·rw [hHo b (nT b _ e fun _ z=>by cases z) (nc b _ e)];exact e
   ·rw [hHo b (nT b _ e fun _ z=>by cases z) (nc b _ e)];exact e
   ·by_cases z:b=T
    ·subst z;rw [hT] at e;cases e;exact ⟨_,hHT⟩
    ·exact ⟨#[],by rw [hHo b z (nc b _ e),e];simp⟩
  have hok':HOk X.prog X.w (upd (upd H T (.tbl (ps++#[rawInt pos.line,rawInt pos.col,.ref c']))) c' (.frz oc (.own c'))) (h'.push (kla_obj "<lambda>" q args body scope (a2r X.env scope.names []) ((X.mg "__name__").getD .none) c' ctv)):=fun b u e=>by
   by_cases z1:b=c'
   ·subst z1
    rw [a0d] at e;cases e
    exact ⟨Ql _ hoc,_,Ql _ hoc⟩
   ·by_cases z2:b=T
    ·subst z2;rw [hHT] at e;cases e;exact hTn
    ·rw [hHo b z2 z1] at e
     refine (I.hok b u e).stay (fun d v hd' r=>hk d v ?_ r) (fun d r=>by rw [hHo d (nT d _ r fun _ z=>by cases z) (nc d _ r)];exact r) fun d xs r=>by rw [hHo d (nT d _ r fun _ z=>by cases z) (nc d _ r)];exact r
     rcases hd' with z | z
     ·rw [z];exact z2
     ·exact nT d _ z fun _ y=>by cases y
  have I':=I.un (t':=tk) hu hok'
  have hex:∀a o,a≠T→H a=some o→upd (upd H T (.tbl (ps++#[rawInt pos.line,rawInt pos.col,.ref c']))) c' (.frz oc (.own c')) a=some o:=fun a o n e=>by rw [hHo a n (nc a o e)];exact e
  have hcd:a2A (upd (upd H T (.tbl (ps++#[rawInt pos.line,rawInt pos.col,.ref c']))) c' (.frz oc (.own c'))) q (.ref c'):=⟨c',oc,vs,t,rfl,a0d,hd,hv⟩
  have hfs:s.heap.objs.size≤h'.objs.size:=Qi hge (Vo hlt)
  have hl:(ps++#[rawInt pos.line,rawInt pos.col,Value.ref c']).toList=ps.toList++[rawInt pos.line,rawInt pos.col,.ref c']:=by simp
  refine h h'.objs.size _ (.ref c') ctv _ _ I' ⟨_,hHT,by rw [hl];exact TriplesOk_snoc _ _ _ _ htr,fun p' cv e=>?_⟩ hex hcd ?_ (I.mine hfs) (Xf _ rfl)
  ·rw [hl] at e
   rcases a5v _ htr e with z | z
   ·obtain ⟨d,o,vs',t',z1,z2,z3⟩:=hcs p' cv z
    exact ⟨d,o,vs',t',z1,by rw [hHo d (nT d _ z2 fun _ y=>by cases y) (nc d _ z2)];exact z2,z3⟩
   ·rw [z];exact hcd
  ·rw [hHo _ (Jo (Xj hTs hfs)) (Jo hlt)];exact I.hok.fresh hfs
 | some cv=>
  refine kla_makeFunctionHit (mg:=X.mg) hcl I.ok.glob hg hcode C hP htr hnf ⟨bm,ob,b1,b2,hbG,hbT,hbo,b4,b5,b6⟩ fun ctv h' tk hk hsz=>?_
  exact h h'.objs.size _ cv ctv H _ (I.kept (t':=tk) fun b o e=>Ql _ (hk b o e)) ⟨ps,hT,htr,hcs⟩ (fun a o _ e=>e) (hcs pos cv hnf) (I.hok.fresh hsz) (I.mine hsz) (Xf _ rfl)
def a5U (X:Cx) (Nc:List Str) (scope:Scope) (q:Str) (f:Addr) (cv:Value) (cl:List (Str×Addr)) (A:Around) (s:Shared) (H:Hp):Cx where
 prog:=X.prog
 w:=X.w
 K:=X.K
 mg:=X.mg
 base:=X.base
 A:=A.deeper (newEnv scope s.heap.objs.size mainGlobals cl (q++".<locals>.") (some f) cv none builtinsNs)
 N:=Nc
 s₀:=s
 H₀:=H
 env:=newEnv scope s.heap.objs.size mainGlobals cl (q++".<locals>.") (some f) cv none builtinsNs
 outer:=X.stack
 stack:=newEnv scope s.heap.objs.size mainGlobals cl (q++".<locals>.") (some f) cv none builtinsNs::X.stack
 ex:=[]
 fn:=fun _=>false
 calm:=true
 pn:=[]
 xe:=NoE
theorem b3V {A:Around} {f:Addr} {pm cv ctv:Value} {q:Str} {args:Arguments} {body:Expr} {scope:Scope} {x:Str} {Nr:List Str} {js:List (Option Nat)} {v:V} {u:Value} {tb:TE} {Q:VK} {E:Value→Shared→Prop} {k:Nat}
  (I:Inv X pins σ H s) (hr:a2u k A) (hA:A.frames=some X.stack) (ok:a3y X (x::Nr) (none::js) scope) (hx:scope.names.lookup x=some .local) (hco:scope.isCoroutine=false) (hgen:scope.isGenerator=false)
  (hb:∀(q:Str) (cl:List (Str×Addr)) (pm cv ctv u:Value),bindArgs (kla_fn "<lambda>" q args body scope cl pm cv ctv) ⟨[u],[]⟩=pure [(x,u)])
  (ho:s.heap.get? f=some {cls:=.type "function",data:=.func (kla_fn "<lambda>" q args body scope (a2r X.env scope.names []) pm cv ctv)}) (hc:a2A H q cv) (rv:a0P v u)
  (he:PE (a5U X (x::Nr) scope q f cv (a2r X.env scope.names []) A s H) body tb) (h:tb (some v::a1G js σ) H Q):
  wpAny (model X.prog X.w) A (call (.ref f) [u]) (EP X pins σ Q) E s:=by
 have hfr:∀y∈scope.names,y.2=NameKind.free→∃c,X.env.cells.lookup y.1=some c:=fun y hy e=>I.ok.has y.1 (ok.free y hy e)
 have hlook:∀x c,(a2r X.env scope.names []).lookup x=some c→X.env.cells.lookup x=some c:=fun x c e=>a3W hfr (fun y d q=>by simp at q) e
 obtain ⟨c',oc,vs,t,rfl,hcc,hd,hv⟩:=hc
 have hrec:s.heap.CodeRec (.ref c') q:=⟨c',oc,vs,t,rfl,(I.hok c' _ hcc).1,hd,hv⟩
 refine wpAny_call (kla_callFunE hr.depth ho rfl hco hgen rfl hrec ?_)
 rw [hb]
 refine wpAny_pure ?_
 refine wpAny_newFunctionEnv ok.nocell (fun y hy=>by rw [Xa.mp hy];exact hx) (fun h₁ hns hsb=>?_) ok.kind
 have old:∀b o,s.heap.get? b=some o→h₁.get? b=some o:=fun b o e=>hsb.extBut b o (Xb (Qu e)) (Ql _ e)
 refine ⟨I.nolimit.keeps old,kla_codeExpr ?_⟩
 have okc:(a5U X (x::Nr) scope q f (.ref c') (a2r X.env scope.names []) A s H).Ok:=by
  have noA:∀b:Addr,b∉(a5U X (x::Nr) scope q f (.ref c') (a2r X.env scope.names []) A s H).ex:=fun b z=>absurd (show b∈([]:List Addr) from z) (by simp)
  refine ⟨I.ok.mod,ok.kind,rfl,rfl,Qk _,fun y z c e1 e2=>I.ok.inj y z c (hlook y c e1) (hlook z c e2),fun y hy=>?_,fun y c z _=>absurd z Qo,fun _=>hr.hd,Around.frames_deeper hA,.inr ⟨rfl,rfl⟩,fun b z=>absurd z (noA b),
   I.bs,Qi I.ok.bsz I.sz,fun b _ _=>noA b,fun b z=>absurd z (noA b),I.stack,I.stkFree⟩
  have hy':scope.names.lookup y=some .cell∨scope.names.lookup y=some .free:=hy
  rcases hy' with z | z
  ·exact absurd rfl (ok.nocell _ (PySem.mem_of_lookup z))
  ·exact a3i (.inl (PySem.mem_of_lookup z))
 have Ic:Inv (a5U X (x::Nr) scope q f (.ref c') (a2r X.env scope.names []) A s H) [] (some v::a1G js σ) H {s with heap:=h₁,toks:=s.toks+[(x,u)].length}:=by
  refine ⟨okc,rfl,I.bare,Un.kept old,⟨_,hns,fun i y z e1 e2 e3=>?_⟩,fun y c e=>?_,I.hok.fresh (Qk _),fun y c e=>I.freeC y c (hlook y c e),fun p hp=>absurd (show p∈([]:List (Addr×Obj)) from hp) (by simp),I.hok.kept old,?_⟩
  ·cases i with
   | zero=>
    have e1':x=y:=by simpa [a5U] using e1
    have e2':v=z:=by simpa using e2
    subst e1';subst e2'
    exact ⟨u,rv,.inl ⟨hx,by simp⟩⟩
   | succ i=>
    have e1':(x::Nr)[i+1]?=some y:=e1
    rw [Qb] at e2
    unfold a1G at e2
    rw [Qm] at e2
    cases ej:js[i]? with
    | none=>rw [ej] at e2;simp at e2
    | some oj=>
     rw [ej] at e2
     cases oj with
     | none=>simp at e2
     | some j=>
      have e2':(σ[j]?).getD none=some z:=by simpa using e2
      have e2'':σ[j]?=some (some z):=by
       cases q:σ[j]? with
       | none=>rw [q] at e2';simp at e2'
       | some z'=>rw [q] at e2';simp at e2';rw [e2']
      obtain ⟨hN,hF⟩:=ok.map (i+1) y j e1' (by rw [Qb];exact ej)
      have hmem:(y,NameKind.free)∈scope.names:=PySem.mem_of_lookup hF
      have hkX:=ok.free _ hmem rfl
      obtain ⟨m,hn,hl⟩:=I.loc
      have hvis:Vis X.env.scope y:=by
       rcases hkX with z | z
       ·exact .inr (.inl z)
       ·exact .inr (.inr z)
      obtain ⟨u',ru,lk⟩:=hl j y z hN e2'' hvis
      refine ⟨u',ru,.inr ?_⟩
      rcases lk with ⟨k1,_⟩ | ⟨_,c,ec,ic⟩
      ·have k1':X.env.kindOf y=some NameKind.local:=k1
       rcases hkX with z | z
       ·rw [z] at k1';cases k1'
       ·rw [z] at k1';cases k1'
      ·obtain ⟨c2,hc2⟩:=a3i (env:=X.env) (l:=scope.names) (cs:=[]) (x:=y) (.inl hmem)
       have e':=hlook y c2 hc2
       rw [ec] at e'
       cases e'
       exact ⟨.inr hF,c,hc2,ic.keeps old⟩
  ·obtain ⟨z,r⟩:=I.cell y c (hlook y c e)
   exact ⟨z,r.keeps old⟩
  ·show (some v::a1G js σ).length=(x::Nr).length
   have:=ok.len
   unfold a1G
   rw [Qr,Qe]
   simpa using this
 refine wpAny_mono (he [] _ _ H Q Ic h) (fun u' s' hs=>?_) fun e s' hs=>hs.elim
 obtain ⟨v',H',J,rv',hq⟩:=hs
 exact ⟨v',H',I.call' (ch:=[]) J.os J.base J.hok J.bare (fun b z=>absurd z (by simp)),rv',hq⟩
end
theorem a4M:∀{ps:List Addr} {its:List Value},a0L (ps.map V.ref) its→its=ps.map Value.ref
 | [],_,.nil=>rfl
 | p::ps,_,.cons h r=>by
  have e:_=Value.ref p:=h
  rw [e,a4M r];rfl
theorem a6m:∀(ps:List Addr),a0L (ps.map V.ref) (ps.map Value.ref)
 | []=>.nil
 | p::ps=>.cons rfl (a6m ps)
theorem a3F {ss:List Str} {i:Nat} {z:Str} (e:ss[i]?=some z):ss.getD i ""=z:=by rw [Xh,e];rfl
theorem a9b (ss:List Str):(Xu ss.length).map (fun i=>ss.getD i "")=ss:=by
 refine Jf (by simp) fun i h1 h2=>?_
 simp [h2]
def ltG (g:Str→Int) (x y:Str):Bool:=ltP (g x,x) (g y,y)
theorem b8C {ss:List Str} (g:Str→Int) (nd:ss.Nodup):c1x (fun i j=>ltG g (ss.getD i "") (ss.getD j "")) ss.length where
 irr:=fun i _=>b2b _
 tr:=fun i j k _ _ _ a b=>b5q a b
 tot:=fun i j hi hj e=>by
  refine a9B fun z=>?_
  have z2:ss.getD i ""=ss.getD j "":=congrArg Prod.snd z
  rw [a3F (Qc hi),a3F (Qc hj)] at z2
  exact e ((Jd nd).mp z2)
theorem a7X {lt:Nat→Nat→Bool} {p:Array Nat} {n:Nat} (hs:p.size=n) (a:Asc lt p n):p.toList.Pairwise (fun i j=>lt i j=true):=by
 rw [Vm]
 intro i j hi hj hij
 have hi':i < p.size:=by simpa using hi
 have hj':j < p.size:=by simpa using hj
 have:=a i j hij (by omega)
 have e1:p.getD i 0=p[i]:=by simp [Jv,hi']
 have e2:p.getD j 0=p[j]:=by simp [Jv,hj']
 rw [e1,e2] at this
 simpa using this
section
variable {X:Cx} {pins:List (Addr×Obj)} {σ:St} {H:Hp} {s:Shared} {A:Around} {E:Value→Shared→Prop} {a kS:Addr} {e1:Nat} {P:PySem.Fin→Shared→Prop}
theorem a4Y {st:SortSt} {out:List Value} {ss':List Str} {xs:List V} (I:Inv X ((a,seqObj "list" #[] e1)::pins) σ H s) (hm:b7B X pins a) (hk:H kS=some (.lst xs)) (hxs:xs.length < 64)
  (hf:failedOf st=none) (ho:(arrOf st).map (·.2)=Xv out) (rv:a0L (ss'.map V.str) out) (h64:ss'.length < 64)
  (h:∀H' s',Inv X pins σ H' s'→H' a=some (.lst (ss'.map V.str))→(∀b o,b≠kS→H b=some o→H' b=some o)→P (.done (.ret .none)) s'):
  wpAny (model X.prog X.w) A (ksk_tail a false e1 (.ref kS) st) P E s:=by
 obtain ⟨_,its,n,rk,hko⟩:=I.hok kS _ hk
 have hpa:=I.pin (a,seqObj "list" #[] e1) (Xc _ Qs)
 have hka:kS≠a:=fun z=>by rw [z,hpa.2.1] at hk;cases hk
 have hil:=rk.length
 have hol:out.length=ss'.length:=by have:=rv.length;simpa using this.symm
 obtain ⟨e2,hk2⟩:∃e2,(s.heap.update kS (Obj.mapSeq fun _=>(#[]:Array Value))).get? kS=some (seqObj "list" #[] e2):=⟨_,get?_update_seq hko fun _=>#[]⟩
 have I1:=I.write (x:=kS) (e:=kS) (o:=.lst []) (t':=s.toks) (h':=s.heap.update kS (Obj.mapSeq fun _=>(#[]:Array Value))) (by rw [hk];trivial) (.inl rfl) (fun b u hb e=>by rw [Zf _ _ _ _ hb];exact e) ⟨_,hk2⟩ ⟨Xe _,[],e2,.nil,hk2⟩
 have hpa1:=I1.pin (a,seqObj "list" #[] e1) (Xc _ Qs)
 obtain ⟨e3,ha3⟩:∃e3,((s.heap.update kS (Obj.mapSeq fun _=>(#[]:Array Value))).update a (Obj.mapSeq fun _=>Xv out)).get? a=some (seqObj "list" (Xv out) e3):=⟨_,get?_update_seq hpa1.1 fun _=>Xv out⟩
 have I2:=(I1.pins_of (pins':=pins) (fun p hp=>I1.pin p (Xc _ (Qt _ hp)))).adopt (a:=a) (o:=.lst (ss'.map V.str)) (t':=s.toks) (h':=(s.heap.update kS (Obj.mapSeq fun _=>(#[]:Array Value))).update a (Obj.mapSeq fun _=>Xv out)) hpa1.2.1 hm
  (fun b u hb e=>by rw [Zf _ _ _ _ hb];exact e) ⟨by rw [Qe,sizeLine_eq];omega,out,e3,rv,ha3⟩
 unfold ksk_tail
 simp only [Yz,if_false,ho]
 refine wpAny_bind (listUpdate_at hko rfl ?_ (by rw [Qv,sizeLine_eq];omega) (Xe _))
 refine wpAny_bind (wpAny_letGo ?_)
 refine wpAny_bind (seqEpoch_at hpa1.1 rfl ?_)
 refine wpAny_bind (listUpdate_at hpa1.1 rfl ?_ (Xe _) (by rw [Qv,sizeLine_eq];omega))
 rw [hf]
 simp only [bne_self_eq_false,Yz,if_false]
 refine wpAny_pure (h _ _ I2 a0d fun b o hb e=>?_)
 rw [a0a (fun z=>by rw [z,hpa.2.1] at e;cases e),a0a hb]
 exact e
theorem b0V {ps:List Addr} {its:List Value} {ss:List Str} {g:Str→Int} (I:Inv X ((a,seqObj "list" #[] e1)::pins) σ H s) (hm:b7B X pins a) (hk:H kS=some (.lst (ps.map V.ref))) (hl:ps.length=ss.length) (h64:ss.length < 64) (nd:ss.Nodup)
  (rv:a0L (ss.map V.str) its) (hp:∀(j:Nat) z p,ss[j]?=some z→ps[j]?=some p→H p=some (.tup [.int (g z),.str z]))
  (h:∀(H':Hp) (s':Shared) (ss':List Str),Inv X pins σ H' s'→H' a=some (.lst (ss'.map V.str))→(∀b o,b≠kS→H b=some o→H' b=some o)→ss'.Perm ss→ss'.Pairwise (fun x y=>ltG g x y=true)→P (.done (.ret .none)) s'):
  wpAny (model X.prog X.w) A (ksk_end a false its.toArray e1 (.ref kS) (Xv (ps.map Value.ref))) P E s:=by
 have hn:its.length=ss.length:=by have:=rv.length;simpa using this.symm
 have hkl:(ps.map Value.ref).length=its.length:=by rw [Qe];omega
 unfold ksk_end
 simp only [Yz,if_false]
 by_cases h2:its.toArray.size < 2
 ·rw [if_pos h2,if_pos h2]
  refine wpAny_bind (wpAny_pure ?_)
  rw [StateT.run_pure]
  refine wpAny_bind (wpAny_pure ?_)
  dsimp only
  rw [Qv] at h2
  have hz:(arrOf (SortSt.mk' general' ((Xv (ps.map Value.ref)).zip its.toArray) #[] 7 none)).map (·.2)=Xv its:=by
   show ((Xv (ps.map Value.ref)).zip its.toArray).map (·.2)=Xv its
   apply Vv.mp
   simp only [Array.toList_map,Array.toList_zip]
   exact Vw (by omega)
  refine a4Y (out:=its) (ss':=ss) I hm hk (by rw [Qe];omega) rfl hz rv h64 fun H' s' i1 i2 i3=>h H' s' ss i1 i2 i3 (List.Perm.refl _) ?_
  match ss,(show ss.length < 2 by omega) with
  | [],_=>exact Wz.nil
  | [z],_=>simp
  | _::_::_,q=>exact absurd q (by simp)
 ·rw [if_neg h2,if_neg h2]
  rw [Qv] at h2
  have h2':2≤its.length:=by omega
  have hget:∀i,i < its.length→∃z p,ss[i]?=some z∧ps[i]?=some p∧H p=some (.tup [.int (g z),.str z]):=fun i hi=>by
   have e1:=Qc (show i < ss.length by omega)
   have e2:=Qc (show i < ps.length by omega)
   exact ⟨_,_,e1,e2,hp i _ _ e1 e2⟩
  have hat:∀i,i < its.length→∃b o n t t',(ps.map Value.ref).getD i Value.none=.ref b∧s.heap.get? b=some o∧o.data=.seq #[.int (g (ss.getD i "")) t,.str (ss.getD i "") t'] n:=fun i hi=>by
   obtain ⟨z,p,e1,e2,e3⟩:=hget i hi
   obtain ⟨o,n,t,t',f1,f2,f3⟩:=b0i (I.hok _ _ e3)
   rw [a3F e1]
   exact ⟨p,o,n,t,t',by rw [Xh,Qm,e2];rfl,f1,f3⟩
  obtain ⟨fs,g1,g2,g3⟩:=a6N (h':=s.heap) (fun b o e=>I.hok b o e) (fun _ _ e=>e) (a6m ps) (fun v hv=>by
   obtain ⟨p,hp1,rfl⟩:=Qf.mp hv
   obtain ⟨i,hi,rfl⟩:=Zg hp1
   obtain ⟨z,p,e1,e2,e3⟩:=hget i (by omega)
   rw [Qc hi] at e2
   cases e2
   exact ⟨_,_,_,rfl,e3⟩)
  refine wpAny_bind (kat_kind (T:=.type "int") g1 (by omega) (fun v hv=>by obtain ⟨i,t,rfl⟩:=g3 v hv;exact .now) (by decide) ?_)
  have hok:=b1l (n:=its.length) (by omega)
  have L:=b8C g nd
  rw [←hn] at L
  refine wpAny_bind (wpAny_mono (kat_run (ks:=ps.map Value.ref) (vs:=its) (κ:=tuples' true) (Q:=fun st' s'=>∃p:Array Nat,p.size=its.length∧arrOf st'=p.map (kas_item ((ps.map Value.ref).toArray.zip its.toArray))∧failedOf st'=none∧p=a0X (fun i j=>ltG g (ss.getD i "") (ss.getD j "")) (kas_sort its.length)∧s'=s)
   (G:=fun p s'=>p=a0X (fun i j=>ltG g (ss.getD i "") (ss.getD j "")) (kas_sort its.length)∧s'=s)
   hkl h2' (by omega) (fun p' st' s' a1 a2 a3 a4=>⟨p',a1,a2,a3,a4.1,a4.2⟩) (TOk.wp (lt:=fun i j=>ltG g (ss.getD i "") (ss.getD j "")) (fun i j C hi hj hC=>?ask) hok ⟨rfl,rfl⟩)) ?_ fun _ _ e=>e)
  case ask=>
   obtain ⟨b,oa,na,ta,ta',ea,ha,da⟩:=hat i hi
   obtain ⟨c,ob,nb,tb,tb',eb,hb,db⟩:=hat j hj
   unfold kas_ask
   rw [ea,eb]
   refine kat_lt ha da hb db ?_
   have hC':C (ltP (g (ss.getD i ""),ss.getD i "") (g (ss.getD j ""),ss.getD j "")) s:=hC
   generalize hx:(g (ss.getD i ""),ss.getD i "")=x at hC'
   generalize hy:(g (ss.getD j ""),ss.getD j "")=y at hC'
   have hx1:g (ss.getD i "")=x.1:=by rw [←hx]
   have hx2:ss.getD i ""=x.2:=by rw [←hx]
   have hy1:g (ss.getD j "")=y.1:=by rw [←hy]
   have hy2:ss.getD j ""=y.2:=by rw [←hy]
   unfold ltP at hC'
   show KatLex _ _ _ _ _ _ [(.int (g (ss.getD i "")) ta,.int (g (ss.getD j "")) tb),(.str (ss.getD i "") ta',.str (ss.getD j "") tb')] 0 _
   rw [hx1,hy1,hx2,hy2]
   refine kat_cons (wpAny_eqBool_int ?_)
   by_cases h1:x.1=y.1
   ·rw [show (x.1 == y.1)=true from by rw [h1];exact beq_self_eq_true _]
    rw [if_pos h1] at hC'
    refine kat_yes (kat_cons (wpAny_eqBool_str ?_))
    by_cases h2:x.2=y.2
    ·rw [decide_eq_true h2]
     rw [if_pos h2] at hC'
     exact kat_yes (kat_nil (by simpa using hC'))
    ·rw [decide_eq_false h2]
     rw [if_neg h2] at hC'
     refine kat_no ?_
     show wpAny _ _ (oneLt' (true && (0+1) == 0) _ _) _ _ _
     rw [show (true && (0+1) == 0)=false from rfl]
     exact kat_one _ _ (PySem.P.lt_str hC')
   ·rw [show (x.1 == y.1)=false from beq_eq_false_iff_ne.mpr h1]
    rw [if_neg h1] at hC'
    refine kat_no ?_
    exact oneLt_int hC'
  rintro ⟨⟨⟩,st'⟩ s' ⟨p,hpz,har,hf,hpe,rfl⟩
  dsimp only
  have hP:a0B its.length p:=by rw [hpe];exact hok.run
  have hA:=a8s L (by omega)
  rw [←hpe] at hA
  have hpl:∀i∈p.toList,i < ss.length:=fun i hi=>by
   have:=hP.list.mem_iff.mp hi
   rw [Zs] at this;omega
  have hv:=a3d rv p.toList (fun i hi=>by rw [Qe];exact hpl i hi)
  have hem:(p.toList.map fun i=>(ss.map V.str).getD i .non)=(p.toList.map fun i=>ss.getD i "").map V.str:=by
   rw [Xo]
   refine Uy fun i hi=>?_
   have e:=Qc (hpl i hi)
   show (ss.map V.str).getD i .non=V.str (ss.getD i "")
   rw [a3F e,Xh,Qm,e];rfl
  rw [hem] at hv
  have hplen:p.toList.length=ss.length:=by rw [hP.list.length_eq,Zc];exact hn
  refine a4Y (out:=p.toList.map fun i=>its.getD i Value.none) (ss':=p.toList.map fun i=>ss.getD i "") I hm hk (by rw [Qe];omega) hf (kat_snds hkl har) hv (by rw [Qe];omega) fun H' s' i1 i2 i3=>h H' s' _ i1 i2 i3 ?_ ?_
  ·have h1:=hP.list.map fun i=>ss.getD i ""
   rw [hn,a9b] at h1
   exact h1
  ·rw [Ui]
   exact a7X hpz hA
theorem a8F {f:Addr} {pm cv ctv:Value} {q:Str} {args:Arguments} {body:Expr} {scope:Scope} {x:Str} {Nr:List Str} {js:List (Option Nat)} {tb:TE} {k:Nat} {its:List Value} {n:Nat} {ss:List Str} {g:Str→Int}
  (I:Inv X pins σ H s) (hr:a2u k A) (hA:A.frames=some X.stack) (ok:a3y X (x::Nr) (none::js) scope) (hx:scope.names.lookup x=some .local) (hco:scope.isCoroutine=false) (hgen:scope.isGenerator=false)
  (hb:∀(q:Str) (cl:List (Str×Addr)) (pm cv ctv u:Value),bindArgs (kla_fn "<lambda>" q args body scope cl pm cv ctv) ⟨[u],[]⟩=pure [(x,u)])
  (hf:(f,({cls:=.type "function",data:=.func (kla_fn "<lambda>" q args body scope (a2r X.env scope.names []) pm cv ctv)}:Obj))∈pins) (hc:a2A H q cv)
  (he:∀s H,PE (a5U X (x::Nr) scope q f cv (a2r X.env scope.names []) A s H) body tb)
  (ha:s.heap.get? a=some (seqObj "list" its.toArray n)) (hna:H a=none) (hm:b7B X pins a) (rv:a0L (ss.map V.str) its) (h64:ss.length < 64) (nd:ss.Nodup)
  (hask:∀z∈ss,∀H2,Ex H H2→tb (some (.str z)::a1G js σ) H2 fun v H3=>∃p,v=.ref p∧H3 p=some (.tup [.int (g z),.str z])∧Ex H2 H3)
  (h:∀(H':Hp) (s':Shared) (ss':List Str),Inv X pins σ H' s'→H' a=some (.lst (ss'.map V.str))→Ex H H'→ss'.Perm ss→ss'.Pairwise (fun x y=>ltG g x y=true)→P (.done (.ret .none)) s'):
  wpAny (model X.prog X.w) A (ksk_tree a (.ref f) false) P E s:=by
 have hn:its.length=ss.length:=by have:=rv.length;simpa using this.symm
 obtain ⟨e1,ho1⟩:∃e1,(s.heap.update a (Obj.mapSeq fun _=>(#[]:Array Value))).get? a=some (seqObj "list" #[] e1):=⟨_,get?_update_seq ha fun _=>#[]⟩
 have I1:Inv X pins σ H {s with heap:=s.heap.update a (Obj.mapSeq fun _=>(#[]:Array Value)),toks:=s.toks}:=
  I.turned (fun b o hb e=>by rw [Zf _ _ _ _ hb];exact e) hna hm.loc (.inr hm.s0) hm.cell hm.pin
 have I2:=I1.kept (t':=s.toks) (h':=(s.heap.update a (Obj.mapSeq fun _=>(#[]:Array Value))).push {cls:=.type "tuple",data:=.seq its.toArray.toList.toArray}) fun b o e=>Ql _ e
 have hS:=I2.hok.fresh (Qk _)
 have I3:=I2.laid (t':=s.toks) (a:=((s.heap.update a (Obj.mapSeq fun _=>(#[]:Array Value))).push {cls:=.type "tuple",data:=.seq its.toArray.toList.toArray}).objs.size) (o:=.lst [])
  (h':=((s.heap.update a (Obj.mapSeq fun _=>(#[]:Array Value))).push {cls:=.type "tuple",data:=.seq its.toArray.toList.toArray}).push {cls:=.type "list",data:=.seq ([]:List Value).toArray}) (fun b o e=>Ql _ e) (Qk _)
  ⟨Xe _,[],0,.nil,Xf _ rfl⟩
 have ho3:=Ql ({cls:=.type "list",data:=.seq ([]:List Value).toArray}:Obj) (Ql ({cls:=.type "tuple",data:=.seq its.toArray.toList.toArray}:Obj) ho1)
 generalize hkS:((s.heap.update a (Obj.mapSeq fun _=>(#[]:Array Value))).push {cls:=.type "tuple",data:=.seq its.toArray.toList.toArray}).objs.size=kS at I3 hS
 have hka:a≠kS:=by rw [←hkS];exact Xb (Qu (Ql _ ho1))
 have hSn:H kS=none:=hS
 have I4:=I3.pins_of (pins':=(a,seqObj "list" #[] e1)::pins) (fun p hp=>by
  rcases Qy.mp hp with z | z
  ·subst z
   exact ⟨ho3,by rw [a0a hka];exact hna,hm.loc,hm.fs,fun v z=>by cases z⟩
  ·exact I3.pin p (Xc _ z))
 have ex4:Ex H (upd H kS (.lst [])):=fun b o e=>by rw [a0a (fun z=>by rw [z,hSn] at e;cases e)];exact e
 unfold ksk_tree
 refine wpAny_bind (listItems_at ha rfl ?_)
 refine wpAny_bind (listUpdate_at ha rfl ?_ (by rw [Qv,sizeLine_eq];omega) (Xe _))
 refine wpAny_bind (seqEpoch_at ho1 rfl ?_)
 refine wpAny_bind (wpAny_newTuple ?_ (by show its.length≤_;rw [sizeLine_eq];omega))
 refine wpAny_bind (wpAny_newList ?_ (Xe _))
 refine wpAny_holding ?_
 show wpAny (model X.prog X.w) A (ksk_rest a (.ref f) false its.toArray e1 (.ref ((s.heap.update a (Obj.mapSeq fun _=>(#[]:Array Value))).push {cls:=.type "tuple",data:=.seq its.toArray.toList.toArray}).objs.size)) P E _
 rw [hkS]
 unfold ksk_rest
 refine wpAny_bind (wpAny_rule ?_)
 rw [List.forIn_toArray]
 refine wpAny_bind (ksk_fold (fun i s'=>∃H' ps,Inv X ((a,seqObj "list" #[] e1)::pins) σ H' s'∧Ex H H'∧H' kS=some (.lst (ps.map V.ref))∧ps.length=i∧∀(j:Nat) z p,ss[j]?=some z→ps[j]?=some p→H' p=some (.tup [.int (g z),.str z])) its 0 _
  ⟨_,[],I4,ex4,a0d,rfl,fun j z p _ e=>by simp at e⟩ ?step ?done)
 case step=>
  rintro j u s' hu ⟨H',ps,I',ex',hk',hl',hp'⟩
  rw [Nat.zero_add] at hl' ⊢
  have hj:j < its.length:=(Qn.mp hu).1
  have ez:=Qc (show j < ss.length by omega)
  obtain ⟨u2,hu2,ru⟩:=rv.get (i:=j) (x:=V.str (ss[j]'(by omega))) (by rw [Qm,ez];rfl)
  rw [hu] at hu2
  cases hu2
  have hfo:=(I'.pin _ (Xc _ (Qt _ hf))).1
  refine wpAny_bind (wpAny_attempt (wpAny_mono (b3V (E:=fun _ _=>False) I' hr hA ok hx hco hgen hb hfo (hc.mono ex') ru (he s' H') (hask _ (Xd _) H' ex')) (fun v s'' hv=>?_) fun _ _ z=>z.elim))
  obtain ⟨v',H2,J,rw',p,rfl,hpt,ex2⟩:=hv
  cases rw'
  dsimp only
  have hk2:=ex2 _ _ hk'
  obtain ⟨_,its',n',rk,hko⟩:=J.hok kS _ hk2
  have hil:=rk.length
  rw [Qe] at hil
  obtain ⟨c2,hc2⟩:∃c2,(s''.heap.update kS (Obj.mapSeq (·.push (Value.ref p)))).get? kS=some (seqObj "list" (its'.toArray.push (Value.ref p)) c2):=⟨_,get?_update_seq hko (·.push (Value.ref p))⟩
  have epush:its'.toArray.push (Value.ref p)=(its'++[Value.ref p]).toArray:=by simp
  rw [epush] at hc2
  have emap:(ps++[p]).map V.ref=ps.map V.ref++[V.ref p]:=by simp
  have J2:=J.write (x:=kS) (e:=kS) (o:=.lst ((ps++[p]).map V.ref)) (t':=s''.toks) (h':=s''.heap.update kS (Obj.mapSeq (·.push (Value.ref p)))) (by rw [hk2];trivial) (.inl rfl) (fun b u hb e=>by rw [Zf _ _ _ _ hb];exact e) ⟨_,hc2⟩
   ⟨by rw [Qe,Xq,sizeLine_eq];simp only [Qr,Xl];omega,its'++[Value.ref p],c2,by rw [emap];exact rk.append (.cons rfl .nil),hc2⟩
  have hkp:kS≠p:=fun z=>by rw [z,hpt] at hk2;cases hk2
  refine wpAny_bind (listUpdate_at hko rfl ?_ (by rw [Qv,sizeLine_eq];omega) (by rw [Array.size_push,Qv,sizeLine_eq];omega))
  refine wpAny_pure ⟨rfl,_,ps++[p],J2,fun b o e=>?_,a0d,by rw [Xq,hl'];rfl,fun i z p1 ez1 ep1=>?_⟩
  ·by_cases hb1:b=kS
   ·rw [hb1,hSn] at e;cases e
   ·rw [a0a hb1];exact ex2 _ _ (ex' _ _ e)
  ·by_cases hi:i < ps.length
   ·rw [Yc hi] at ep1
    have e9:=ex2 _ _ (hp' i z p1 ez1 ep1)
    rw [a0a (fun y=>by rw [y,hk2] at e9;cases e9)]
    exact e9
   ·have hi2:i=ps.length:=by
     have h8:i < (ps++[p]).length:=(Qn.mp ep1).1
     rw [Xq] at h8
     simp only [Qr,Xl] at h8
     omega
    subst hi2
    rw [Xz (Qk _)] at ep1
    simp only [Vu,Qa,Option.some.injEq] at ep1
    subst ep1
    rw [a0a (Ne.symm hkp)]
    rw [hl',ez] at ez1
    cases ez1
    exact hpt
 case done=>
  rintro s' ⟨H',ps,I',ex',hk',hl',hp'⟩
  rw [Nat.zero_add] at hl'
  obtain ⟨_,its',n',rk,hko⟩:=I'.hok kS _ hk'
  have er:=a4M rk
  refine wpAny_bind (listItems_at hko rfl ?_)
  rw [er]
  refine b0V I' hm hk' (by omega) h64 nd rv hp' fun H2 s2 ss' i1 i2 i3 i4 i5=>h H2 s2 ss' i1 i2 (fun b o e=>i3 b o (fun z=>by rw [z,hSn] at e;cases e) (ex' b o e)) i4 i5
end
def b9r (T:Addr) (q:Str) (js:List (Option Nat)) (tb:TE) (σ:St) (Q:VK) (y:V) (H1:Hp):Prop:=∃(p:Addr) (kvs:List (Key×V)) (ss:List Str) (g:Str→Int),y=.ref p∧H1 p=some (.dK kvs)∧kvs.map (·.1)=ss.map Sum.inr∧ss.length < 64∧ss.Nodup∧a3L T q H1∧
 (∀z∈ss,∀H2,(∀a o,a≠T→H1 a=some o→H2 a=some o)→tb (some (.str z)::a1G js σ) H2 fun v H3=>∃p,v=.ref p∧H3 p=some (.tup [.int (g z),.str z])∧Ex H2 H3)∧
 ∀(l:Addr) (H':Hp) (ss':List Str),a3L T q H'→(∀a o,a≠T→H1 a=some o→H' a=some o)→H1 l=none→H' l=some (.lst (ss'.map V.str))→ss'.Perm ss→ss'.Pairwise (fun x y=>ltG g x y=true)→Q (.ref l) H'
def b4p (T:Addr) (q:Str) (js:List (Option Nat)) (te tb:TE):TE:=fun σ H Q=>te σ H (b9r T q js tb σ Q)
theorem b3h {X:Cx} {e:Expr} {te tb:TE} {args:Arguments} {body:Expr} {scope:Scope} {x y:Str} {p pos lpos kp:Pos} {Nr:List Str} {js:List (Option Nat)} {T:Addr} {q:Str} {k:Nat} (hy:y="sorted") (hc:X.calm=true) (hr:a2u (k+3) X.A) (hg:Gl X y) (hm:X.mg y=none)
  (hcb:a6q X.K X.env.code=some T) (hbk:c1B X.K X.mg) (ha:PE X e te) (ok:a3y X (x::Nr) (none::js) scope) (hx:scope.names.lookup x=some .local) (hco:scope.isCoroutine=false) (hgen:scope.isGenerator=false)
  (hb:∀(q:Str) (cl:List (Str×Addr)) (pm cv ctv u:Value),bindArgs (kla_fn "<lambda>" q args body scope cl pm cv ctv) ⟨[u],[]⟩=pure [(x,u)]) (hq:X.env.qual++"<lambda>"=q) (hdef:defaultsOf args X.env=([],[]))
  (he:∀f cv cl A s H,a2u k (a5U X (x::Nr) scope q f cv cl A s H).A→PE (a5U X (x::Nr) scope q f cv cl A s H) body tb) (hst:starEach [e] X.env=(false,eval e X.env)::starEach [] X.env:=by rfl):
  PE X (.Call (.Name y p) [e] [⟨some "key",.Lambda args body scope lpos,kp⟩] pos) (b4p T q js te tb):=by
 subst hy
 intro pins s σ H Q I h
 refine wpAny_Call_Name_kw (a3v I hg hm a2C ?_ (by decide) (by decide))
 refine callWith_kw (thn (b1b ha b4D hst pos pins s σ H (fun vs H1=>match vs with | [y]=>b9r T q js tb σ Q y H1 | _=>False) I h) fun us s1 ⟨vs,H1,I1,r1,q1⟩=>?_) (by rw [hst];rfl) (by rw [hst];rfl)
 match vs,q1,r1 with
 | [],q1,_=>exact q1.elim
 | _::_::_,q1,_=>exact q1.elim
 | [y],q1,r1=>
 obtain ⟨p,kvs,ss,g,rfl,hp,hks,h64,nd,lt1,hask,qq⟩:=q1
 obtain ⟨u,rfl,ru⟩:=a3r r1
 cases ru
 have hpT:p≠T:=fun z=>by
  obtain ⟨ps,e1,_⟩:=lt1
  rw [z,e1] at hp;cases hp
 refine kws_cons (b3B I1 hcb hbk ok hq hdef lt1 fun f pm cv ctv H2 s2 I2 lt2 ex2 hcd hfn hfm hfo=>kws_nil ?_)
 show wpAny (model X.prog X.w) X.A (call (.builtin "sorted") [.ref p] [(Uc "key",.ref f)]) _ _ s2
 have I3:=I2.pins_of (pins':=(f,({cls:=.type "function",data:=.func (kla_fn "<lambda>" q args body scope (a2r X.env scope.names []) pm cv ctv)}:Obj))::pins) (fun pr hpr=>by
  rcases Qy.mp hpr with z | z
  ·subst z
   exact ⟨hfo,hfn,hfm.loc,hfm.fs,fun v z=>by cases z⟩
  ·exact I2.pin pr (Xc _ z))
 obtain ⟨z,hd,vs,rel,dd⟩:=a4z I3.hok (.of (ex2 _ _ hpT hp))
 obtain ⟨ep,hat⟩:=dd.dictAt
 have hn:vs.length=ss.length:=by rw [←rel.length];have:=congrArg Yp hks;simpa using this
 refine call_function_entry_kw kind_sorted plain_sorted entry_sorted (ksk_s1 _ _) ?_
 unfold Builtin.«sorted»
 refine wpAny_bind (m:=checkCount "sorted" 1 1 _) (wpAny_pure ?_)
 refine wpAny_bind (kdu_collect (A:=X.A.in1) (kdl_dict (knd:=a0s X.prog X.w) (kvs:=vs) (ep:=ep) hd) (I.ok.hd hc) hat (by rw [sizeLine_eq];omega) fun h' tk acc hk hacc=>?_)
 have hal:acc.toList.length=ss.length:=by rw [Zr];exact hacc.1.trans hn
 have hS:StrsAre acc.toList ss:=a3o hal fun j v e=>by
  obtain ⟨k,x,hx,hkv⟩:=hacc.2 j v (by rw [←Ws];exact e)
  obtain ⟨y,hy,_⟩:=b4Y rel hx
  have h1:(kvs.map (·.1))[j]?=some k:=by rw [Qm,hy];rfl
  rw [hks,Qm] at h1
  cases e2:ss[j]? with
  | none=>rw [e2] at h1;cases h1
  | some z'=>
   rw [e2] at h1
   cases h1
   obtain ⟨t,ht⟩:=b1O hkv
   exact ⟨z',t,rfl,ht⟩
 refine wpAny_bind (wpAny_newList ?_ (by rw [hal,sizeLine_eq];omega))
 have hoL:(h'.push (seqObj "list" acc.toList.toArray 0)).get? h'.objs.size=some (seqObj "list" acc.toList.toArray 0):=Xf _ rfl
 have I3':=I3.kept (t':=tk) hk
 have I4:=I3'.kept (t':=tk) (h':=h'.push (seqObj "list" acc.toList.toArray 0)) fun b o e=>Ql _ e
 have hD:H2 h'.objs.size=none:=I3'.hok.fresh (Qk _)
 have hD1:H1 h'.objs.size=none:=by
  cases e:H1 h'.objs.size with
  | none=>rfl
  | some o=>
   by_cases y:h'.objs.size=T
   ·obtain ⟨ps,e1,_⟩:=lt2
    rw [y,e1] at hD;cases hD
   ·rw [ex2 _ _ y e] at hD;cases hD
 refine wpAny_bind (wpAny_holding (wpAny_call_entry_kw slot_list_sort ⟨_,hoL,rfl⟩ entry_list_sort ?body (ksk_l1 _ _)))
 case body=>
  show wpAny (model X.prog X.w) X.A.in1.in1 (Builtin.«list.sort» ⟨[.ref h'.objs.size],[(Uc "key",.ref f)]⟩) _ _ _
  rw [ksk_t1]
  refine a8F (k:=k+1) (ss:=ss) (g:=g) I4 (show a2u (k+1+1+1) X.A from hr).in1.in1 I.ok.frames ok hx hco hgen hb Qs hcd (fun s H=>he _ _ _ _ s H ((show a2u (k+1+1+1) X.A from hr).in1.in1.deeper _)) hoL hD (I3'.mine (Qk _)) (a4k hS) h64 nd
   (fun z hz H3 e3=>hask z hz H3 fun a o n e=>e3 _ _ (ex2 _ _ n e)) fun H' s' ss' i1 i2 i3 i4 i5=>⟨_,rfl,wpAny_pure ⟨_,rfl,?_⟩⟩
  exact ⟨.ref h'.objs.size,H',i1.pins_of (fun pr hpr=>i1.pin pr (Xc _ (Qt _ hpr))),rfl,qq _ _ _ (lt2.mono i3) (fun a o n e=>i3 _ _ (ex2 _ _ n e)) hD1 i2 i4 i5⟩
def b2v (K:Qd):List V→Hp→VK→Prop:=fun xs H Q=>∃(p:Addr) (ys:List V),xs=[.ref p]∧SqL K H p ys∧ys.length < 64∧(∀v∈ys,∃a i z,v=.ref a∧H a=some (.tup [.int i,.str z]))∧(ys.map (a2k H)).Nodup∧
 ∀l ys',H l=none→ys'.Perm ys→(ys'.map (a2k H)).Pairwise (fun x y=>ltP x y=true)→Q (.ref l) (upd H l (.lst ys'))
def b5h (K:Qd):List V→Hp→VK→Prop:=fun xs H Q=>b4K K xs H Q∨(b4y xs H Q∨b2v K xs H Q)
section
variable {X:Cx}
theorem a7a:a1H X (.builtin "sorted") (b2v X.K):=by
 intro pins s σ H xs us Q I r h
 obtain ⟨p,ys,rfl,hq,h64,hT,hnd,q⟩:=h
 obtain ⟨u,rfl,ru⟩:=a3r r
 cases ru
 obtain ⟨its,rv,pl,hz⟩:=I.list hq
 have hn:=rv.length
 have hat:∀i,i < its.length→∃a o n t t',its.getD i Value.none=.ref a∧s.heap.get? a=some o∧o.data=.seq #[.int (a2k H (ys.getD i .non)).1 t,.str (a2k H (ys.getD i .non)).2 t'] n:=fun i hi=>by
  have hi':i < ys.length:=by omega
  obtain ⟨u,hu,ru⟩:=rv.get (Qc hi')
  obtain ⟨a,m,z,e,ha⟩:=hT _ (Xd hi')
  rw [e] at ru
  cases ru
  obtain ⟨o,n,t,t',e1,e2,e3⟩:=b0i (I.hok _ _ ha)
  have ep:a2k H (ys.getD i .non)=(m,z):=by
   rw [Xh,Qc hi',Xi,e]
   show (match H a with | some (.tup [.int i,.str z])=>(i,z) | _=>(0,""))=(m,z)
   rw [ha]
  rw [ep]
  exact ⟨a,o,n,t,t',by rw [Xh,hu];rfl,e1,e3⟩
 refine Calls.call_function_entry kind_sorted plain_sorted entry_sorted (args_sorted1 _) ?_
 unfold Builtin.«sorted»
 refine wpAny_bind (m:=checkCount "sorted" 1 1 _) (wpAny_pure ?_)
 refine wpAny_bind (collect_list pl.isList ?_ (by rw [sizeLine_eq];omega))
 refine wpAny_bind (wpAny_newList ?_ (by rw [sizeLine_eq];omega))
 have hsz:((s.heap.push (seqObj "list" #[] 0)).update s.heap.objs.size (Obj.mapSeq (·++its.toArray))).objs.size=s.heap.objs.size+1:=by
  rw [Uo,size_push']
 have hoL:(((s.heap.push (seqObj "list" #[] 0)).update s.heap.objs.size (Obj.mapSeq (·++its.toArray))).push (seqObj "list" its.toArray 0)).get? (s.heap.objs.size+1)=some (seqObj "list" its.toArray 0):=by
  rw [←hsz];exact Xf _ rfl
 have keep:∀b o,s.heap.get? b=some o→(((s.heap.push (seqObj "list" #[] 0)).update s.heap.objs.size (Obj.mapSeq (·++its.toArray))).push (seqObj "list" its.toArray 0)).get? b=some o:=fun b o q=>by
  have hlt:b < s.heap.objs.size:=Qu q
  rw [Zp _ _ _ (by rw [hsz];exact Xb (Ym hlt)),Zf _ _ _ _ (Xb hlt),Zp _ _ _ (Xb hlt)]
  exact q
 show wpAny _ _ _ _ _ {s with heap:=((s.heap.push (seqObj "list" #[] 0)).update s.heap.objs.size (Obj.mapSeq (·++its.toArray))).push (seqObj "list" its.toArray 0)}
 rw [hsz]
 have keep2:∀h':Heap,(∀b o,b≠s.heap.objs.size+1→(((s.heap.push (seqObj "list" #[] 0)).update s.heap.objs.size (Obj.mapSeq (·++its.toArray))).push (seqObj "list" its.toArray 0)).get? b=some o→h'.get? b=some o)→∀b o,s.heap.get? b=some o→h'.get? b=some o:=fun h' hk b o e=>hk b o (Xb (Ym (Qu e))) (keep b o e)
 refine wpAny_bind (wpAny_holding (wpAny_call_entry slot_list_sort ⟨_,hoL,rfl⟩ entry_list_sort (a2F (s:={s with heap:=((s.heap.push (seqObj "list" #[] 0)).update s.heap.objs.size (Obj.mapSeq (·++its.toArray))).push (seqObj "list" its.toArray 0)}) hoL (by omega)
  (fun i j=>ltP (a2k H (ys.getD i .non)) (a2k H (ys.getD j .non))) (tuples' true) ?hk ?hask fun pp hp hpe=>⟨_,rfl,?fin⟩) (args_list_sort _)))
 case hk=>
  intro h2 h' hkp Q' hQ'
  obtain ⟨fs,g1,g2,g3⟩:=a6N (h':=h') (fun a o e=>I.hok a o e) (keep2 h' hkp) rv hT
  refine kat_kind (T:=.type "int") g1 (by omega) (fun v hv=>?_) (by decide) hQ'
  obtain ⟨i,t,rfl⟩:=g3 v hv
  exact .now
 case hask=>
  intro h' hkp i j C hi hj hC
  obtain ⟨a,oa,na,ta,ta',ea,ha,da⟩:=hat i hi
  obtain ⟨b,ob,nb,tb,tb',eb,hb,db⟩:=hat j hj
  unfold kas_ask
  rw [ea,eb]
  refine kat_lt (keep2 h' hkp _ _ ha) da (keep2 h' hkp _ _ hb) db ?_
  have hC':C (ltP (a2k H (ys.getD i .non)) (a2k H (ys.getD j .non))) {s with heap:=h'}:=hC
  generalize a2k H (ys.getD i .non)=x at hC' ⊢
  generalize a2k H (ys.getD j .non)=y at hC' ⊢
  unfold ltP at hC'
  show KatLex _ _ _ _ _ _ [(.int x.1 ta,.int y.1 tb),(.str x.2 ta',.str y.2 tb')] 0 _
  refine kat_cons (wpAny_eqBool_int ?_)
  by_cases h1:x.1=y.1
  ·rw [show (x.1 == y.1)=true from by rw [h1];exact beq_self_eq_true _]
   rw [if_pos h1] at hC'
   refine kat_yes (kat_cons (wpAny_eqBool_str ?_))
   by_cases h2:x.2=y.2
   ·rw [decide_eq_true h2]
    rw [if_pos h2] at hC'
    exact kat_yes (kat_nil (by simpa using hC'))
   ·rw [decide_eq_false h2]
    rw [if_neg h2] at hC'
    refine kat_no ?_
    show wpAny _ _ (oneLt' (true && (0+1) == 0) _ _) _ _ _
    rw [show (true && (0+1) == 0)=false from rfl]
    exact kat_one _ _ (PySem.P.lt_str hC')
  ·rw [show (x.1 == y.1)=false from beq_eq_false_iff_ne.mpr h1]
   rw [if_neg h1] at hC'
   refine kat_no ?_
   exact oneLt_int hC'
 case fin=>
  refine wpAny_pure ⟨_,rfl,?_⟩
  obtain ⟨e,he⟩:=sortedHeap_at (out:=Xv (pp.toList.map fun i=>its.getD i Value.none)) hoL
  have hpl:∀i∈pp.toList,i < ys.length:=fun i hi=>by
   have:=hp.list.mem_iff.mp hi
   rw [Zs] at this;omega
  have hplen:pp.toList.length=its.length:=by rw [hp.list.length_eq,Zc]
  have I2:=I.laid (a:=s.heap.objs.size+1) (o:=.lst (pp.toList.map fun i=>ys.getD i .non)) (h':=sortedHeap (((s.heap.push (seqObj "list" #[] 0)).update s.heap.objs.size (Obj.mapSeq (·++its.toArray))).push (seqObj "list" its.toArray 0)) (s.heap.objs.size+1) its (Xv (pp.toList.map fun i=>its.getD i Value.none))) (t':=s.toks) (fun b o e=>by
   have hb:b < s.heap.objs.size:=Qu e
   rw [sortedHeap_old (Xb (Ym hb)) (by rw [size_push',hsz];exact Ym (Ym hb))]
   exact keep b o e) (Zh _) ⟨by rw [Qe,sizeLine_eq];omega,pp.toList.map fun i=>its.getD i Value.none,e,a3d rv _ hpl,he⟩
  refine ⟨.ref (s.heap.objs.size+1),_,I2,rfl,q _ _ (I.hok.fresh (Zh _)) ?_ ?_⟩
  ·have h1:=hp.list.map fun i=>ys.getD i .non
   rw [←hn,a4D] at h1
   exact h1
  ·rw [Xo,Ui]
   by_cases h2:2≤its.length
   ·have L:c1x (fun i j=>ltP (a2k H (ys.getD i .non)) (a2k H (ys.getD j .non))) its.length:=
     ⟨fun i _=>b2b _,fun i j k _ _ _ a b=>b5q a b,fun i j hi hj e=>a9B fun z=>by
      have hi':i < ys.length:=by omega
      have hj':j < ys.length:=by omega
      rw [Xh,Qc hi',Xh,Qc hj',Xi,Xi] at z
      exact e ((Jd (i:=i) (j:=j) (h₀:=by rw [Qe];exact hi') (h₁:=by rw [Qe];exact hj') hnd).mp (by rw [Yr,Yr];exact z))⟩
    have hA:=a8s L (by omega)
    rw [←hpe h2] at hA
    exact a7X hp.size hA
   ·have hl1:pp.toList.length < 2:=by rw [hplen];omega
    match pp.toList,hl1 with
    | [],_=>exact Wz.nil
    | [z],_=>simp
    | _::_::_,y=>exact absurd y (by simp)
theorem a8V (hc:X.calm=true):a1H X (.builtin "sorted") (b5h X.K):=a1H.or a9n (a1H.or (a8A hc) a7a)
end
def b3e (T:Addr) (H:Hp):Prop:=H T=some (.tbl #[])∧∀b,b≠T→H b=none∨∃o xs,H b=some (.frz o (.lst xs))
def b6n (K:Qd) (c T:Addr):Bool:=match K.lookup c with
 | some o=>(match o.cls,o.data with
  | .type n,.fields vs=>(match (vs[11]?:Option Value) with
   | some (Value.ref P)=>n == "code" && P == T
   | _=>false)
  | _,_=>false)
 | none=>false
theorem b2J {K:Qd} {h:Heap} {c T:Addr} (X:K.In h) (e:b6n K c T=true):isCodeTable h T:=by
 unfold b6n at e
 split at e
 ·rename_i o ho
  split at e
  ·rename_i n vs hcl hd
   split at e
   ·rename_i P e11
    rw [Xr] at e
    have h1:n="code":=by simpa using e.1
    have h2:P=T:=by simpa using e.2
    exact ⟨c,o,vs,X _ _ ho,by rw [hcl,h1],hd,by rw [e11,h2]⟩
   ·cases e
  ·cases e
 ·cases e
theorem b1z {P:Program} {w:World} {K:Qd} {mg mb:Str→Option Value} {CX:CXT} {k:Nat} {fa a T:Addr} {fd:FuncData} {x:Str} {sp:Sp} {s₁:Shared} {vs:List Value} {ns:List Int}
  (KX:K.In s₁.heap) (hT:s₁.heap.get? T=some {cls:=.none,data:=.fields #[]}) (hKT:K.lookup T=none) (hCT:isCodeTable s₁.heap T) (hns:s₁.heap.Ns mainGlobals mg) (hb:s₁.heap.Ns builtinsNs mb) (hbb:∀x:Str,x≠"__name__"→mb x=bootBuiltins x) (hlim:s₁.heap.NoLimit) (hg:s₁.gens=#[])
  (ha:s₁.heap.get? a=some {cls:=.type "list",data:=.seq vs.toArray}) (hi:IntsAre vs ns) (hl:ns.length≤sizeLine) (hr:a2u k callerA)
  (F:∀base:Heap,K.In base→base.Ns mainGlobals mg→a0V P w K mg base CX k fa fd [x] sp) (hbind:∀(s:Shared) (u:Value),BindsTo s fd ⟨[u],[]⟩ [(x,u)])
  (hsp:∀H:Hp,b3e T H→SqL K H a (ns.map V.int)→sp [.ref a] H (fun v _=>v=.bl true) fun _ _ _=>False)
  (hCX:∀H e s',CX [] H s₁ (fun _ _ _=>False) e s'→False):
  codeAny (model P w) callerA (.call (.ref fa) ⟨[.ref a],[]⟩) (fun r s'=>r=.ok (.ret (.bool true))∧OldK s₁.heap s'.heap∧s'.os=s₁.os∧AllBare s'.gens) s₁:=by
 have rv:=a6j hi
 have lenV:=hi.length
 have haT:a≠T:=fun z=>by rw [z,hT] at ha;cases ha
 have core:∀H:Hp,b3e T H→SqL K H a (ns.map V.int)→HOk P w H s₁.heap→(∀b,H b≠none→b=a∨b=T)→(H a≠none→K.lookup a=none)→
   codeAny (model P w) callerA (.call (.ref fa) ⟨[.ref a],[]⟩) (fun r s'=>r=.ok (.ret (.bool true))∧OldK s₁.heap s'.heap∧s'.os=s₁.os∧AllBare s'.gens) s₁:=by
  intro H hO hS hok hA hK
  have base_of:∀{b:Addr} {o:Obj},s₁.heap.get? b=some o→H b=none→(b3f s₁.heap H).get? b=some o:=fun e n=>b3L e n
  have noA:∀{b:Addr} {o:Obj} {es:Array DictEntry} {ep:Nat},s₁.heap.get? b=some o→o.data=.dict es ep→H b=none:=fun {b o es ep} e d=>by
   cases q:H b with
   | none=>rfl
   | some u=>
    rcases hA b (by rw [q];simp) with e' | e'
    ·subst e'
     rw [ha] at e;cases e
     have d':Data.seq vs.toArray _=Data.dict es ep:=d
     cases d'
    ·subst e'
     rw [hT] at e;cases e
     have d':Data.fields #[]=Data.dict es ep:=d
     cases d'
  have nsK:∀{b:Addr} {m:Str→Option Value},s₁.heap.Ns b m→(b3f s₁.heap H).Ns b m:=fun {b m} ⟨o,es,ep,e,d,r⟩=>⟨o,es,ep,base_of e (noA e d),d,r⟩
  have hKb:K.In (b3f s₁.heap H):=fun b o e=>base_of (KX b o e) (by
   cases q:H b with
   | none=>rfl
   | some u=>
    rcases hA b (by rw [q];simp) with e' | e'
    ·subst e'
     rw [hK (by rw [q];simp)] at e;cases e
    ·subst e'
     rw [hKT] at e;cases e)
  have hM:Mod K mg (b3f s₁.heap H):=⟨hKb,nsK hns,⟨mb,nsK hb,hbb⟩,let ⟨mc,h1,h2⟩:=hlim;⟨mc,nsK h1,h2⟩⟩
  have e0:b6M P w K mg (b3f s₁.heap H) callerA [] s₁ H:=⟨rfl,hM,fun b o e=>b7y e,Ua (b0v _ _),trivial,fun b hb=>absurd (show b∈([]:List Addr) from hb) (by simp),hok,.of_eq hg⟩
  refine codeAny_mono ((F _ hKb (nsK hns)).run callerA [] s₁ H ⟨[.ref a],[]⟩ [.ref a] [.ref a] _ _ hr e0 (hbind s₁ (.ref a)) (.cons rfl .nil) (hsp H hO hS)) fun r s' h=>?_
  cases r with
  | error e=>exact (hCX H e s' h).elim
  | ok fl=>
   cases fl with
   | next=>exact False.elim h
   | brk=>exact False.elim h
   | cont=>exact False.elim h
   | ret u=>
    obtain ⟨v,H',os,bare,un,hok',r',q⟩:=h
    have q':v=.bl true:=q
    subst q'
    obtain rfl:u=Value.bool true:=r'
    obtain ⟨more,hT'⟩:=un.tbls T _ hO.1
    have hTo:s'.heap.get? T=some {cls:=.none,data:=.fields (#[]++more)}:=hok' T _ hT'
    have old:∀b o,b≠T→s₁.heap.get? b=some o→s'.heap.get? b=some o:=fun b o hbT e=>by
     cases q:H b with
     | none=>exact un.keep b o e q (by intro z;exact absurd (show b∈([]:List Addr) from z) (by simp)) (by simp)
     | some u=>
      rcases hO.2 b hbT with z | ⟨ob,xs,z⟩
      ·rw [q] at z;cases z
      ·have z2:=un.frzs b ob _ z
       obtain ⟨e1,_⟩:=hok b _ z
       obtain ⟨e2,_⟩:=hok' b _ z2
       rw [e] at e1;cases e1
       exact e2
    refine ⟨rfl,⟨fun b o e=>?_,fun b o e=>?_⟩,os,bare⟩
    ·by_cases hbT:b=T
     ·subst hbT
      rw [hT] at e;cases e
      exact .inr (.inl ⟨hCT,rfl,#[],more,rfl,hTo⟩)
     ·exact .inl (old b o hbT e)
    ·by_cases hbT:b=T
     ·subst hbT;exact ⟨_,hTo⟩
     ·exact ⟨o,old b o hbT e⟩
 cases hk:K.lookup a with
 | some o=>
  have e:=KX a o hk
  rw [ha] at e
  cases e
  refine core (fun b=>if b=T then some (.tbl #[]) else none) ⟨if_pos rfl,fun b hb=>.inl (if_neg hb)⟩ (.inr ⟨_,vs.toArray,_,hk,rfl,rfl,rfl,by rw [Qv,lenV];exact hl,by simpa using rv⟩) (fun b u z=>?_) (fun b z=>?_) fun z=>absurd (if_neg haT) z
  ·by_cases hb:b=T
   ·have z':=(if_pos hb).symm.trans z
    cases z'
    subst hb
    exact hT
   ·have z':=(if_neg hb).symm.trans z
    cases z'
  ·by_cases hb:b=T
   ·exact .inr hb
   ·exact absurd (if_neg hb) z
 | none=>
  refine core (fun b=>if b=T then some (.tbl #[]) else if b=a then some (.frz {cls:=.type "list",data:=.seq vs.toArray} (.lst (ns.map V.int))) else none) ⟨if_pos rfl,fun b hb=>?_⟩ (.inl (.inr ⟨{cls:=.type "list",data:=.seq vs.toArray},(if_neg haT).trans (if_pos rfl)⟩)) (fun b u z=>?_) (fun b z=>?_) fun _=>hk
  ·by_cases hba:b=a
   ·exact .inr ⟨_,_,(if_neg hb).trans (if_pos hba)⟩
   ·exact .inl ((if_neg hb).trans (if_neg hba))
  ·by_cases hb:b=T
   ·have z':=(if_pos hb).symm.trans z
    cases z'
    subst hb
    exact hT
   ·by_cases hba:b=a
    ·have z':=((if_neg hb).trans (if_pos hba)).symm.trans z
     cases z'
     subst hba
     exact ⟨ha,by rw [Qe];exact hl,vs,_,rv,ha⟩
    ·have z':=((if_neg hb).trans (if_neg hba)).symm.trans z
     cases z'
  ·by_cases hb:b=T
   ·exact .inr hb
   ·by_cases hba:b=a
    ·exact .inl hba
    ·exact absurd ((if_neg hb).trans (if_neg hba)) z
theorem b1f {l:PySem.W.OpenLaw} {n k:Nat} {q:Program} {loose:List Str} {XP:(Str→Option Value)→Heap→Prop} {YP:World→Heap→Prop} {d:DefRec} {K:Params→Qd} {CX:CXT} {sp:Qd→Sp} {x:Str} (T c:Addr)
  (hn:l.most=some n) (hn2:n≤sizeLine) (hdf:d.params.defaults=[]) (hr:a2u k callerA)
  (hY:∀(w:World) (h:Heap),YP w h→(K w.params).In h∧h.get? T=some {cls:=.none,data:=.fields #[]}) (hKT:∀w:World,(K w.params).lookup T=none) (hCT:∀w:World,b6n (K w.params) c T=true)
  (F:∀(w:World) (mg:Str→Option Value) (fa:Addr) (h:Heap),(K w.params).In h→h.Ns mainGlobals mg→mg d.name=some (.ref fa)→
   ∃fd:FuncData,(∀(s:Shared) (u:Value),BindsTo s fd ⟨[u],[]⟩ [(x,u)])∧
    ∀base:Heap,(K w.params).In base→base.Ns mainGlobals mg→a0V l.prog w (K w.params) mg base CX k fa fd [x] (sp (K w.params)))
  (hsp:∀(K:Qd) (H:Hp) (a:Addr) (ns:List Int),ns.length≤n→b3e T H→SqL K H a (ns.map V.int)→sp K [.ref a] H (fun v _=>v=.bl true) fun _ _ _=>False)
  (hCX:∀(H:Hp) (s:Shared) (e:Value) (s':Shared),CX [] H s (fun _ _ _=>False) e s'→False):
  PySem.W.WalkO q loose XP YP l.row.toRowW d [] (fun f vs=>PySem.call f vs):=by
 refine Att.attach_call hn hdf fun w s₀ s₁ mg mb fa o pm cd doc a vs ns G Y ho hd hcd hmg hobj hints hlen hg=>?_
 obtain ⟨KX,hT⟩:=hY w _ Y
 obtain ⟨fd,hb,hF⟩:=F w mg fa _ KX G.T.g hmg
 exact b1z KX hT (hKT w) (b2J KX (hCT w)) G.T.g G.T.b G.T.builtins G.T.nolimit hg hobj hints (Qi hlen hn2) hr hF hb (fun H hO hS=>hsp (K w.params) H a ns hlen hO hS) fun H e s'=>hCX H s₁ e s'
theorem b6H {K:Qd} {T:Addr} {o:Obj} {h:Heap} (X:Qd.In ((T,o)::K) h) (n:K.lookup T=none):K.In h∧h.get? T=some o:=by
 refine ⟨fun a u e=>X a u ?_,X T o (by rw [Yj,beq_self_eq_true])⟩
 rw [Yj]
 have:(a == T)=false:=by
  rw [beq_eq_false_iff_ne]
  intro z;rw [z,n] at e;cases e
 rw [this];exact e
section
variable {P:Program} {w:World} {K:Qd} {mg:Str→Option Value} {base:Heap}
theorem Fun.okC {x qual:Str} {st:Stmt} {f:Addr} {fd:FuncData} {N ps:List Str} {k:Nat} {sp:Sp} (F:Fun K x qual st f fd) (S:a0g N ps (a0b st)) (len:∀vs H Q E,sp vs H Q E→vs.length=ps.length)
  (hbody:∀(A:Around) (outer:List Env) (s:Shared) (H:Hp) (vs:List V) (Q:VK) (E:XK),a2u k (A.deeper (envOfC qual (a0b st) s.heap.objs.size f fd.code))→sp vs H Q E→
   ∃t,PSs (b4A CX0 P w K mg base N qual (a0b st) f fd.code A outer s H E).nox (a1m st) t∧t {nx:=fun _ H'=>Q .non H',rt:=Q} (start N vs) H):a0V P w K mg base CX0 (k+1) f fd ps sp:=by
 obtain ⟨oc,od,kV,doc,pm,an,cdv,ct,osl,rfl,lk,hcd⟩:=F.ex
 refine b6r lk hcd S len fun A outer s H vs Q E hr hsp=>?_
 obtain ⟨t,h,q⟩:=hbody A outer s H vs Q E hr hsp
 exact ⟨t,h.nox,q⟩
end
end L2
namespace L2
open PySem PySem.Spec PySem.W PyProof.Rows
end L2
namespace L2
open PySem PySem.Spec PySem.W PyProof.Rows PySem.Builtin PySem.Builtin.ObjectAttr
def b4z:List Value→Bool
 | .ref _::r=>b4z r
 | [.type a,.type b,.type c,.type d]=>a == "ValueError" && b == "Exception" && c == "BaseException" && d == "object"
 | _=>false
def b9S (K:Qd) (C:Addr):Bool:=(clsIn K C).any fun cd=>b4z cd.mro
end L2
namespace L2
open PySem PySem.Spec PySem.W PyProof.Rows PySem.Builtin PySem.Builtin.ObjectAttr
end L2
namespace L2
open PySem PySem.Spec PySem.W PySem.Calls PyProof.Rows PySem.Builtin PySem.Builtin.ObjectAttr
abbrev bmV:List Value:=[.type "ValueError",.type "Exception",.type "BaseException",.type "object"]
def c7T (K:Qd) (C:Addr):Bool:=match K.lookup C with
 | some ⟨.type "type",_,.cls cd,sl⟩=>(match cd.mro,sl.toList with
  | .ref C'::bm,[_,_,_,_,some (.builtin n),_]=>C' == C && n == "ValueError.__new__" && !cd.hasDel && !cd.abstract && tailIn K bmV bm && specialIn K (.ref C) "__call__" == some (some (.builtin "type.__call__")) && instIn K (.ref C) (.type "type") == some true
  | _,_=>false)
 | _=>false
end L2
namespace L2
open PySem PySem.Spec PySem.W PySem.Calls PyProof.Rows PySem.Builtin PySem.Builtin.ObjectAttr
structure c7k (K:Qd) (C:Addr):Prop where
 ga:findIn K (.ref C) "__getattribute__"=some (some (.builtin "BaseException.__getattribute__"))
 gt:findIn K (.ref C) "__getattr__"=some none
 bx:mroIn K C (.type "BaseException")=some true
 hd:hasDictIn K C=true
 cc:findIn K (.ref C) "__class__"=some (some (.builtin "object.__class__"))
 cg:specialIn K (.builtin "object.__class__") "__get__"=some (some (.builtin "getset_descriptor.__get__"))
 ct:takesIn K (.builtin "object.__class__")=some true
 mo:mroIn K C (.type "object")=some true
 sa:findIn K (.ref C) "__setattr__"=some (some (.builtin "object.__setattr__"))
 ov:b9S K C=true
 xc:c7T K C=true
end L2
namespace L2
open PySem PySem.Spec PySem.W PyProof.Rows
def c5o (x C:Addr) (od:Option Addr):HO:=.ext fun h=>∃vs sl,h.get? x=some ⟨.ref C,od,.fields vs,sl⟩∧vs[1]?=some Value.none
def c3t (x C:Addr) (od:Option Addr) (T:Addr):HO:=.ext fun h=>∃vs sl,h.get? x=some ⟨.ref C,od,.fields vs,sl⟩∧vs[1]?=some (Value.ref T)
def IsX (H:Hp) (x C:Addr) (od:Option Addr):Prop:=H x=some (c5o x C od)∨∃T,H x=some (c3t x C od T)
end L2
namespace L2
open PySem PySem.Spec PySem.W PySem.Calls PyProof.Rows
end L2
namespace L2
open PySem PySem.Spec PySem.W PySem.Calls PyProof.Rows
def c8V (H:Hp) (x C:Addr) (m:Str) (v:V):Prop:=∃d,IsX H x C (some d)∧H d=some (.xd [(m,v)])
end L2
namespace L2
open PySem PySem.Spec PySem.W PySem.Calls PyProof.Rows
def c3E (H:Hp) (x C:Addr):Option (Str×V)→Prop
 | some (m,v)=>c8V H x C m v
 | none=>IsX H x C none
def b7E (H:Hp):List Addr→List (Addr×Option (Str×V))→Prop
 | [],[]=>True
 | x::xs,e::es=>c3E H x e.1 e.2∧b7E H xs es
 | _,_=>False
theorem b7E.len {H:Hp}:∀{xs:List Addr} {es:List (Addr×Option (Str×V))},b7E H xs es→xs.length=es.length
 | [],[],_=>rfl
 | _::_,_::_,⟨_,b⟩=>congrArg (·+1) b.len
 | [],_::_,h=>h.elim
 | _::_,[],h=>h.elim
theorem b7E.get {H:Hp}:∀{xs:List Addr} {es:List (Addr×Option (Str×V))} {i:Nat} {e:Addr×Option (Str×V)},b7E H xs es→es[i]?=some e→∃x,xs[i]?=some x∧c3E H x e.1 e.2
 | _::_,_::_,0,_,⟨a,_⟩,h=>by cases h;exact ⟨_,rfl,a⟩
 | _::_,_::_,i+1,_,⟨_,b⟩,h=>b7E.get (i:=i) b (by simpa using h)
 | [],_::_,_,_,h,_=>h.elim
 | _::_,[],_,_,h,_=>h.elim
end L2
namespace L2
open PySem PySem.Spec PySem.W PySem.Calls PyProof.Rows
def TbO (T:Addr) (fl:Value):HO:=.ext fun h=>∃ob ts,h.get? T=some ob∧ob.data=.fields ts∧ts[3]?=some fl
def Fl (H:Hp) (x C:Addr) (od:Option Addr) (fl:Value) (T:Addr):Prop:=T≠x∧H x=some (c3t x C od T)∧H T=some (TbO T fl)
def Arr (H:Hp) (x C:Addr) (od oT:Option Addr):Prop:=(oT=none∧H x=some (c5o x C od))∨∃T,oT=some T∧Fl H x C od .none T
section
variable {X:Cx} {pins:List (Addr×Obj)} {σ:St} {H:Hp} {s:Shared}
theorem Inv.frames (I:Inv X pins σ H s) {h':Heap} (hs:Heap.SlotsOnly (frs X.stack) s.heap h'):Inv X pins σ H {s with heap:=h'}:=by
 have k:∀b u o,H b=some o→s.heap.get? b=some u→h'.get? b=some u:=fun b u o e q=>by
  rw [hs.2.1 b fun z=>by rw [I.stkFree b z] at e;cases e];exact q
 refine I.call' (s':={s with heap:=h'}) (ch:=[]) rfl ⟨fun b o e _ n _=>by rw [hs.2.1 b n];exact e,fun b o e _ _ _=>hs.2.2 b o e,fun b o _ n _=>n,fun b o e _=>let ⟨sl,q⟩:=hs.2.2 b o e;⟨_,q⟩,fun _ _ e=>e,fun _ _ _ e=>e,fun _ ps e=>⟨#[],by simpa using e⟩⟩ (fun a o e=>?_) I.bare (fun b z=>absurd z (by simp))
 exact (I.hok a o e).stay (fun b u hb q=>by
  rcases hb with rfl | hb
  ·exact k _ _ _ e q
  ·exact k _ _ _ hb q) (fun _ q=>q) fun _ _ q=>q
end
end L2
namespace L2
open PySem PySem.Spec PySem.W PySem.Calls PyProof.Rows
end L2
namespace L2
open PySem PySem.Spec PySem.W PySem.Calls PyProof.Rows
section
variable {X:Cx} {pins:List (Addr×Obj)} {σ:St} {H:Hp} {s:Shared}
abbrev Cx.held (X:Cx) (x:Addr):Cx:={X with A:=X.A.mark (some (.ref x)),calm:=false,xe:=fun _ _=>False}
theorem Inv.held {x:Addr} (I:Inv X pins σ H s):Inv (X.held x) pins σ H s:=
 ⟨⟨I.ok.mod,I.ok.kind,I.ok.glob,I.ok.blt,I.ok.above,I.ok.inj,I.ok.has,I.ok.cab,fun z=>(Qo z).elim,I.ok.frames,I.ok.stk,I.ok.exf,I.ok.bs,I.ok.bsz,I.ok.noex,I.ok.exfs,I.ok.funs,I.ok.frf⟩,I.os,I.bare,I.base,I.loc,I.cell,I.free,I.freeC,I.pin,I.hok,I.len⟩
abbrev XW:=St→Addr→Addr→Hp→Prop
def XP (X:Cx) (pins:List (Addr×Obj)) (W:XW) (e:Value) (s':Shared):Prop:=∃σ H x C od oT,e=.ref x∧Inv X pins σ H s'∧Arr H x C od oT∧c7k X.K C∧W σ x C H
end
end L2
namespace L2
open PySem PySem.Spec PySem.W PySem.Calls PyProof.Rows
end L2
namespace L2
open PySem PySem.Spec PySem.W PySem.Calls PyProof.Rows
end L2
namespace L2
open PySem PySem.Spec PySem.W PySem.Calls PyProof.Rows
end L2
namespace L2
open PySem PySem.Spec PySem.W PySem.Calls PyProof.Rows
end L2
namespace L2
open PySem PySem.Spec PySem.W PySem.Calls PyProof.Rows
end L2
namespace L2
open PySem PySem.Spec PySem.W PySem.Calls PyProof.Rows
end L2
namespace Tx
open PySem PySem.Builtin PySem.Builtin.Str PySem.StrLaws PyProof.Rows
theorem a2a (l:List Nat) (i j:Nat):(strSub (mk l) i j).length≤l.length:=by
 rw [b9Q,a0A]
 exact Qi (Wx _ _) (by rw [Jt];omega)
end Tx
namespace L2
open PySem PySem.Spec PySem.W PySem.Calls PyProof.Rows
def Itk (o:Obj) (a:Addr) (kvs:List (Key×V)):It:=⟨fun i H=>H a=some (.frz o (.dK kvs))∧i < kvs.length,fun i H x H'=>H'=H∧∃k v,kvs[i]?=some (k,v)∧x=kV k,fun i H=>H a=some (.frz o (.dK kvs))∧kvs.length≤i⟩
def b1F (td:TE):TI:=fun σ H R=>td σ H fun x H1=>∃(a:Addr) (kvs:List (Key×V)),x=.ref a∧H1 a=some (.dK kvs)∧∀o,R (Itk o a kvs) (upd H1 a (.frz o (.dK kvs)))
theorem a7Y {o:Obj} {a:Addr} {kvs:List (Key×V)}:Src (Itk o a kvs) kvs.length (fun i=>(kvs[i]?.map fun p=>kV p.1).getD .non) (fun H=>H a=some (.frz o (.dK kvs))):=
 ⟨fun i H hi h=>⟨h,hi⟩,fun i H x H' hi h y=>⟨y.1,by obtain ⟨_,k,v,e,rfl⟩:=y;rw [e];rfl⟩,fun H h=>⟨h,Qk _⟩⟩
theorem b3G {P:Program} {w:World} {k:Key} {u:Value} (h:(a0s P w).is k u=true):a0P (kV k) u:=by
 rcases a0J (k:=k) (v:=u) h with ⟨i,t,rfl,rfl⟩ | ⟨x,t,rfl,rfl⟩
 ·exact ⟨t,rfl⟩
 ·exact ⟨t,rfl⟩
theorem b7h:∀{r:List (Key×V)} {rs:List (Key×Value)},KV r rs→∀{i:Nat} {p:Key×V},r[i]?=some p→∃q,rs[i]?=some q∧p.1=q.1:=by
 intro r rs h
 unfold KV at h
 induction h with
 | nil=>intro i p e;simp at e
 | @cons p q ps qs h t ih=>
  intro i p' e
  cases i with
  | zero=>cases e;exact ⟨q,rfl,h.1⟩
  | succ i=>exact ih e
theorem b0f {P:Program} {w:World} {K:Qd} {tg:Expr} (o:Obj) (a it:Addr) (kvs:List (Key×V)):b6u P w K tg (Itk o a kvs) [it] it (fun i h=>∃es ep,o.data=.dict es ep∧h.IsKeyIter it a i kvs.length ep) where
 mem:=by simp
 obj:=fun i h st b hb=>by
  have e:b=it:=by simpa using hb
  subst e
  obtain ⟨_,_,_,ob,e,c,d⟩:=st
  exact ⟨ob,e,fun v z=>by rw [d] at z;cases z⟩
 keep:=fun i h h' st k=>by
  obtain ⟨es,ep,hd,hit⟩:=st
  exact ⟨es,ep,hd,hit.at fun o e=>k it (by simp) o e⟩
 item:=by
  intro X hP hw hK hc i pins s σ H E I hf st hg
  subst hP hw hK
  obtain ⟨es,ep,hd,hit⟩:=st
  obtain ⟨hfr,hi⟩:=hg
  obtain ⟨ho,z,hds,vs,rel,dd⟩:=(show a1g X.prog X.w H s.heap a (.frz o (.dK kvs)) from I.hok a _ hfr)
  obtain ⟨o',es',ep',ho',hx,hdat,r⟩:=dd
  rw [ho] at ho';cases ho'
  rw [hd] at hdat;cases hdat
  have hm:s.heap.DictAt (a0s X.prog X.w) a vs ep:=⟨o,es,ho,hx,hd,r⟩
  have hl:=rel.length
  rw [hl] at hit
  obtain ⟨⟨k,u⟩,hq,ek⟩:=b7h rel (Qc hi)
  obtain ⟨f0,f1,f2,f3,f4,f5⟩:=hf it (by simp)
  refine wpAny_pyNext_dict_item (knd:=a0s X.prog X.w) hit hm hq fun key h' hkey st' sb=>?_
  have I1:Inv X pins σ H {s with heap:=h'}:=I.turned (t':=s.toks) (fun b o hb e=>(sb.2 b hb).trans e) f0 f1 f3 f4 f5
  obtain ⟨ob,e,c,d⟩:=id st'
  have ek':kvs[i].1=k:=ek
  exact ⟨key,rfl,b3t (s:={s with heap:=h'}) e c d (by decide) ⟨kV kvs[i].1,H,I1,by rw [ek'];exact b3G hkey,⟨rfl,kvs[i].1,kvs[i].2,Qc hi,rfl⟩,⟨es,ep,hd,by rw [hl];exact st'⟩,fun b hb=>(hf b hb).1⟩⟩
 done:=by
  intro X hP hw hK hc i pins s σ H E I hf st hg
  subst hP hw hK
  obtain ⟨es,ep,hd,hit⟩:=st
  obtain ⟨hfr,hi⟩:=hg
  obtain ⟨ho,z,hds,vs,rel,dd⟩:=(show a1g X.prog X.w H s.heap a (.frz o (.dK kvs)) from I.hok a _ hfr)
  obtain ⟨o',es',ep',ho',hx,hdat,r⟩:=dd
  rw [ho] at ho';cases ho'
  rw [hd] at hdat;cases hdat
  have hm:s.heap.DictAt (a0s X.prog X.w) a vs ep:=⟨o,es,ho,hx,hd,r⟩
  have hl:=rel.length
  rw [hl] at hit
  obtain ⟨f0,f1,f2,f3,f4,f5⟩:=hf it (by simp)
  exact wpAny_pyNext_dict_end (knd:=a0s X.prog X.w) (I.ok.hd hc) hit hm (Yh (by omega)) fun h' eb=>⟨rfl,I.turned (t':=s.toks) (fun b o hb e=>eb b o hb e) f0 f1 f3 f4 f5⟩
 self:=fun _ _ _ _ _ st h=>by
  obtain ⟨es,ep,hd,hit⟩:=st
  exact wpAny_pyIter_keyiter hit h
section
variable {X:Cx} {tg:Expr}
theorem b5D {o:Expr} {td:TE} (ho:PE X o td):PI X tg o (b1F td):=by
 intro pins s σ H R I h
 refine thn (ho pins s σ H _ I h) fun v s1 ⟨x,H1,I1,r1,q1⟩=>?_
 obtain ⟨a,kvs,rfl,hH,q⟩:=q1
 cases r1
 obtain ⟨z,hds,vs,rel,dd⟩:=a9m I1.hok hH
 obtain ⟨ob,es,ep,hob,hx,hdat,r⟩:=id dd
 have hm:s1.heap.DictAt (a0s X.prog X.w) a vs ep:=⟨ob,es,hob,hx,hdat,r⟩
 refine wpAny_pyIter_dict (knd:=a0s X.prog X.w) hds hm ?_
 have keep:∀b u,s1.heap.get? b=some u→(s1.heap.push {cls:=.type "dict_keyiterator",data:=.fields #[.ref a,.int 0 0,.int vs.length 0,.int ep 0]}).get? b=some u:=fun b u e=>Ql _ e
 have I2:=I1.kept (t':=s1.toks) keep
 obtain ⟨o2,ho2,I3⟩:=I2.freeze hH
 have e2:o2=ob:=by
  have:=keep a ob hob
  rw [show _=some o2 from ho2] at this
  exact Option.some.inj this
 subst e2
 have hl:=rel.length
 refine ⟨s1.heap.objs.size,[s1.heap.objs.size],_,_,_,rfl,I3,b0f o2 a _ kvs,⟨es,ep,hdat,_,Xf _ rfl,rfl,by rw [hl];rfl⟩,fun b hb=>?_,q o2⟩
 have e:b=s1.heap.objs.size:=by simpa using hb
 subst e
 have hn:=I1.hok.fresh (a:=s1.heap.objs.size) (Qk _)
 exact I1.fpOk (Qk _) (by rw [a0a (a0c hH hn).symm];exact hn)
end
end L2
namespace L2
open PySem PySem.Spec PySem.W PySem.Calls PyProof.Rows
def c1V:V→List V→Hp→VK→Prop:=fun x xs H Q=>∃(a b:Addr) (kvs more:List (Key×V)),x=.ref a∧xs=[.ref b]∧a≠b∧H a=some (.dK kvs)∧H b=some (.dK more)∧kvs.length+more.length≤sizeLine∧Q .non (upd H a (.dK (a1N kvs more)))
section
variable {X:Cx}
theorem a4T:MtM X "dict.update" c1V:=by
 intro pins s σ H x xs v us Q I rx rv h
 obtain ⟨a,b,kvs,more,rfl,rfl,hab,ha,hb,hz,q⟩:=h
 cases rx
 obtain ⟨u,rfl,ru⟩:=a3r rv
 cases ru
 obtain ⟨z,hd,vs,rel,dd⟩:=a9m I.hok ha
 obtain ⟨z',hd',vs',rel',dd'⟩:=a9m I.hok hb
 refine call_meetsIn Ud dd.typeIs PySem.F.entry_dict_update (PySem.F.args_dict_update_2 _ _) (meets_dict_update (a0s X.prog X.w) a b hab hd') ⟨vs,vs',dd,dd',by rw [←rel.length,←rel'.length];exact hz,fun h' dn db hs=>?_⟩
 have he:∃q,h'.get? a=some q:=let ⟨q,_,_,hq,_⟩:=dn;⟨q,hq⟩
 exact ⟨.non,_,a5g (t':=s.toks) I (by rw [ha];exact True.intro) hs he (b2a (Qi (a1I more kvs) hz) hd (KV.merge rel' rel) dn),rfl,q⟩
end
end L2
namespace L2
open PySem PySem.Spec PySem.W PySem.Calls PyProof.Rows
end L2
namespace L2
open PySem PySem.Spec PySem.W PySem.Calls PyProof.Rows
def b6I (ts:TS):TS:=fun E σ H=>∃(a:Addr) (kvs:List (Key×V)),H a=some (.dK kvs)∧
 ts {nx:=fun σ' H1=>∃o,H1 a=some (.frz o (.dK kvs))∧E.nx σ' (upd H1 a (.dK kvs)),rt:=fun v H1=>∃o,H1 a=some (.frz o (.dK kvs))∧E.rt v (upd H1 a (.dK kvs)),bk:=fun σ' H1=>∃o,H1 a=some (.frz o (.dK kvs))∧E.bk σ' (upd H1 a (.dK kvs)),ct:=fun σ' H1=>∃o,H1 a=some (.frz o (.dK kvs))∧E.ct σ' (upd H1 a (.dK kvs))} σ H
section
variable {X:Cx}
theorem b7m {st:Stmt} {ts:TS} (hs:PS X st ts):PS X st (b6I ts):=by
 intro pins s σ H D I h
 obtain ⟨a,kvs,hH,h⟩:=h
 have hn:∀ob u,X.H₀ a≠some (.frz ob u):=fun ob u z=>by
  have:=I.base.frzs a ob u z
  rw [hH] at this;cases this
 refine thn (hs pins s σ H _ I h) fun f s1 q=>?_
 cases f with
 | next=>obtain ⟨σ',H1,I1,o,e1,q⟩:=q;exact ⟨σ',_,I1.thaw e1 hn,q⟩
 | brk=>obtain ⟨σ',H1,I1,o,e1,q⟩:=q;exact ⟨σ',_,I1.thaw e1 hn,q⟩
 | cont=>obtain ⟨σ',H1,I1,o,e1,q⟩:=q;exact ⟨σ',_,I1.thaw e1 hn,q⟩
 | ret u=>obtain ⟨v,σ',H1,I1,r,o,e1,q⟩:=q;exact ⟨v,σ',_,I1.thaw e1 hn,r,q⟩
end
end L2
namespace L2
open PySem PySem.Spec PySem.W PySem.Calls PyProof.Rows
def c3j (ts ts':TS):TS:=fun E σ H=>ts E σ H∨ts' E σ H
section
variable {X:Cx}
theorem b9f {st:Stmt} {ts ts':TS} (h1:PS X st ts) (h2:PS X st ts'):PS X st (c3j ts ts'):=by
 intro pins s σ H D I h
 rcases h with h | h
 ·exact h1 pins s σ H D I h
 ·exact h2 pins s σ H D I h
end
end L2
namespace L2
open PySem PySem.Spec PySem.W PySem.Calls PyProof.Rows
def a5N (H:Hp) (q:Hp→Prop) (H1:Hp):Prop:=∃(a:Addr) (o:Obj) (kvs:List (Key×V)),(∀ob u,H a≠some (.frz ob u))∧H1 a=some (.frz o (.dK kvs))∧q (upd H1 a (.dK kvs))
def b5l (ts:TS):TS:=fun E σ H=>ts {nx:=fun σ'=>a5N H (E.nx σ'),rt:=fun v=>a5N H (E.rt v),bk:=fun σ'=>a5N H (E.bk σ'),ct:=fun σ'=>a5N H (E.ct σ')} σ H
section
variable {X:Cx}
theorem b2I {st:Stmt} {ts:TS} (hs:PS X st ts):PS X st (b5l ts):=by
 intro pins s σ H D I h
 have hn:∀a,(∀ob u,H a≠some (.frz ob u))→∀ob u,X.H₀ a≠some (.frz ob u):=fun a n ob u z=>n ob u (I.base.frzs a ob u z)
 refine thn (hs pins s σ H _ I h) fun f s1 q=>?_
 cases f with
 | next=>obtain ⟨σ',H1,I1,a,o,kvs,n,e1,q⟩:=q;exact ⟨σ',_,I1.thaw e1 (hn a n),q⟩
 | brk=>obtain ⟨σ',H1,I1,a,o,kvs,n,e1,q⟩:=q;exact ⟨σ',_,I1.thaw e1 (hn a n),q⟩
 | cont=>obtain ⟨σ',H1,I1,a,o,kvs,n,e1,q⟩:=q;exact ⟨σ',_,I1.thaw e1 (hn a n),q⟩
 | ret u=>obtain ⟨v,σ',H1,I1,r,a,o,kvs,n,e1,q⟩:=q;exact ⟨v,σ',_,I1.thaw e1 (hn a n),r,q⟩
end
end L2
namespace L2
open PySem PySem.Spec PyProof.Rows PySem.W
def a2d (H:Hp):V→Int×Int
 | .ref a=>match H a with
  | some (.tup [.int i,.int k,_])=>(i,k)
  | _=>(0,0)
 | _=>(0,0)
def ltI (x y:Int×Int):Bool:=if x.1=y.1 then (if x.2=y.2 then false else decide (x.2 < y.2)) else decide (x.1 < y.1)
def b7i (K:Qd):List V→Hp→VK→Prop:=fun xs H Q=>∃(p:Addr) (ys:List V),xs=[.ref p]∧SqL K H p ys∧ys.length < 64∧(∀v∈ys,∃a i k x,v=.ref a∧H a=some (.tup [.int i,.int k,x])∧((∃z,x=.str z)∨∃b,x=.ref b))∧(ys.map fun v=>(a2d H v).2).Nodup∧∀l ys',H l=none→ys'.Perm ys→Q (.ref l) (upd H l (.lst ys'))
theorem a8D {prog:Program} {w:World} {A:Around} {E:Value→Shared→Prop} {s:Shared} {b:Addr} {Q:Bool→Shared→Prop} (h:Q true s):wpAny (model prog w) A (eqBool (.ref b) (.ref b)) Q E s:=by
 unfold eqBool
 refine wpAny_holding ?_
 rw [if_pos (by simp)]
 exact wpAny_bind (wpAny_rule (wpAny_pure h))
theorem b1E {P:Program} {w:World} {H:Hp} {h:Heap} {a:Addr} {i k:Int} {x:V} (ok:a1g P w H h a (.tup [.int i,.int k,x])):∃o n t t' u,h.get? a=some o∧o.cls=.type "tuple"∧o.data=.seq #[.int i t,.int k t',u] n∧a0P x u:=by
 obtain ⟨_,its,rv,o,ho,hc,n,hd⟩:=ok
 cases rv with
 | cons h1 r=>
  cases r with
  | cons h2 r=>
   cases r with
   | cons h3 r=>
    cases r
    obtain ⟨t,rfl⟩:=h1
    obtain ⟨t',rfl⟩:=h2
    exact ⟨o,n,t,t',_,ho,hc,hd,h3⟩
theorem a7A {P:Program} {w:World} {H:Hp} {h h':Heap} (hok:∀a o,H a=some o→a1g P w H h a o) (hk:∀b o,h.get? b=some o→h'.get? b=some o):∀{ys:List V} {its:List Value},a0L ys its→(∀v∈ys,∃a i k x,v=.ref a∧H a=some (.tup [.int i,.int k,x])∧((∃z,x=.str z)∨∃b,x=.ref b))→
  ∃fs,KatTups h' its fs∧fs.length=its.length∧∀v∈fs,∃i t,v=.int i t
 | [],_,r,_=>by cases r;exact ⟨[],trivial,rfl,by simp⟩
 | y::ys,_,r,hT=>by
  cases r with
  | cons h1 r=>
   obtain ⟨fs,g1,g2,g3⟩:=a7A hok hk r fun v hv=>hT v (Qt _ hv)
   obtain ⟨a,i,k,x,rfl,ha,_⟩:=hT y Qs
   cases h1
   obtain ⟨o,n,t,t',u,e1,e2,e3,_⟩:=b1E (hok _ _ ha)
   refine ⟨.int i t::fs,KatTups.cons (hk _ _ e1) e2 e3 rfl g1,by simp [g2],fun v hv=>?_⟩
   rcases Qy.mp hv with e | e
   ·exact ⟨i,t,e⟩
   ·exact g3 v e
section
variable {X:Cx}
theorem a7d:a1H X (.builtin "sorted") (b7i X.K):=by
 intro pins s σ H xs us Q I r h
 obtain ⟨p,ys,rfl,hq,h64,hT,hN,q⟩:=h
 obtain ⟨u,rfl,ru⟩:=a3r r
 cases ru
 obtain ⟨its,rv,pl,hz⟩:=I.list hq
 have hn:=rv.length
 have hat:∀i,i < its.length→∃a o n t t' u,its.getD i Value.none=.ref a∧s.heap.get? a=some o∧o.data=.seq #[.int (a2d H (ys.getD i .non)).1 t,.int (a2d H (ys.getD i .non)).2 t',u] n∧((∃z t,u=Value.str z t)∨∃b,u=Value.ref b):=fun i hi=>by
  have hi':i < ys.length:=by omega
  obtain ⟨u,hu,ru⟩:=rv.get (Qc hi')
  obtain ⟨a,m,k,x,e,ha,hx⟩:=hT _ (Xd hi')
  rw [e] at ru
  cases ru
  obtain ⟨o,n,t,t',u3,e1,e2,e3,r3⟩:=b1E (I.hok _ _ ha)
  have ep:a2d H (ys.getD i .non)=(m,k):=by
   rw [Xh,Qc hi',Xi,e]
   show (match H a with | some (.tup [.int i,.int k,_])=>(i,k) | _=>(0,0))=(m,k)
   rw [ha]
  rw [ep]
  refine ⟨a,o,n,t,t',u3,by rw [Xh,hu];rfl,e1,e3,?_⟩
  rcases hx with ⟨z,rfl⟩ | ⟨b,rfl⟩
  ·obtain ⟨t9,rfl⟩:=r3;exact .inl ⟨z,t9,rfl⟩
  ·cases r3;exact .inr ⟨b,rfl⟩
 refine Calls.call_function_entry kind_sorted plain_sorted entry_sorted (args_sorted1 _) ?_
 unfold Builtin.«sorted»
 refine wpAny_bind (m:=checkCount "sorted" 1 1 _) (wpAny_pure ?_)
 refine wpAny_bind (collect_list pl.isList ?_ (by rw [sizeLine_eq];omega))
 refine wpAny_bind (wpAny_newList ?_ (by rw [sizeLine_eq];omega))
 have hsz:((s.heap.push (seqObj "list" #[] 0)).update s.heap.objs.size (Obj.mapSeq (·++its.toArray))).objs.size=s.heap.objs.size+1:=by
  rw [Uo,size_push']
 have hoL:(((s.heap.push (seqObj "list" #[] 0)).update s.heap.objs.size (Obj.mapSeq (·++its.toArray))).push (seqObj "list" its.toArray 0)).get? (s.heap.objs.size+1)=some (seqObj "list" its.toArray 0):=by
  rw [←hsz];exact Xf _ rfl
 have keep:∀b o,s.heap.get? b=some o→(((s.heap.push (seqObj "list" #[] 0)).update s.heap.objs.size (Obj.mapSeq (·++its.toArray))).push (seqObj "list" its.toArray 0)).get? b=some o:=fun b o q=>by
  have hlt:b < s.heap.objs.size:=Qu q
  rw [Zp _ _ _ (by rw [hsz];exact Xb (Ym hlt)),Zf _ _ _ _ (Xb hlt),Zp _ _ _ (Xb hlt)]
  exact q
 show wpAny _ _ _ _ _ {s with heap:=((s.heap.push (seqObj "list" #[] 0)).update s.heap.objs.size (Obj.mapSeq (·++its.toArray))).push (seqObj "list" its.toArray 0)}
 rw [hsz]
 have keep2:∀h':Heap,(∀b o,b≠s.heap.objs.size+1→(((s.heap.push (seqObj "list" #[] 0)).update s.heap.objs.size (Obj.mapSeq (·++its.toArray))).push (seqObj "list" its.toArray 0)).get? b=some o→h'.get? b=some o)→∀b o,s.heap.get? b=some o→h'.get? b=some o:=fun h' hk b o e=>hk b o (Xb (Ym (Qu e))) (keep b o e)
 refine wpAny_bind (wpAny_holding (wpAny_call_entry slot_list_sort ⟨_,hoL,rfl⟩ entry_list_sort (a2F (s:={s with heap:=((s.heap.push (seqObj "list" #[] 0)).update s.heap.objs.size (Obj.mapSeq (·++its.toArray))).push (seqObj "list" its.toArray 0)}) hoL (by omega)
  (fun i j=>ltI (a2d H (ys.getD i .non)) (a2d H (ys.getD j .non))) (tuples' true) ?hk ?hask fun pp hp _=>⟨_,rfl,?fin⟩) (args_list_sort _)))
 case hk=>
  intro h2 h' hkp Q' hQ'
  obtain ⟨fs,g1,g2,g3⟩:=a7A (h':=h') (fun a o e=>I.hok a o e) (keep2 h' hkp) rv hT
  refine kat_kind (T:=.type "int") g1 (by omega) (fun v hv=>?_) (by decide) hQ'
  obtain ⟨i,t,rfl⟩:=g3 v hv
  exact .now
 case hask=>
  intro h' hkp i j C hi hj hC
  obtain ⟨a,oa,na,ta,ta',ua,ea,ha,da,ca⟩:=hat i hi
  obtain ⟨b,ob,nb,tb,tb',ub,eb,hb,db,cb⟩:=hat j hj
  unfold kas_ask
  rw [ea,eb]
  refine kat_lt (keep2 h' hkp _ _ ha) da (keep2 h' hkp _ _ hb) db ?_
  have hC':C (ltI (a2d H (ys.getD i .non)) (a2d H (ys.getD j .non))) {s with heap:=h'}:=hC
  have hij:(a2d H (ys.getD i .non)).2=(a2d H (ys.getD j .non)).2→ua=ub:=fun z=>by
   have hi':i < ys.length:=by omega
   have hj':j < ys.length:=by omega
   have e1:ys.getD i .non=ys[i]:=by rw [Xh,Qc hi',Xi]
   have e2:ys.getD j .non=ys[j]:=by rw [Xh,Qc hj',Xi]
   rw [e1,e2] at z
   have ij:i=j:=(Jd (h₀:=by rw [Qe];exact hi') (h₁:=by rw [Qe];exact hj') hN).mp (by rw [Yr,Yr];exact z)
   subst ij
   rw [ea] at eb
   cases eb
   rw [ha] at hb
   cases hb
   rw [da] at db
   injection db with db1 db2
   have:=congrArg (fun z:Array Value=>z.toList) db1
   simp at this
   exact this.2.2
  generalize a2d H (ys.getD i .non)=x at hC' hij ⊢
  generalize a2d H (ys.getD j .non)=y at hC' hij ⊢
  unfold ltI at hC'
  show KatLex _ _ _ _ _ _ [(.int x.1 ta,.int y.1 tb),(.int x.2 ta',.int y.2 tb'),(ua,ub)] 0 _
  refine kat_cons (wpAny_eqBool_int ?_)
  by_cases h1:x.1=y.1
  ·rw [show (x.1 == y.1)=true from by rw [h1];exact beq_self_eq_true _]
   rw [if_pos h1] at hC'
   refine kat_yes (kat_cons (wpAny_eqBool_int ?_))
   by_cases h2:x.2=y.2
   ·rw [show (x.2 == y.2)=true from by rw [h2];exact beq_self_eq_true _]
    rw [if_pos h2] at hC'
    have:=hij h2
    subst this
    refine kat_yes (kat_cons ?_)
    rcases ca with ⟨z,t9,rfl⟩ | ⟨b9,rfl⟩
    ·refine wpAny_eqBool_str ?_
     rw [decide_eq_true rfl]
     exact kat_yes (kat_nil (by simpa using hC'))
    ·refine a8D ?_
     exact kat_yes (kat_nil (by simpa using hC'))
   ·rw [show (x.2 == y.2)=false from beq_eq_false_iff_ne.mpr h2]
    rw [if_neg h2] at hC'
    refine kat_no ?_
    show wpAny _ _ (oneLt' (true && (0+1) == 0) _ _) _ _ _
    rw [show (true && (0+1) == 0)=false from rfl]
    exact kat_one _ _ (PySem.P.lt_int hC')
  ·rw [show (x.1 == y.1)=false from beq_eq_false_iff_ne.mpr h1]
   rw [if_neg h1] at hC'
   refine kat_no ?_
   exact oneLt_int hC'
 case fin=>
  refine wpAny_pure ⟨_,rfl,?_⟩
  obtain ⟨e,he⟩:=sortedHeap_at (out:=Xv (pp.toList.map fun i=>its.getD i Value.none)) hoL
  have hpl:∀i∈pp.toList,i < ys.length:=fun i hi=>by
   have:=hp.list.mem_iff.mp hi
   rw [Zs] at this;omega
  have hplen:pp.toList.length=its.length:=by rw [hp.list.length_eq,Zc]
  have I2:=I.laid (a:=s.heap.objs.size+1) (o:=.lst (pp.toList.map fun i=>ys.getD i .non)) (h':=sortedHeap (((s.heap.push (seqObj "list" #[] 0)).update s.heap.objs.size (Obj.mapSeq (·++its.toArray))).push (seqObj "list" its.toArray 0)) (s.heap.objs.size+1) its (Xv (pp.toList.map fun i=>its.getD i Value.none))) (t':=s.toks) (fun b o e=>by
   have hb:b < s.heap.objs.size:=Qu e
   rw [sortedHeap_old (Xb (Ym hb)) (by rw [size_push',hsz];exact Ym (Ym hb))]
   exact keep b o e) (Zh _) ⟨by rw [Qe,sizeLine_eq];omega,pp.toList.map fun i=>its.getD i Value.none,e,a3d rv _ hpl,he⟩
  refine ⟨.ref (s.heap.objs.size+1),_,I2,rfl,q _ _ (I.hok.fresh (Zh _)) ?_⟩
  have h1:=hp.list.map fun i=>ys.getD i .non
  rw [←hn,a4D] at h1
  exact h1
end
end L2
namespace L2
open PySem
theorem c7p {a b c:Prop} (h:a):a∨b∨c:=Or.inl h
theorem c7R {a b c:Prop} (h:b):a∨b∨c:=Or.inr (Or.inl h)
theorem c6A {a b c:Prop} (h:c):a∨b∨c:=Or.inr (Or.inr h)
end L2
namespace K44
open PySem L2 Tx
abbrev a1y:Str:="sure_steps.<locals>.<lambda>"
theorem a2L:("sure_steps":Str)++".<locals>."++"<lambda>"=a1y:=by decide+kernel
abbrev b9j:List Str:=["some","told","statement"]
theorem a8k:a0g b9j ["some"] (a0b b1h):=⟨rfl,rfl,rfl,by decide+kernel,rfl,by decide+kernel,by decide+kernel⟩
abbrev b7s:List Str:=["statements","some"]
theorem b8h:a0g b7s ["statements","some"] (a0b a8Q):=⟨rfl,rfl,rfl,by decide+kernel,rfl,by decide+kernel,by decide+kernel⟩
abbrev b5T:List Str:=["statements","some"]
theorem b8X:a0g b5T ["statements","some"] (a0b a8L):=⟨rfl,rfl,rfl,by decide+kernel,rfl,by decide+kernel,by decide+kernel⟩
abbrev c0d:List Str:=["statement"]
theorem b8k:a0g c0d ["statement"] (a0b b1w):=⟨rfl,rfl,rfl,by decide+kernel,rfl,by decide+kernel,by decide+kernel⟩
abbrev c0r:List Str:=["ground","heads","rule","premise"]
theorem a8b:a0g c0r ["ground"] (a0b b2g):=⟨rfl,rfl,rfl,by decide+kernel,rfl,by decide+kernel,by decide+kernel⟩
abbrev a9c:List Str:=["rules","known","sure","waiting","ranks","rank","fresh","head"]
theorem a2P:a0g a9c ["rules","known"] (a0b a2M):=⟨rfl,rfl,rfl,by decide+kernel,rfl,by decide+kernel,by decide+kernel⟩
abbrev b5R:List Str:=["ground","ranks"]
theorem b4U:a0g b5R ["ground"] (a0b a8G):=⟨rfl,rfl,rfl,by decide+kernel,rfl,by decide+kernel,by decide+kernel⟩
abbrev b6c:List Str:=["ground","rule","beaters"]
theorem c1p:a0g b6c ["ground","rule","beaters"] (a0b a8O):=⟨rfl,rfl,rfl,by decide+kernel,rfl,by decide+kernel,by decide+kernel⟩
abbrev b3R:List Str:=["ground","sures","held","refused","q","standing"]
theorem b4C:a0g b3R ["ground","sures","held","refused","q"] (a0b a7b):=⟨rfl,rfl,rfl,by decide+kernel,rfl,by decide+kernel,by decide+kernel⟩
abbrev b2G:List Str:=["ground","sures","held","refused","q","unfallen"]
theorem b4r:a0g b2G ["ground","sures","held","refused","q"] (a0b a7r):=⟨rfl,rfl,rfl,by decide+kernel,rfl,by decide+kernel,by decide+kernel⟩
abbrev b9Y:List Str:=["ground","sures","held","refused","asked","words","q"]
theorem a7I:a0g b9Y ["ground","sures","held","refused","asked"] (a0b b0U):=⟨rfl,rfl,rfl,by decide+kernel,rfl,by decide+kernel,by decide+kernel⟩
abbrev b9I:List Str:=["heads","came","told","premise","head"]
theorem a8g:a0g b9I ["heads","came"] (a0b b1W):=⟨rfl,rfl,rfl,by decide+kernel,rfl,by decide+kernel,by decide+kernel⟩
abbrev a6Y:List Str:=["ground","some","sures","known","sure","held","refused","heads","wanted","told","rank","came","q","asked"]
theorem a2h:a0g a6Y ["ground","some","sures","known"] (a0b a4v):=⟨rfl,rfl,rfl,by decide+kernel,rfl,by decide+kernel,by decide+kernel⟩
abbrev b8G:List Str:=["is_sure","word"]
theorem b9O:a0g b8G ["is_sure","word"] (a0b a9y):=⟨rfl,rfl,rfl,by decide+kernel,rfl,by decide+kernel,by decide+kernel⟩
abbrev c1s:List Str:=["self","ground"]
theorem c0E:a0g c1s ["self","ground"] (a0b b0R):=⟨rfl,rfl,rfl,by decide+kernel,rfl,by decide+kernel,by decide+kernel⟩
abbrev b8d:List Str:=["self","q"]
theorem b7R:a0g b8d ["self","q"] (a0b b0L):=⟨rfl,rfl,rfl,by decide+kernel,rfl,by decide+kernel,by decide+kernel⟩
abbrev b8K:List Str:=["self","q"]
theorem b9L:a0g b8K ["self","q"] (a0b b0d):=⟨rfl,rfl,rfl,by decide+kernel,rfl,by decide+kernel,by decide+kernel⟩
abbrev b8Q:List Str:=["self","q"]
theorem b9k:a0g b8Q ["self","q"] (a0b b2h):=⟨rfl,rfl,rfl,by decide+kernel,rfl,by decide+kernel,by decide+kernel⟩
abbrev c1q:List Str:=["self","q"]
theorem b9i:a0g c1q ["self","q"] (a0b b0q):=⟨rfl,rfl,rfl,by decide+kernel,rfl,by decide+kernel,by decide+kernel⟩
abbrev c1a:List Str:=["self","label","head","body"]
theorem c0q:a0g c1a ["self","label","head","body"] (a0b a9N):=⟨rfl,rfl,rfl,by decide+kernel,rfl,by decide+kernel,by decide+kernel⟩
abbrev c0y:List Str:=["self"]
theorem b8r:a0g c0y ["self"] (a0b b1H):=⟨rfl,rfl,rfl,by decide+kernel,rfl,by decide+kernel,by decide+kernel⟩
abbrev b7W:List Str:=["self"]
theorem c1n:a0g b7W ["self"] (a0b b0G):=⟨rfl,rfl,rfl,by decide+kernel,rfl,by decide+kernel,by decide+kernel⟩
abbrev b9C:List Str:=["self","head"]
theorem b8n:a0g b9C ["self","head"] (a0b b0b):=⟨rfl,rfl,rfl,by decide+kernel,rfl,by decide+kernel,by decide+kernel⟩
abbrev c0U:List Str:=["self"]
theorem c0I:a0g c0U ["self"] (a0b b2t):=⟨rfl,rfl,rfl,by decide+kernel,rfl,by decide+kernel,by decide+kernel⟩
abbrev b8M:List Str:=["self"]
theorem c0T:a0g b8M ["self"] (a0b b1M):=⟨rfl,rfl,rfl,by decide+kernel,rfl,by decide+kernel,by decide+kernel⟩
abbrev c0m:List Str:=["self"]
theorem c1o:a0g c0m ["self"] (a0b b1d):=⟨rfl,rfl,rfl,by decide+kernel,rfl,by decide+kernel,by decide+kernel⟩
abbrev c0z:List Str:=["self","rules","pairs","rule","pair"]
theorem b2r:a0g c0z ["self","rules","pairs"] (a0b a9R):=⟨rfl,rfl,rfl,by decide+kernel,rfl,by decide+kernel,by decide+kernel⟩
abbrev b8J:List Str:=["self"]
theorem b8a:a0g b8J ["self"] (a0b a9I):=⟨rfl,rfl,rfl,by decide+kernel,rfl,by decide+kernel,by decide+kernel⟩
abbrev c0g:List Str:=["self","statement"]
theorem c0K:a0g c0g ["self","statement"] (a0b b0l):=⟨rfl,rfl,rfl,by decide+kernel,rfl,by decide+kernel,by decide+kernel⟩
abbrev b7o:List Str:=["self","statement"]
theorem c0F:a0g b7o ["self","statement"] (a0b a8I):=⟨rfl,rfl,rfl,by decide+kernel,rfl,by decide+kernel,by decide+kernel⟩
abbrev b9F:List Str:=["self","statement"]
theorem b7H:a0g b9F ["self","statement"] (a0b b0Y):=⟨rfl,rfl,rfl,by decide+kernel,rfl,by decide+kernel,by decide+kernel⟩
abbrev b8p:List Str:=["self","one","other"]
theorem b8V:a0g b8p ["self","one","other"] (a0b a9K):=⟨rfl,rfl,rfl,by decide+kernel,rfl,by decide+kernel,by decide+kernel⟩
abbrev b8T:List Str:=["self","told","rule","statement"]
theorem a7V:a0g b8T ["self"] (a0b a9V):=⟨rfl,rfl,rfl,by decide+kernel,rfl,by decide+kernel,by decide+kernel⟩
abbrev b9U:List Str:=["_law_script","_law_k"]
theorem b9v:a0g b9U ["_law_script","_law_k"] (a0b b0I):=⟨rfl,rfl,rfl,by decide+kernel,rfl,by decide+kernel,by decide+kernel⟩
abbrev b9q:List Str:=["_law_cell","_law_k","_law_number"]
theorem b1R:a0g b9q ["_law_cell","_law_k"] (a0b b0a):=⟨rfl,rfl,rfl,by decide+kernel,rfl,by decide+kernel,by decide+kernel⟩
abbrev b9D:List Str:=["_law_cell","_law_k","_law_signs","_law_size","_law_at","_law_word_here","_law_j","_law_step"]
theorem a3u:a0g b9D ["_law_cell","_law_k","_law_signs"] (a0b b0A):=⟨rfl,rfl,rfl,by decide+kernel,rfl,by decide+kernel,by decide+kernel⟩
abbrev b5X:List Str:=["_law_cell","_law_words","_law_pool_here","_law_k","_law_places"]
theorem a6c:a0g b5X ["_law_cell"] (a0b a8C):=⟨rfl,rfl,rfl,by decide+kernel,rfl,by decide+kernel,by decide+kernel⟩
abbrev b2M:List Str:=["_law_m","_law_k","_law_pool_here","_law_labels_here","_law_style","_law_size","_law_head","_law_body","_law_many","_law_sort"]
theorem a3t:a0g b2M ["_law_m","_law_k","_law_pool_here","_law_labels_here","_law_style"] (a0b a7k):=⟨rfl,rfl,rfl,by decide+kernel,rfl,by decide+kernel,by decide+kernel⟩
abbrev c0W:List Str:=["_law_row_here","_law_sort","_law_label","_law_head","_law_body"]
theorem a6x:a0g c0W ["_law_row_here"] (a0b b0y):=⟨rfl,rfl,rfl,by decide+kernel,rfl,by decide+kernel,by decide+kernel⟩
abbrev b6s:List Str:=["_law_cell"]
theorem c1g:a0g b6s ["_law_cell"] (a0b a8w):=⟨rfl,rfl,rfl,by decide+kernel,rfl,by decide+kernel,by decide+kernel⟩
abbrev c0v:List Str:=["_law_cell","_law_pool_here","_law_labels_here","_law_size","_law_sort","_law_label","_law_head","_law_many","_law_rest","_law_body","_law_j"]
theorem a2O:a0g c0v ["_law_cell","_law_pool_here","_law_labels_here"] (a0b b1r):=⟨rfl,rfl,rfl,by decide+kernel,rfl,by decide+kernel,by decide+kernel⟩
abbrev b2V:List Str:=["_law_script","_law_start","_law_pool_here","_law_labels_here","_law_style","_law_cells"]
theorem a6h:a0g b2V ["_law_script","_law_start"] (a0b a7g):=⟨rfl,rfl,rfl,by decide+kernel,rfl,by decide+kernel,by decide+kernel⟩
abbrev b5K:List Str:=["_law_rows_here","_law_known","_law_there","_law_statement","_law_ranks","_law_rank","_law_fresh","_law_sort","_law_label","_law_head","_law_body"]
theorem a2f:a0g b5K ["_law_rows_here","_law_known"] (a0b a8M):=⟨rfl,rfl,rfl,by decide+kernel,rfl,by decide+kernel,by decide+kernel⟩
abbrev b8s:List Str:=["_law_q"]
theorem c0n:a0g b8s ["_law_q"] (a0b b0e):=⟨rfl,rfl,rfl,by decide+kernel,rfl,by decide+kernel,by decide+kernel⟩
abbrev b9d:List Str:=["_law_rows_here","_law_by_here","_law_row_here"]
theorem b0o:a0g b9d ["_law_rows_here"] (a0b b1U):=⟨rfl,rfl,rfl,by decide+kernel,rfl,by decide+kernel,by decide+kernel⟩
abbrev b7u:List Str:=["_law_row_here","_law_up"]
theorem b9W:a0g b7u ["_law_row_here","_law_up"] (a0b a8y):=⟨rfl,rfl,rfl,by decide+kernel,rfl,by decide+kernel,by decide+kernel⟩
abbrev b5B:List Str:=["_law_row_here","_law_down"]
theorem b8t:a0g b5B ["_law_row_here","_law_down"] (a0b a9g):=⟨rfl,rfl,rfl,by decide+kernel,rfl,by decide+kernel,by decide+kernel⟩
abbrev b5N:List Str:=["_law_pairs_here","_law_row_here","_law_some"]
theorem c0H:a0g b5N ["_law_pairs_here","_law_row_here","_law_some"] (a0b a9e):=⟨rfl,rfl,rfl,by decide+kernel,rfl,by decide+kernel,by decide+kernel⟩
abbrev b0Z:List Str:=["_law_by_here","_law_pairs_here","_law_firm","_law_up","_law_down","_law_q","_law_good","_law_bad"]
theorem b1v:a0g b0Z ["_law_by_here","_law_pairs_here","_law_firm","_law_up","_law_down","_law_q"] (a0b a6f):=⟨rfl,rfl,rfl,by decide+kernel,rfl,by decide+kernel,by decide+kernel⟩
abbrev b1B:List Str:=["_law_by_here","_law_pairs_here","_law_firm","_law_up","_law_down","_law_q","_law_left","_law_bad"]
theorem b0r:a0g b1B ["_law_by_here","_law_pairs_here","_law_firm","_law_up","_law_down","_law_q"] (a0b a6d):=⟨rfl,rfl,rfl,by decide+kernel,rfl,by decide+kernel,by decide+kernel⟩
abbrev b9P:List Str:=["_law_cell","_law_many","_law_labels_here","_law_pairs_here","_law_k","_law_number","_law_one","_law_other_here"]
theorem a3Z:a0g b9P ["_law_cell","_law_many"] (a0b a9M):=⟨rfl,rfl,rfl,by decide+kernel,rfl,by decide+kernel,by decide+kernel⟩
abbrev c0Z:List Str:=["_law_script","_law_labels_here","_law_cell","_law_pairs_here","_law_one","_law_other_here"]
theorem a4a:a0g c0Z ["_law_script"] (a0b b1G):=⟨rfl,rfl,rfl,by decide+kernel,rfl,by decide+kernel,by decide+kernel⟩
abbrev b9w:List Str:=["_law_rows_here","_law_pairs_here","_law_order","_law_by_here","_law_firm","_law_up","_law_down","_law_more","_law_q","_law_words"]
theorem a2t:a0g b9w ["_law_rows_here","_law_pairs_here","_law_order"] (a0b a9H):=⟨rfl,rfl,rfl,by decide+kernel,rfl,by decide+kernel,by decide+kernel⟩
abbrev b3w:List Str:=["_law_cell","_law_some"]
theorem b8f:a0g b3w ["_law_cell","_law_some"] (a0b a7i):=⟨rfl,rfl,rfl,by decide+kernel,rfl,by decide+kernel,by decide+kernel⟩
abbrev a4q:List Str:=["_law_script","_law_rows_here","_law_pool_here","_law_pairs_here","_law_cell","_law_words","_law_mixed_here","_law_answers","_law_other_here","_law_third","_law_q"]
theorem a1j:a0g a4q ["_law_script"] (a0b a2x):=⟨rfl,rfl,rfl,by decide+kernel,rfl,by decide+kernel,by decide+kernel⟩
structure Adr where
 f_z1y:Addr
 fd_z1y:FuncData
 f_z12:Addr
 fd_z12:FuncData
 f_z13:Addr
 fd_z13:FuncData
 f_z1f:Addr
 fd_z1f:FuncData
 f_z03:Addr
 fd_z03:FuncData
 f_z0o:Addr
 fd_z0o:FuncData
 T_z0o:Addr
 f_z0v:Addr
 fd_z0v:FuncData
 f_z14:Addr
 fd_z14:FuncData
 f_z1g:Addr
 fd_z1g:FuncData
 f_z0w:Addr
 fd_z0w:FuncData
 f_z15:Addr
 fd_z15:FuncData
 f_z1n:Addr
 fd_z1n:FuncData
 f_z0p:Addr
 fd_z0p:FuncData
 f_z16:Addr
 fd_z16:FuncData
 f_z0d:Addr
 fd_z0d:FuncData
 f_z00:Addr
 fd_z00:FuncData
 f_z0e:Addr
 fd_z0e:FuncData
 f_z0f:Addr
 fd_z0f:FuncData
 f_z04:Addr
 fd_z04:FuncData
 f_z07:Addr
 fd_z07:FuncData
 f_z0g:Addr
 fd_z0g:FuncData
 f_z0b:Addr
 fd_z0b:FuncData
 f_z17:Addr
 fd_z17:FuncData
 f_z0q:Addr
 fd_z0q:FuncData
 f_z0h:Addr
 fd_z0h:FuncData
 f_z19:Addr
 fd_z19:FuncData
 f_z0j:Addr
 fd_z0j:FuncData
 f_z0k:Addr
 fd_z0k:FuncData
 f_z0l:Addr
 fd_z0l:FuncData
 f_z0t:Addr
 fd_z0t:FuncData
 f_z0m:Addr
 fd_z0m:FuncData
 f_z0c:Addr
 fd_z0c:FuncData
 f_z05:Addr
 fd_z05:FuncData
 f_z09:Addr
 fd_z09:FuncData
 f_z0n:Addr
 fd_z0n:FuncData
 f_z01:Addr
 fd_z01:FuncData
 f_z1d:Addr
 fd_z1d:FuncData
 f_z1z:Addr
 fd_z1z:FuncData
 f_z1s:Addr
 fd_z1s:FuncData
 f_z1t:Addr
 fd_z1t:FuncData
 f_z20:Addr
 fd_z20:FuncData
 f_z1u:Addr
 fd_z1u:FuncData
 f_z1j:Addr
 fd_z1j:FuncData
 f_z06:Addr
 fd_z06:FuncData
 f_z1v:Addr
 fd_z1v:FuncData
 f_z1k:Addr
 fd_z1k:FuncData
 f_z1o:Addr
 fd_z1o:FuncData
 f_z21:Addr
 fd_z21:FuncData
 f_z1l:Addr
 fd_z1l:FuncData
 f_z1p:Addr
 fd_z1p:FuncData
 f_z1m:Addr
 fd_z1m:FuncData
 f_z1w:Addr
 fd_z1w:FuncData
 f_z1e:Addr
 fd_z1e:FuncData
 f_z1q:Addr
 fd_z1q:FuncData
 f_z02:Addr
 fd_z02:FuncData
 f_z0a:Addr
 fd_z0a:FuncData
 f_z1r:Addr
 fd_z1r:FuncData
 f_d_law:Addr
 fd_d_law:FuncData
 C_Answers:Addr
 C_Rule:Addr
 C_Fact:Addr
 C_Sure:Addr
 C_Most:Addr
 C_Block:Addr
 C_Ground:Addr
 TB_z0v:Addr
structure Txt (K:Qd) (mg:Str→Option Value) (t:Adr):Prop where
 F_z1y:Fun K "keyed" "keyed" b1h t.f_z1y t.fd_z1y
 b_z1y:a0m K t.fd_z1y ["some"] []
 g_z1y:mg "keyed"=some (.ref t.f_z1y)
 F_z12:Fun K "all_among" "all_among" a8Q t.f_z12 t.fd_z12
 b_z12:a0m K t.fd_z12 ["statements","some"] []
 g_z12:mg "all_among"=some (.ref t.f_z12)
 F_z13:Fun K "any_among" "any_among" a8L t.f_z13 t.fd_z13
 b_z13:a0m K t.fd_z13 ["statements","some"] []
 g_z13:mg "any_among"=some (.ref t.f_z13)
 F_z1f:Fun K "opposite" "opposite" b1w t.f_z1f t.fd_z1f
 b_z1f:a0m K t.fd_z1f ["statement"] []
 g_z1f:mg "opposite"=some (.ref t.f_z1f)
 F_z03:Fun K "heads_by_premise" "heads_by_premise" b2g t.f_z03 t.fd_z03
 b_z03:a0m K t.fd_z03 ["ground"] []
 g_z03:mg "heads_by_premise"=some (.ref t.f_z03)
 F_z0o:b4u K "sure_rounds" "sure_rounds" a2M t.f_z0o t.fd_z0o t.T_z0o [Value.none]
 b_z0o:a0m K t.fd_z0o ["rules","known"] []
 bd_z0o:a0m K t.fd_z0o ["rules","known"] [Value.none]
 g_z0o:mg "sure_rounds"=some (.ref t.f_z0o)
 F_z0v:Fun K "sure_steps" "sure_steps" a8G t.f_z0v t.fd_z0v
 b_z0v:a0m K t.fd_z0v ["ground"] []
 g_z0v:mg "sure_steps"=some (.ref t.f_z0v)
 F_z14:Fun K "is_beaten" "is_beaten" a8O t.f_z14 t.fd_z14
 b_z14:a0m K t.fd_z14 ["ground","rule","beaters"] []
 g_z14:mg "is_beaten"=some (.ref t.f_z14)
 F_z1g:Fun K "holds_by" "holds_by" a7b t.f_z1g t.fd_z1g
 b_z1g:a0m K t.fd_z1g ["ground","sures","held","refused","q"] []
 g_z1g:mg "holds_by"=some (.ref t.f_z1g)
 F_z0w:Fun K "refused_by" "refused_by" a7r t.f_z0w t.fd_z0w
 b_z0w:a0m K t.fd_z0w ["ground","sures","held","refused","q"] []
 g_z0w:mg "refused_by"=some (.ref t.f_z0w)
 F_z15:Fun K "words_now" "words_now" b0U t.f_z15 t.fd_z15
 b_z15:a0m K t.fd_z15 ["ground","sures","held","refused","asked"] []
 g_z15:mg "words_now"=some (.ref t.f_z15)
 F_z1n:Fun K "touched" "touched" b1W t.f_z1n t.fd_z1n
 b_z1n:a0m K t.fd_z1n ["heads","came"] []
 g_z1n:mg "touched"=some (.ref t.f_z1n)
 F_z0p:Fun K "most_rounds" "most_rounds" a4v t.f_z0p t.fd_z0p
 b_z0p:a0m K t.fd_z0p ["ground","some","sures","known"] []
 g_z0p:mg "most_rounds"=some (.ref t.f_z0p)
 F_z16:Fun K "answer_by" "answer_by" a9y t.f_z16 t.fd_z16
 b_z16:a0m K t.fd_z16 ["is_sure","word"] []
 g_z16:mg "answer_by"=some (.ref t.f_z16)
 F_z0d:Fun K "__init__" "Answers.__init__" b0R t.f_z0d t.fd_z0d
 b_z0d:a0m K t.fd_z0d ["self","ground"] []
 F_z00:Fun K "word_and_rank" "Answers.word_and_rank" b0L t.f_z00 t.fd_z00
 b_z00:a0m K t.fd_z00 ["self","q"] []
 F_z0e:Fun K "sure" "Answers.sure" b0d t.f_z0e t.fd_z0e
 b_z0e:a0m K t.fd_z0e ["self","q"] []
 F_z0f:Fun K "held" "Answers.held" b2W t.f_z0f t.fd_z0f
 b_z0f:a0m K t.fd_z0f ["self","q"] []
 F_z04:Fun K "refused" "Answers.refused" b2Z t.f_z04 t.fd_z04
 b_z04:a0m K t.fd_z04 ["self","q"] []
 F_z07:Fun K "answer" "Answers.answer" b2h t.f_z07 t.fd_z07
 b_z07:a0m K t.fd_z07 ["self","q"] []
 F_z0g:Fun K "rank" "Answers.rank" b0q t.f_z0g t.fd_z0g
 b_z0g:a0m K t.fd_z0g ["self","q"] []
 F_z0b:Fun K "sures" "Answers.sures" b3N t.f_z0b t.fd_z0b
 b_z0b:a0m K t.fd_z0b ["self"] []
 F_z17:Fun K "__init__" "Rule.__init__" a9N t.f_z17 t.fd_z17
 b_z17:a0m K t.fd_z17 ["self","label","head","body"] []
 F_z0q:Fun K "speaks" "Rule.speaks" b1H t.f_z0q t.fd_z0q
 b_z0q:a0m K t.fd_z0q ["self"] []
 F_z0h:Fun K "is_sure" "Rule.is_sure" b0G t.f_z0h t.fd_z0h
 b_z0h:a0m K t.fd_z0h ["self"] []
 F_z19:Fun K "__init__" "Fact.__init__" b0b t.f_z19 t.fd_z19
 b_z19:a0m K t.fd_z19 ["self","head"] []
 F_z0j:Fun K "is_sure" "Fact.is_sure" b2t t.f_z0j t.fd_z0j
 b_z0j:a0m K t.fd_z0j ["self"] []
 F_z0k:Fun K "is_sure" "Sure.is_sure" b1M t.f_z0k t.fd_z0k
 b_z0k:a0m K t.fd_z0k ["self"] []
 F_z0l:Fun K "speaks" "Block.speaks" b1d t.f_z0l t.fd_z0l
 b_z0l:a0m K t.fd_z0l ["self"] []
 F_z0t:Fun K "__init__" "Ground.__init__" a9R t.f_z0t t.fd_z0t
 b_z0t:a0m K t.fd_z0t ["self","rules","pairs"] []
 F_z0m:Fun K "rules" "Ground.rules" a9I t.f_z0m t.fd_z0m
 b_z0m:a0m K t.fd_z0m ["self"] []
 F_z0c:Fun K "ruling" "Ground.ruling" b0l t.f_z0c t.fd_z0c
 b_z0c:a0m K t.fd_z0c ["self","statement"] []
 F_z05:Fun K "speaking" "Ground.speaking" a8I t.f_z05 t.fd_z05
 b_z05:a0m K t.fd_z05 ["self","statement"] []
 F_z09:Fun K "against" "Ground.against" b0Y t.f_z09 t.fd_z09
 b_z09:a0m K t.fd_z09 ["self","statement"] []
 F_z0n:Fun K "beats" "Ground.beats" a9K t.f_z0n t.fd_z0n
 b_z0n:a0m K t.fd_z0n ["self","one","other"] []
 F_z01:Fun K "statements" "Ground.statements" a9V t.f_z01 t.fd_z01
 b_z01:a0m K t.fd_z01 ["self"] []
 F_z1d:Fun K "_law_cell_at" "_law_cell_at" b0I t.f_z1d t.fd_z1d
 b_z1d:a0m K t.fd_z1d ["_law_script","_law_k"] []
 g_z1d:mg "_law_cell_at"=some (.ref t.f_z1d)
 F_z1z:Fun K "_law_mix" "_law_mix" b0a t.f_z1z t.fd_z1z
 b_z1z:a0m K t.fd_z1z ["_law_cell","_law_k"] []
 g_z1z:mg "_law_mix"=some (.ref t.f_z1z)
 F_z1s:Fun K "_law_word" "_law_word" b0A t.f_z1s t.fd_z1s
 b_z1s:a0m K t.fd_z1s ["_law_cell","_law_k","_law_signs"] []
 g_z1s:mg "_law_word"=some (.ref t.f_z1s)
 F_z1t:Fun K "_law_pool" "_law_pool" a8C t.f_z1t t.fd_z1t
 b_z1t:a0m K t.fd_z1t ["_law_cell"] []
 g_z1t:mg "_law_pool"=some (.ref t.f_z1t)
 F_z20:Fun K "_law_row" "_law_row" a7k t.f_z20 t.fd_z20
 b_z20:a0m K t.fd_z20 ["_law_m","_law_k","_law_pool_here","_law_labels_here","_law_style"] []
 g_z20:mg "_law_row"=some (.ref t.f_z20)
 F_z1u:Fun K "_law_made" "_law_made" b0y t.f_z1u t.fd_z1u
 b_z1u:a0m K t.fd_z1u ["_law_row_here"] []
 g_z1u:mg "_law_made"=some (.ref t.f_z1u)
 F_z1j:Fun K "_law_labels" "_law_labels" a8w t.f_z1j t.fd_z1j
 b_z1j:a0m K t.fd_z1j ["_law_cell"] []
 g_z1j:mg "_law_labels"=some (.ref t.f_z1j)
 F_z06:Fun K "_law_row_by_digits" "_law_row_by_digits" b1r t.f_z06 t.fd_z06
 b_z06:a0m K t.fd_z06 ["_law_cell","_law_pool_here","_law_labels_here"] []
 g_z06:mg "_law_row_by_digits"=some (.ref t.f_z06)
 F_z1v:Fun K "_law_rows" "_law_rows" a7g t.f_z1v t.fd_z1v
 b_z1v:a0m K t.fd_z1v ["_law_script","_law_start"] []
 g_z1v:mg "_law_rows"=some (.ref t.f_z1v)
 F_z1k:Fun K "_law_rounds" "_law_rounds" a8M t.f_z1k t.fd_z1k
 b_z1k:a0m K t.fd_z1k ["_law_rows_here","_law_known"] []
 g_z1k:mg "_law_rounds"=some (.ref t.f_z1k)
 F_z1o:Fun K "_law_other" "_law_other" b0e t.f_z1o t.fd_z1o
 b_z1o:a0m K t.fd_z1o ["_law_q"] []
 g_z1o:mg "_law_other"=some (.ref t.f_z1o)
 F_z21:Fun K "_law_by" "_law_by" b1U t.f_z21 t.fd_z21
 b_z21:a0m K t.fd_z21 ["_law_rows_here"] []
 g_z21:mg "_law_by"=some (.ref t.f_z21)
 F_z1l:Fun K "_law_stands" "_law_stands" a8y t.f_z1l t.fd_z1l
 b_z1l:a0m K t.fd_z1l ["_law_row_here","_law_up"] []
 g_z1l:mg "_law_stands"=some (.ref t.f_z1l)
 F_z1p:Fun K "_law_falls" "_law_falls" a9g t.f_z1p t.fd_z1p
 b_z1p:a0m K t.fd_z1p ["_law_row_here","_law_down"] []
 g_z1p:mg "_law_falls"=some (.ref t.f_z1p)
 F_z1m:Fun K "_law_beaten" "_law_beaten" a9e t.f_z1m t.fd_z1m
 b_z1m:a0m K t.fd_z1m ["_law_pairs_here","_law_row_here","_law_some"] []
 g_z1m:mg "_law_beaten"=some (.ref t.f_z1m)
 F_z1w:Fun K "_law_held" "_law_held" a6f t.f_z1w t.fd_z1w
 b_z1w:a0m K t.fd_z1w ["_law_by_here","_law_pairs_here","_law_firm","_law_up","_law_down","_law_q"] []
 g_z1w:mg "_law_held"=some (.ref t.f_z1w)
 F_z1e:Fun K "_law_refused" "_law_refused" a6d t.f_z1e t.fd_z1e
 b_z1e:a0m K t.fd_z1e ["_law_by_here","_law_pairs_here","_law_firm","_law_up","_law_down","_law_q"] []
 g_z1e:mg "_law_refused"=some (.ref t.f_z1e)
 F_z1q:Fun K "_law_pairs" "_law_pairs" a9M t.f_z1q t.fd_z1q
 b_z1q:a0m K t.fd_z1q ["_law_cell","_law_many"] []
 g_z1q:mg "_law_pairs"=some (.ref t.f_z1q)
 F_z02:Fun K "_law_pairs_by_digits" "_law_pairs_by_digits" b1G t.f_z02 t.fd_z02
 b_z02:a0m K t.fd_z02 ["_law_script"] []
 g_z02:mg "_law_pairs_by_digits"=some (.ref t.f_z02)
 F_z0a:Fun K "_law_gone_through" "_law_gone_through" a9H t.f_z0a t.fd_z0a
 b_z0a:a0m K t.fd_z0a ["_law_rows_here","_law_pairs_here","_law_order"] []
 g_z0a:mg "_law_gone_through"=some (.ref t.f_z0a)
 F_z1r:Fun K "_law_mixed" "_law_mixed" a7i t.f_z1r t.fd_z1r
 b_z1r:a0m K t.fd_z1r ["_law_cell","_law_some"] []
 g_z1r:mg "_law_mixed"=some (.ref t.f_z1r)
 F_d_law:Fun K "law" "law" a2x t.f_d_law t.fd_d_law
 b_d_law:a0m K t.fd_d_law ["_law_script"] []
 g_d_law:mg "law"=some (.ref t.f_d_law)
 k_HELD:∃u,mg "HELD"=some (.str "held" u)
 k_REFUSED:∃u,mg "REFUSED"=some (.str "refused" u)
 g_Answers:mg "Answers"=some (.ref t.C_Answers)
 g_Rule:mg "Rule"=some (.ref t.C_Rule)
 g_Fact:mg "Fact"=some (.ref t.C_Fact)
 g_Sure:mg "Sure"=some (.ref t.C_Sure)
 g_Most:mg "Most"=some (.ref t.C_Most)
 g_Block:mg "Block"=some (.ref t.C_Block)
 g_Ground:mg "Ground"=some (.ref t.C_Ground)
 z_NotImplementedError:mg "NotImplementedError"=none
 z_all:mg "all"=none
 z_any:mg "any"=none
 z_enumerate:mg "enumerate"=none
 z_len:mg "len"=none
 z_list:mg "list"=none
 z_max:mg "max"=none
 z_min:mg "min"=none
 z_range:mg "range"=none
 z_reversed:mg "reversed"=none
 z_sorted:mg "sorted"=none
 z_tuple:mg "tuple"=none
 cl_Answers:Cls K t.C_Answers
 ty_Answers:TyI K t.C_Answers
 nf_Answers_standing:a0C K t.C_Answers "standing"
 nf_Answers_sure_keys:a0C K t.C_Answers "sure_keys"
 nf_Answers_came:a0C K t.C_Answers "came"
 mk_Answers:Mk K t.C_Answers t.f_z0d
 me_Answers_word_and_rank:a3I K t.C_Answers "word_and_rank" t.f_z00
 me_Answers_sure:a3I K t.C_Answers "sure" t.f_z0e
 me_Answers_held:a3I K t.C_Answers "held" t.f_z0f
 me_Answers_refused:a3I K t.C_Answers "refused" t.f_z04
 me_Answers_answer:a3I K t.C_Answers "answer" t.f_z07
 me_Answers_rank:a3I K t.C_Answers "rank" t.f_z0g
 me_Answers_sures:a3I K t.C_Answers "sures" t.f_z0b
 ki_Answers_Answers:Yq K (.ref t.C_Answers) (.ref t.C_Answers)=some true
 cm_Rule:b8H K t.C_Rule "__init__" t.f_z17
 cl_Fact:Cls K t.C_Fact
 ty_Fact:TyI K t.C_Fact
 nf_Fact_label:a0C K t.C_Fact "label"
 nf_Fact_head:a0C K t.C_Fact "head"
 nf_Fact_body:a0C K t.C_Fact "body"
 mk_Fact:Mk K t.C_Fact t.f_z19
 me_Fact_speaks:a3I K t.C_Fact "speaks" t.f_z0q
 me_Fact_is_sure:a3I K t.C_Fact "is_sure" t.f_z0j
 ki_Fact_Rule:Yq K (.ref t.C_Fact) (.ref t.C_Rule)=some true
 ki_Fact_Fact:Yq K (.ref t.C_Fact) (.ref t.C_Fact)=some true
 cl_Sure:Cls K t.C_Sure
 ty_Sure:TyI K t.C_Sure
 nf_Sure_label:a0C K t.C_Sure "label"
 nf_Sure_head:a0C K t.C_Sure "head"
 nf_Sure_body:a0C K t.C_Sure "body"
 mk_Sure:Mk K t.C_Sure t.f_z17
 me_Sure_speaks:a3I K t.C_Sure "speaks" t.f_z0q
 me_Sure_is_sure:a3I K t.C_Sure "is_sure" t.f_z0k
 ki_Sure_Rule:Yq K (.ref t.C_Sure) (.ref t.C_Rule)=some true
 ki_Sure_Sure:Yq K (.ref t.C_Sure) (.ref t.C_Sure)=some true
 cl_Most:Cls K t.C_Most
 ty_Most:TyI K t.C_Most
 nf_Most_label:a0C K t.C_Most "label"
 nf_Most_head:a0C K t.C_Most "head"
 nf_Most_body:a0C K t.C_Most "body"
 mk_Most:Mk K t.C_Most t.f_z17
 me_Most_speaks:a3I K t.C_Most "speaks" t.f_z0q
 me_Most_is_sure:a3I K t.C_Most "is_sure" t.f_z0h
 ki_Most_Rule:Yq K (.ref t.C_Most) (.ref t.C_Rule)=some true
 ki_Most_Most:Yq K (.ref t.C_Most) (.ref t.C_Most)=some true
 cl_Block:Cls K t.C_Block
 ty_Block:TyI K t.C_Block
 nf_Block_label:a0C K t.C_Block "label"
 nf_Block_head:a0C K t.C_Block "head"
 nf_Block_body:a0C K t.C_Block "body"
 mk_Block:Mk K t.C_Block t.f_z17
 me_Block_speaks:a3I K t.C_Block "speaks" t.f_z0l
 me_Block_is_sure:a3I K t.C_Block "is_sure" t.f_z0h
 ki_Block_Rule:Yq K (.ref t.C_Block) (.ref t.C_Rule)=some true
 ki_Block_Block:Yq K (.ref t.C_Block) (.ref t.C_Block)=some true
 cl_Ground:Cls K t.C_Ground
 ty_Ground:TyI K t.C_Ground
 nf_Ground_in_order:a0C K t.C_Ground "in_order"
 nf_Ground_by_head:a0C K t.C_Ground "by_head"
 nf_Ground_pairs:a0C K t.C_Ground "pairs"
 mk_Ground:Mk K t.C_Ground t.f_z0t
 me_Ground_rules:a3I K t.C_Ground "rules" t.f_z0m
 me_Ground_ruling:a3I K t.C_Ground "ruling" t.f_z0c
 me_Ground_speaking:a3I K t.C_Ground "speaking" t.f_z05
 me_Ground_against:a3I K t.C_Ground "against" t.f_z09
 me_Ground_beats:a3I K t.C_Ground "beats" t.f_z0n
 me_Ground_statements:a3I K t.C_Ground "statements" t.f_z01
 ki_Ground_Ground:Yq K (.ref t.C_Ground) (.ref t.C_Ground)=some true
 L_z0v:a6q K t.fd_z0v.code=some t.TB_z0v
 LB:c1B K mg
section
variable {α:Type} [DecidableEq α]
def lk (d:List (α×Nat)) (x:α):Option Nat:=(d.find? fun p=>decide (p.1=x)).map (·.2)
theorem a9Z {d:List (α×Nat)} {x:α} {m:Nat} (h:lk d x=some m):(x,m)∈d:=by
 unfold lk at h
 cases e:d.find? fun p=>decide (p.1=x) with
 | none=>rw [e] at h;cases h
 | some p=>
  rw [e] at h
  have h1:=Jb e
  have h2:=Uv e
  obtain ⟨a,b⟩:=p
  cases h
  have h3:a=x:=of_decide_eq_true h2
  rw [←h3];exact h1
theorem a5D {d:List (α×Nat)} {x:α} (h:lk d x=none) {p:α×Nat} (hp:p∈d):p.1≠x:=by
 unfold lk at h
 rw [Wm,Ue] at h
 intro e
 exact h p hp (decide_eq_true e)
theorem b7v {d:List (α×Nat)} {y:α} {m:Nat} (h:lk d y=none) (x:α):lk (d++[(y,m)]) x=if x=y then some m else lk d x:=by
 unfold lk at *
 rw [List.find?_append]
 by_cases e:x=y
 ·subst e
  rw [Wm] at h
  rw [h,if_pos rfl];simp
 ·rw [if_neg e]
  have:List.find? (fun p:α×Nat=>decide (p.1=x)) [(y,m)]=none:=by simp;exact fun z=>e z.symm
  rw [this,Option.or_none]
theorem a9O {d:List (α×Nat)} (nd:(d.map (·.1)).Nodup) {p:α×Nat} (hp:p∈d):lk d p.1=some p.2:=by
 induction d with
 | nil=>cases hp
 | cons q r ih=>
  rw [Xg,Yw] at nd
  unfold lk
  rw [Zd]
  by_cases e:q.1=p.1
  ·rw [decide_eq_true e]
   rcases Qy.mp hp with z | z
   ·rw [z];rfl
   ·exact absurd (Qf.mpr ⟨p,z,e.symm⟩) nd.1
  ·rw [decide_eq_false e]
   rcases Qy.mp hp with z | z
   ·exact absurd (by rw [z]) e
   ·exact ih nd.2 z
structure Ok (ps:List (α×α)) (ls:List α) (o:α) (d:List (α×Nat)):Prop where
 nd:(d.map (·.1)).Nodup
 sub:∀p∈d,p.1∈o::ls
 low:∀p∈d,p.2 < d.length
 zer:∀p∈d,p.2=0→p.1=o
 prv:∀p∈d,∀m,p.2=m+1→∃b,(p.1,b)∈ps∧lk d b=some m
 one:lk d o=some 0
theorem a2a:∀{l m:List α},l.Nodup→(∀x∈l,x∈m)→l.length≤m.length
 | [],m,_,_=>Xe _
 | x::l,m,h,s=>by
  rw [Yw] at h
  have h1:=a2a (l:=l) (m:=m.erase x) h.2 (fun y hy=>(List.mem_erase_of_ne (fun z=>h.1 (by rw [←z];exact hy))).mpr (s y (Qt _ hy)))
  have h2:x∈m:=s x Qs
  have h3:=List.length_erase_of_mem h2
  have h4:=Wn h2
  simp only [Qr];omega
theorem Ok.len {ps:List (α×α)} {ls:List α} {o:α} {d:List (α×Nat)} (h:Ok ps ls o d):d.length≤ls.length+1:=by
 have:=a2a (m:=o::ls) h.nd (fun x hx=>by
  obtain ⟨p,hp,rfl⟩:=Qf.mp hx
  exact h.sub p hp)
 simpa using this
end
section
variable {α:Type} [DecidableEq α]
abbrev SR (α:Type):=Bool×α×List α
def a0S (l:List α) (x:α):List α:=if x∈l then l else l++[x]
theorem a5E {l:List α} {x y:α}:y∈a0S l x↔y∈l∨y=x:=by
 unfold a0S
 by_cases h:x∈l
 ·rw [if_pos h];exact ⟨.inl,fun z=>z.elim id fun e=>e ▸ h⟩
 ·rw [if_neg h];simp
theorem a1R {xs:List α}:∀{l:List α} {y:α},y∈xs.foldl a0S l↔y∈l∨y∈xs:=by
 induction xs with
 | nil=>intro l y;simp
 | cons x xs ih=>intro l y;rw [Jy,ih,a5E];simp [or_assoc]
def a3z (n:Nat) (R:List (α×Nat)) (h:α):List (α×Nat):=if (lk R h).isSome then R else R++[(h,n)]
def frs (rs:List (SR α)) (S:List α):List α:=(rs.filter fun r=>r.1 && decide (r.2.1∉S) && r.2.2.all fun q=>decide (q∈S)).map fun r=>r.2.1
theorem a2o {rs:List (SR α)} {S:List α} {h:α}:h∈frs rs S↔h∉S∧∃b,(true,h,b)∈rs∧∀q∈b,q∈S:=by
 unfold frs
 rw [Qf]
 constructor
 ·rintro ⟨⟨a,x,b⟩,hr,rfl⟩
  have:=Qp.mp hr
  simp at this
  obtain ⟨h1,⟨rfl,h2⟩,h3⟩:=this
  exact ⟨h2,b,h1,h3⟩
 ·rintro ⟨h1,b,h2,h3⟩
  exact ⟨(true,h,b),Qp.mpr ⟨h2,by simp [h1];exact h3⟩,rfl⟩
def sS (rs:List (SR α)) (kn:List α):Nat→List α
 | 0=>kn
 | n+1=>(frs rs (sS rs kn n)).foldl a0S (sS rs kn n)
def sR (rs:List (SR α)) (kn:List α):Nat→List (α×Nat)
 | 0=>[]
 | n+1=>(frs rs (sS rs kn n)).foldl (a3z (n+1)) (sR rs kn n)
theorem a3f {rs:List (SR α)} {kn:List α} {n:Nat} {x:α}:x∈sS rs kn (n+1)↔x∈sS rs kn n∨x∈frs rs (sS rs kn n):=a1R
theorem a9P {n:Nat} {R:List (α×Nat)} {h x:α}:lk (a3z n R h) x=if x=h then some ((lk R h).getD n) else lk R x:=by
 unfold a3z
 cases e:lk R h with
 | none=>
  rw [if_neg (by simp),b7v e];rfl
 | some m=>
  rw [if_pos (by simp)]
  by_cases z:x=h
  ·rw [if_pos z,z,e];rfl
  ·rw [if_neg z]
theorem a3M {n:Nat} {xs:List α}:∀{R:List (α×Nat)} {x:α},(∀h∈xs,lk R h=none∨lk R h=some n)→lk (xs.foldl (a3z n) R) x=if x∈xs then some n else lk R x:=by
 induction xs with
 | nil=>intro R x _;simp
 | cons h xs ih=>
  intro R x hx
  have hh:(lk R h).getD n=n:=by rcases hx h Qs with e | e<;>rw [e]<;>rfl
  rw [Jy,ih]
  ·rw [a9P,hh]
   by_cases z:x=h
   ·subst z;simp
   ·by_cases z2:x∈xs
    ·rw [if_pos z2,if_pos (Qt _ z2)]
    ·rw [if_neg z2,if_neg z,if_neg (by simp [z,z2])]
  ·intro k hk
   rw [a9P,hh]
   by_cases z:k=h
   ·rw [if_pos z];exact .inr rfl
   ·rw [if_neg z];exact hx k (Qt _ hk)
theorem a5S {rs:List (SR α)} {kn:List α}:∀(n:Nat) {x:α} {m:Nat},lk (sR rs kn n) x=some m→x∈sS rs kn n
 | 0,x,m,h=>by cases h
 | n+1,x,m,h=>by
  have hn:∀h∈frs rs (sS rs kn n),lk (sR rs kn n) h=none∨lk (sR rs kn n) h=some (n+1):=fun h hh=>by
   cases e:lk (sR rs kn n) h with
   | none=>exact .inl rfl
   | some m=>exact absurd (a5S n e) (a2o.mp hh).1
  rw [sR,a3M hn] at h
  rw [a3f]
  by_cases z:x∈frs rs (sS rs kn n)
  ·exact .inr z
  ·rw [if_neg z] at h;exact .inl (a5S n h)
theorem a4o {rs:List (SR α)} {kn:List α} {n:Nat} {h:α} (hh:h∈frs rs (sS rs kn n)):lk (sR rs kn n) h=none:=by
 cases e:lk (sR rs kn n) h with
 | none=>rfl
 | some m=>exact absurd (a5S n e) (a2o.mp hh).1
theorem b7a {rs:List (SR α)} {kn:List α} {n:Nat} {x:α}:lk (sR rs kn (n+1)) x=if x∈frs rs (sS rs kn n) then some (n+1) else lk (sR rs kn n) x:=
 a3M fun h hh=>.inl (a4o hh)
theorem a4R {rs rs':List (SR α)} {kn kn':List α} (hr:∀r,r∈rs↔r∈rs') (hk:∀x,x∈kn↔x∈kn'):∀n,(∀x,x∈sS rs kn n↔x∈sS rs' kn' n)∧∀x,lk (sR rs kn n) x=lk (sR rs' kn' n) x
 | 0=>⟨hk,fun _=>rfl⟩
 | n+1=>by
  obtain ⟨h1,h2⟩:=a4R hr hk n
  have hf:∀x,x∈frs rs (sS rs kn n)↔x∈frs rs' (sS rs' kn' n):=fun x=>by
   rw [a2o,a2o,h1]
   constructor
   ·rintro ⟨a,b,c,d⟩;exact ⟨a,b,(hr _).mp c,fun q hq=>(h1 q).mp (d q hq)⟩
   ·rintro ⟨a,b,c,d⟩;exact ⟨a,b,(hr _).mpr c,fun q hq=>(h1 q).mpr (d q hq)⟩
  refine ⟨fun x=>by rw [a3f,a3f,h1,hf],fun x=>?_⟩
  rw [b7a,b7a,h2]
  by_cases z:x∈frs rs (sS rs kn n)
  ·rw [if_pos z,if_pos ((hf x).mp z)]
  ·rw [if_neg z,if_neg fun w=>z ((hf x).mpr w)]
theorem a2T {rs:List (SR α)} {kn:List α} {n:Nat} (h:frs rs (sS rs kn n)=[]):∀k,sS rs kn (n+k)=sS rs kn n∧sR rs kn (n+k)=sR rs kn n
 | 0=>⟨rfl,rfl⟩
 | k+1=>by
  obtain ⟨h1,h2⟩:=a2T h k
  show (frs rs (sS rs kn (n+k))).foldl a0S (sS rs kn (n+k))=_∧(frs rs (sS rs kn (n+k))).foldl (a3z (n+k+1)) (sR rs kn (n+k))=_
  rw [h1,h2,h];exact ⟨rfl,rfl⟩
def b0K (rs:List (SR α)) (S:List α):Nat:=(rs.filter fun r=>decide (r.2.1∉S)).length
theorem a6C {β:Type} {p q:β→Bool}:∀{l:List β},(∀r∈l,p r=true→q r=true)→(l.filter p).length≤(l.filter q).length
 | [],_=>Qk _
 | r::l,h=>by
  have ih:=a6C (l:=l) fun x hx=>h x (Qt _ hx)
  rw [Xw,Xw]
  cases hp:p r with
  | true=>rw [h r Qs hp];simp;exact ih
  | false=>cases hq:q r<;>simp<;>omega
theorem a6l {β:Type} {p q:β→Bool}:∀{l:List β},(∀r∈l,p r=true→q r=true)→(∃r∈l,q r=true∧p r=false)→(l.filter p).length < (l.filter q).length
 | [],_,h=>by obtain ⟨r,hr,_⟩:=h;cases hr
 | r::l,h,⟨x,hx,hq,hp⟩=>by
  have hl:∀y∈l,p y=true→q y=true:=fun y hy=>h y (Qt _ hy)
  rw [Xw,Xw]
  rcases Qy.mp hx with e | e
  ·subst e
   rw [hp,hq]
   have:=a6C hl
   simp;omega
  ·have ih:=a6l hl ⟨x,e,hq,hp⟩
   cases hp':p r with
   | true=>rw [h r Qs hp'];simp;exact ih
   | false=>cases hq':q r<;>simp<;>omega
theorem a4m {rs:List (SR α)} {kn:List α} {n:Nat} (h:frs rs (sS rs kn n)≠[]):b0K rs (sS rs kn (n+1)) < b0K rs (sS rs kn n):=by
 obtain ⟨x,hx⟩:=Vn _ h
 obtain ⟨h1,b,h2,_⟩:=a2o.mp hx
 have hs:x∈sS rs kn (n+1):=a3f.mpr (.inr hx)
 refine a6l (fun r _ hr=>?_) ⟨_,h2,by simpa using h1,by simpa using hs⟩
 simp at hr ⊢
 exact fun z=>hr (a3f.mpr (.inl z))
end
section
variable {α:Type} [DecidableEq α]
theorem b1q (rs:List (SR α)) (S:List α):b0K rs S≤rs.length:=Qz _ _
theorem b3a {rs:List (SR α)} {S:List α} (h:frs rs S≠[]):0 < b0K rs S:=by
 obtain ⟨x,hx⟩:=Vn _ h
 obtain ⟨h1,b,h2,_⟩:=a2o.mp hx
 exact Wn (Qp.mpr ⟨h2,by simpa using h1⟩)
theorem a8e {rs:List (SR α)} {kn:List α}:∀n,frs rs (sS rs kn n)≠[]→b0K rs (sS rs kn n)+n≤rs.length
 | 0,_=>b1q _ _
 | n+1,h=>by
  have h0:frs rs (sS rs kn n)≠[]:=fun z=>h (by
   have:=(a2T z 1).1
   rw [this];exact z)
  have:=a8e n h0
  have:=a4m h0
  omega
theorem a5z (rs:List (SR α)) (kn:List α):frs rs (sS rs kn rs.length)=[]:=by
 by_cases h:frs rs (sS rs kn rs.length)=[]
 ·exact h
 ·have:=a8e _ h
  have:=b3a h
  omega
def FIN (rs:List (SR α)) (kn:List α):List (α×Nat):=sR rs kn rs.length
theorem b4j {rs:List (SR α)} {kn:List α} {n:Nat} (h:frs rs (sS rs kn n)=[]):sR rs kn n=FIN rs kn:=by
 unfold FIN
 by_cases c:n≤rs.length
 ·obtain ⟨k,e⟩:=Nat.le.dest c
  rw [←e];exact ((a2T h k).2).symm
 ·obtain ⟨k,e⟩:=Nat.le.dest (Nat.le_of_not_le c)
  rw [←e];exact (a2T (a5z rs kn) k).2
theorem b2U {rs:List (SR α)} {kn:List α} (h:kn.Nodup):∀n,(sS rs kn n).Nodup:=by
 have put:∀(l:List α) (x:α),l.Nodup→(a0S l x).Nodup:=fun l x hl=>by
  unfold a0S
  by_cases z:x∈l
  ·rw [if_pos z];exact hl
  ·rw [if_neg z]
   exact Zy.mpr ⟨hl,by simp,fun a ha b hb e=>z (by rw [Xa] at hb;rw [←hb,←e];exact ha)⟩
 have puts:∀(xs l:List α),l.Nodup→(xs.foldl a0S l).Nodup:=by
  intro xs
  induction xs with
  | nil=>intro l hl;exact hl
  | cons x xs ih=>intro l hl;exact ih _ (put l x hl)
 intro n
 induction n with
 | zero=>exact h
 | succ n ih=>exact puts _ _ ih
theorem a0Q (xs:List α):∀l:List α,(xs.foldl a0S l).length≤l.length+xs.length:=by
 induction xs with
 | nil=>intro l;simp
 | cons x xs ih=>
  intro l
  have:=ih (a0S l x)
  have h2:(a0S l x).length≤l.length+1:=by unfold a0S;split<;>simp
  rw [Jy,Qr];omega
theorem a0W {rs:List (SR α)} {kn:List α}:∀n,((sR rs kn n).map (·.1)).Nodup:=by
 have put:∀(n:Nat) (R:List (α×Nat)) (x:α),(R.map (·.1)).Nodup→((a3z n R x).map (·.1)).Nodup:=fun n R x hl=>by
  unfold a3z
  cases e:lk R x with
  | some m=>simpa using hl
  | none=>
   rw [if_neg (by simp),Xp]
   refine Zy.mpr ⟨hl,by simp,fun a ha b hb z=>?_⟩
   obtain ⟨p,hp,rfl⟩:=Qf.mp ha
   simp at hb
   exact a5D e hp (by rw [←hb,←z])
 have puts:∀(n:Nat) (xs:List α) (R:List (α×Nat)),(R.map (·.1)).Nodup→((xs.foldl (a3z n) R).map (·.1)).Nodup:=by
  intro n xs
  induction xs with
  | nil=>intro R hl;exact hl
  | cons x xs ih=>intro R hl;exact ih _ (put n R x hl)
 intro n
 induction n with
 | zero=>simp [sR]
 | succ n ih=>exact puts _ _ _ ih
end
section
variable {α:Type} [DecidableEq α]
theorem a1x:∀(xs:List α) {l:List α},l.Nodup→(xs.foldl a0S l).Nodup
 | [],_,hl=>hl
 | x::xs,l,hl=>by
  refine a1x xs ?_
  unfold a0S
  by_cases z:x∈l
  ·rw [if_pos z];exact hl
  ·rw [if_neg z]
   exact Zy.mpr ⟨hl,by simp,fun a ha b hb e=>z (by rw [Xa] at hb;rw [←hb,←e];exact ha)⟩
theorem a2X (n:Nat):∀(xs:List α) {R:List (α×Nat)},(R.map (·.1)).Nodup→((xs.foldl (a3z n) R).map (·.1)).Nodup
 | [],_,hl=>hl
 | x::xs,R,hl=>by
  refine a2X n xs ?_
  unfold a3z
  cases e:lk R x with
  | some m=>simpa using hl
  | none=>
   rw [if_neg (by simp),Xp]
   refine Zy.mpr ⟨hl,by simp,fun a ha b hb z=>?_⟩
   obtain ⟨p,hp,rfl⟩:=Qf.mp ha
   simp at hb
   exact a5D e hp (by rw [←hb,←z])
theorem a4i (n:Nat):∀(xs:List α) (R:List (α×Nat)),(xs.foldl (a3z n) R).length≤R.length+xs.length
 | [],R=>by simp
 | x::xs,R=>by
  have:=a4i n xs (a3z n R x)
  have h2:(a3z n R x).length≤R.length+1:=by unfold a3z;split<;>simp
  rw [Jy,Qr];omega
theorem b1u {rs:List (SR α)} {kn:List α} (h:kn.Nodup) (n:Nat):(sS rs kn n).length≤kn.length+rs.length:=by
 have sub:∀n x,x∈sS rs kn n→x∈kn++rs.map fun r=>r.2.1:=by
  intro n
  induction n with
  | zero=>intro x hx;exact Xx _ hx
  | succ n ih=>
   intro x hx
   rcases a3f.mp hx with z | z
   ·exact ih x z
   ·obtain ⟨_,b,h2,_⟩:=a2o.mp z
    exact Xc _ (Qf.mpr ⟨_,h2,rfl⟩)
 have:=a2a (b2U h n) (sub n)
 simpa using this
theorem b5k {rs:List (SR α)} {kn:List α} (h:kn.Nodup) (n:Nat):(sR rs kn n).length≤kn.length+rs.length:=by
 have:=a2a (l:=(sR rs kn n).map (·.1)) (m:=sS rs kn n) (a0W n) (fun x hx=>by
  obtain ⟨p,hp,rfl⟩:=Qf.mp hx
  exact a5S n (a9O (a0W n) hp))
 have h2:=b1u (rs:=rs) h n
 simp at this;omega
theorem b2F (l:List (SR α)) (r:SR α) (S:List α):frs (l++[r]) S=frs l S++(if (r.1 && decide (r.2.1∉S) && r.2.2.all fun q=>decide (q∈S))=true then [r.2.1] else []):=by
 unfold frs
 rw [Zv,Xp,Xw]
 split<;>rfl
theorem a6R (rs:List (SR α)) (S:List α):(frs rs S).length≤rs.length:=by
 unfold frs;rw [Qe];exact Qz _ _
theorem a4F (bd S:List α):decide (bd.filter (fun q=>decide (q∉S))=[])=bd.all fun q=>decide (q∈S):=by
 rw [Xn,decide_eq_true_eq,Zi,Ys]
 constructor
 ·intro h x hx;have:=h x hx;simpa using this
 ·intro h x hx;have:=h x hx;simpa using this
end
section
variable {α:Type} [DecidableEq α]
def a2B (b S:List α):Bool:=b.all fun q=>decide (q∈S)
theorem a5B {b S:List α}:a2B b S=true↔∀q∈b,q∈S:=by
 unfold a2B;rw [Ys]
 exact ⟨fun h q hq=>by simpa using h q hq,fun h q hq=>by simpa using h q hq⟩
theorem b2X {S:List α} {x:α} (h:x∉S):a0S S x=S++[x]:=by unfold a0S;rw [if_neg h]
theorem b0n {rs:List (SR α)} (x:α):x∈(FIN rs []).map (·.1)↔x∈sS rs [] rs.length:=by
 have key:∀n,x∈(sR rs ([]:List α) n).map (·.1)↔x∈sS rs [] n:=by
  intro n
  constructor
  ·intro h
   obtain ⟨p,hp,rfl⟩:=Qf.mp h
   exact a5S n (a9O (a0W n) hp)
  ·induction n with
   | zero=>intro h;cases h
   | succ n ih=>
    intro h
    have hs:(lk (sR rs ([]:List α) (n+1)) x).isSome=true:=by
     rw [b7a]
     by_cases z:x∈frs rs (sS rs [] n)
     ·rw [if_pos z];rfl
     ·rw [if_neg z]
      rcases a3f.mp h with w | w
      ·obtain ⟨p,hp,e⟩:=Qf.mp (ih w)
       have:=a9O (a0W n) hp
       rw [e] at this;rw [this];rfl
      ·exact absurd w z
    cases e:lk (sR rs ([]:List α) (n+1)) x with
    | none=>rw [e] at hs;cases hs
    | some m=>exact Qf.mpr ⟨_,a9Z e,rfl⟩
 exact key _
end
def a3b:List Nat:=[97,98,99,100,101,102,103,104,105,106,107,108,109,110,111,112,113,114,115,116,117,118,119,120,121,122]
def c1H:List Nat:=[48,49,50,51,52,53,54,55,56,57]++a3b
abbrev sv (l:List Nat):V:=.str (mk l)
theorem c1m:("abcdefghijklmnopqrstuvwxyz":Str)=mk a3b:=by decide+kernel
theorem b6O:("0123456789abcdefghijklmnopqrstuvwxyz":Str)=mk c1H:=by decide+kernel
theorem a6v {c:Nat} (h:c∈a3b):c < 128:=by revert c;decide
theorem b6N {c:Nat} (h:c∈c1H):c < 128:=by revert c;decide
theorem a3G {n:Nat} (h:n≤100000):n≤sizeLine:=Qi h (by decide)
theorem b3l {l:List Nat} (h:∀c∈l,c < 1114112):Yb (mk l)=true:=by
 unfold Yb;simpa using h
def OkS (z:Str):Prop:=Yb z=true∧z.length≤40
theorem OkS.of {l:List Nat} (h:∀c∈l,c < 128) (hl:l.length≤40):OkS (mk l):=⟨b3l fun c hc=>by have:=h c hc;omega,by rw [a0A];exact hl⟩
def a2b:Nat→Str
 | 0=>"fact"
 | 1=>"sure"
 | 2=>"most"
 | _=>"block"
abbrev Rw:=Nat×Str×Str×List Str
def a1w (r:Rw):Prop:=r.1 < 4∧(r.1=0→r.2.2.2=[]∧r.2.1="")∧OkS r.2.1∧OkS r.2.2.1∧(∀q∈r.2.2.2,OkS q)∧r.2.2.2.length≤4
def a4s (H:Hp) (v:V) (r:Rw):Prop:=∃p t,v=.ref p∧H p=some (.tup [.str (a2b r.1),.str r.2.1,.str r.2.2.1,.ref t])∧H t=some (.tup (r.2.2.2.map V.str))
theorem a4s.same {H H':Hp} {v:V} {r:Rw} (s:a0h H H') (h:a4s H v r):a4s H' v r:=let ⟨p,t,a,b,c⟩:=h;⟨p,t,a,s _ _ b,s _ _ c⟩
def c0Y (pl:List Str) (r:Rw):Prop:=r.2.2.1∈pl∧∀q∈r.2.2.2,q∈pl
def OkP (pl:List Str) (z:Str):Prop:=OkS z∧z∈pl
def RwD (pl:List Str) (D:Addr) (v:V) (H:Hp):Prop:=∃(p t:Addr) (r:Rw),v=.ref p∧p≠D∧t≠D∧(a1w r∧c0Y pl r)∧H p=some (.tup [.str (a2b r.1),.str r.2.1,.str r.2.2.1,.ref t])∧H t=some (.tup (r.2.2.2.map V.str))
structure a1v (H:Hp) (xs:List V) (rs:List Rw):Prop where
 len:xs.length=rs.length
 get:∀(i:Nat) (r:Rw),rs[i]?=some r→∃x,xs[i]?=some x∧a4s H x r
theorem a1v.same {H H':Hp} {xs:List V} {rs:List Rw} (s:a0h H H') (h:a1v H xs rs):a1v H' xs rs:=⟨h.len,fun i r e=>let ⟨x,a,b⟩:=h.get i r e;⟨x,a,b.same s⟩⟩
theorem a7v {pl:List Str} {D:Addr} {H:Hp}:∀{ys:List V},(∀(i:Nat) v,ys[i]?=some v→RwD pl D v H)→∃rs:List Rw,a1v H ys rs∧∀r∈rs,a1w r∧c0Y pl r
 | [],_=>⟨[],⟨rfl,fun i r e=>by simp at e⟩,by simp⟩
 | y::ys,h=>by
  obtain ⟨rs,hA,hO⟩:=a7v (D:=D) (ys:=ys) fun i v e=>h (i+1) v e
  obtain ⟨p,t,r,e,_,_,ho,h1,h2⟩:=h 0 y rfl
  refine ⟨r::rs,⟨by simp [hA.len],fun i q eq=>?_⟩,fun q hq=>?_⟩
  ·cases i with
   | zero=>cases eq;exact ⟨y,rfl,p,t,e,h1,h2⟩
   | succ i=>exact hA.get i q eq
  ·rcases Qy.mp hq with z | z
   ·rw [z];exact ho
   ·exact hO q z
def c0s (K:Qd):Sp:=fun vs H Q _=>∃(a:Addr) (ns:List Int) (k:Int),vs=[.ref a,.int k]∧SqL K H a (ns.map V.int)∧ns.length≤63∧0≤k∧k≤1000∧∀i,i=ns.getD k.toNat 0→Q (.int i) H
def b8y:Sp:=fun vs H Q _=>∃(c k:Int),vs=[.int c,.int k]∧∀r:Int,0≤r→Q (.int r) H
theorem a3k {c k:Int} {H:Hp} {Q:VK} {E:XK}:b8y [.int c,.int k] H Q E↔∀r:Int,0≤r→Q (.int r) H:=⟨by rintro ⟨_,_,e,q⟩;cases e;exact q,fun q=>⟨_,_,rfl,q⟩⟩
def a2E (c k:Int) (sg:List Nat):List Nat:=(Xu (1+c % 8).toNat).map fun (j:Nat)=>sg.getD (((c / 64+5 * (j:Int)+(if (j:Int)=c / 8 % (1+c % 8) then k else 0)) % (sg.length:Int)).toNat) 0
theorem a3h (c k:Int) (sg:List Nat):1≤(a2E c k sg).length∧(a2E c k sg).length≤8:=by
 unfold a2E
 rw [Qe,Zc]
 have:=Ze c (b:=8) (by decide)
 have:=Za c (b:=8) (by decide)
 omega
theorem a4g {c k:Int} {sg:List Nat} (h:0 < sg.length):∀x∈a2E c k sg,x∈sg:=by
 intro x hx
 obtain ⟨j,_,rfl⟩:=Qf.mp hx
 have h1:=Ze (c / 64+5 * (j:Int)+(if (j:Int)=c / 8 % (1+c % 8) then k else 0)) (b:=(sg.length:Int)) (by omega)
 have h2:=Za (c / 64+5 * (j:Int)+(if (j:Int)=c / 8 % (1+c % 8) then k else 0)) (b:=(sg.length:Int)) (by omega)
 generalize (c / 64+5 * (j:Int)+(if (j:Int)=c / 8 % (1+c % 8) then k else 0)) % (sg.length:Int)=n at h1 h2
 rw [Xh,Qc (by omega)]
 exact Xd _
theorem b4N:∀n:Nat,n < 26→a3b.getD n 0=97+n:=by decide
theorem a9x {c k k':Int} (hk:0≤k∧k < 26) (hk':0≤k'∧k' < 26) (h:a2E c k a3b=a2E c k' a3b):k=k':=by
 have m8:=Ze c (b:=8) (by decide)
 have m9:=Za c (b:=8) (by decide)
 have a1:=Ze (c / 8) (b:=1+c % 8) (by omega)
 have a2:=Za (c / 8) (b:=1+c % 8) (by omega)
 obtain ⟨a,ea⟩:∃a:Nat,c / 8 % (1+c % 8)=(a:Int):=⟨(c / 8 % (1+c % 8)).toNat,by omega⟩
 have hl:a < (1+c % 8).toNat:=by omega
 have h1:=congrArg (fun l:List Nat=>l[a]?) h
 unfold a2E at h1
 simp only [Qm] at h1
 rw [Gb hl] at h1
 simp only [Jl,Option.some.injEq] at h1
 rw [if_pos ea.symm,if_pos ea.symm] at h1
 have e26:(a3b.length:Int)=26:=by decide
 rw [e26] at h1
 have b1:=Ze (c / 64+5 * (a:Int)+k) (b:=26) (by decide)
 have b2:=Za (c / 64+5 * (a:Int)+k) (b:=26) (by decide)
 have b3:=Ze (c / 64+5 * (a:Int)+k') (b:=26) (by decide)
 have b4:=Za (c / 64+5 * (a:Int)+k') (b:=26) (by decide)
 rw [b4N _ (by omega),b4N _ (by omega)] at h1
 omega
def pcl (wd:Nat→List Nat):Nat→List Nat
 | 0=>[]
 | 1=>40::(wd 3++[41])
 | _=>40::(wd 4++[44])++wd 3++[41]
def nmL (wd:Nat→List Nat) (k:Nat):List Nat:=wd (k % 3)++pcl wd (k / 3)
def plG (wd:Nat→List Nat) (j:Nat):Str:=if j % 2=0 then mk (nmL wd (j / 2)) else mk (45::nmL wd (j / 2))
theorem a6a {a b:List Nat} (h:mk a=mk b):a=b:=by
 have:=congrArg (fun z:Str=>z.cps.toList) h
 exact this
theorem b2j {wd:Nat→List Nat} (hw:∀k,k < 5→∀x∈wd k,x∈a3b) (k:Nat):(nmL wd k).takeWhile (fun x=>x != 40)=wd (k % 3):=by
 have h1:∀x∈wd (k % 3),(x != 40)=true:=fun x hx=>by
  have:=hw _ (by omega) x hx
  have h2:∀y∈a3b,(y != 40)=true:=by decide
  exact h2 x this
 have hp:(pcl wd (k / 3)).takeWhile (fun x=>x != 40)=[]:=by
  match k / 3 with
  | 0=>rfl
  | 1=>rfl
  | n+2=>rfl
 unfold nmL
 rw [List.takeWhile_append_of_pos h1,hp,Qj]
theorem b6J {wd:Nat→List Nat} (hw:∀k,k < 5→∀x∈wd k,x∈a3b) {p q:Nat} (hp:p < 3) (hq:q < 3) (h:pcl wd p=pcl wd q):p=q:=by
 have n44:∀k,k < 5→44∉wd k:=fun k hk z=>by have:=hw k hk 44 z;revert this;decide
 have i1:44∉pcl wd 1:=by
  show 44∉40::(wd 3++[41])
  simp [n44 3 (by decide)]
 have i2:44∈pcl wd 2:=by
  show 44∈40::(wd 4++[44])++wd 3++[41]
  simp
 match p,q,hp,hq with
 | 0,0,_,_=>rfl
 | 1,1,_,_=>rfl
 | 2,2,_,_=>rfl
 | 0,1,_,_=>cases h
 | 0,2,_,_=>cases h
 | 1,0,_,_=>cases h
 | 2,0,_,_=>cases h
 | 1,2,_,_=>rw [h] at i1;exact absurd i2 i1
 | 2,1,_,_=>rw [←h] at i1;exact absurd i2 i1
theorem b4J {wd:Nat→List Nat} (hw:∀k,k < 5→∀x∈wd k,x∈a3b) (hi:∀j k,j < 5→k < 5→wd j=wd k→j=k) {p q:Nat} (hp:p < 9) (hq:q < 9) (h:nmL wd p=nmL wd q):p=q:=by
 have e1:wd (p % 3)=wd (q % 3):=by rw [←b2j hw p,←b2j hw q,h]
 have e2:=hi _ _ (by omega) (by omega) e1
 have e3:pcl wd (p / 3)=pcl wd (q / 3):=by
  unfold nmL at h
  rw [e1] at h
  exact List.append_cancel_left h
 have e4:=b6J hw (by omega) (by omega) e3
 omega
theorem b8O {wd:Nat→List Nat} (hw:∀k,k < 5→∀x∈wd k,x∈a3b) (hn:∀k,k < 5→wd k≠[]) (p q:Nat):nmL wd p≠45::nmL wd q:=fun h=>by
 unfold nmL at h
 cases e:wd (p % 3) with
 | nil=>exact hn _ (by omega) e
 | cons x r=>
  have hx:=hw (p % 3) (by omega) x (by rw [e];exact Qs)
  rw [e] at h
  have:x=45:=(List.cons.inj h).1
  rw [this] at hx;revert hx;decide
theorem b3j {wd:Nat→List Nat} (hw:∀k,k < 5→∀x∈wd k,x∈a3b) (hn:∀k,k < 5→wd k≠[]) (hi:∀j k,j < 5→k < 5→wd j=wd k→j=k) {m:Nat} (hm:m≤18):((Xu m).map (plG wd)).Nodup:=by
 unfold Xk
 rw [Ui]
 refine Vx.imp_of_mem fun {i j} hi' hj' hne e=>hne ?_
 rw [Zs] at hi' hj'
 unfold plG at e
 by_cases a:i % 2=0
 ·by_cases b:j % 2=0
  ·rw [if_pos a,if_pos b] at e
   have:=b4J hw hi (by omega) (by omega) (a6a e);omega
  ·rw [if_pos a,if_neg b] at e
   exact absurd (a6a e) (b8O hw hn _ _)
 ·by_cases b:j % 2=0
  ·rw [if_neg a,if_pos b] at e
   exact absurd (a6a e).symm (b8O hw hn _ _)
  ·rw [if_neg a,if_neg b] at e
   have:=b4J hw hi (by omega) (by omega) (List.cons.inj (a6a e)).2;omega
def a0v (z:Str):Str:=if Js z "-"=true then Vf z (some 1) none else "-"++z
theorem a6b (l:List Nat):a0v (mk l)=if l[0]?=some 45 then mk (l.drop 1) else mk (45::l):=by
 unfold a0v
 rw [show ("-":Str)=mk [45] by decide+kernel,a9o]
 by_cases h:l[0]?=some 45
 ·rw [if_pos (decide_eq_true h),if_pos h,a8T _ (by decide) (by have:=(Qn.mp h).1;omega)];rfl
 ·rw [if_neg (by simpa using h),if_neg h,a2z];rfl
theorem b2o {l:List Nat} (h:l[0]?=some 45→l[1]?≠some 45):a0v (a0v (mk l))=mk l:=by
 rw [a6b l]
 by_cases c:l[0]?=some 45
 ·rw [if_pos c,a6b]
  cases l with
  | nil=>cases c
  | cons x l=>
   rw [if_neg (by have:=h c;simpa using this)]
   have:x=45:=by simpa using c
   rw [this];rfl
 ·rw [if_neg c,a6b,if_pos (show (45::l)[0]?=some 45 from rfl)];rfl
theorem b8N {wd:Nat→List Nat} (hw:∀k,k < 5→∀x∈wd k,x∈a3b) (hn:∀k,k < 5→wd k≠[]) (j:Nat):a0v (a0v (plG wd j))=plG wd j:=by
 have h0:∀k,(nmL wd k)[0]?≠some 45:=fun k z=>by
  unfold nmL at z
  cases e:wd (k % 3) with
  | nil=>exact hn _ (by omega) e
  | cons x r=>
   have hx:=hw (k % 3) (by omega) x (by rw [e];exact Qs)
   rw [e] at z
   have:x=45:=by simpa using z
   rw [this] at hx;revert hx;decide
 unfold plG
 split
 ·exact b2o fun z=>absurd z (h0 _)
 ·exact b2o fun _=>h0 _
def a8p (c:Int):List Str:=(Xu (2 * (1+c % 9).toNat)).map (plG fun (i:Nat)=>a2E (c / 9) (i:Int) a3b)
theorem b3P {c:Int} {z:Str} (h:z∈a8p c):a0v z∈a8p c:=by
 obtain ⟨j,hj,rfl⟩:=Qf.mp h
 rw [Zs] at hj
 have h0:∀k,(nmL (fun (i:Nat)=>a2E (c / 9) (i:Int) a3b) k)[0]?≠some 45:=fun k z=>by
  unfold nmL at z
  cases e:a2E (c / 9) ((k % 3:Nat):Int) a3b with
  | nil=>have:=(a3h (c / 9) ((k % 3:Nat):Int) a3b).1;rw [e] at this;simp at this
  | cons x r=>
   have hx:=a4g (c:=c / 9) (k:=((k % 3:Nat):Int)) (sg:=a3b) (by decide) x (by rw [e];exact Qs)
   have z':(a2E (c / 9) ((k % 3:Nat):Int) a3b++pcl (fun (i:Nat)=>a2E (c / 9) (i:Int) a3b) (k / 3))[0]?=some 45:=z
   rw [e] at z'
   have:x=45:=by simpa using z'
   rw [this] at hx;revert hx;decide
 refine Qf.mpr ⟨if j % 2=0 then j+1 else j - 1,Zs.mpr (by split<;>omega),?_⟩
 unfold plG
 by_cases e:j % 2=0
 ·rw [if_pos e,if_pos e,if_neg (by omega),a6b,if_neg (h0 _),show (j+1) / 2=j / 2 by omega]
 ·rw [if_neg e,if_neg e,if_pos (by omega),a6b,if_pos (by rfl:(45::nmL (fun (i:Nat)=>a2E (c / 9) (i:Int) a3b) (j / 2))[0]?=some 45),show (j - 1) / 2=j / 2 by omega];rfl
def c0x:Sp:=fun vs H Q _=>∃(c k:Int) (sg:List Nat),vs=[.int c,.int k,sv sg]∧(0 < sg.length∧sg.length≤100)∧Q (sv (a2E c k sg)) H
def b8E:Sp:=fun vs H Q _=>∃(c:Int),vs=[.int c]∧∀(D:Addr) (pl:List Str) (H':Hp),a0h H H'→H D=none→H' D=some (.lst (pl.map V.str))→2≤pl.length→pl.length≤18→(∀z∈pl,OkS z)→pl.Nodup→(∀z∈pl,a0v (a0v z)=z)→pl=a8p c→Q (.ref D) H'
def b4e:Sp:=fun vs H Q _=>∃(c:Int),vs=[.int c]∧∀(D:Addr) (ls:List Str) (H':Hp),a0h H H'→H D=none→H' D=some (.lst (ls.map V.str))→ls.length=12→(∀z∈ls,OkS z)→Q (.ref D) H'
def c2S (pl:List Str) (H:Hp) (Q:VK):Prop:=∀(p t:Addr) (r:Rw) (H':Hp),a0h H H'→H p=none→H t=none→a1w r∧c0Y pl r→H' p=some (.tup [.str (a2b r.1),.str r.2.1,.str r.2.2.1,.ref t])→H' t=some (.tup (r.2.2.2.map V.str))→Q (.ref p) H'
def c2c:Sp:=fun vs H Q _=>∃(m k st:Int) (P L:Addr) (pl ls:List Str),vs=[.int m,.int k,.ref P,.ref L,.int st]∧H P=some (.lst (pl.map V.str))∧2≤pl.length∧pl.length≤18∧(∀z∈pl,OkS z)∧H L=some (.lst (ls.map V.str))∧ls.length=12∧(∀z∈ls,OkS z)∧c2S pl H Q
def c2b:Sp:=fun vs H Q _=>∃(m:Int) (P L:Addr) (pl ls:List Str),vs=[.int m,.ref P,.ref L]∧H P=some (.lst (pl.map V.str))∧2≤pl.length∧pl.length≤18∧(∀z∈pl,OkS z)∧H L=some (.lst (ls.map V.str))∧ls.length=12∧(∀z∈ls,OkS z)∧c2S pl H Q
def b8z (K:Qd):Sp:=fun vs H Q _=>∃(a:Addr) (ns:List Int) (st:Int),vs=[.ref a,.int st]∧SqL K H a (ns.map V.int)∧ns.length≤63∧(0≤st∧st≤10)∧∀(D:Addr) (xs:List V) (rs:List Rw) (H':Hp),a0h H H'→H D=none→H' D=some (.lst xs)→a1v H' xs rs→rs.length+st.toNat≤63→(∀r∈rs,a1w r∧c0Y (a8p (ns.getD 0 0)) r)→Q (.ref D) H'
theorem a2U {P:Str→Prop} {pl:List Str} (hl:2≤pl.length) (hok:∀z∈pl,P z) (n:Int):∃z,atI (pl.map V.str) (n % (pl.length:Int))=some (.str z)∧P z:=by
 have m1:=Ze n (b:=(pl.length:Int)) (by omega)
 have m2:=Za n (b:=(pl.length:Int)) (by omega)
 obtain ⟨v,e,hv,_⟩:=a3w (xs:=pl.map V.str) (i:=n % (pl.length:Int)) m1 (by simpa using m2)
 obtain ⟨z,hz,rfl⟩:=Qf.mp hv
 exact ⟨z,e,hok z hz⟩
theorem a9X {ls:List Str} (hl:ls.length=12) (hok:∀z∈ls,OkS z) (n:Int):∃z,atI (ls.map V.str) (n % 12)=some (.str z)∧OkS z:=by
 obtain ⟨z,e,h⟩:=a2U (pl:=ls) (by omega) hok n
 rw [hl] at e
 exact ⟨z,e,h⟩
theorem a6H {P:Str→Prop} {ys:List V} (h:∀(i:Nat) (v:V),ys[i]?=some v→∃z,v=V.str z∧P z):∃zs:List Str,ys=zs.map V.str∧∀z∈zs,P z:=by
 induction ys with
 | nil=>exact ⟨[],rfl,by simp⟩
 | cons y ys ih=>
  obtain ⟨zs,e,ho⟩:=ih fun i v e=>h (i+1) v e
  obtain ⟨z,ez,hz⟩:=h 0 y rfl
  refine ⟨z::zs,by rw [e,ez];rfl,fun x hx=>?_⟩
  rcases Qy.mp hx with w | w
  ·rw [w];exact hz
  ·exact ho x w
def dv (d:List (Str×Nat)):List (Key×V):=d.map fun p=>(Sum.inr p.1,V.int p.2)
theorem b8U (d:List (Str×Nat)):(dv d).length=d.length:=Qe _
theorem b6V (d:List (Str×Nat)) (x:Str) (m:Nat):dv (d++[(x,m)])=dv d++[(Sum.inr x,V.int m)]:=by unfold dv;rw [Xp];rfl
theorem a4l (x:Str):∀d:List (Str×Nat),a0N (dv d) (Sum.inr x:Key)=(lk d x).map fun m:Nat=>V.int m
 | []=>rfl
 | p::r=>by
  by_cases e:p.1=x
  ·rw [show dv (p::r)=(Sum.inr p.1,V.int p.2)::dv r from rfl,a0F (by rw [e])]
   unfold lk;rw [Zd,decide_eq_true e];rfl
  ·rw [show dv (p::r)=(Sum.inr p.1,V.int p.2)::dv r from rfl,a0w (fun z=>e (Sum.inr.inj z)),a4l x r]
   unfold lk;rw [Zd,decide_eq_false e]
theorem a2w {H:Hp} {S:Addr} {d:List (Key×V)} (h:H S=some (.dK d)):IsD H S:=.inl ⟨_,.inl h⟩
def bv (S:List Str):List (Key×V):=S.map fun x=>(Sum.inr x,V.bl true)
theorem a2m (x:Str):∀S:List Str,a0N (bv S) (Sum.inr x:Key)=if x∈S then some (V.bl true) else none
 | []=>rfl
 | y::r=>by
  have ih:=a2m x r
  by_cases e:y=x
  ·rw [show bv (y::r)=(Sum.inr y,V.bl true)::bv r from rfl,a0F (by rw [e]),if_pos (by rw [e];exact Qs)]
  ·rw [show bv (y::r)=(Sum.inr y,V.bl true)::bv r from rfl,a0w (fun z=>e (Sum.inr.inj z)),ih]
   by_cases h:x∈r
   ·rw [if_pos h,if_pos (Qt _ h)]
   ·rw [if_neg h,if_neg (by simp [h];exact fun z=>e z.symm)]
theorem c0o (S:List Str) (x:Str):a1W (bv S) (Sum.inr x:Key) (V.bl true)=bv (a0S S x):=by
 unfold a1W a0S
 rw [a1V,a2m]
 by_cases h:x∈S
 ·rw [if_pos h,if_pos (by rfl),if_pos h]
  unfold bv
  rw [Xo]
  refine Uy fun y _=>?_
  simp only [Function.comp]
  split<;>rfl
 ·rw [if_neg h,if_neg (by simp),if_neg h]
  unfold bv;rw [Xp];rfl
theorem c1z {H:Hp} {D:Addr} {S:List Str} (h:H D=some (.dK (bv S))) (x:Str):a2K H D (.str x) (if x∈S then some (V.bl true) else none):=by
 have:=a2K.k (k:=(Sum.inr x:Key)) h
 rw [a2m] at this;exact this
theorem b4o {H:Hp} {D:Addr} {S:List Str} (h:H D=some (.dK (bv S))) (hl:S.length≤100000) (x:Str):a4u H D (.str x) (V.bl true) (upd H D (.dK (bv (a0S S x)))):=by
 have:=a4u.k (k:=(Sum.inr x:Key)) (v:=V.bl true) h (by unfold bv;rw [Qe];exact Xm hl (by decide))
 rw [c0o] at this;exact this
theorem b8I {R:List (Str×Nat)} (hn:(R.map (·.1)).Nodup) {x:Str} {n:Nat} (h:lk R x=none∨lk R x=some n):a1W (dv R) (Sum.inr x:Key) (V.int n)=dv (a3z n R x):=by
 unfold a3z
 rcases h with h | h
 ·rw [h,if_neg (by simp),a5t _ (by rw [a4l,h];rfl),b6V]
 ·rw [h,if_pos (by simp)]
  unfold a1W
  rw [a1V,a4l,h,if_pos (by rfl)]
  unfold dv
  rw [Xo]
  refine Uy fun p hp=>?_
  simp only [Function.comp]
  by_cases e:p.1=x
  ·have:=a9O hn hp
   rw [e,h] at this
   rw [if_pos (by rw [e]),Option.some.inj this]
  ·rw [if_neg (fun z=>e (Sum.inr.inj z))]
theorem c3k {H:Hp} {D:Addr} {R:List (Str×Nat)} (h:H D=some (.dK (dv R))) (hl:R.length≤100000) (hn:(R.map (·.1)).Nodup) {x:Str} {n:Nat} (hx:lk R x=none∨lk R x=some n):a4u H D (.str x) (V.int n) (upd H D (.dK (dv (a3z n R x)))):=by
 have:=a4u.k (k:=(Sum.inr x:Key)) (v:=V.int n) h (by rw [b8U];exact Xm hl (by decide))
 rw [b8I hn hx] at this;exact this
def srW (r:Rw):SR Str:=(decide (r.1 < 2),r.2.2.1,r.2.2.2)
theorem c1O:∀zs:List Str,(∀z∈zs,Yb z=true)→Uj (zs.map Jm)=true∧Zx (zs.map Jm)=0
 | [],_=>⟨rfl,rfl⟩
 | z::zs,h=>by
  obtain ⟨a,b⟩:=c1O zs fun p hp=>h p (Qt _ hp)
  refine ⟨?_,?_⟩
  ·show (Xy (.str z) && _)=true
   rw [a,Bool.and_true];exact h z Qs
  ·show max (Zb (.str z)) _=0
   rw [b];rfl
theorem b1J {zs:List Str} (h:∀z∈zs,Yb z=true):Je (.list (zs.map Jm))=true:=by
 obtain ⟨a,b⟩:=c1O zs h
 unfold Je
 simp only [Xy,Zb,a,b]
 decide
theorem b1S (zs:List Str):Yx (.list (zs.map Jm)) (.list [])=decide (zs=[]):=by
 cases zs with
 | nil=>rfl
 | cons z zs=>rfl
theorem b1p {K:Qd} {H:Hp} {Q:VK} {a b:Addr} {zs:List Str} (ha:SqL K H a (zs.map V.str)) (hb:SqL K H b []) (ho:∀z∈zs,Yb z=true) (q:Q (.bl (decide (zs=[]))) H):b6e K (.ref a) (.ref b) H Q:=
 .inr ⟨_,_,.lst ha (a5i zs),.lst hb .nil,b1J ho,by decide,by rw [b1S];exact q⟩
theorem b1s {K:Qd} {H:Hp} {Q:VK} {a b:Addr} {zs:List Str} (ha:SqL K H a (zs.map V.str)) (hb:SqL K H b []) (ho:∀z∈zs,Yb z=true) (q:Q (.bl (!decide (zs=[]))) H):b4X K (.ref a) (.ref b) H Q:=
 .inr ⟨_,_,.lst ha (a5i zs),.lst hb .nil,b1J ho,by decide,by rw [b1S];exact q⟩
def a3A (K:Qd) (H:Hp) (v:V) (kn:List Str):Prop:=(∃a,v=.ref a∧H a=some (.lst (kn.map V.str)))∨∃a kvs,v=.ref a∧H a=some (.dK kvs)∧kvs.map (·.1)=kn.map (Sum.inr:Str→Key)
theorem a3A.at {K:Qd} {H:Hp} {v:V} {kn:List Str} (h:a3A K H v kn):∃a o,v=.ref a∧H a=some o:=by
 rcases h with ⟨a,e,b⟩ | ⟨a,_,e,b,_⟩
 ·exact ⟨a,_,e,b⟩
 ·exact ⟨a,_,e,b⟩
theorem a3A.same {K:Qd} {H H':Hp} {v:V} {kn:List Str} (s:a0h H H') (h:a3A K H v kn):a3A K H' v kn:=h.imp (fun ⟨a,e,b⟩=>⟨a,e,s _ _ b⟩) fun ⟨a,k,e,b,c⟩=>⟨a,k,e,s _ _ b,c⟩
def b5P (K:Qd):Sp:=fun vs H Q _=>∃(v:V) (kn:List Str),vs=[v]∧a3A K H v kn∧kn.length≤1000∧∀D H',a0h H H'→H D=none→H' D=some (.dK (bv (kn.foldl a0S [])))→Q (.ref D) H'
def b2B (K:Qd):Sp:=fun vs H Q _=>∃(a b:Addr) (xs:List V) (rs:List Rw) (kn:List Str),vs=[.ref a,.ref b]∧H a=some (.lst xs)∧a1v H xs rs∧(∀r∈rs,a1w r)∧rs.length≤100∧SqL K H b (kn.map V.str)∧kn.length≤100∧
 ∀D H',a0h H H'→H D=none→H' D=some (.dK (dv (FIN (rs.map srW) (kn.foldl a0S []))))→Q (.ref D) H'
theorem b7r {K:Qd} {H:Hp} {Q:VK} {z:Str} {a:Addr} {r:List Str} (h:SqT K H a (r.map V.str)) (q:Q (.bl (decide (z∈r))) H):b7D K (.str z) (.ref a) H Q:=
 .inr ⟨a,_,rfl,.inr h,rfl,a6A _,by rw [if_neg Qo,b1K];exact q⟩
theorem b1j {n:Nat} (h:n < 4):decide (a2b n∈(["fact","sure"]:List Str))=decide (n < 2):=by
 match n,h with
 | 0,_=>decide+kernel
 | 1,_=>decide+kernel
 | 2,_=>decide+kernel
 | 3,_=>decide+kernel
def a9r (lb hd:V) (t:Addr):List (Str×V):=a1o "body" (.ref t) (a1o "head" hd (a1o "label" lb []))
theorem a4E (lb hd:V) (t:Addr):(a9r lb hd t).lookup ("label":Str)=some lb:=by
 unfold a9r;rw [a0f,if_neg (by decide+kernel),a0f,if_neg (by decide+kernel),a0f,if_pos rfl]
theorem a1h (lb hd:V) (t:Addr):(a9r lb hd t).lookup ("head":Str)=some hd:=by
 unfold a9r;rw [a0f,if_neg (by decide+kernel),a0f,if_pos rfl]
theorem a1O (lb hd:V) (t:Addr):(a9r lb hd t).lookup ("body":Str)=some (.ref t):=by
 unfold a9r;rw [a0f,if_pos rfl]
theorem b6B (lb hd:V) (t:Addr) {m:Str} (h1:¬m="body") (h2:¬m="head") (h3:¬m="label"):(a9r lb hd t).lookup m=none:=by
 unfold a9r;rw [a0f,if_neg h1,a0f,if_neg h2,a0f,if_neg h3];rfl
def a1U (H:Hp) (r C:Addr) (lb hd:V) (bs:List V):Prop:=∃dx t,H r=some (.ins C dx (a9r lb hd t))∧H t=some (.tup bs)
theorem a1U.same {H H':Hp} {r C:Addr} {lb hd:V} {bs:List V} (s:a0h H H') (h:a1U H r C lb hd bs):a1U H' r C lb hd bs:=let ⟨d,t,a,b⟩:=h;⟨d,t,s _ _ a,s _ _ b⟩
def b8A (K:Qd):Sp:=fun vs H Q _=>∃x C dx lb hd b bs,vs=[.ref x,lb,hd,.ref b]∧H x=some (.ins C dx [])∧(Cls K C∧a0C K C "label"∧a0C K C "head"∧a0C K C "body")∧(SqL K H b bs∨SqT K H b bs∧H b=some (.tup bs))∧
 ∀H',(∀c o,H c=some o→c≠x→H' c=some o)→a1U H' x C lb hd bs→Q .non H'
def b5s (K:Qd) (C:Addr):Sp:=fun vs H Q _=>∃x dx hd,vs=[.ref x,hd]∧H x=some (.ins C dx [])∧
 ∀H',(∀c o,H c=some o→c≠x→H' c=some o)→a1U H' x C (.str "") hd []→Q .non H'
def a4A (t:Adr):Nat→Addr
 | 0=>t.C_Fact
 | 1=>t.C_Sure
 | 2=>t.C_Most
 | _=>t.C_Block
def a1b (b:Bool):Sp:=fun vs H Q _=>∃x,vs=[x]∧Q (.bl b) H
theorem a4G {b:Bool} {x:V} {H:Hp} {Q:VK} {E:XK}:a1b b [x] H Q E↔Q (.bl b) H:=⟨by rintro ⟨_,e,q⟩;cases e;exact q,fun q=>⟨_,rfl,q⟩⟩
structure c6L (K:Qd) (t:Adr) (C:Addr):Prop where
 cl:Cls K C
 ty:TyI K C
 nl:a0C K C "label"
 nh:a0C K C "head"
 nb:a0C K C "body"
 kr:Yq K (.ref C) (.ref t.C_Rule)=some true
theorem a8S {K:Qd} {mg:Str→Option Value} {t:Adr} (T:Txt K mg t) {kind:Nat} (h:kind < 4):c6L K t (a4A t kind):=by
 match kind,h with
 | 0,_=>exact ⟨T.cl_Fact,T.ty_Fact,T.nf_Fact_label,T.nf_Fact_head,T.nf_Fact_body,T.ki_Fact_Rule⟩
 | 1,_=>exact ⟨T.cl_Sure,T.ty_Sure,T.nf_Sure_label,T.nf_Sure_head,T.nf_Sure_body,T.ki_Sure_Rule⟩
 | 2,_=>exact ⟨T.cl_Most,T.ty_Most,T.nf_Most_label,T.nf_Most_head,T.nf_Most_body,T.ki_Most_Rule⟩
 | 3,_=>exact ⟨T.cl_Block,T.ty_Block,T.nf_Block_label,T.nf_Block_head,T.nf_Block_body,T.ki_Block_Rule⟩
def b5x (kind:Nat) (a b c d:Sp):Sp:=match kind with
 | 0=>a
 | 1=>b
 | 2=>c
 | _=>d
theorem a9z {kind:Nat} (h:kind < 4):b5x kind (a1b true) (a1b true) (a1b false) (a1b false)=a1b (decide ((kind:Int) < 2)):=by
 match kind,h with
 | 0,_=>rfl
 | 1,_=>rfl
 | 2,_=>rfl
 | 3,_=>rfl
theorem c6j {t:Adr} {m:Str} {s0 s1 s2 s3:Sp} {ta:TE} {σ:St} {H:Hp} {Q:VK} {r:Addr} {kind:Nat} {lb hd:V} {bs:List V} (hk:kind < 4) (hta:∀R:VK,R (.ref r) H→ta σ H R) (hR:a1U H r (a4A t kind) lb hd bs)
  (hm:¬m="body"∧¬m="head"∧¬m="label") (q:b5x kind s0 s1 s2 s3 [.ref r] H Q E0):
  c0w (a2g t.C_Fact m s0 [] E0 ta a0r) (c0w (a2g t.C_Sure m s1 [] E0 ta a0r) (c0w (a2g t.C_Most m s2 [] E0 ta a0r) (a2g t.C_Block m s3 [] E0 ta a0r))) σ H Q:=by
 obtain ⟨dx,t0,h1,_⟩:=hR
 have hn:=b6B lb hd t0 hm.1 hm.2.1 hm.2.2
 match kind,hk with
 | 0,_=>exact .inl (hta _ ⟨r,dx,_,rfl,h1,hn,q⟩)
 | 1,_=>exact .inr (.inl (hta _ ⟨r,dx,_,rfl,h1,hn,q⟩))
 | 2,_=>exact .inr (.inr (.inl (hta _ ⟨r,dx,_,rfl,h1,hn,q⟩)))
 | 3,_=>exact .inr (.inr (.inr (hta _ ⟨r,dx,_,rfl,h1,hn,q⟩)))
theorem a0K {i:Nat} {σ:St} {H:Hp} {v:V} (h:σ[i]?=some (some v)):∀R:VK,R v H→a0k i σ H R:=fun R q=>⟨v,h,q⟩
def b1a (t:Adr) (H:Hp) (v:V) (r:Rw):Prop:=∃p,v=.ref p∧a1U H p (a4A t r.1) (.str r.2.1) (.str r.2.2.1) (r.2.2.2.map V.str)
theorem b1a.same {t:Adr} {H H':Hp} {v:V} {r:Rw} (s:a0h H H') (h:b1a t H v r):b1a t H' v r:=let ⟨p,a,b⟩:=h;⟨p,a,b.same s⟩
structure a1J (t:Adr) (H:Hp) (xs:List V) (rs:List Rw):Prop where
 len:xs.length=rs.length
 get:∀(i:Nat) (r:Rw),rs[i]?=some r→∃x,xs[i]?=some x∧b1a t H x r
theorem a1J.same {t:Adr} {H H':Hp} {xs:List V} {rs:List Rw} (s:a0h H H') (h:a1J t H xs rs):a1J t H' xs rs:=⟨h.len,fun i r e=>let ⟨x,a,b⟩:=h.get i r e;⟨x,a,b.same s⟩⟩
theorem a1J.at {t:Adr} {H:Hp} {xs:List V} {rs:List Rw} (h:a1J t H xs rs) {i:Nat} (hi:i < xs.length):∃(hi':i < rs.length) (p:Addr),xs[i]=.ref p∧a1U H p (a4A t rs[i].1) (.str rs[i].2.1) (.str rs[i].2.2.1) (rs[i].2.2.2.map V.str):=by
 have hi':i < rs.length:=by rw [←h.len];exact hi
 obtain ⟨x,e,p,rfl,hp⟩:=h.get i rs[i] (Qc hi')
 rw [Qc hi] at e
 exact ⟨hi',p,Option.some.inj e,hp⟩
def a6P (K:Qd) (t:Adr):Sp:=fun vs H Q _=>∃(p b:Addr) (r:Rw),vs=[.ref p]∧a1w r∧H p=some (.tup [.str (a2b r.1),.str r.2.1,.str r.2.2.1,.ref b])∧H b=some (.tup (r.2.2.2.map V.str))∧
 ∀x H',a0h H H'→a1U H' x (a4A t r.1) (.str r.2.1) (.str r.2.2.1) (r.2.2.2.map V.str)→Q (.ref x) H'
def c1E (RS:List (SR Str)) (k0:List Str) (H:Hp) (Q:VK):Prop:=∀D H',a0h H H'→H D=none→H' D=some (.dK (dv (FIN RS k0)))→Q (.ref D) H'
def b9Z (K:Qd) (t:Adr):Sp:=fun vs H Q _=>∃(a:Addr) (kv:V) (xs:List V) (rs:List Rw) (kn:List Str),vs=[.ref a,kv]∧H a=some (.lst xs)∧a1J t H xs rs∧(∀r∈rs,a1w r)∧rs.length≤126∧((kv=.non∧kn=[])∨∃b,kv=.ref b∧H b=some (.lst (kn.map V.str)))∧kn.length≤100∧c1E (rs.map srW) (kn.foldl a0S []) H Q
abbrev VR:=V×Rw
def a9s (t:Adr) (H:Hp) (ws:List VR):Prop:=∀p∈ws,b1a t H p.1 p.2∧a1w p.2
theorem a9s.same {t:Adr} {H H':Hp} {ws:List VR} (s:a0h H H') (h:a9s t H ws):a9s t H' ws:=fun p hp=>⟨(h p hp).1.same s,(h p hp).2⟩
theorem a1J.zip {t:Adr} {H:Hp}:∀{xs:List V} {rs:List Rw},a1J t H xs rs→(∀r∈rs,a1w r)→∃zr:List VR,zr.map (·.1)=xs∧zr.map (·.2)=rs∧a9s t H zr
 | [],[],_,_=>⟨[],rfl,rfl,fun _ h=>by cases h⟩
 | [],_::_,h,_=>by have:=h.len;simp at this
 | _::_,[],h,_=>by have:=h.len;simp at this
 | x::xs,r::rs,h,ho=>by
  have h':a1J t H xs rs:=⟨by have:=h.len;simpa using this,fun i r e=>h.get (i+1) r e⟩
  obtain ⟨zr,e1,e2,hz⟩:=a1J.zip h' fun r hr=>ho r (Qt _ hr)
  obtain ⟨x',ex,hx⟩:=h.get 0 r rfl
  cases ex
  refine ⟨(x,r)::zr,by rw [Xg,e1],by rw [Xg,e2],fun p hp=>?_⟩
  rcases Qy.mp hp with z | z
  ·rw [z];exact ⟨hx,ho r Qs⟩
  ·exact hz p z
theorem a1X {K:Qd} {t:Adr} {a:Addr} {js:List (Option Nat)} {tt:TT} {te:TE} {σ:St} {H:Hp} {Q:VK} (ws:List VR) (hW:H a=some (.lst (ws.map (·.1)))) (hl:ws.length≤1000) (hz:a9s t H ws) (σr:St) (hσ:a1G js σ=none::σr) (P:Rw→Bool) (g:VR→V)
  (hs:∀(x:Addr) (r:Rw) H' (R:Bool→Hp→Prop),a1w r→a1U H' x (a4A t r.1) (.str r.2.1) (.str r.2.2.1) (r.2.2.2.map V.str)→a0h H H'→(∀H'',a0h H' H''→R (P r) H'')→tt (some (.ref x)::σr) H' R)
  (he:∀(x:Addr) (r:Rw) H' (R:V→Hp→Prop),a1w r→a1U H' x (a4A t r.1) (.str r.2.1) (.str r.2.2.1) (r.2.2.2.map V.str)→a0h H H'→(∀H'',a0h H' H''→R (g (.ref x,r)) H'')→te (some (.ref x)::σr) H' R)
  (hd:∀D H',H D=none→a0h H H'→H' D=some (.lst ((ws.filter fun p=>P p.2).map g))→Q (.ref D) H'):a4y (Itl K a) js (a0l 0) tt te σ H Q:=by
 let d0:VR:=(.non,0,"","",[])
 refine a4d (a3j (xs:=ws.map (·.1))) (Qi (show (ws.map (·.1)).length≤1000 by simpa using hl) (by decide)) σr hσ (fun i=>P ((ws[i]?).getD d0).2) (fun i=>g ((ws[i]?).getD d0)) (fun H' s=>SqL.of (s _ _ hW)) (fun i H' R hi s hR=>?_) (fun i H' R hi s hR=>?_) (fun D H' hD s h=>?_)
 ·have hi':i < ws.length:=by simpa using hi
  obtain ⟨⟨x,ex,hx⟩,ho⟩:=hz _ (Xd hi')
  have e2:((ws.map (·.1))[i]?).getD .non=.ref x:=by rw [Qm,Qc hi'];exact ex
  rw [e2]
  rw [Qc hi',Xi] at hR
  exact hs x _ H' R ho (hx.same s) s hR
 ·have hi':i < ws.length:=by simpa using hi
  obtain ⟨⟨x,ex,hx⟩,ho⟩:=hz _ (Xd hi')
  have e2:((ws.map (·.1))[i]?).getD .non=.ref x:=by rw [Qm,Qc hi'];exact ex
  rw [e2]
  rw [Qc hi',Xi] at hR
  refine he x _ H' R ho (hx.same s) s ?_
  rw [show ((V.ref x,ws[i].2):VR)=ws[i] from by rw [←ex]]
  exact hR
 ·rw [show (ws.map (·.1)).length=ws.length by simp,a0U d0 (fun p:VR=>P p.2) g ws] at h
  exact hd D H' hD s h
def wat (zr:List VR) (S:List Str):List VR:=zr.filter fun p=>(srW p.2).1 && decide ((srW p.2).2.1∉S)
theorem b2s {t:Adr} {H:Hp} {zr:List VR} {S:List Str} (h:a9s t H zr):a9s t H (wat zr S):=fun p hp=>h p (Qp.mp hp).1
theorem a6G (zr:List VR) (S:List Str):(wat zr S).length≤zr.length:=Qz _ _
theorem b9y (zr:List VR) {S S':List Str} (h:∀x,x∈S→x∈S'):(wat zr S).filter (fun p=>decide ((srW p.2).2.1∉S'))=wat zr S':=by
 unfold wat
 rw [Zw]
 refine Zz fun p _=>?_
 by_cases c:(srW p.2).2.1∈S'
 ·rw [decide_eq_false (by simpa using c),Wt,Zt]
 ·rw [decide_eq_true c,decide_eq_true (show ¬(srW p.2).2.1∈S from fun z=>c (h _ z)),Bool.and_true,Jw]
theorem a7C (zr:List VR) (S:List Str):((wat zr S).filter fun p=>(srW p.2).2.2.all fun q=>decide (q∈S)).map (fun p=>V.str (srW p.2).2.1)=(frs ((zr.map (·.2)).map srW) S).map V.str:=by
 unfold wat frs
 rw [Zw,Xo,Zm,Xo,Zm,Xo]
 refine congrArg (Gm _) (Zz fun p _=>?_)
 simp only [Function.comp]
 rw [Uk]
def RuD (t:Adr) (D:Addr) (v:V) (r:Rw) (H:Hp):Prop:=∃p dx t0,v=.ref p∧p≠D∧t0≠D∧H p=some (.ins (a4A t r.1) dx (a9r (.str r.2.1) (.str r.2.2.1) t0))∧H t0=some (.tup (r.2.2.2.map V.str))
theorem b8L {t:Adr} {D:Addr} {H:Hp} {ys:List V} {rs:List Rw} (hl:ys.length=rs.length) (h:∀(i:Nat) v,ys[i]?=some v→∃hi:i < rs.length,RuD t D v rs[i] H):a1J t H ys rs:=by
 refine ⟨hl,fun i r e=>?_⟩
 obtain ⟨hi,e'⟩:=Qn.mp e
 have hy:i < ys.length:=by rw [hl];exact hi
 obtain ⟨_,p,dx,t0,ev,_,_,h1,h2⟩:=h i ys[i] (Qc hy)
 rw [e'] at h1 h2
 exact ⟨ys[i],Qc hy,p,ev,dx,t0,h1,h2⟩
theorem a5Z (RS:List (SR Str)) (k0:List Str):((FIN RS k0).map (·.1)).Nodup:=a0W _
def a5Y (r:Rw):PyData:=.tuple [.str (a2b r.1),.str r.2.1,.str r.2.2.1,.tuple (r.2.2.2.map Jm)]
theorem b7I {n:Nat} (h:n < 4):Yb (a2b n)=true:=by
 match n,h with
 | 0,_=>decide+kernel
 | 1,_=>decide+kernel
 | 2,_=>decide+kernel
 | 3,_=>decide+kernel
theorem b5v {r:Rw} (h:a1w r):Xy (a5Y r)=true∧Zb (a5Y r)≤2:=by
 obtain ⟨h1,_,h2,h3,h4,_⟩:=h
 obtain ⟨a,b⟩:=c1O r.2.2.2 fun q hq=>(h4 q hq).1
 unfold a5Y
 refine ⟨?_,?_⟩
 ·show Uj [.str (a2b r.1),.str r.2.1,.str r.2.2.1,.tuple (r.2.2.2.map Jm)]=true
  show (Xy (.str (a2b r.1)) && (Xy (.str r.2.1) && (Xy (.str r.2.2.1) && (Xy (.tuple (r.2.2.2.map Jm)) && true))))=true
  rw [show Xy (.tuple (r.2.2.2.map Jm))=true from a,show Xy (.str (a2b r.1))=true from b7I h1,show Xy (.str r.2.1)=true from h2.1,show Xy (.str r.2.2.1)=true from h3.1];rfl
 ·simp [Zb,Zx,b]
theorem a5d:∀{rs:List Rw},(∀r∈rs,a1w r)→Uj (rs.map a5Y)=true∧Zx (rs.map a5Y)≤2
 | [],_=>⟨rfl,Xe _⟩
 | r::rs,h=>by
  obtain ⟨a,b⟩:=a5d (rs:=rs) fun x hx=>h x (Qt _ hx)
  obtain ⟨c,d⟩:=b5v (h r Qs)
  refine ⟨?_,?_⟩
  ·show (Xy (a5Y r) && Uj (rs.map a5Y))=true
   rw [c,a];rfl
  ·show max (Zb (a5Y r)) (Zx (rs.map a5Y))≤2
   exact Nat.max_le.mpr ⟨d,b⟩
theorem a7s {K:Qd} {H:Hp}:∀{ws:List (V×Rw)},(∀p∈ws,a4s H p.1 p.2)→DenAll K H (ws.map (·.1)) ((ws.map (·.2)).map a5Y)
 | [],_=>.nil
 | p::ws,h=>by
  obtain ⟨a,t,e,h1,h2⟩:=h p Qs
  refine .cons ?_ (a7s fun x hx=>h x (Qt _ hx))
  show Den K H p.1 (a5Y p.2)
  rw [e]
  exact .tup (SqT.of h1) (.cons (.str _) (.cons (.str _) (.cons (.str _) (.cons (.tup (SqT.of h2) (a5i _)) .nil))))
theorem a5K {K:Qd} {H:Hp} {Q:VK} {a b:Addr} {ws:List (V×Rw)} (ha:H a=some (.lst (ws.map (·.1)))) (hb:SqL K H b []) (hz:∀p∈ws,a4s H p.1 p.2∧a1w p.2) (q:Q (.bl (decide (ws=[]))) H):b6e K (.ref a) (.ref b) H Q:=by
 obtain ⟨c,d⟩:=a5d (rs:=ws.map (·.2)) fun r hr=>by obtain ⟨p,hp,rfl⟩:=Qf.mp hr;exact (hz p hp).2
 refine .inr ⟨_,_,.lst (SqL.of ha) (a7s fun p hp=>(hz p hp).1),.lst hb .nil,?_,by decide,?_⟩
 ·unfold Je
  rw [Xr]
  refine ⟨c,?_⟩
  have:Zb (.list ((ws.map (·.2)).map a5Y))=Zx ((ws.map (·.2)).map a5Y)+1:=by first | rfl | simp [Zb,Vy]
  rw [this]
  exact decide_eq_true (by omega)
 ·have:Yx (.list ((ws.map (·.2)).map a5Y)) (.list [])=decide (ws=[]):=by
   cases ws with
   | nil=>rfl
   | cons p ws=>rfl
  rw [this];exact q
theorem a7J {K:Qd} {H:Hp} {Q:VK} {a b:Addr} {ws:List (V×Rw)} (ha:H a=some (.lst (ws.map (·.1)))) (hb:SqL K H b []) (hz:∀p∈ws,a4s H p.1 p.2∧a1w p.2) (q:Q (.bl (!decide (ws=[]))) H):b4X K (.ref a) (.ref b) H Q:=by
 obtain ⟨c,d⟩:=a5d (rs:=ws.map (·.2)) fun r hr=>by obtain ⟨p,hp,rfl⟩:=Qf.mp hr;exact (hz p hp).2
 refine .inr ⟨_,_,.lst (SqL.of ha) (a7s fun p hp=>(hz p hp).1),.lst hb .nil,?_,by decide,?_⟩
 ·unfold Je
  rw [Xr]
  refine ⟨c,?_⟩
  have:Zb (.list ((ws.map (·.2)).map a5Y))=Zx ((ws.map (·.2)).map a5Y)+1:=by first | rfl | simp [Zb,Vy]
  rw [this]
  exact decide_eq_true (by omega)
 ·have:Yx (.list ((ws.map (·.2)).map a5Y)) (.list [])=decide (ws=[]):=by
   cases ws with
   | nil=>rfl
   | cons p ws=>rfl
  rw [this];exact q
theorem a1v.zip {H:Hp}:∀{xs:List V} {rs:List Rw},a1v H xs rs→(∀r∈rs,a1w r)→∃zr:List (V×Rw),zr.map (·.1)=xs∧zr.map (·.2)=rs∧∀p∈zr,a4s H p.1 p.2∧a1w p.2
 | [],[],_,_=>⟨[],rfl,rfl,fun _ h=>by cases h⟩
 | [],_::_,h,_=>by have:=h.len;simp at this
 | _::_,[],h,_=>by have:=h.len;simp at this
 | x::xs,r::rs,h,ho=>by
  have h':a1v H xs rs:=⟨by have:=h.len;simpa using this,fun i r e=>h.get (i+1) r e⟩
  obtain ⟨zr,e1,e2,hz⟩:=a1v.zip h' fun r hr=>ho r (Qt _ hr)
  obtain ⟨x',ex,hx⟩:=h.get 0 r rfl
  cases ex
  refine ⟨(x,r)::zr,by rw [Xg,e1],by rw [Xg,e2],fun p hp=>?_⟩
  rcases Qy.mp hp with z | z
  ·rw [z];exact ⟨hx,ho r Qs⟩
  ·exact hz p z
theorem a2R {K:Qd} {β:Type} (At:Hp→V→β→Prop) (d0:β) {a:Addr} {js:List (Option Nat)} {tt:TT} {te:TE} {σ:St} {H:Hp} {Q:VK} (ws:List (V×β)) (hW:H a=some (.lst (ws.map (·.1)))) (hl:ws.length≤1000) (hz:∀H',a0h H H'→∀p∈ws,At H' p.1 p.2) (σr:St) (hσ:a1G js σ=none::σr) (P:β→Bool) (g:V×β→V)
  (hs:∀(x:V) (b:β) H' (R:Bool→Hp→Prop),At H' x b→a0h H H'→(∀H'',a0h H' H''→R (P b) H'')→tt (some x::σr) H' R)
  (he:∀(x:V) (b:β) H' (R:V→Hp→Prop),At H' x b→a0h H H'→(∀H'',a0h H' H''→R (g (x,b)) H'')→te (some x::σr) H' R)
  (hd:∀D H',H D=none→a0h H H'→H' D=some (.lst ((ws.filter fun p=>P p.2).map g))→Q (.ref D) H'):a4y (Itl K a) js (a0l 0) tt te σ H Q:=by
 let d1:V×β:=(.non,d0)
 refine a4d (a3j (xs:=ws.map (·.1))) (Qi (show (ws.map (·.1)).length≤1000 by simpa using hl) (by decide)) σr hσ (fun i=>P ((ws[i]?).getD d1).2) (fun i=>g ((ws[i]?).getD d1)) (fun H' s=>SqL.of (s _ _ hW)) (fun i H' R hi s hR=>?_) (fun i H' R hi s hR=>?_) (fun D H' hD s h=>?_)
 ·have hi':i < ws.length:=by simpa using hi
  have e2:((ws.map (·.1))[i]?).getD .non=ws[i].1:=by rw [Qm,Qc hi'];rfl
  rw [e2]
  rw [Qc hi',Xi] at hR
  exact hs _ _ H' R (hz _ s _ (Xd hi')) s hR
 ·have hi':i < ws.length:=by simpa using hi
  have e2:((ws.map (·.1))[i]?).getD .non=ws[i].1:=by rw [Qm,Qc hi'];rfl
  rw [e2]
  rw [Qc hi',Xi] at hR
  exact he _ _ H' R (hz _ s _ (Xd hi')) s hR
 ·rw [show (ws.map (·.1)).length=ws.length by simp,a0U d1 (fun p:V×β=>P p.2) g ws] at h
  exact hd D H' hD s h
def gfl (io bh pr:Addr):List (Str×V):=a1o "pairs" (.ref pr) (a1o "by_head" (.ref bh) (a1o "in_order" (.ref io) []))
theorem b4S (io bh pr:Addr):(gfl io bh pr).lookup ("in_order":Str)=some (.ref io):=by
 unfold gfl;rw [a0f,if_neg (by decide+kernel),a0f,if_neg (by decide+kernel),a0f,if_pos rfl]
theorem b7O (io bh pr:Addr):(gfl io bh pr).lookup ("by_head":Str)=some (.ref bh):=by
 unfold gfl;rw [a0f,if_neg (by decide+kernel),a0f,if_pos rfl]
theorem a2D (io bh pr:Addr) {m:Str} (h1:¬m="pairs") (h2:¬m="by_head") (h3:¬m="in_order"):(gfl io bh pr).lookup m=none:=by
 unfold gfl;rw [a0f,if_neg h1,a0f,if_neg h2,a0f,if_neg h3];rfl
def hdF (rs:List Rw) (h:Str):List Rw:=rs.filter fun r=>decide (r.2.2.1=h)
def c1C (t:Adr) (H:Hp) (kvs:List (Key×V)) (rs:List Rw):Prop:=∀h:Str,(a0N kvs (Sum.inr h:Key)=none∧hdF rs h=[])∨∃L ys,a0N kvs (Sum.inr h:Key)=some (.ref L)∧H L=some (.lst ys)∧a1J t H ys (hdF rs h)
theorem c1C.same {t:Adr} {H H':Hp} {kvs:List (Key×V)} {rs:List Rw} (s:a0h H H') (h:c1C t H kvs rs):c1C t H' kvs rs:=fun x=>(h x).imp id fun ⟨L,ys,a,b,c⟩=>⟨L,ys,a,s _ _ b,c.same s⟩
def c2e (kvs:List (List Key×V)) (pl:List (Str×Str)):Prop:=∀a b:Str,a0N kvs [Sum.inr a,Sum.inr b]=if (a,b)∈pl then some (V.bl true) else none
def a3J (t:Adr) (H:Hp) (g:Addr) (rs:List Rw) (pl:List (Str×Str)):Prop:=∃dx io bh pr xs kvs kps,H g=some (.ins t.C_Ground dx (gfl io bh pr))∧H io=some (.tup xs)∧a1J t H xs rs∧H bh=some (.dK kvs)∧c1C t H kvs rs∧H pr=some (.dT kps)∧c2e kps pl
theorem a3J.same {t:Adr} {H H':Hp} {g:Addr} {rs:List Rw} {pl:List (Str×Str)} (s:a0h H H') (h:a3J t H g rs pl):a3J t H' g rs pl:=let ⟨dx,io,bh,pr,xs,kvs,kps,a,b,c,d,e,f,k⟩:=h;⟨dx,io,bh,pr,xs,kvs,kps,s _ _ a,s _ _ b,c.same s,s _ _ d,e.same s,s _ _ f,k⟩
theorem a1J.refs {t:Adr} {H H':Hp} {xs:List V} {rs:List Rw} (h:a1J t H xs rs) {x dx:Addr} {C:Addr} (hx:H x=some (.ins C dx [])) (k:∀c o,H c=some o→c≠x→H' c=some o):a1J t H' xs rs:=⟨h.len,fun i r e=>by
 obtain ⟨v,a,p,rfl,dx',t0,h1,h2⟩:=h.get i r e
 have hp:p≠x:=fun z=>by
  rw [z,hx] at h1
  injection h1 with h1
  injection h1 with _ _ h3
  have:=a1h (.str r.2.1) (.str r.2.2.1) t0
  rw [←h3] at this;cases this
 have ht:t0≠x:=a0G h2 hx (by intro z;cases z)
 exact ⟨_,a,p,rfl,dx',t0,k _ _ h1 hp,k _ _ h2 ht⟩⟩
theorem b4x (io bh pr:Addr):(gfl io bh pr).lookup ("pairs":Str)=some (.ref pr):=by
 unfold gfl;rw [a0f,if_pos rfl]
theorem a0R.same {H H':Hp} {xs:List V} {pl:List (Str×Str)} (s:a0h H H') (h:a0R H xs pl):a0R H' xs pl:=let ⟨as,a,b,c⟩:=h;⟨as,a,b,fun i x p e1 e2=>s _ _ (c i x p e1 e2)⟩
def c0A (t:Adr):Sp:=fun vs H Q _=>∃(x dx b pb:Addr) (xs:List V) (rs:List Rw) (ps:List V) (pl:List (Str×Str)),vs=[.ref x,.ref b,.ref pb]∧H x=some (.ins t.C_Ground dx [])∧H b=some (.lst xs)∧a1J t H xs rs∧(∀r∈rs,a1w r)∧rs.length≤126∧H pb=some (.lst ps)∧a0R H ps pl∧pl.length≤200∧
 ∀H',(∀c o,H c=some o→c≠x→H' c=some o)→a3J t H' x rs pl→Q .non H'
def a9l (t:Adr):Sp:=fun vs H Q _=>∃(g:Addr) (h:Str) (rs:List Rw) (pl:List (Str×Str)),vs=[.ref g,.str h]∧a3J t H g rs pl∧∀D ys H',a0h H H'→H D=none→H' D=some (.lst ys)→a1J t H' ys (hdF rs h)→Q (.ref D) H'
def b6t:Sp:=fun vs H Q _=>∃z:Str,vs=[.str z]∧z.length≤100∧Q (.str (a0v z)) H
def a2s (b S:List Str):Bool:=b.any fun q=>decide (q∈S)
def spk (r:Rw):Bool:=decide (r.1 < 3)
def btn (pl:List (Str×Str)) (bs:List Rw) (r:Rw):Bool:=bs.any fun b=>decide ((b.2.1,r.2.1)∈pl)
def a1i (rs:List Rw) (U:List Str) (q:Str):List Rw:=((hdF rs q).filter spk).filter fun r=>a2B r.2.2.2 U
def unf (rs:List Rw) (D:List Str) (q:Str):List Rw:=((hdF rs q).filter spk).filter fun r=>!a2s r.2.2.2 D
def a0Z (rs:List Rw) (pl:List (Str×Str)) (S U D:List Str) (q:Str):Bool:=if q∈S then true else if a1i rs U q=[]∨a0v q∈S then false else (hdF rs (a0v q)).all fun r=>a2s r.2.2.2 D || btn pl (a1i rs U q) r
def a3U (rs:List Rw) (pl:List (Str×Str)) (S U D:List Str) (q:Str):Bool:=if q∈S then false else if unf rs D q=[]∨a0v q∈S then true else (hdF rs (a0v q)).any fun r=>a2B r.2.2.2 U && !btn pl (unf rs D q) r
def a1s (H:Hp) (v:V) (S:List Str):Prop:=(∃a,v=.ref a∧H a=some (.lst (S.map V.str)))∨∃a kvs,v=.ref a∧H a=some (.dK kvs)∧∀x:Str,(a0N kvs (Sum.inr x:Key)).isSome=decide (x∈S)
theorem a1s.same {H H':Hp} {v:V} {S:List Str} (s:a0h H H') (h:a1s H v S):a1s H' v S:=h.imp (fun ⟨a,e,b⟩=>⟨a,e,s _ _ b⟩) fun ⟨a,k,e,b,c⟩=>⟨a,k,e,s _ _ b,c⟩
theorem b1y {K:Qd} {tl tr:TE} {σ:St} {H:Hp} {Q:VK} {v:V} {S:List Str} {x:Str} (h:a1s H v S) (hl:∀R:VK,R (.str x) H→tl σ H R) (hr:∀R:VK,R v H→tr σ H R) (q:Q (.bl (decide (x∈S))) H):c0w (a9q tl tr) (tOp (b7D K) tl tr) σ H Q:=by
 rcases h with ⟨a,rfl,ha⟩ | ⟨a,kvs,rfl,ha,hk⟩
 ·exact .inr (hl _ (hr _ (b1A (SqL.of ha) q)))
 ·refine .inl (hl _ (hr _ ⟨a,_,rfl,a2K.k (k:=(Sum.inr x:Key)) ha,?_⟩))
  rw [hk];exact q
theorem a3O {K:Qd} {tl tr:TE} {σ:St} {H:Hp} {Q:Bool→Hp→Prop} {v:V} {S:List Str} {x:Str} (h:a1s H v S) (hl:∀R:VK,R (.str x) H→tl σ H R) (hr:∀R:VK,R v H→tr σ H R) (q:Q (decide (x∈S)) H):c0N (tB (a9q tl tr)) (a1l (tOp (b7D K) tl tr)) σ H Q:=by
 rcases h with ⟨a,rfl,ha⟩ | ⟨a,kvs,rfl,ha,hk⟩
 ·exact .inr (hl _ (hr _ (b1A (SqL.of ha) ⟨_,rfl,q⟩)))
 ·refine .inl (hl _ (hr _ ⟨a,_,rfl,a2K.k (k:=(Sum.inr x:Key)) ha,_,rfl,?_⟩))
  rw [hk];exact q
def a8t:Sp:=fun vs H Q _=>∃(t:Addr) (v:V) (bd S:List Str),vs=[.ref t,v]∧H t=some (.tup (bd.map V.str))∧bd.length≤1000∧a1s H v S∧∀H',a0h H H'→Q (.bl (a2B bd S)) H'
def b7Z:Sp:=fun vs H Q _=>∃(t:Addr) (v:V) (bd S:List Str),vs=[.ref t,v]∧H t=some (.tup (bd.map V.str))∧bd.length≤1000∧a1s H v S∧∀H',a0h H H'→Q (.bl (a2s bd S)) H'
def b7j (t:Adr):Sp:=fun vs H Q _=>∃(g x y:Addr) (rs:List Rw) (pl:List (Str×Str)) (r1 r2:Rw),vs=[.ref g,.ref x,.ref y]∧a3J t H g rs pl∧b1a t H (.ref x) r1∧b1a t H (.ref y) r2∧a1w r1∧a1w r2∧∀H',a0h H H'→Q (.bl (decide ((r1.2.1,r2.2.1)∈pl))) H'
def b3d (t:Adr):Sp:=fun vs H Q _=>∃(g x L:Addr) (rs:List Rw) (pl:List (Str×Str)) (r:Rw) (zr:List VR),vs=[.ref g,.ref x,.ref L]∧a3J t H g rs pl∧b1a t H (.ref x) r∧a1w r∧H L=some (.lst (zr.map (·.1)))∧a9s t H zr∧zr.length≤126∧∀H',a0h H H'→Q (.bl (btn pl (zr.map (·.2)) r)) H'
def a8X (t:Adr):Sp:=fun vs H Q _=>∃(g:Addr) (h:Str) (rs:List Rw) (pl:List (Str×Str)),vs=[.ref g,.str h]∧a3J t H g rs pl∧(∀r∈rs,a1w r)∧rs.length≤126∧∀D (zr:List VR) H',a0h H H'→H D=none→H' D=some (.lst (zr.map (·.1)))→a9s t H' zr→zr.map (·.2)=(hdF rs h).filter spk→Q (.ref D) H'
def b0s (t:Adr):Sp:=fun vs H Q _=>∃(g:Addr) (h:Str) (rs:List Rw) (pl:List (Str×Str)),vs=[.ref g,.str h]∧a3J t H g rs pl∧(∀r∈rs,a1w r)∧h.length≤100∧∀D (zr:List VR) H',a0h H H'→H D=none→H' D=some (.lst (zr.map (·.1)))→a9s t H' zr→zr.map (·.2)=hdF rs (a0v h)→Q (.ref D) H'
def b0p (t:Adr) (f:List Rw→List (Str×Str)→List Str→List Str→List Str→Str→Bool):Sp:=fun vs H Q _=>∃(g:Addr) (v1 v2 v3:V) (q:Str) (rs:List Rw) (pl:List (Str×Str)) (S U D:List Str),vs=[.ref g,v1,v2,v3,.str q]∧a3J t H g rs pl∧(∀r∈rs,a1w r)∧rs.length≤126∧a1s H v1 S∧a1s H v2 U∧a1s H v3 D∧q.length≤100∧∀H',a0h H H'→Q (.bl (f rs pl S U D q)) H'
theorem a7m {kind:Nat} (h:kind < 4):b5x kind (a1b true) (a1b true) (a1b true) (a1b false)=a1b (decide (kind < 3)):=by
 match kind,h with
 | 0,_=>rfl
 | 1,_=>rfl
 | 2,_=>rfl
 | 3,_=>rfl
theorem b0Q:bootBuiltins "max"=some (.builtin "max"):=by decide+kernel
def b5I (H:Hp) (d:Addr) (rs:List Rw):Prop:=∃kvs,H d=some (.dK kvs)∧∀h:Str,(a0N kvs (Sum.inr h:Key)=none∧hdF rs h=[])∨∃L ys,a0N kvs (Sum.inr h:Key)=some (.ref L)∧H L=some (.lst ys)∧a1v H ys (hdF rs h)
theorem b5I.same {H H':Hp} {d:Addr} {rs:List Rw} (s:a0h H H') (h:b5I H d rs):b5I H' d rs:=let ⟨k,a,b⟩:=h;⟨k,s _ _ a,fun x=>(b x).imp id fun ⟨L,ys,c,d,e⟩=>⟨L,ys,c,s _ _ d,e.same s⟩⟩
def c8c:Sp:=fun vs H Q _=>∃(a:Addr) (xs:List V) (rs:List Rw),vs=[.ref a]∧H a=some (.lst xs)∧a1v H xs rs∧rs.length≤126∧∀D H',a0h H H'→H D=none→b5I H' D rs→Q (.ref D) H'
abbrev RR:=V×Rw
def b1t (H:Hp) (ws:List RR):Prop:=∀p∈ws,a4s H p.1 p.2∧a1w p.2
theorem b1t.same {H H':Hp} {ws:List RR} (s:a0h H H') (h:b1t H ws):b1t H' ws:=fun p hp=>⟨(h p hp).1.same s,(h p hp).2⟩
def DAt (H:Hp) (a:Addr) (S:List Str):Prop:=∃kvs,H a=some (.dK kvs)∧∀x:Str,(a0N kvs (Sum.inr x:Key)).isSome=decide (x∈S)
theorem DAt.same {H H':Hp} {a:Addr} {S:List Str} (s:a0h H H') (h:DAt H a S):DAt H' a S:=let ⟨k,b,c⟩:=h;⟨k,s _ _ b,c⟩
theorem DAt.some {H:Hp} {a:Addr} {S:List Str} (h:DAt H a S):a1s H (.ref a) S:=let ⟨k,b,c⟩:=h;.inr ⟨a,k,rfl,b,c⟩
theorem DAt.get {H:Hp} {a:Addr} {S:List Str} (h:DAt H a S) (x:Str):∃o,a2K H a (.str x) o∧o.isSome=decide (x∈S):=let ⟨k,b,c⟩:=h;⟨_,a2K.k (k:=(Sum.inr x:Key)) b,c x⟩
def b4c:Sp:=fun vs H Q _=>∃(v:V) (a:Addr) (r:Rw) (U:List Str),vs=[v,.ref a]∧a4s H v r∧a1w r∧DAt H a U∧∀H',a0h H H'→Q (.bl (a2B r.2.2.2 U)) H'
def b5y:Sp:=fun vs H Q _=>∃(v:V) (a:Addr) (r:Rw) (U:List Str),vs=[v,.ref a]∧a4s H v r∧a1w r∧DAt H a U∧∀H',a0h H H'→Q (.bl (a2s r.2.2.2 U)) H'
def b4R (pl:List (Str×Str)):Prop:=∀p∈pl,Yb p.1=true∧Yb p.2=true
def b0x:Sp:=fun vs H Q _=>∃(P G:Addr) (v:V) (ps:List V) (pl:List (Str×Str)) (r:Rw) (zs:List RR),vs=[.ref P,v,.ref G]∧H P=some (.lst ps)∧a0R H ps pl∧b4R pl∧a4s H v r∧a1w r∧H G=some (.lst (zs.map (·.1)))∧b1t H zs∧zs.length≤126∧∀H',a0h H H'→Q (.bl (btn pl (zs.map (·.2)) r)) H'
def b2u (f:List Rw→List (Str×Str)→List Str→List Str→List Str→Str→Bool):Sp:=fun vs H Q _=>∃(B P a1 a2 a3:Addr) (q:Str) (rs:List Rw) (ps:List V) (pl:List (Str×Str)) (S U D:List Str),vs=[.ref B,.ref P,.ref a1,.ref a2,.ref a3,.str q]∧b5I H B rs∧(∀r∈rs,a1w r)∧rs.length≤126∧H P=some (.lst ps)∧a0R H ps pl∧b4R pl∧DAt H a1 S∧DAt H a2 U∧DAt H a3 D∧q.length≤100∧∀H',a0h H H'→Q (.bl (f rs pl S U D q)) H'
def iv (S:List Str):List (Key×V):=S.map fun x=>(Sum.inr x,V.int 0)
def b4h (H:Hp) (Q:VK):Prop:=∀(D:Addr) (ps:List V) (pl:List (Str×Str)) H',a0h H H'→H D=none→H' D=some (.lst ps)→a0R H' ps pl→pl.length≤200→b4R pl→Q (.ref D) H'
def b6y:Sp:=fun vs H Q _=>∃(c m:Int),vs=[.int c,.int m]∧(0≤m∧m≤30)∧b4h H Q
def b4b (K:Qd):Sp:=fun vs H Q _=>∃(a:Addr) (ns:List Int),vs=[.ref a]∧SqL K H a (ns.map V.int)∧ns.length≤63∧b4h H Q
theorem a7U {H:Hp} {xs:List V} {pl:List (Str×Str)} {a:Addr} {p:Str×Str} (h:a0R H xs pl) (ha:H a=some (.tup [.str p.1,.str p.2])):a0R H (xs++[.ref a]) (pl++[p]):=by
 obtain ⟨as,rfl,hl,hat⟩:=h
 refine ⟨as++[a],by rw [Xp];rfl,by simp [hl],fun i b q e1 e2=>?_⟩
 by_cases hi:i < as.length
 ·rw [Yc hi] at e1
  rw [Yc (by omega)] at e2
  exact hat i b q e1 e2
 ·have hi2:=(Qn.mp e1).1
  have ei:i=as.length:=by simp at hi2;omega
  subst ei
  rw [Xz (Qk _),Vu] at e1
  rw [Xz (by omega),hl,Vu] at e2
  cases e1;cases e2;exact ha
theorem a7R {H H':Hp} {xs:List V} {pl:List (Str×Str)} {D:Addr} (h:a0R H xs pl) (hD:∃ys,H D=some (.lst ys)) (up:∀b o,b≠D→H b=some o→H' b=some o):a0R H' xs pl:=by
 obtain ⟨as,e,hl,hat⟩:=h
 obtain ⟨ys,hD⟩:=hD
 refine ⟨as,e,hl,fun i b q e1 e2=>?_⟩
 have:=hat i b q e1 e2
 exact up _ _ (a0G this hD (by intro z;cases z)) this
theorem a7S {H:Hp} {B N:Addr} {rs:List Rw} (h:b5I H B rs) (hN:H N=some (.lst [])) (hO:∀r∈rs,a1w r) (q:Str):IsD H B∧∃o,a2K H B (.str q) o∧∃(L:Addr) (zr:List RR),o.getD (.ref N)=.ref L∧H L=some (.lst (zr.map (·.1)))∧b1t H zr∧zr.map (·.2)=hdF rs q:=by
 obtain ⟨kvs,hk,hh⟩:=h
 refine ⟨a2w hk,_,a2K.k (k:=(Sum.inr q:Key)) hk,?_⟩
 rcases hh q with ⟨e,g⟩ | ⟨L,ys,e,g2,g3⟩
 ·rw [e];exact ⟨N,[],rfl,hN,(fun _ h=>by cases h),g.symm⟩
 ·rw [e]
  obtain ⟨zr,ez1,ez2,hz⟩:=g3.zip (fun r hr=>hO r (Qp.mp hr).1)
  subst ez1
  exact ⟨L,zr,rfl,g2,hz,ez2⟩
theorem a7P {r:Rw} (h:r.1 < 4) (c:¬a2b r.1="block"):spk r=true:=by
 unfold spk
 obtain ⟨n,x⟩:=r
 match n,h with
 | 0,_=>rfl
 | 1,_=>rfl
 | 2,_=>rfl
 | 3,_=>exact absurd rfl c
theorem a8i {r:Rw} (h:r.1 < 4) (c:¬¬a2b r.1="block"):spk r=false:=by
 unfold spk
 obtain ⟨n,x⟩:=r
 match n,h with
 | 0,_=>exact absurd (show ¬a2b 0="block" by decide+kernel) c
 | 1,_=>exact absurd (show ¬a2b 1="block" by decide+kernel) c
 | 2,_=>exact absurd (show ¬a2b 2="block" by decide+kernel) c
 | 3,_=>rfl
theorem b3b {β:Type} {P R:β→Bool} {l:List β}:decide ((l.filter fun p=>!P p).filter (fun p=>!R p)=[])=l.all fun p=>P p || R p:=by
 rw [Xn,decide_eq_true_eq,Zw,Zi,Ys]
 refine forall_congr' fun p=>forall_congr' fun _=>?_
 cases P p<;>cases R p<;>simp
theorem b3o {β:Type} {P R:β→Bool} {l:List β}:(!decide ((l.filter fun p=>P p).filter (fun p=>!R p)=[]))=l.any fun p=>P p && !R p:=by
 rw [Xn,Yd,decide_eq_false_iff_not,Zw,Zi,Yk]
 constructor
 ·intro h
  cases Classical.em (∃x∈l,(P x && !R x)=true) with
  | inl z=>exact z
  | inr z=>exact absurd (fun p hp hh=>z ⟨p,hp,by rw [Uk];exact hh⟩) h
 ·rintro ⟨x,hx,e⟩ h
  exact h x hx (by rw [Uk];exact e)
def b3v (H:Hp) (v:V) (S:List Str):Prop:=(∃a,v=.ref a∧H a=some (.lst (S.map V.str)))∨∃a,v=.ref a∧H a=some (.dK (iv S))
theorem b5C (S:List Str) (x:Str):(a0N (iv S) (Sum.inr x:Key)).isSome=decide (x∈S):=by
 induction S with
 | nil=>rfl
 | cons y S ih=>
  rw [show iv (y::S)=(Sum.inr y,V.int 0)::iv S from rfl]
  by_cases e:y=x
  ·rw [a0F (by rw [e]),decide_eq_true (by rw [e];exact Qs)];rfl
  ·rw [a0w (fun z=>e (Sum.inr.inj z)),ih,Xn,decide_eq_true_eq,decide_eq_true_eq,Qy]
   exact ⟨.inr,fun z=>z.elim (fun w=>absurd w.symm e) id⟩
theorem b3v.some {H:Hp} {v:V} {S:List Str} (h:b3v H v S):a1s H v S:=h.imp id fun ⟨a,e,b⟩=>⟨a,_,e,b,b5C S⟩
theorem b3v.list {K:Qd} {H:Hp} {v:V} {S:List Str} {Q:VK} (h:b3v H v S) (q:∀l,H l=none→Q (.ref l) (upd H l (.lst (S.map V.str)))):b4P K [v] H Q:=by
 rcases h with ⟨a,rfl,ha⟩ | ⟨a,rfl,ha⟩
 ·exact .inl ⟨a,_,rfl,.inl (SqL.of ha),q⟩
 ·refine .inr ⟨a,_,rfl,.inl ha,fun l hl=>?_⟩
  rw [show ((iv S).map fun kv=>kV kv.1)=S.map V.str from by unfold iv;rw [Xo];rfl]
  exact q l hl
def a9Q (t:Adr):Sp:=fun vs H Q _=>∃(g:Addr) (rs:List Rw) (pl:List (Str×Str)),vs=[.ref g]∧a3J t H g rs pl∧∀D xs H',a0h H H'→H D=none→H' D=some (.lst xs)→a1J t H' xs rs→Q (.ref D) H'
theorem a5p {rs:List (SR Str)}:∀n x,x∈sS rs [] n→∃b,(true,x,b)∈rs
 | 0,x,h=>by cases h
 | n+1,x,h=>by
  rcases a3f.mp h with z | z
  ·exact a5p n x z
  ·obtain ⟨_,b,hr,_⟩:=a2o.mp z
   exact ⟨b,hr⟩
theorem b4G {rs:List Rw} {po:List Str} (h:∀r∈rs,r.2.2.1∈po):(FIN (rs.map srW) []).length≤po.length:=by
 have h2:=a2a (m:=po) (a5Z (rs.map srW) []) fun x hx=>by
  obtain ⟨b,hb⟩:=a5p _ x ((b0n x).mp hx)
  obtain ⟨r,hr,e⟩:=Qf.mp hb
  have e2:r.2.2.1=x:=congrArg (fun z:SR Str=>z.2.1) e
  rw [←e2];exact h r hr
 rw [Qe] at h2;exact h2
theorem b5M (F:List (Str×Nat)):(dv F).map (·.1)=(F.map (·.1)).map Sum.inr:=by unfold dv;rw [Xo,Xo];rfl
def gF (RS:List (SR Str)) (x:Str):Int:=(((lk (FIN RS []) x).getD 0:Nat):Int)
def a5e (RS:List (SR Str)) (l:List Str):Prop:=l.Perm ((FIN RS []).map (·.1))∧l.Pairwise (fun x y=>ltG (gF RS) x y=true)
def b3z (T:Addr) (H:Hp):Hp:=fun a=>if a=T then none else H a
theorem a0I {T x:Addr} {H:Hp} {o:HO} {ps:Array Value} (hT:H T=some (.tbl ps)) (h:H x=some o) (n:∀ps,o≠.tbl ps):b3z T H x=some o:=by
 unfold b3z
 rw [if_neg (fun z=>by rw [z,hT] at h;cases h;exact n _ rfl)]
 exact h
theorem a3N {T:Addr} {H H':Hp} (k:∀a o,a≠T→H a=some o→H' a=some o):a0h (b3z T H) H':=fun a o e=>by
 unfold b3z at e
 by_cases z:a=T
 ·rw [if_pos z] at e;cases e
 ·rw [if_neg z] at e;exact k a o z e
section
variable {T:Addr} {H:Hp} {pt:Array Value} (hT:H T=some (.tbl pt))
include hT
theorem b5g {xs:List V} {rs:List Rw} (h:a1v H xs rs):a1v (b3z T H) xs rs:=⟨h.len,fun i r e=>let ⟨x,a,p,t,b,c,d⟩:=h.get i r e;⟨x,a,p,t,b,a0I hT c (fun _ z=>nomatch z),a0I hT d (fun _ z=>nomatch z)⟩⟩
theorem b4W {t:Adr} {xs:List V} {rs:List Rw} (h:a1J t H xs rs):a1J t (b3z T H) xs rs:=⟨h.len,fun i r e=>let ⟨x,a,p,b,d,t0,c,f⟩:=h.get i r e;⟨x,a,p,b,d,t0,a0I hT c (fun _ z=>nomatch z),a0I hT f (fun _ z=>nomatch z)⟩⟩
theorem b5G {xs:List V} {pl:List (Str×Str)} (h:a0R H xs pl):a0R (b3z T H) xs pl:=let ⟨as,a,b,c⟩:=h;⟨as,a,b,fun i x p e1 e2=>a0I hT (c i x p e1 e2) (fun _ z=>nomatch z)⟩
theorem b7Y {t:Adr} {g:Addr} {rs:List Rw} {pl:List (Str×Str)} (h:a3J t H g rs pl):a3J t (b3z T H) g rs pl:=by
 obtain ⟨dx,io,bh,pr,xs,kvs,kps,a,b,c,d,e,f,k⟩:=h
 refine ⟨dx,io,bh,pr,xs,kvs,kps,a0I hT a (fun _ z=>nomatch z),a0I hT b (fun _ z=>nomatch z),b4W hT c,a0I hT d (fun _ z=>nomatch z),fun h=>?_,a0I hT f (fun _ z=>nomatch z),k⟩
 rcases e h with z | ⟨L,ys,z1,z2,z3⟩
 ·exact .inl z
 ·exact .inr ⟨L,ys,z1,a0I hT z2 (fun _ z=>nomatch z),b4W hT z3⟩
end
theorem c0R {t:Adr} {T:Addr} {q:Str} {H H':Hp} {g:Addr} {rs:List Rw} {pl:List (Str×Str)} (lt:a3L T q H) (k:∀a o,a≠T→H a=some o→H' a=some o) (h:a3J t H g rs pl):a3J t H' g rs pl:=by
 obtain ⟨pt,hT,_⟩:=lt
 exact (b7Y hT h).same (a3N k)
theorem a7Z {T:Addr} {q:Str} {H H':Hp} {x:Addr} {o:HO} (lt:a3L T q H) (k:∀a o,a≠T→H a=some o→H' a=some o) (h:H x=some o) (n:∀ps,o≠.tbl ps):H' x=some o:=by
 obtain ⟨pt,hT,_⟩:=lt
 exact a3N k _ _ (a0I hT h n)
def b6T (t:Adr):Sp:=fun vs H Q _=>∃(g:Addr) (rs:List Rw) (pl:List (Str×Str)) (po:List Str),vs=[.ref g]∧a3J t H g rs pl∧(∀r∈rs,a1w r)∧rs.length≤126∧(∀r∈rs,r.2.2.1∈po)∧po.length≤63∧a3L t.TB_z0v a1y H∧
 ∀l ss H',a3L t.TB_z0v a1y H'→(∀a o,a≠t.TB_z0v→H a=some o→H' a=some o)→H l=none→H' l=some (.lst (ss.map V.str))→a5e (rs.map srW) ss→Q (.ref l) H'
theorem a6O {t:Adr} {H:Hp} {R:Addr→Hp→Prop} {E:XK} {L Pr:Addr} {zs ps:List V} {rs:List Rw} {pl:List (Str×Str)} (hL:H L=some (.lst zs)) (hU:a1J t H zs rs) (hO:∀r∈rs,a1w r) (hl:rs.length≤126) (hP:H Pr=some (.lst ps)) (hQ:a0R H ps pl) (hp:pl.length≤200)
  (q:∀g H',a0h H H'→H g=none→a3J t H' g rs pl→R g H'):∀x dx,H x=none→H dx=none→dx≠x→c0A t [.ref x,.ref L,.ref Pr] (upd (upd H dx (.own x)) x (.ins t.C_Ground dx [])) (fun v H2=>v=.non∧R x H2) E:=by
 intro g dx ng ndx ne
 obtain ⟨H4,e4,s4,h4⟩:∃H4,upd (upd H dx (.own g)) g (.ins t.C_Ground dx [])=H4∧a0h H H4∧H4 g=some (.ins t.C_Ground dx []):=⟨_,rfl,fun c o e=>by rw [a0a (a0c e ng),a0a (a0c e ndx)];exact e,a0d⟩
 rw [e4]
 exact ⟨g,dx,L,Pr,zs,rs,ps,pl,rfl,h4,s4 _ _ hL,hU.same s4,hO,hl,s4 _ _ hP,a0R.same s4 hQ,hp,fun H5 k5 hG5=>⟨rfl,q g H5 (fun c o e=>k5 c o (s4 _ _ e) (a0c e ng)) ng hG5⟩⟩
/-! ### rounds -/
def stt (rs:List Rw) (pl:List (Str×Str)) (S U D:List Str) (q:Str):Option Bool:=if a0Z rs pl S U D q=true then some true else if a3U rs pl S U D q=true then some false else none
def tch (rs:List Rw) (came:List Str) (q:Str):Prop:=∃r∈rs,(∃p∈r.2.2.2,p∈came)∧(q=r.2.2.1∨q=a0v r.2.2.1)
def Ext (U came U':List Str):Prop:=∀x,x∉came→(x∈U'↔x∈U)
theorem a7z {b U U' came:List Str} (h:Ext U came U') (hb:∀p∈b,p∉came):a2B b U'=a2B b U:=by
 unfold a2B
 rw [Xn,Ys,Ys]
 exact ⟨fun z p hp=>decide_eq_true ((h p (hb p hp)).mp (of_decide_eq_true (z p hp))),fun z p hp=>decide_eq_true ((h p (hb p hp)).mpr (of_decide_eq_true (z p hp)))⟩
theorem a8n {b U U' came:List Str} (h:Ext U came U') (hb:∀p∈b,p∉came):a2s b U'=a2s b U:=by
 unfold a2s
 rw [Xn,Yk,Yk]
 exact ⟨fun ⟨p,hp,z⟩=>⟨p,hp,decide_eq_true ((h p (hb p hp)).mp (of_decide_eq_true z))⟩,fun ⟨p,hp,z⟩=>⟨p,hp,decide_eq_true ((h p (hb p hp)).mpr (of_decide_eq_true z))⟩⟩
theorem a6Z {rs:List Rw} {pl:List (Str×Str)} {S U U' D D' came:List Str} {q:Str} (hU:Ext U came U') (hD:Ext D came D') (ho:a0v (a0v q)=q) (hn:¬tch rs came q):stt rs pl S U' D' q=stt rs pl S U D q:=by
 have h1:∀r∈hdF rs q,∀p∈r.2.2.2,p∉came:=fun r hr p hp hc=>by
  have:=Qp.mp hr
  exact hn ⟨r,this.1,⟨p,hp,hc⟩,.inl (of_decide_eq_true this.2).symm⟩
 have h2:∀r∈hdF rs (a0v q),∀p∈r.2.2.2,p∉came:=fun r hr p hp hc=>by
  have:=Qp.mp hr
  exact hn ⟨r,this.1,⟨p,hp,hc⟩,.inr (by rw [of_decide_eq_true this.2,ho])⟩
 have e1:a1i rs U' q=a1i rs U q:=by
  unfold a1i
  exact Zz fun r hr=>a7z hU (h1 r (Qp.mp hr).1)
 have e2:unf rs D' q=unf rs D q:=by
  unfold unf
  exact Zz fun r hr=>by rw [a8n hD (h1 r (Qp.mp hr).1)]
 have all_congr:∀(l:List Rw) (f g:Rw→Bool),(∀r∈l,f r=g r)→l.all f=l.all g:=fun l f g h=>by
  induction l with
  | nil=>rfl
  | cons a l ih=>rw [Vi,Vi,h a Qs,ih fun r hr=>h r (Qt _ hr)]
 have any_congr:∀(l:List Rw) (f g:Rw→Bool),(∀r∈l,f r=g r)→l.any f=l.any g:=fun l f g h=>by
  induction l with
  | nil=>rfl
  | cons a l ih=>rw [Jk,Jk,h a Qs,ih fun r hr=>h r (Qt _ hr)]
 have e3:a0Z rs pl S U' D' q=a0Z rs pl S U D q:=by
  unfold a0Z
  rw [e1,all_congr _ _ (fun r=>a2s r.2.2.2 D || btn pl (a1i rs U q) r) fun r hr=>by rw [a8n hD (h2 r hr)]]
 have e4:a3U rs pl S U' D' q=a3U rs pl S U D q:=by
  unfold a3U
  rw [e2,any_congr _ _ (fun r=>a2B r.2.2.2 U && !btn pl (unf rs D q) r) fun r hr=>by rw [a7z hU (h2 r hr)]]
 unfold stt
 rw [e3,e4]
structure RdS where
 T:List (Str×Bool×Nat)
 U:List Str
 D:List Str
def fresh (rs:List Rw) (pl:List (Str×Str)) (S some:List Str) (s:RdS):List (Str×Bool):=some.filterMap fun q=>if q∈s.T.map (·.1) then none else (stt rs pl S s.U s.D q).map fun w=>(q,w)
def ups (F:List (Str×Bool)):List Str:=(F.filter (·.2)).map (·.1)
def a1T (F:List (Str×Bool)):List Str:=(F.filter fun p=>!p.2).map (·.1)
def next (n:Nat) (s:RdS) (F:List (Str×Bool)):RdS:=⟨s.T++F.map fun p=>(p.1,p.2,n),s.U++ups F,s.D++a1T F⟩
def rds (rs:List Rw) (pl:List (Str×Str)) (S some U D:List Str):Nat→RdS
 | 0=>⟨[],U,D⟩
 | n+1=>next (n+1) (rds rs pl S some U D n) (fresh rs pl S some (rds rs pl S some U D n))
theorem a0o {rs:List Rw} {pl:List (Str×Str)} {S some:List Str} {s:RdS} {q:Str} {w:Bool}:(q,w)∈fresh rs pl S some s↔q∈some∧q∉s.T.map (·.1)∧stt rs pl S s.U s.D q=Option.some w:=by
 unfold fresh
 rw [Jz]
 constructor
 ·rintro ⟨x,hx,e⟩
  split at e
  ·cases e
  ·rename_i hn
   obtain ⟨y,hy,e⟩:=Jn.mp e
   cases e
   exact ⟨hx,hn,hy⟩
 ·rintro ⟨h1,h2,h3⟩
  exact ⟨q,h1,by rw [if_neg h2,h3];rfl⟩
theorem a2y {F:List (Str×Bool)} {q:Str}:q∈ups F↔(q,true)∈F:=by
 unfold ups
 rw [Qf]
 constructor
 ·rintro ⟨⟨x,b⟩,h,rfl⟩
  have:=Qp.mp h
  have hb:b=true:=this.2
  subst hb;exact this.1
 ·exact fun h=>⟨_,Qp.mpr ⟨h,rfl⟩,rfl⟩
theorem a1B {F:List (Str×Bool)} {q:Str}:q∈a1T F↔(q,false)∈F:=by
 unfold a1T
 rw [Qf]
 constructor
 ·rintro ⟨⟨x,b⟩,h,rfl⟩
  have:=Qp.mp h
  have hb:b=false:=by simpa using this.2
  subst hb;exact this.1
 ·exact fun h=>⟨_,Qp.mpr ⟨h,rfl⟩,rfl⟩
theorem b0T {rs:List Rw} {pl:List (Str×Str)} {S some U D:List Str} (n:Nat) {q:Str} {w:Bool} (ho:∀q∈some,a0v (a0v q)=q) (h:(q,w)∈fresh rs pl S some (rds rs pl S some U D (n+1))):tch rs ((fresh rs pl S some (rds rs pl S some U D n)).map (·.1)) q:=by
 obtain ⟨h1,h2,h3⟩:=a0o.mp h
 refine Classical.byContradiction fun hn=>?_
 have hT:q∉(rds rs pl S some U D n).T.map (·.1)∧∀w,(q,w)∉fresh rs pl S some (rds rs pl S some U D n):=by
  constructor
  ·intro z
   exact h2 (by show q∈((rds rs pl S some U D n).T++_).map _;rw [Xp];exact Xx _ z)
  ·intro w' z
   refine h2 ?_
   show q∈((rds rs pl S some U D n).T++_).map _
   rw [Xp]
   exact Xc _ (Qf.mpr ⟨_,Qf.mpr ⟨_,z,rfl⟩,rfl⟩)
 have hE:∀(F:List (Str×Bool)) (A B:List Str),(∀x∈B,x∈F.map (·.1))→Ext A (F.map (·.1)) (A++B):=fun F A B hB x hx=>by
  rw [Qq]
  exact ⟨fun z=>z.resolve_right fun y=>hx (hB x y),.inl⟩
 have e:=a6Z (pl:=pl) (S:=S) (U:=(rds rs pl S some U D n).U) (D:=(rds rs pl S some U D n).D) (U':=(rds rs pl S some U D (n+1)).U) (D':=(rds rs pl S some U D (n+1)).D) (q:=q)
  (hE _ _ _ fun x hx=>Qf.mpr ⟨_,a2y.mp hx,rfl⟩) (hE _ _ _ fun x hx=>Qf.mpr ⟨_,a1B.mp hx,rfl⟩) (ho q h1) hn
 rw [h3] at e
 exact hT.2 w (a0o.mpr ⟨h1,hT.1,e.symm⟩)
theorem a2i {rs:List Rw} {pl:List (Str×Str)} {S some U D:List Str} {n:Nat} (h:fresh rs pl S some (rds rs pl S some U D n)=[]):∀k,rds rs pl S some U D (n+k)=rds rs pl S some U D n
 | 0=>rfl
 | k+1=>by
  have ih:=a2i h k
  show next _ (rds rs pl S some U D (n+k)) (fresh rs pl S some (rds rs pl S some U D (n+k)))=_
  rw [ih,h]
  unfold next ups a1T
  simp
def b7e (TB:Addr) (K:Qd):Sp:=fun vs H Q _=>∃(a:Addr) (ns:List Int),vs=[.ref a]∧SqL K H a (ns.map V.int)∧ns.length≤63∧a3L TB a1y H∧∀H',Q (.bl true) H'
theorem b3Q {TB:Addr} {K:Qd} {H:Hp} {a:Addr} {ns:List Int} (hl:ns.length≤63) (hO:b3e TB H) (hS:SqL K H a (ns.map V.int)):b7e TB K [.ref a] H (fun v _=>v=.bl true) fun _ _ _=>False:=⟨a,ns,rfl,hS,hl,a3L.start hO.1,fun _=>rfl⟩
/-! ### walks of lists and dicts -/
structure a2l (H:Hp) (v:V) (H0:Hp):Prop where
 keep:∀b o,H b=some o→v≠.ref b→H0 b=some o
 non:∀b,H0 b=none→H b=none
 new:∀b,H b=none→H0 b=none
theorem a2l.refl (H:Hp) (v:V):a2l H v H:=⟨fun _ _ e _=>e,fun _ e=>e,fun _ e=>e⟩
theorem a2l.frz {H:Hp} {a:Addr} {o:HO} {x:HO} (h:H a=some o):a2l H (.ref a) (upd H a x):=⟨fun b o e n=>by rw [a0a (fun z=>n (by rw [z]))];exact e,fun b e=>by
 by_cases z:b=a
 ·rw [z,a0d] at e;cases e
 ·rw [a0a z] at e;exact e,fun b e=>by rw [a0a (fun z=>by rw [z,h] at e;cases e)];exact e⟩
def a3K (H:Hp) (D:Addr) (H':Hp):Prop:=∀b o,H b=some o→b≠D→H' b=some o
theorem a3K.refl (H:Hp) (D:Addr):a3K H D H:=fun _ _ e _=>e
theorem b1Y {te:TE} {g:TG} {tb:TS} {E:a8Y} {σ:St} {H:Hp} {a:Addr} {kvs:List (Key×V)} {kn:List Str} (Pv:Hp→Nat→St→Hp→Prop) (hH:H a=some (.dK kvs)) (hk:kvs.map (·.1)=kn.map (Sum.inr:Str→Key)) (hte:∀R:VK,R (.ref a) H→te σ H R)
  (h0:∀o,Pv (upd H a (.frz o (.dK kvs))) 0 σ (upd H a (.frz o (.dK kvs))))
  (hp:∀o i σ' H',Pv (upd H a (.frz o (.dK kvs))) i σ' H'→H' a=some (.frz o (.dK kvs)))
  (hs:∀o i (hi:i < kn.length) σ' H' rt bk,Pv (upd H a (.frz o (.dK kvs))) i σ' H'→g (.str kn[i]) σ' H' fun σ2 H2=>tb ⟨Pv (upd H a (.frz o (.dK kvs))) (i+1),rt,bk,Pv (upd H a (.frz o (.dK kvs))) (i+1)⟩ σ2 H2)
  (hd:∀o σ' H',Pv (upd H a (.frz o (.dK kvs))) kn.length σ' H'→E.nx σ' (upd H' a (.dK kvs))):b6I (b8l (b1F te) g tb) E σ H:=by
 have hlen:kvs.length=kn.length:=by have:=congrArg Yp hk;simpa using this
 refine ⟨a,kvs,hH,?_⟩
 rw [a0D]
 refine hte _ ⟨a,kvs,rfl,hH,fun o=>?_⟩
 refine ⟨fun i m σ' H'=>m=kn.length - i∧i≤kn.length∧Pv (upd H a (.frz o (.dK kvs))) i σ' H',⟨_,rfl,Xe _,h0 o⟩,?_⟩
 rintro i m σ' H' ⟨rfl,hi,p⟩
 have hf:=hp o i σ' H' p
 by_cases hlt:i < kn.length
 ·refine .inr ⟨⟨hf,by omega⟩,Pv (upd H a (.frz o (.dK kvs))) (i+1),fun σ2 H2 p2=>⟨kn.length - (i+1),by omega,rfl,hlt,p2⟩,?_⟩
  rintro x H2 ⟨rfl,k,v,e,rfl⟩
  have ek:k=Sum.inr kn[i]:=by
   have e1:(kvs.map (·.1))[i]?=some k:=by rw [Qm,e];rfl
   rw [hk,Qm,Qc hlt] at e1
   exact (Option.some.inj e1).symm
  rw [ek]
  exact hs o i hlt σ' _ _ _ p
 ·have ei:i=kn.length:=by omega
  subst ei
  exact .inl ⟨⟨hf,by omega⟩,o,hf,hd o σ' H' p⟩
theorem a4O {K:Qd} {te:TE} {g:TG} {tb:TS} {E:a8Y} {σ:St} {H:Hp} {v:V} {kn:List Str} (Pv:Hp→Nat→St→Hp→Prop) (h:a3A K H v kn) (hte:∀R:VK,R v H→te σ H R)
  (h0:∀H0,a2l H v H0→Pv H0 0 σ H0) (hk:∀H0 i σ' H' b o,Pv H0 i σ' H'→v=.ref b→H0 b=some o→H' b=some o)
  (hs:∀H0 i (hi:i < kn.length) σ' H' rt bk,a2l H v H0→Pv H0 i σ' H'→g (.str kn[i]) σ' H' fun σ2 H2=>tb ⟨Pv H0 (i+1),rt,bk,Pv H0 (i+1)⟩ σ2 H2)
  (hd:∀H0 σ' H' H'',a2l H v H0→Pv H0 kn.length σ' H'→(∀b o,H' b=some o→v≠.ref b→H'' b=some o)→(∀b o,v=.ref b→H b=some o→H'' b=some o)→E.nx σ' H''):c3j (b6I (b8l (b1F te) g tb)) (b8l (a1E K te) g tb) E σ H:=by
 rcases h with ⟨a,rfl,ha⟩ | ⟨a,kvs,rfl,ha,hkn⟩
 ·refine .inr ?_
  rw [a0D]
  refine hte _ ⟨a,rfl,⟨_,SqL.of ha⟩,?_⟩
  have hP:∀i σ' H',i≤(kn.map V.str).length→Pv H i σ' H'→SqL K H' a (kn.map V.str):=fun i σ' H' _ p=>by
   exact SqL.of (hk H i σ' H' a _ p rfl ha)
  refine a1d (K:=K) (a:=a) (xs:=kn.map V.str) (Pv H) (h0 H (a2l.refl _ _)) hP (fun i x σ' H' hi p=>?_) (fun σ' H' p=>?_)
  ·have hil:i < kn.length:=by simpa using (Qn.mp hi).1
   have ex:x=V.str kn[i]:=by
    rw [Qm,Qc hil] at hi
    exact (Option.some.inj hi).symm
   subst ex
   exact hs H i hil σ' H' _ _ (a2l.refl _ _) p
  ·rw [Qe] at p
   exact hd H σ' H' H' (a2l.refl _ _) p (fun _ _ e _=>e) fun b o z e=>hk H _ σ' H' b o p z e
 ·refine .inl (b1Y Pv ha hkn hte (fun o=>h0 _ (a2l.frz ha)) (fun o i σ' H' p=>hk _ i σ' H' a _ p rfl a0d) (fun o i hi σ' H' rt bk p=>hs _ i hi σ' H' rt bk (a2l.frz ha) p) (fun o σ' H' p=>hd _ σ' H' _ (a2l.frz ha) p (fun b o e n=>?_) fun b o z e=>?_))
  ·rw [a0a (fun z=>n (by rw [z]))];exact e
  ·cases z;rw [a0d,←ha];exact e
theorem a3c {te:TE} {js:List (Option Nat)} {tt:TT} {σ:St} {H:Hp} {Q:VK} {a:Addr} {kvs:List (Key×V)} {kn:List Str} (hH:H a=some (.dK kvs)) (hk:kvs.map (·.1)=kn.map (Sum.inr:Str→Key)) (hl:kn.length≤1000) (hte:∀R:VK,R (.ref a) H→te σ H R) (σr:St) (hσ:a1G js σ=none::σr) (P:Str→Bool)
  (hs:∀q H0 H' (R:Bool→Hp→Prop),q∈kn→a2l H (.ref a) H0→Rd H' a (.dK kvs)→a0h H0 H'→(∀H'',a0h H' H''→R (P q) H'')→tt (some (.str q)::σr) H' R)
  (hd:∀D H',H D=none→a0h H H'→H' D=some (.lst ((kn.filter P).map V.str))→Q (.ref D) H'):c1d (b2L js (b1F te) (a0l 0) tt (a0k 0)) σ H Q:=by
 have hlen:kvs.length=kn.length:=by have:=congrArg Yp hk;simpa using this
 refine ⟨a,kvs,hH,?_⟩
 rw [a0n]
 refine hte _ ⟨a,kvs,rfl,hH,fun o=>?_⟩
 have hO:a2l H (.ref a) (upd H a (.frz o (.dK kvs))):=a2l.frz hH
 have hf:upd H a (.frz o (.dK kvs)) a=some (.frz o (.dK kvs)):=a0d
 generalize upd H a (.frz o (.dK kvs))=H0 at hO hf
 have ef:∀i,i < kvs.length→∃hi:i < kn.length,((kvs[i]?.map fun p=>kV p.1).getD .non)=.str kn[i]:=fun i hi=>by
  have hi':i < kn.length:=by omega
  refine ⟨hi',?_⟩
  have e1:(kvs.map (·.1))[i]?=some (Sum.inr kn[i]):=by rw [hk,Qm,Qc hi'];rfl
  rw [Qm] at e1
  rw [Qc hi] at e1 ⊢
  have e2:=Option.some.inj e1
  show kV kvs[i].1=_
  rw [show kvs[i].1=Sum.inr kn[i] from e2];rfl
 refine a4d (a7Y (o:=o) (a:=a) (kvs:=kvs)) (Qi (show kvs.length≤1000 by omega) (by decide)) σr hσ (fun i=>P ((kn[i]?).getD "")) (fun i=>V.str ((kn[i]?).getD "")) (fun H' s=>s _ _ hf) (fun i H' R hi s hR=>?_) (fun i H' R hi s hR=>?_) (fun D H' hD s h=>?_)
 ·obtain ⟨hi',e⟩:=ef i hi
  rw [e]
  rw [Qc hi',Xi] at hR
  exact hs _ H0 H' R (Xd hi') hO (.inr ⟨o,s _ _ hf⟩) s hR
 ·obtain ⟨hi',e⟩:=ef i hi
  rw [e]
  rw [Qc hi',Xi] at hR
  exact ⟨_,rfl,hR _ (a0h.refl _)⟩
 ·rw [hlen,a0U ("":Str) P V.str kn] at h
  refine ⟨o,s _ _ hf,hd D _ (hO.non _ hD) (fun b u e=>?_) ?_⟩
  ·by_cases z:b=a
   ·rw [z,a0d,←hH,←z];exact e
   ·rw [a0a z];exact s _ _ (hO.keep _ _ e fun w=>z (by cases w;rfl))
  ·rw [a0a (fun z=>by rw [z,hf] at hD;cases hD)];exact h
theorem c6B {H:Hp} {a:Addr} {S:List Str} (h:H a=some (.dK (bv S))):a1s H (.ref a) S:=.inr ⟨a,_,rfl,h,fun x=>by
 rw [a2m]
 by_cases z:x∈S
 ·rw [if_pos z,decide_eq_true z];rfl
 ·rw [if_neg z,decide_eq_false z];rfl⟩
theorem a5x (S:List Str):(bv S).map (·.1)=S.map (Sum.inr:Str→Key):=by
 unfold bv;rw [Xo];rfl
theorem b2x {js:List (Option Nat)} {tt:TT} {Q':VK} {σ:St} {H H1:Hp} {a:Addr} {kvs:List (Key×V)} {kn:List Str} (hH:H1 a=some (.dK kvs)) (hk:kvs.map (·.1)=kn.map (Sum.inr:Str→Key)) (hl:kn.length≤1000) (hs1:a0h H H1) (σr:St) (hσ:a1G js σ=none::σr) (P:Str→Bool)
  (hs:∀q H0 H' (R:Bool→Hp→Prop),q∈kn→a2l H1 (.ref a) H0→a0h H0 H'→(∀H'',a0h H' H''→R (P q) H'')→tt (some (.str q)::σr) H' R)
  (hd:∀D H',H1 D=none→a0h H1 H'→H' D=some (.lst ((kn.filter P).map V.str))→Q' (.ref D) H'):∃(a':Addr) (kvs':List (Key×V)),V.ref a=.ref a'∧H1 a'=some (.dK kvs')∧∀o,a4y (Itk o a' kvs') js (a0l 0) tt (a0k 0) σ (upd H1 a' (.frz o (.dK kvs'))) fun v H'=>a5N H (Q' v) H':=by
 have hlen:kvs.length=kn.length:=by have:=congrArg Yp hk;simpa using this
 refine ⟨a,kvs,rfl,hH,fun o=>?_⟩
 have hO:a2l H1 (.ref a) (upd H1 a (.frz o (.dK kvs))):=a2l.frz hH
 have hf:upd H1 a (.frz o (.dK kvs)) a=some (.frz o (.dK kvs)):=a0d
 generalize upd H1 a (.frz o (.dK kvs))=H0 at hO hf
 have ef:∀i,i < kvs.length→∃hi:i < kn.length,((kvs[i]?.map fun p=>kV p.1).getD .non)=.str kn[i]:=fun i hi=>by
  have hi':i < kn.length:=by omega
  refine ⟨hi',?_⟩
  have e1:(kvs.map (·.1))[i]?=some (Sum.inr kn[i]):=by rw [hk,Qm,Qc hi'];rfl
  rw [Qm] at e1
  rw [Qc hi] at e1 ⊢
  have e2:=Option.some.inj e1
  show kV kvs[i].1=_
  rw [show kvs[i].1=Sum.inr kn[i] from e2];rfl
 refine a4d (a7Y (o:=o) (a:=a) (kvs:=kvs)) (Qi (show kvs.length≤1000 by omega) (by decide)) σr hσ (fun i=>P ((kn[i]?).getD "")) (fun i=>V.str ((kn[i]?).getD "")) (fun H' s=>s _ _ hf) (fun i H' R hi s hR=>?_) (fun i H' R hi s hR=>?_) (fun D H' hD s h=>?_)
 ·obtain ⟨hi',e⟩:=ef i hi
  rw [e]
  rw [Qc hi',Xi] at hR
  exact hs _ H0 H' R (Xd hi') hO s hR
 ·obtain ⟨hi',e⟩:=ef i hi
  rw [e]
  rw [Qc hi',Xi] at hR
  exact ⟨_,rfl,hR _ (a0h.refl _)⟩
 ·rw [hlen,a0U ("":Str) P V.str kn] at h
  refine ⟨a,o,kvs,fun ob u z=>?_,s _ _ hf,hd D _ (hO.non _ hD) (fun b u e=>?_) ?_⟩
  ·have:=hs1 _ _ z;rw [hH] at this;cases this
  ·by_cases z:b=a
   ·rw [z,a0d,←hH,←z];exact e
   ·rw [a0a z];exact s _ _ (hO.keep _ _ e fun w=>z (by cases w;rfl))
  ·rw [a0a (fun z=>by rw [z,hf] at hD;cases hD)];exact h
/-! ### the words of a round -/
def wd:Bool→Str
 | true=>"held"
 | false=>"refused"
def wv (F:List (Str×Bool)):List (Key×V):=F.map fun p=>(Sum.inr p.1,V.str (wd p.2))
theorem a3q (F:List (Str×Bool)):(wv F).map (·.1)=(F.map (·.1)).map (Sum.inr:Str→Key):=by
 unfold wv;rw [Xo,Xo];rfl
theorem a9U {F:List (Str×Bool)} (hn:(F.map (·.1)).Nodup) {q:Str} {b:Bool} (h:(q,b)∈F):a0N (wv F) (Sum.inr q:Key)=some (.str (wd b)):=by
 induction F with
 | nil=>cases h
 | cons p F ih=>
  rw [Xg,Yw] at hn
  rcases Qy.mp h with z | z
  ·subst z;exact a0F rfl
  ·rw [show wv (p::F)=(Sum.inr p.1,V.str (wd p.2))::wv F from rfl,a0w (fun w=>hn.1 (by rw [Sum.inr.inj w];exact Qf.mpr ⟨_,z,rfl⟩)),ih hn.2 z]
theorem b7p {F:List (Str×Bool)} {q:Str} (h:q∉F.map (·.1)):a0N (wv F) (Sum.inr q:Key)=none:=by
 induction F with
 | nil=>rfl
 | cons p F ih=>
  rw [Xg,Qy] at h
  rw [show wv (p::F)=(Sum.inr p.1,V.str (wd p.2))::wv F from rfl,a0w (fun w=>h (.inl (Sum.inr.inj w).symm)),ih fun z=>h (.inr z)]
theorem c6T {H:Hp} {D:Addr} {F:List (Str×Bool)} (h:H D=some (.dK (wv F))) (hl:F.length≤100000) {x:Str} (hx:x∉F.map (·.1)) (b:Bool):a4u H D (.str x) (V.str (wd b)) (upd H D (.dK (wv (F++[(x,b)])))):=by
 have:=a4u.k (k:=(Sum.inr x:Key)) (v:=V.str (wd b)) h (by unfold wv;rw [Qe];exact Xm hl (by decide))
 rw [a5t _ (b7p hx)] at this
 rw [show wv (F++[(x,b)])=wv F++[(Sum.inr x,V.str (wd b))] from by unfold wv;rw [Xp];rfl]
 exact this
def wds (rs:List Rw) (pl:List (Str×Str)) (S U D ask:List Str):List (Str×Bool):=ask.filterMap fun q=>(stt rs pl S U D q).map fun w=>(q,w)
theorem a7e {rs:List Rw} {pl:List (Str×Str)} {S U D ask:List Str} {q:Str} {w:Bool}:(q,w)∈wds rs pl S U D ask↔q∈ask∧stt rs pl S U D q=some w:=by
 unfold wds
 rw [Jz]
 constructor
 ·rintro ⟨x,hx,e⟩
  obtain ⟨y,hy,e⟩:=Jn.mp e
  cases e
  exact ⟨hx,hy⟩
 ·rintro ⟨h1,h2⟩
  exact ⟨q,h1,by rw [h2];rfl⟩
theorem b3g {rs:List Rw} {pl:List (Str×Str)} {S U D ask:List Str} {q:Str} (h:q∈(wds rs pl S U D ask).map (·.1)):q∈ask:=by
 obtain ⟨⟨x,w⟩,hx,rfl⟩:=Qf.mp h
 exact (a7e.mp hx).1
theorem a5J (rs:List Rw) (pl:List (Str×Str)) (S U D:List Str):∀ask:List Str,((wds rs pl S U D ask).map (·.1)).Sublist ask
 | []=>List.Sublist.refl _
 | q::ask=>by
  have ih:=a5J rs pl S U D ask
  unfold wds at ih ⊢
  rw [Jh]
  cases stt rs pl S U D q with
  | none=>exact ih.cons q
  | some w=>exact ih.cons₂ q
theorem b2O (rs:List Rw) (pl:List (Str×Str)) (S U D ask:List Str) (q:Str):wds rs pl S U D (ask++[q])=wds rs pl S U D ask++((stt rs pl S U D q).map fun w=>(q,w)).toList:=by
 unfold wds
 rw [List.filterMap_append,Jh]
 cases stt rs pl S U D q<;>rfl
def Off (H:Hp) (v:V) (H':Hp):Prop:=∀b o,H b=some o→v≠.ref b→H' b=some o
theorem Off.same {H H1 H':Hp} {a:Addr} (h:Off H1 (.ref a) H') (s:a0h H H1) (n:H a=none):a0h H H':=fun b o e=>h b o (s _ _ e) fun z=>by cases z;rw [n] at e;cases e
def b6q (K:Qd) (t:Adr):Sp:=fun vs H Q _=>∃(g:Addr) (v1 v2 v3 va:V) (rs:List Rw) (pl:List (Str×Str)) (S U D ask:List Str),vs=[.ref g,v1,v2,v3,va]∧(∀H',Off H va H'→a3J t H' g rs pl∧a1s H' v1 S∧a1s H' v2 U∧a1s H' v3 D)∧(∀r∈rs,a1w r)∧rs.length≤126∧a3A K H va ask∧ask.Nodup∧ask.length≤1000∧(∀q∈ask,q.length≤100)∧∀W H',a0h H H'→H W=none→H' W=some (.dK (wv (wds rs pl S U D ask)))→Q (.ref W) H'
/-! ### premises and heads -/
def a4h (H:Hp) (d:Addr) (rs:List Rw):Prop:=∃kvs,H d=some (.dK kvs)∧∀p:Str,(a0N kvs (Sum.inr p:Key)=none∧∀r∈rs,p∉r.2.2.2)∨∃(L:Addr) (hs:List Str),a0N kvs (Sum.inr p:Key)=some (.ref L)∧H L=some (.lst (hs.map V.str))∧hs.length≤600∧∀h:Str,h∈hs↔∃r∈rs,p∈r.2.2.2∧r.2.2.1=h
theorem a4h.same {H H':Hp} {d:Addr} {rs:List Rw} (s:a0h H H') (h:a4h H d rs):a4h H' d rs:=let ⟨k,a,b⟩:=h;⟨k,s _ _ a,fun p=>(b p).imp id fun ⟨L,hs,c,d,e⟩=>⟨L,hs,c,s _ _ d,e⟩⟩
def b6U (t:Adr):Sp:=fun vs H Q _=>∃(g:Addr) (rs:List Rw) (pl:List (Str×Str)),vs=[.ref g]∧a3J t H g rs pl∧(∀r∈rs,a1w r)∧rs.length≤126∧∀D H',a0h H H'→H D=none→a4h H' D rs→Q (.ref D) H'
def b1X:Sp:=fun vs H Q _=>∃(hd cm:Addr) (rs:List Rw) (F:List (Str×Bool)),vs=[.ref hd,.ref cm]∧(∀H',Off H (.ref cm) H'→a4h H' hd rs)∧H cm=some (.dK (wv F))∧F.length≤80∧(∀r∈rs,a1w r)∧rs.length≤126∧
 ∀D kn H',a0h H H'→H D=none→H' D=some (.dK (bv kn))→kn.Nodup→kn.length≤1000→(∀x,x∈kn↔tch rs (F.map (·.1)) x)→Q (.ref D) H'
def a9a (L:List (Str×Str)) (p:Str):List Str:=(L.filter fun x=>decide (x.1=p)).map (·.2)
theorem b4a (L:List (Str×Str)) (p:Str):(a9a L p).length≤L.length:=by
 unfold a9a;rw [Qe];exact Qz _ _
theorem a6i (L:List (Str×Str)) (p h x:Str):a9a (L++[(p,h)]) x=a9a L x++if p=x then [h] else []:=by
 unfold a9a
 rw [Zv,Xp,Xw]
 by_cases e:p=x
 ·rw [if_pos e,if_pos (decide_eq_true e)];rfl
 ·rw [if_neg e,if_neg (by simpa using e)];rfl
structure a9h (H H':Hp) (D:Addr) (kvs:List (Key×V)) (L:List (Str×Str)):Prop where
 d:H' D=some (.dK kvs)
 len:kvs.length≤L.length
 at_:∀p:Str,(a0N kvs (Sum.inr p:Key)=none∧a9a L p=[])∨∃N,a0N kvs (Sum.inr p:Key)=some (.ref N)∧H N=none∧H' N=some (.lst ((a9a L p).map V.str))
 inj:∀(p p':Str) (N:Addr),a0N kvs (Sum.inr p:Key)=some (.ref N)→a0N kvs (Sum.inr p':Key)=some (.ref N)→p=p'
theorem a9h.same {H H' H'':Hp} {D:Addr} {kvs:List (Key×V)} {L:List (Str×Str)} (s:a0h H' H'') (h:a9h H H' D kvs L):a9h H H'' D kvs L:=⟨s _ _ h.d,h.len,fun p=>(h.at_ p).imp id fun ⟨N,a,b,c⟩=>⟨N,a,b,s _ _ c⟩,h.inj⟩
theorem a9h.old {H H':Hp} {D N:Addr} {kvs:List (Key×V)} {L:List (Str×Str)} {p h:Str} (I:a9h H H' D kvs L) (e:a0N kvs (Sum.inr p:Key)=some (.ref N)):H' N=some (.lst ((a9a L p).map V.str))∧H N=none∧a9h H (upd H' N (.lst ((a9a L p).map V.str++[V.str h]))) D kvs (L++[(p,h)]):=by
 rcases I.at_ p with ⟨z,_⟩ | ⟨N',e',n',hN⟩
 ·rw [z] at e;cases e
 rw [e] at e';cases e'
 refine ⟨hN,n',⟨by rw [a0a (a0G hN I.d (by intro z;cases z)).symm];exact I.d,by have:=I.len;simp;omega,fun x=>?_,I.inj⟩⟩
 rw [a6i]
 by_cases z:p=x
 ·subst z
  rw [if_pos rfl]
  exact .inr ⟨N,e,n',by rw [a0d,Xp];rfl⟩
 ·rw [if_neg z,Qj]
  rcases I.at_ x with w | ⟨M,a,b,c⟩
  ·exact .inl w
  ·exact .inr ⟨M,a,b,by rw [a0a (fun w=>z (I.inj p x N e (by rw [←w];exact a)))];exact c⟩
theorem a9h.new {H H':Hp} {D N:Addr} {kvs:List (Key×V)} {L:List (Str×Str)} {p h:Str} (I:a9h H H' D kvs L) (e:a0N kvs (Sum.inr p:Key)=none) (hN:H' N=none) (n:H N=none) (o:HO):a9h H (upd (upd (upd H' N o) D (.dK (a1W kvs (Sum.inr p) (.ref N)))) N (.lst ([]++[V.str h]))) D (a1W kvs (Sum.inr p) (.ref N)) (L++[(p,h)]):=by
 have hDN:D≠N:=fun z=>by rw [←z,I.d] at hN;cases hN
 have hk:=a0z kvs (Sum.inr p:Key) (V.ref N)
 refine ⟨by rw [a0a hDN,a0d],by have:=I.len;simp;omega,fun x=>?_,fun x y M a b=>?_⟩
 ·rw [a6i,a1k]
  by_cases z:p=x
  ·subst z
   rw [if_pos rfl,if_pos rfl]
   rcases I.at_ p with ⟨_,w⟩ | ⟨M,a,_⟩
   ·rw [w];exact .inr ⟨N,rfl,n,a0d⟩
   ·rw [e] at a;cases a
  ·rw [if_neg (fun w=>z (Sum.inr.inj w).symm),if_neg z,Qj]
   rcases I.at_ x with w | ⟨M,a,b,c⟩
   ·exact .inl w
   ·have hMN:M≠N:=fun w=>by rw [w,hN] at c;cases c
    exact .inr ⟨M,a,b,by rw [a0a hMN,a0a (a0G c I.d (by intro z;cases z)),a0a hMN];exact c⟩
 ·have nope:∀y:Str,a0N kvs (Sum.inr y:Key)≠some (.ref N):=fun y w=>by
   rcases I.at_ y with ⟨c,_⟩ | ⟨M',c,_,d⟩
   ·rw [c] at w;cases w
   ·rw [c] at w;cases w;rw [hN] at d;cases d
  rw [a1k] at a b
  by_cases z1:(Sum.inr x:Key)=Sum.inr p
  ·by_cases z2:(Sum.inr y:Key)=Sum.inr p
   ·rw [Sum.inr.inj z1,Sum.inr.inj z2]
   ·rw [if_pos z1] at a;cases a
    rw [if_neg z2] at b;exact absurd b (nope y)
  ·rw [if_neg z1] at a
   by_cases z2:(Sum.inr y:Key)=Sum.inr p
   ·rw [if_pos z2] at b;cases b;exact absurd a (nope x)
   ·rw [if_neg z2] at b;exact I.inj x y M a b
def phs (rs:List Rw):List (Str×Str):=rs.flatMap fun r=>r.2.2.2.map fun p=>(p,r.2.2.1)
theorem a6L:∀{rs:List Rw},(∀r∈rs,a1w r)→(phs rs).length≤4 * rs.length
 | [],_=>Qk _
 | r::rs,h=>by
  have h1:=a6L (rs:=rs) fun x hx=>h x (Qt _ hx)
  have h2:=(h r Qs).2.2.2.2.2
  unfold phs at h1 ⊢
  rw [List.flatMap_cons,Xq,Qe,Qr]
  omega
theorem a9h.hds {H H':Hp} {D:Addr} {kvs:List (Key×V)} {rs:List Rw} (I:a9h H H' D kvs (phs rs)) (hO:∀r∈rs,a1w r) (hl:rs.length≤126):a4h H' D rs:=by
 have hm:∀p h,h∈a9a (phs rs) p↔∃r∈rs,p∈r.2.2.2∧r.2.2.1=h:=fun p h=>by
  unfold a9a phs
  rw [Qf]
  constructor
  ·rintro ⟨⟨x,y⟩,hx,rfl⟩
   obtain ⟨h1,h2⟩:=Qp.mp hx
   obtain ⟨r,hr,h3⟩:=Zj.mp h1
   obtain ⟨p',hp,e⟩:=Qf.mp h3
   cases e
   have:x=p:=of_decide_eq_true h2
   exact ⟨r,hr,this ▸ hp,rfl⟩
  ·rintro ⟨r,hr,hp,rfl⟩
   exact ⟨(p,r.2.2.1),Qp.mpr ⟨Zj.mpr ⟨r,hr,Qf.mpr ⟨p,hp,rfl⟩⟩,decide_eq_true rfl⟩,rfl⟩
 refine ⟨kvs,I.d,fun p=>?_⟩
 rcases I.at_ p with ⟨a,b⟩ | ⟨N,a,_,c⟩
 ·refine .inl ⟨a,fun r hr hp=>?_⟩
  have:=(hm p r.2.2.1).mpr ⟨r,hr,hp,rfl⟩
  rw [b] at this;cases this
 ·refine .inr ⟨N,_,a,c,?_,hm p⟩
  have h1:(a9a (phs rs) p).length≤(phs rs).length:=by
   unfold a9a;rw [Qe];exact Qz _ _
  have:=a6L hO
  omega
theorem b1e:∀rs:List Rw,(rs.flatMap fun r=>[r.2.2.1,a0v r.2.2.1]).length=2 * rs.length
 | []=>rfl
 | r::rs=>by rw [List.flatMap_cons,Xq,b1e rs];simp;omega
/-! ### the rounds told -/
abbrev Tr:=Str×Bool×Nat
def TAt (H:Hp) (D:Addr) (T:List Tr):Prop:=∃A:List (Addr×Tr),A.map (·.2)=T∧H D=some (.dK (A.map fun e=>(Sum.inr e.2.1,.ref e.1)))∧∀e∈A,H e.1=some (.tup [.str (wd e.2.2.1),.int e.2.2.2])
theorem TAt.same {H H':Hp} {D:Addr} {T:List Tr} (s:a0h H H') (h:TAt H D T):TAt H' D T:=let ⟨A,a,b,c⟩:=h;⟨A,a,s _ _ b,fun e he=>s _ _ (c e he)⟩
theorem a9T {A:List (Addr×Tr)} {q:Str} (h:q∉A.map fun e=>e.2.1):a0N (A.map fun e=>((Sum.inr e.2.1:Key),V.ref e.1)) (Sum.inr q:Key)=none:=by
 induction A with
 | nil=>rfl
 | cons p A ih=>
  rw [Xg,Qy] at h
  rw [Xg,a0w (fun w=>h (.inl (Sum.inr.inj w).symm)),ih fun z=>h (.inr z)]
theorem b5u {A:List (Addr×Tr)} (hn:(A.map fun e=>e.2.1).Nodup) {e:Addr×Tr} (h:e∈A):a0N (A.map fun e=>((Sum.inr e.2.1:Key),V.ref e.1)) (Sum.inr e.2.1:Key)=some (.ref e.1):=by
 induction A with
 | nil=>cases h
 | cons p A ih=>
  rw [Xg,Yw] at hn
  rcases Qy.mp h with z | z
  ·subst z;exact a0F rfl
  ·rw [Xg,a0w (fun w=>hn.1 (by rw [Sum.inr.inj w];exact Qf.mpr ⟨_,z,rfl⟩)),ih hn.2 z]
theorem TAt.keys {H:Hp} {D:Addr} {T:List Tr} (h:TAt H D T):∃kvs,H D=some (.dK kvs)∧kvs.map (·.1)=(T.map (·.1)).map (Sum.inr:Str→Key)∧∀x:Str,(a0N kvs (Sum.inr x:Key)).isSome=decide (x∈T.map (·.1)):=by
 obtain ⟨A,rfl,hD,_⟩:=h
 refine ⟨_,hD,by rw [Xo,Xo,Xo];rfl,fun x=>?_⟩
 rw [←a1V,Xn,Yk,decide_eq_true_eq,Xo]
 constructor
 ·rintro ⟨p,hp,e⟩
  obtain ⟨y,hy,rfl⟩:=Qf.mp hp
  exact Qf.mpr ⟨y,hy,Sum.inr.inj (of_decide_eq_true e)⟩
 ·intro h
  obtain ⟨y,hy,e⟩:=Qf.mp h
  exact ⟨_,Qf.mpr ⟨y,hy,rfl⟩,decide_eq_true (by rw [←e];rfl)⟩
theorem TAt.put {H H1:Hp} {D p:Addr} {T:List Tr} {q:Str} {b:Bool} {n:Nat} (h:TAt H D T) (s:a0h H H1) (hp:H1 p=some (.tup [.str (wd b),.int n])) (hq:q∉T.map (·.1)) (hl:T.length≤100000):∃kvs',a4u H1 D (.str q) (.ref p) (upd H1 D (.dK kvs'))∧TAt (upd H1 D (.dK kvs')) D (T++[(q,b,n)]):=by
 obtain ⟨A,rfl,hD,hA⟩:=h
 have hq':q∉A.map fun e=>e.2.1:=by rw [Xo] at hq;exact hq
 have hD1:=s _ _ hD
 refine ⟨(A.map fun e=>((Sum.inr e.2.1:Key),V.ref e.1))++[(Sum.inr q,V.ref p)],?_,A++[(p,q,b,n)],by rw [Xp];rfl,by rw [a0d,Xp];rfl,fun e he=>?_⟩
 ·have:=a4u.k (k:=(Sum.inr q:Key)) (v:=V.ref p) hD1 (by rw [Qe];rw [Qe] at hl;exact Xm hl (by decide))
  rw [a5t _ (a9T hq')] at this
  exact this
 ·rcases Qq.mp he with z | z
  ·rw [a0a (a0G (s _ _ (hA e z)) hD1 (by intro z;cases z))];exact s _ _ (hA e z)
  ·rw [Xa.mp z,a0a (a0G hp hD1 (by intro z;cases z))];exact hp
theorem a8Z {H:Hp} {a:Addr} {S S':List Str} (h:H a=some (.dK (bv S'))) (hs:∀x,x∈S'↔x∈S):DAt H a S:=⟨_,h,fun x=>by
 rw [a2m]
 by_cases z:x∈S
 ·rw [if_pos ((hs x).mpr z),decide_eq_true z];rfl
 ·rw [if_neg (fun w=>z ((hs x).mp w)),decide_eq_false z];rfl⟩
theorem a4P (k:Key):∀(more kvs:List (Key×V)),(a0N (a1N kvs more) k).isSome=((a0N kvs k).isSome || (a0N more k).isSome)
 | [],kvs=>by rw [show a1N kvs []=kvs from rfl,show a0N ([]:List (Key×V)) k=none from rfl];simp
 | p::r,kvs=>by
  rw [show a1N kvs (p::r)=a1N (a1W kvs p.1 p.2) r from rfl,a4P k r,a1k]
  by_cases e:k=p.1
  ·rw [if_pos e,show p::r=(p.1,p.2)::r from rfl,a0F e.symm];simp
  ·rw [if_neg e,show p::r=(p.1,p.2)::r from rfl,a0w (fun z=>e z.symm)]
/-! ### the rounds by what is in them -/
section
variable {rs:List Rw} {pl:List (Str×Str)} {S W U D:List Str}
def IsF (rs:List Rw) (pl:List (Str×Str)) (S W U D:List Str) (n:Nat) (F:List (Str×Bool)):Prop:=∀e,e∈F↔e∈fresh rs pl S W (rds rs pl S W U D n)
def IsT (rs:List Rw) (pl:List (Str×Str)) (S W U D:List Str) (n:Nat) (T:List Tr):Prop:=∀e,e∈T↔e∈(rds rs pl S W U D n).T
theorem a3p {α β:Type} {l m:List (α×β)} (h:∀e,e∈l↔e∈m) (x:α):x∈l.map (·.1)↔x∈m.map (·.1):=by
 constructor
 ·intro z;obtain ⟨e,he,rfl⟩:=Qf.mp z;exact Qf.mpr ⟨e,(h e).mp he,rfl⟩
 ·intro z;obtain ⟨e,he,rfl⟩:=Qf.mp z;exact Qf.mpr ⟨e,(h e).mpr he,rfl⟩
theorem a7G {n:Nat} {T:List Tr} {F:List (Str×Bool)} (hT:IsT rs pl S W U D n T) (hF:IsF rs pl S W U D n F):IsT rs pl S W U D (n+1) (T++F.map fun p=>(p.1,p.2,n+1)):=fun e=>by
 show e∈_↔e∈(rds rs pl S W U D n).T++(fresh rs pl S W (rds rs pl S W U D n)).map fun p=>(p.1,p.2,n+1)
 rw [Qq,Qq,hT e]
 refine or_congr Iff.rfl ?_
 constructor
 ·intro z;obtain ⟨p,hp,rfl⟩:=Qf.mp z;exact Qf.mpr ⟨p,(hF p).mp hp,rfl⟩
 ·intro z;obtain ⟨p,hp,rfl⟩:=Qf.mp z;exact Qf.mpr ⟨p,(hF p).mpr hp,rfl⟩
theorem b3C {n:Nat} {F:List (Str×Bool)} (hF:IsF rs pl S W U D n F) (x:Str):x∈(rds rs pl S W U D (n+1)).U↔x∈(rds rs pl S W U D n).U∨(x,true)∈F:=by
 show x∈(rds rs pl S W U D n).U++ups _↔_
 rw [Qq,a2y,hF]
theorem b3q {n:Nat} {F:List (Str×Bool)} (hF:IsF rs pl S W U D n F) (x:Str):x∈(rds rs pl S W U D (n+1)).D↔x∈(rds rs pl S W U D n).D∨(x,false)∈F:=by
 show x∈(rds rs pl S W U D n).D++a1T _↔_
 rw [Qq,a1B,hF]
theorem b3k:IsF rs pl S W U D 0 (wds rs pl S U D W):=fun ⟨q,w⟩=>by
 rw [a7e,a0o]
 exact ⟨fun ⟨a,b⟩=>⟨a,(fun z=>by cases z),b⟩,fun ⟨a,_,b⟩=>⟨a,b⟩⟩
theorem b2P {n:Nat} {T:List Tr} {F:List (Str×Bool)} {ask:List Str} (ho:∀q∈W,a0v (a0v q)=q) (hT:IsT rs pl S W U D (n+1) T) (hF:IsF rs pl S W U D n F) (ha:∀q,q∈ask↔tch rs (F.map (·.1)) q∧q∈W∧q∉T.map (·.1)):
  IsF rs pl S W U D (n+1) (wds rs pl S (rds rs pl S W U D (n+1)).U (rds rs pl S W U D (n+1)).D ask):=fun ⟨q,w⟩=>by
 rw [a7e,a0o,ha,←a3p hT]
 refine ⟨fun ⟨⟨_,b,c⟩,d⟩=>⟨b,c,d⟩,fun ⟨b,c,d⟩=>⟨⟨?_,b,c⟩,d⟩⟩
 obtain ⟨r,hr,⟨p,hp,hm⟩,hz⟩:=b0T n ho (a0o.mpr ⟨b,(by rw [←a3p hT];exact c),d⟩)
 exact ⟨r,hr,⟨p,hp,(a3p hF p).mpr hm⟩,hz⟩
theorem b7x {n:Nat} (hF:IsF rs pl S W U D n []):fresh rs pl S W (rds rs pl S W U D n)=[]:=by
 cases e:fresh rs pl S W (rds rs pl S W U D n) with
 | nil=>rfl
 | cons x l=>exact absurd ((hF x).mpr (by rw [e];exact Qs)) (by simp)
theorem a2p:∀(n:Nat) (q:Str),q∈(rds rs pl S W U D n).T.map (·.1)→q∈W
 | 0,q,h=>by cases h
 | n+1,q,h=>by
  have h':q∈((rds rs pl S W U D n).T++(fresh rs pl S W (rds rs pl S W U D n)).map fun p=>(p.1,p.2,n+1)).map (·.1):=h
  rw [Xp,Qq] at h'
  rcases h' with z | z
  ·exact a2p n q z
  ·rw [Xo] at z
   obtain ⟨⟨x,w⟩,hp,rfl⟩:=Qf.mp z
   exact (a0o.mp hp).1
end
def b3x (K:Qd) (t:Adr):Sp:=fun vs H Q _=>∃(g:Addr) (v1 v2:V) (kd:Addr) (rs:List Rw) (pl:List (Str×Str)) (sm S:List Str) (kn:List (Str×Bool)),vs=[.ref g,v1,v2,.ref kd]∧a3J t H g rs pl∧(∀r∈rs,a1w r)∧rs.length≤126∧a3A K H v1 sm∧a3A K H v2 S∧H kd=some (.dK (wv kn))∧(kn.map (·.1)).Nodup∧sm.length≤80∧S.length≤100∧kn.length≤100∧(∀q∈sm,q.length≤100∧a0v (a0v q)=q)∧
 ∀D T n H',a0h H H'→H D=none→TAt H' D T→(T.map (·.1)).Nodup→fresh rs pl S (sm.foldl a0S []) (rds rs pl S (sm.foldl a0S []) (ups kn) (a1T kn) n)=[]→IsT rs pl S (sm.foldl a0S []) (ups kn) (a1T kn) n T→Q (.ref D) H'
theorem b7Q {b c:Bool} (h:wd b=wd c):b=c:=by
 cases b<;>cases c
 ·rfl
 ·exact absurd h (by decide+kernel)
 ·exact absurd h (by decide+kernel)
 ·rfl
theorem a2Z {K:Qd} {b:Bool} {F:List (Str×Bool)} (hn:(F.map (·.1)).Nodup) {q0:Str} {cm:Addr} {H':Hp} {R:Bool→Hp→Prop} (hq:q0∈F.map (·.1)) (hR:Rd H' cm (.dK (wv F))) (hR':∀H'',a0h H' H''→R (decide ((q0,b)∈F)) H''):a1l (tOp (b6e K) (b2f (a0k 1) (a0k 0)) (tC (V.str (wd b)))) [some (V.str q0),some (V.ref cm)] H' R:=by
 obtain ⟨⟨x,c⟩,hm,rfl⟩:=Qf.mp hq
 have hv:=a9U hn hm
 refine ⟨_,rfl,_,rfl,cm,_,rfl,.inl ⟨_,Sum.inr x,hR,rfl,hv.symm⟩,a3H.mpr ⟨_,rfl,?_⟩⟩
 have:=hR' _ (a0h.refl _)
 rw [show decide (wd c=wd b)=decide ((x,b)∈F) from by
  rw [Xn,decide_eq_true_eq,decide_eq_true_eq]
  refine ⟨fun z=>b7Q z ▸ hm,fun z=>?_⟩
  have e:=a9U hn z
  rw [hv] at e
  exact V.str.inj (Option.some.inj e)]
 exact this
theorem a5q {F:List (Str×Bool)} {b:Bool} {x:Str}:x∈((F.map (·.1)).filter fun q=>decide ((q,b)∈F)).foldl a0S []↔(x,b)∈F:=by
 rw [a1R,Qp,decide_eq_true_eq]
 exact ⟨fun h=>h.elim (fun z=>(by cases z)) (·.2),fun h=>.inr ⟨Qf.mpr ⟨_,h,rfl⟩,h⟩⟩
theorem a5A (F:List (Str×Bool)) (b:Bool):((F.map (·.1)).filter fun q=>decide ((q,b)∈F)).length≤F.length:=by
 have:=Qz (fun q=>decide ((q,b)∈F)) (F.map (·.1))
 rw [Qe] at this;exact this
theorem a4h.keep {H H':Hp} {d:Addr} {rs:List Rw} (h:a4h H d rs) (k:∀b o,H b=some o→(b=d∨∃xs,o=.lst xs)→H' b=some o):a4h H' d rs:=let ⟨kv,a,b⟩:=h;⟨kv,k _ _ a (.inl rfl),fun p=>(b p).imp id fun ⟨L,hs,c,d,e⟩=>⟨L,hs,c,k _ _ d (.inr ⟨_,rfl⟩),e⟩⟩
theorem TAt.keep {H H':Hp} {D:Addr} {T:List Tr} (h:TAt H D T) (k:∀b o,H b=some o→(b=D∨∃xs,o=.tup xs)→H' b=some o):TAt H' D T:=let ⟨A,a,b,c⟩:=h;⟨A,a,k _ _ b (.inl rfl),fun e he=>k _ _ (c e he) (.inr ⟨_,rfl⟩)⟩
theorem DAt.merge {kvs:List (Key×V)} {S S':List Str} {F:List (Str×Bool)} {b:Bool} (h:∀x:Str,(a0N kvs (Sum.inr x:Key)).isSome=decide (x∈S)) (hs:∀x,x∈S'↔x∈S∨(x,b)∈F) (x:Str):(a0N (a1N kvs (bv (((F.map (·.1)).filter fun q=>decide ((q,b)∈F)).foldl a0S []))) (Sum.inr x:Key)).isSome=decide (x∈S'):=by
 rw [a4P,h,a2m,Xn,Bool.or_eq_true,decide_eq_true_eq,decide_eq_true_eq,hs]
 refine or_congr Iff.rfl ?_
 by_cases z:(x,b)∈F
 ·rw [if_pos (a5q.mpr z)];exact ⟨fun _=>z,fun _=>rfl⟩
 ·rw [if_neg (fun w=>z (a5q.mp w))];exact ⟨fun w=>(by cases w),fun w=>absurd w z⟩
/-! ### the pairs of a dict walked,its values walked -/
def a6k (H:Hp) (a:Addr) (S:List Str) (n:Nat):Prop:=∃kvs,H a=some (.dK kvs)∧(∀x:Str,(a0N kvs (Sum.inr x:Key)).isSome=decide (x∈S))∧kvs.length≤n
theorem a6k.dat {H:Hp} {a:Addr} {S:List Str} {n:Nat} (h:a6k H a S n):DAt H a S:=let ⟨k,b,c,_⟩:=h;⟨k,b,c⟩
theorem a6k.keep {H H':Hp} {a:Addr} {S:List Str} {n m:Nat} (k:∀o,H a=some o→H' a=some o) (hm:n≤m) (h:a6k H a S n):a6k H' a S m:=let ⟨v,b,c,d⟩:=h;⟨v,k _ b,c,Qi d hm⟩
theorem a6k.put {H:Hp} {a:Addr} {S:List Str} {n:Nat} (h:a6k H a S n) (hn:n≤100000) (q:Str) (v:V):∃kvs',a4u H a (.str q) v (upd H a (.dK kvs'))∧a6k (upd H a (.dK kvs')) a (S++[q]) (n+1):=by
 obtain ⟨kvs,b,c,d⟩:=h
 refine ⟨_,a4u.k (k:=(Sum.inr q:Key)) b (Xm (Qi d hn) (by decide)),_,a0d,fun x=>?_,?_⟩
 ·rw [a1k]
  by_cases e:x=q
  ·rw [if_pos (by rw [e])];simp [e]
  ·rw [if_neg (fun z=>e (Sum.inr.inj z)),c];simp [e]
 ·have:=a0z kvs (Sum.inr q:Key) v
  omega
section
variable {rs:List Rw} {pl:List (Str×Str)} {S U D:List Str}
theorem b2T {U' D':List Str} {q:Str} (hU:∀x,x∈U'↔x∈U) (hD:∀x,x∈D'↔x∈D) (ho:a0v (a0v q)=q):stt rs pl S U' D' q=stt rs pl S U D q:=a6Z (came:=[]) (fun x _=>hU x) (fun x _=>hD x) ho (fun ⟨r,_,⟨p,_,z⟩,_⟩=>by cases z)
theorem a7Q {W W':List Str} (hW:∀x,x∈W↔x∈W') (ho:∀q∈W,a0v (a0v q)=q):∀n,(∀e,e∈(rds rs pl S W U D n).T↔e∈(rds rs pl S W' U D n).T)∧(∀x,x∈(rds rs pl S W U D n).U↔x∈(rds rs pl S W' U D n).U)∧(∀x,x∈(rds rs pl S W U D n).D↔x∈(rds rs pl S W' U D n).D)
 | 0=>⟨fun _=>Iff.rfl,fun _=>Iff.rfl,fun _=>Iff.rfl⟩
 | n+1=>by
  obtain ⟨hT,hU,hD⟩:=a7Q hW ho n
  have hF:∀e,e∈fresh rs pl S W (rds rs pl S W U D n)↔e∈fresh rs pl S W' (rds rs pl S W' U D n):=fun ⟨q,w⟩=>by
   rw [a0o,a0o,a3p hT q,hW q]
   refine and_congr_right fun hq=>and_congr_right fun _=>?_
   rw [b2T hU hD (ho q ((hW q).mpr hq))]
  refine ⟨fun e=>?_,fun x=>?_,fun x=>?_⟩
  ·show e∈(rds rs pl S W U D n).T++_↔e∈(rds rs pl S W' U D n).T++_
   rw [Qq,Qq,hT e]
   refine or_congr Iff.rfl ?_
   constructor
   ·intro z;obtain ⟨p,hp,rfl⟩:=Qf.mp z;exact Qf.mpr ⟨p,(hF p).mp hp,rfl⟩
   ·intro z;obtain ⟨p,hp,rfl⟩:=Qf.mp z;exact Qf.mpr ⟨p,(hF p).mpr hp,rfl⟩
  ·show x∈(rds rs pl S W U D n).U++ups _↔x∈(rds rs pl S W' U D n).U++ups _
   rw [Qq,Qq,hU x,a2y,a2y,hF]
  ·show x∈(rds rs pl S W U D n).D++a1T _↔x∈(rds rs pl S W' U D n).D++a1T _
   rw [Qq,Qq,hD x,a1B,a1B,hF]
theorem b6Z {W W':List Str} (hW:∀x,x∈W↔x∈W') (ho:∀q∈W,a0v (a0v q)=q) {n n':Nat} (h:fresh rs pl S W (rds rs pl S W U D n)=[]) (h':fresh rs pl S W' (rds rs pl S W' U D n')=[]) {T T':List Tr} (hT:IsT rs pl S W U D n T) (hT':IsT rs pl S W' U D n' T'):∀e,e∈T↔e∈T':=fun e=>by
 have a1:=a2i h n'
 have a2:=a2i h' n
 rw [hT e,hT' e,←a1,←a2,Vy n' n]
 exact (a7Q hW ho (n+n')).1 e
end
/-! ### what lies about -/
theorem a3A.list {K:Qd} {H:Hp} {v:V} {S:List Str} {Q:VK} (h:a3A K H v S) (q:∀l,H l=none→Q (.ref l) (upd H l (.lst (S.map V.str)))):b4P K [v] H Q:=by
 rcases h with ⟨a,rfl,ha⟩ | ⟨a,kvs,rfl,ha,hk⟩
 ·exact .inl ⟨a,_,rfl,.inl (SqL.of ha),q⟩
 ·refine .inr ⟨a,_,rfl,.inl ha,fun l hl=>?_⟩
  have:kvs.map (fun kv=>kV kv.1)=S.map V.str:=by
   have:=congrArg (Gm kV) hk
   rw [Xo,Xo] at this;exact this
  rw [this];exact q l hl
/-! ### words that grow,never both,as few as can be -/
section
variable {rs:List Rw} {pl:List (Str×Str)} {S U U' D D':List Str} {q:Str}
theorem a5T {b:List Str} (h:∀x∈U,x∈U') (e:a2B b U=true):a2B b U'=true:=by
 rw [a5B] at e ⊢;exact fun q hq=>h q (e q hq)
theorem a5r {b:List Str}:a2s b S=true↔∃q∈b,q∈S:=by
 unfold a2s;rw [Yk];simp
theorem a6y {b:List Str} (h:∀x∈U,x∈U') (e:a2s b U=true):a2s b U'=true:=by
 rw [a5r] at e ⊢
 obtain ⟨q,a,c⟩:=e
 exact ⟨q,a,h q c⟩
theorem a5k {bs bs':List Rw} {r:Rw} (h:∀b∈bs,b∈bs') (e:btn pl bs r=true):btn pl bs' r=true:=by
 unfold btn at e ⊢
 rw [Yk] at e ⊢
 obtain ⟨b,hb,c⟩:=e
 exact ⟨b,h b hb,c⟩
theorem a6n {r:Rw}:r∈a1i rs U q↔(r∈hdF rs q∧spk r=true)∧a2B r.2.2.2 U=true:=by
 unfold a1i;rw [Qp,Qp]
theorem b0m {r:Rw}:r∈unf rs D q↔(r∈hdF rs q∧spk r=true)∧a2s r.2.2.2 D=false:=by
 unfold unf;rw [Qp,Qp,Yd]
theorem a6J {α:Type} {l m:List α} (h:∀r∈l,r∈m) (e:m=[]):l=[]:=Zn.mpr fun r hr=>by
 have:=h r hr;rw [e] at this;cases this
theorem a5P:a0Z rs pl S U D q=true↔q∈S∨(q∉S∧a1i rs U q≠[]∧a0v q∉S∧∀r∈hdF rs (a0v q),a2s r.2.2.2 D=true∨btn pl (a1i rs U q) r=true):=by
 unfold a0Z
 by_cases h:q∈S
 ·simp [h]
 ·rw [if_neg h]
  by_cases c:a1i rs U q=[]∨a0v q∈S
  ·rw [if_pos c]
   constructor
   ·intro z;cases z
   ·rintro (z | ⟨_,a,b,_⟩)
    ·exact absurd z h
    ·exact (c.elim a b).elim
  ·rw [if_neg c,Ys]
   rw [not_or] at c
   constructor
   ·intro z;exact .inr ⟨h,c.1,c.2,fun r hr=>Gc.mp (z r hr)⟩
   ·rintro (z | ⟨_,_,_,z⟩)
    ·exact absurd z h
    ·exact fun r hr=>Gc.mpr (z r hr)
theorem b1o:a3U rs pl S U D q=true↔q∉S∧(unf rs D q=[]∨a0v q∈S∨∃r∈hdF rs (a0v q),a2B r.2.2.2 U=true∧btn pl (unf rs D q) r=false):=by
 unfold a3U
 by_cases h:q∈S
 ·simp [h]
 ·rw [if_neg h]
  by_cases c:unf rs D q=[]∨a0v q∈S
  ·rw [if_pos c]
   exact ⟨fun _=>⟨h,c.imp id .inl⟩,fun _=>rfl⟩
  ·rw [if_neg c,Yk]
   rw [not_or] at c
   constructor
   ·rintro ⟨r,hr,z⟩
    rw [Xr,Yd] at z
    exact ⟨h,.inr (.inr ⟨r,hr,z⟩)⟩
   ·rintro ⟨_,z | z | ⟨r,hr,z⟩⟩
    ·exact absurd z c.1
    ·exact absurd z c.2
    ·exact ⟨r,hr,by rw [Xr,Yd];exact z⟩
theorem a8J (hU:∀x∈U,x∈U') (hD:∀x∈D,x∈D') (e:a0Z rs pl S U D q=true):a0Z rs pl S U' D' q=true:=by
 rw [a5P] at e ⊢
 rcases e with e | ⟨a,b,c,d⟩
 ·exact .inl e
 ·have hs:∀r∈a1i rs U q,r∈a1i rs U' q:=fun r hr=>by rw [a6n] at hr ⊢;exact ⟨hr.1,a5T hU hr.2⟩
  exact .inr ⟨a,fun z=>b (a6J hs z),c,fun r hr=>(d r hr).imp (a6y hD) (a5k hs)⟩
theorem b3n (hU:∀x∈U,x∈U') (hD:∀x∈D,x∈D') (e:a3U rs pl S U D q=true):a3U rs pl S U' D' q=true:=by
 rw [b1o] at e ⊢
 have hs:∀r∈unf rs D' q,r∈unf rs D q:=fun r hr=>by
  rw [b0m] at hr ⊢
  refine ⟨hr.1,?_⟩
  cases z:a2s r.2.2.2 D with
  | false=>rfl
  | true=>have:=hr.2;rw [a6y hD z] at this;cases this
 refine ⟨e.1,?_⟩
 rcases e.2 with z | z | ⟨r,hr,a,b⟩
 ·exact .inl (a6J hs z)
 ·exact .inr (.inl z)
 ·refine .inr (.inr ⟨r,hr,a5T hU a,?_⟩)
  cases z:btn pl (unf rs D' q) r with
  | false=>rfl
  | true=>rw [a5k hs z] at b;cases b
theorem a8E (hc:∀x∈U,x∉D) (h:a0Z rs pl S U D q=true):a3U rs pl S U D q=false:=by
 cases e:a3U rs pl S U D q with
 | false=>rfl
 | true=>
  exfalso
  rw [a5P] at h;rw [b1o] at e
  rcases h with h | ⟨_,b,c,d⟩
  ·exact e.1 h
  ·have hs:∀r∈a1i rs U q,r∈unf rs D q:=fun r hr=>by
    rw [a6n] at hr;rw [b0m]
    refine ⟨hr.1,?_⟩
    cases z:a2s r.2.2.2 D with
    | false=>rfl
    | true=>
     obtain ⟨p,hp,hd⟩:=a5r.mp z
     exact absurd hd (hc p (a5B.mp hr.2 p hp))
   rcases e.2 with z | z | ⟨r,hr,a,b'⟩
   ·exact b (a6J hs z)
   ·exact c z
   ·rcases d r hr with w | w
    ·obtain ⟨p,hp,hd⟩:=a5r.mp w
     exact hc p (a5B.mp a p hp) hd
    ·rw [a5k hs w] at b';cases b'
theorem a3x (hc:∀x∈U',x∉D') (hU:∀x∈U,x∈U') (hD:∀x∈D,x∈D') {b:Bool} (e:stt rs pl S U D q=some b):stt rs pl S U' D' q=some b:=by
 unfold stt at e ⊢
 by_cases h:a0Z rs pl S U D q=true
 ·rw [if_pos h] at e
  rw [if_pos (a8J hU hD h)];exact e
 ·rw [if_neg h] at e
  by_cases h2:a3U rs pl S U D q=true
  ·rw [if_pos h2] at e
   have h3:=b3n hU hD h2
   rw [if_neg (fun z=>by rw [a8E hc z] at h3;cases h3),if_pos h3];exact e
  ·rw [if_neg h2] at e;cases e
end
section
variable {rs:List Rw} {pl:List (Str×Str)} {S W U D:List Str}
theorem a0Y:∀n,(∀x,x∈(rds rs pl S W U D n).U↔x∈U∨∃k,(x,true,k)∈(rds rs pl S W U D n).T)∧(∀x,x∈(rds rs pl S W U D n).D↔x∈D∨∃k,(x,false,k)∈(rds rs pl S W U D n).T)
 | 0=>⟨fun x=>⟨.inl,fun h=>h.elim id fun ⟨_,z⟩=>by cases z⟩,fun x=>⟨.inl,fun h=>h.elim id fun ⟨_,z⟩=>by cases z⟩⟩
 | n+1=>by
  obtain ⟨h1,h2⟩:=a0Y n
  have key:∀x b,(∃k,(x,b,k)∈(rds rs pl S W U D (n+1)).T)↔(∃k,(x,b,k)∈(rds rs pl S W U D n).T)∨(x,b)∈fresh rs pl S W (rds rs pl S W U D n):=fun x b=>by
   show (∃k,(x,b,k)∈(rds rs pl S W U D n).T++(fresh rs pl S W (rds rs pl S W U D n)).map fun p=>(p.1,p.2,n+1))↔_
   constructor
   ·rintro ⟨k,hk⟩
    rcases Qq.mp hk with z | z
    ·exact .inl ⟨k,z⟩
    ·obtain ⟨p,hp,e⟩:=Qf.mp z
     cases e;exact .inr hp
   ·rintro (⟨k,z⟩ | z)
    ·exact ⟨k,Xx _ z⟩
    ·exact ⟨n+1,Xc _ (Qf.mpr ⟨_,z,rfl⟩)⟩
  constructor
  ·intro x
   show x∈(rds rs pl S W U D n).U++ups _↔_
   rw [Qq,h1,a2y,key,or_assoc]
  ·intro x
   show x∈(rds rs pl S W U D n).D++a1T _↔_
   rw [Qq,h2,a1B,key,or_assoc]
theorem a8z {n:Nat} {e:Tr}:e∈(rds rs pl S W U D (n+1)).T↔e∈(rds rs pl S W U D n).T∨((e.1,e.2.1)∈fresh rs pl S W (rds rs pl S W U D n)∧e.2.2=n+1):=by
 show e∈(rds rs pl S W U D n).T++(fresh rs pl S W (rds rs pl S W U D n)).map (fun p=>(p.1,p.2,n+1))↔_
 rw [Qq]
 refine or_congr Iff.rfl ?_
 constructor
 ·intro z;obtain ⟨p,hp,rfl⟩:=Qf.mp z;exact ⟨hp,rfl⟩
 ·rintro ⟨z,h⟩
  obtain ⟨q,b,k⟩:=e
  have h':k=n+1:=h
  subst h'
  exact Qf.mpr ⟨_,z,rfl⟩
theorem b2w:∀(n:Nat) {q:Str} {b b':Bool} {k k':Nat},(q,b,k)∈(rds rs pl S W U D n).T→(q,b',k')∈(rds rs pl S W U D n).T→b=b'∧k=k'
 | 0,_,_,_,_,_,h,_=>by cases h
 | n+1,q,b,b',k,k',h,h'=>by
  rw [a8z] at h h'
  have no:∀{b k},(q,b,k)∈(rds rs pl S W U D n).T→∀{c},(q,c)∉fresh rs pl S W (rds rs pl S W U D n):=fun {b k} z {c} w=>(a0o.mp w).2.1 (Qf.mpr ⟨_,z,rfl⟩)
  rcases h with h | ⟨h,e⟩<;>rcases h' with h' | ⟨h',e'⟩
  ·exact b2w n h h'
  ·exact absurd h' (no h)
  ·exact absurd h (no h')
  ·have:=(a0o.mp h).2.2
   rw [(a0o.mp h').2.2] at this
   exact ⟨(Option.some.inj this).symm,e.trans e'.symm⟩
theorem a8c (h0:∀x∈U,x∉D) (hW:∀x∈W,x∉U∧x∉D) (n:Nat):∀x∈(rds rs pl S W U D n).U,x∉(rds rs pl S W U D n).D:=fun x hu hd=>by
 rw [(a0Y n).1] at hu
 rw [(a0Y n).2] at hd
 have kk:∀{b k},(x,b,k)∈(rds rs pl S W U D n).T→x∈W:=fun z=>a2p n x (Qf.mpr ⟨_,z,rfl⟩)
 rcases hu with hu | ⟨k,hu⟩<;>rcases hd with hd | ⟨k',hd⟩
 ·exact h0 x hu hd
 ·exact (hW x (kk hd)).1 hu
 ·exact (hW x (kk hu)).2 hd
 ·exact Bool.noConfusion (b2w n hu hd).1
theorem b4Z (n:Nat):(∀x∈(rds rs pl S W U D n).U,x∈(rds rs pl S W U D (n+1)).U)∧∀x∈(rds rs pl S W U D n).D,x∈(rds rs pl S W U D (n+1)).D:=⟨fun x h=>Xx _ h,fun x h=>Xx _ h⟩
theorem b0P (h0:∀x∈U,x∉D) (hW:∀x∈W,x∉U∧x∉D):∀(n:Nat) {q:Str} {b:Bool} {k:Nat},(q,b,k)∈(rds rs pl S W U D n).T→stt rs pl S (rds rs pl S W U D n).U (rds rs pl S W U D n).D q=some b
 | 0,_,_,_,h=>by cases h
 | n+1,q,b,k,h=>by
  refine a3x (a8c h0 hW (n+1)) (b4Z n).1 (b4Z n).2 ?_
  rw [a8z] at h
  rcases h with h | ⟨h,_⟩
  ·exact b0P h0 hW n h
  ·exact (a0o.mp h).2.2
theorem a8P (h0:∀x∈U,x∉D) (hW:∀x∈W,x∉U∧x∉D) {n:Nat} (hf:fresh rs pl S W (rds rs pl S W U D n)=[]) {q:Str} {b:Bool} (hq:q∈W) (e:stt rs pl S (rds rs pl S W U D n).U (rds rs pl S W U D n).D q=some b):∃k,(q,b,k)∈(rds rs pl S W U D n).T:=by
 by_cases h:q∈(rds rs pl S W U D n).T.map (·.1)
 ·obtain ⟨⟨x,b',k⟩,hx,rfl⟩:=Qf.mp h
  have:=b0P h0 hW n hx
  rw [e] at this
  cases this
  exact ⟨k,hx⟩
 ·have:=a0o.mpr ⟨hq,h,e⟩
  rw [hf] at this;cases this
theorem a6z {Uf Df:List Str} (hc:∀x∈Uf,x∉Df) (hU:∀x∈U,x∈Uf) (hD:∀x∈D,x∈Df) (hcl:∀q∈W,∀b,stt rs pl S Uf Df q=some b→if b=true then q∈Uf else q∈Df):∀n,(∀x∈(rds rs pl S W U D n).U,x∈Uf)∧(∀x∈(rds rs pl S W U D n).D,x∈Df)∧∀q b k,(q,b,k)∈(rds rs pl S W U D n).T→stt rs pl S Uf Df q=some b
 | 0=>⟨hU,hD,fun q b k h=>by cases h⟩
 | n+1=>by
  obtain ⟨h1,h2,h3⟩:=a6z hc hU hD hcl n
  have h4:∀q b k,(q,b,k)∈(rds rs pl S W U D (n+1)).T→stt rs pl S Uf Df q=some b:=fun q b k h=>by
   rw [a8z] at h
   rcases h with h | ⟨h,_⟩
   ·exact h3 q b k h
   ·exact a3x hc h1 h2 (a0o.mp h).2.2
  refine ⟨fun x hx=>?_,fun x hx=>?_,h4⟩
  ·rw [(a0Y (n+1)).1] at hx
   rcases hx with z | ⟨k,z⟩
   ·exact hU x z
   ·have:=hcl x (a2p _ x (Qf.mpr ⟨_,z,rfl⟩)) true (h4 x true k z)
    exact this
  ·rw [(a0Y (n+1)).2] at hx
   rcases hx with z | ⟨k,z⟩
   ·exact hD x z
   ·have:=hcl x (a2p _ x (Qf.mpr ⟨_,z,rfl⟩)) false (h4 x false k z)
    exact this
end
/-! ### the statements of the rules,and a pool about them -/
def sts (rs:List Rw):List Str:=rs.flatMap fun r=>(r.2.2.1::r.2.2.2).flatMap fun q=>[q,a0v q]
theorem a1a {rs:List Rw} {x:Str}:x∈sts rs↔∃r∈rs,∃q∈r.2.2.1::r.2.2.2,x=q∨x=a0v q:=by
 unfold sts
 constructor
 ·intro h
  obtain ⟨r,hr,h⟩:=Zj.mp h
  obtain ⟨q,hq,h⟩:=Zj.mp h
  exact ⟨r,hr,q,hq,by simpa using h⟩
 ·rintro ⟨r,hr,q,hq,h⟩
  exact Zj.mpr ⟨r,hr,Zj.mpr ⟨q,hq,by simpa using h⟩⟩
section
variable {rs:List Rw} {pl:List (Str×Str)} {S W po:List Str}
theorem b0j {U D:List Str} {q:Str} (hS:∀x∈S,x∈sts rs) (hq:q∉sts rs):stt rs pl S U D q=some false:=by
 have e:hdF rs q=[]:=Zi.mpr fun r hr z=>hq (a1a.mpr ⟨r,hr,_,Qs,.inl (of_decide_eq_true z).symm⟩)
 have e1:a1i rs U q=[]:=by unfold a1i;rw [e];rfl
 have e2:unf rs D q=[]:=by unfold unf;rw [e];rfl
 have hqS:q∉S:=fun z=>hq (hS q z)
 unfold stt a0Z a3U
 rw [if_neg hqS,if_neg hqS,if_pos (Or.inl e1),if_pos (Or.inl e2),if_neg Qo,if_pos rfl]
theorem a3P (hW:∀x,x∈W↔x∈sts rs) (hpo:∀x∈sts rs,x∈po) (ho:∀q∈po,a0v (a0v q)=q) (hS:∀x∈S,x∈sts rs):∀(n:Nat) (q:Str) (b:Bool) (k:Nat),(q,b,k)∈(rds rs pl S po [] [] n).T↔(q,b,k)∈(rds rs pl S W [] [] n).T∨(0 < n∧q∈po∧q∉sts rs∧b=false∧k=1)
 | 0,q,b,k=>⟨fun h=>(by cases h),fun h=>h.elim (fun z=>(by cases z)) fun z=>absurd z.1 (by omega)⟩
 | n+1,q,b,k=>by
  have ih:=a3P hW hpo ho hS n
  have kW:∀{b k},(q,b,k)∈(rds rs pl S W [] [] n).T→q∈sts rs:=fun z=>(hW q).mp (a2p n q (Qf.mpr ⟨_,z,rfl⟩))
  have hk:q∈sts rs→(q∈(rds rs pl S po [] [] n).T.map (·.1)↔q∈(rds rs pl S W [] [] n).T.map (·.1)):=fun hq=>by
   constructor
   ·intro z;obtain ⟨⟨x,b,k⟩,hx,rfl⟩:=Qf.mp z
    rcases (ih _ _ _).mp hx with w | w
    ·exact Qf.mpr ⟨_,w,rfl⟩
    ·exact absurd hq w.2.2.1
   ·intro z;obtain ⟨⟨x,b,k⟩,hx,rfl⟩:=Qf.mp z
    exact Qf.mpr ⟨_,(ih _ _ _).mpr (.inl hx),rfl⟩
  have hs:q∈sts rs→stt rs pl S (rds rs pl S po [] [] n).U (rds rs pl S po [] [] n).D q=stt rs pl S (rds rs pl S W [] [] n).U (rds rs pl S W [] [] n).D q:=fun hq=>by
   have wd:∀(x:Str) (b:Bool),x∉po.filter (fun z=>decide (z∉sts rs))→((∃k,(x,b,k)∈(rds rs pl S po [] [] n).T)↔∃k,(x,b,k)∈(rds rs pl S W [] [] n).T):=fun x b hx=>by
    constructor
    ·rintro ⟨k,z⟩
     rcases (ih _ _ _).mp z with w | w
     ·exact ⟨k,w⟩
     ·exact absurd (Qp.mpr ⟨w.2.1,decide_eq_true w.2.2.1⟩) hx
    ·rintro ⟨k,z⟩;exact ⟨k,(ih _ _ _).mpr (.inl z)⟩
   refine a6Z (came:=po.filter fun z=>decide (z∉sts rs)) (fun x hx=>?_) (fun x hx=>?_) (ho q (hpo q hq)) ?_
   ·rw [(a0Y n).1,(a0Y n).1];exact or_congr Iff.rfl (wd x true hx)
   ·rw [(a0Y n).2,(a0Y n).2];exact or_congr Iff.rfl (wd x false hx)
   ·rintro ⟨r,hr,⟨p,hp,hc⟩,_⟩
    exact of_decide_eq_true (Qp.mp hc).2 (a1a.mpr ⟨r,hr,p,Qt _ hp,.inl rfl⟩)
  rw [a8z,a8z,ih]
  show (_∨(q,b)∈_∧k=n+1)↔(_∨(q,b)∈_∧k=n+1)∨_
  rw [a0o,a0o]
  by_cases hq:q∈sts rs
  ·rw [hk hq,hs hq]
   constructor
   ·rintro ((z | z) | ⟨⟨_,z⟩,e⟩)
    ·exact .inl (.inl z)
    ·exact absurd hq z.2.2.1
    ·exact .inl (.inr ⟨⟨(hW q).mpr hq,z⟩,e⟩)
   ·rintro ((z | ⟨⟨_,z⟩,e⟩) | z)
    ·exact .inl (.inl z)
    ·exact .inr ⟨⟨hpo q hq,z⟩,e⟩
    ·exact absurd hq z.2.2.1
  ·constructor
   ·rintro ((z | z) | ⟨⟨hp,hn,z⟩,e⟩)
    ·exact .inl (.inl z)
    ·exact .inr ⟨by omega,z.2⟩
    ·rw [b0j hS hq] at z
     have hb:b=false:=(Option.some.inj z).symm
     have hn0:n=0:=by
      rcases Nat.eq_zero_or_pos n with w | w
      ·exact w
      ·exact absurd (Qf.mpr ⟨_,(ih q false 1).mpr (.inr ⟨w,hp,hq,rfl,rfl⟩),rfl⟩) hn
     exact .inr ⟨by omega,hp,hq,hb,by omega⟩
   ·rintro ((z | ⟨⟨z,_⟩,_⟩) | ⟨_,hp,_,hb,hk1⟩)
    ·exact .inl (.inl z)
    ·exact absurd ((hW q).mp z) hq
    ·rcases Nat.eq_zero_or_pos n with w | w
     ·subst w
      exact .inr ⟨⟨hp,(fun z=>by cases z),by rw [b0j hS hq,hb]⟩,by omega⟩
     ·exact .inl (.inr ⟨w,hp,hq,hb,hk1⟩)
theorem b3X (hW:∀x,x∈W↔x∈sts rs) (hpo:∀x∈sts rs,x∈po) (ho:∀q∈po,a0v (a0v q)=q) (hS:∀x∈S,x∈sts rs) {n:Nat} (hf:fresh rs pl S W (rds rs pl S W [] [] n)=[]):fresh rs pl S po (rds rs pl S po [] [] (n+1))=[]:=by
 refine Zn.mpr fun ⟨q,b⟩ h=>?_
 have h2:(q,b,n+2)∈(rds rs pl S po [] [] (n+2)).T:=by rw [a8z];exact .inr ⟨h,rfl⟩
 rw [a3P hW hpo ho hS] at h2
 rcases h2 with h2 | h2
 ·have e:=a2i hf 2
  rw [e] at h2
  have h3:(q,b,n+2)∈(rds rs pl S po [] [] (n+1)).T:=by
   rw [a3P hW hpo ho hS,a2i hf 1];exact .inl h2
  exact (a0o.mp h).2.1 (Qf.mpr ⟨_,h3,rfl⟩)
 ·omega
end
/-! ### Answers -/
theorem a4J:∀(l m:List Str),(m++l).Nodup→l.foldl a0S m=m++l
 | [],m,_=>(Qj m).symm
 | x::l,m,h=>by
  have hx:x∉m:=fun z=>(Zy.mp h).2.2 x z x Qs rfl
  rw [Jy,b2X hx,a4J l (m++[x]) (by rw [Ja];exact h),Ja];rfl
theorem a4p {l:List Str} (h:l.Nodup):l.foldl a0S []=l:=a4J l [] h
def c1Q (t:Adr):Sp:=fun vs H Q _=>∃(g:Addr) (rs:List Rw) (pl:List (Str×Str)) (po:List Str),vs=[.ref g]∧a3J t H g rs pl∧(∀r∈rs,a1w r)∧rs.length≤126∧(∀x∈sts rs,x∈po)∧po.length≤18∧
 ∀D St H',a0h H H'→H D=none→H' D=some (.lst (St.map V.str))→St.Perm ((sts rs).foldl a0S [])→PyProof.Rows.sortedS St=true→Q (.ref D) H'
def afl (st sk cm:Addr):List (Str×V):=a1o "came" (.ref cm) (a1o "sure_keys" (.ref sk) (a1o "standing" (.ref st) []))
theorem b9z (st sk cm:Addr):(afl st sk cm).lookup ("standing":Str)=some (.ref st):=by
 unfold afl;rw [a0f,if_neg (by decide+kernel),a0f,if_neg (by decide+kernel),a0f,if_pos rfl]
theorem b8P (st sk cm:Addr):(afl st sk cm).lookup ("sure_keys":Str)=some (.ref sk):=by
 unfold afl;rw [a0f,if_neg (by decide+kernel),a0f,if_pos rfl]
theorem b9R (st sk cm:Addr):(afl st sk cm).lookup ("came":Str)=some (.ref cm):=by
 unfold afl;rw [a0f,if_pos rfl]
theorem a2N (st sk cm:Addr) {m:Str} (h1:m≠"came") (h2:m≠"sure_keys") (h3:m≠"standing"):(afl st sk cm).lookup m=none:=by
 unfold afl;rw [a0f,if_neg h1,a0f,if_neg h2,a0f,if_neg h3];rfl
def b2E (rs:List Rw) (pl:List (Str×Str)) (ss:List Str) (T:List Tr):Prop:=(T.map (·.1)).Nodup∧∃n W,(∀q,q∈W↔q∈sts rs)∧fresh rs pl ss W (rds rs pl ss W [] [] n)=[]∧IsT rs pl ss W [] [] n T
def a3C (t:Adr) (H:Hp) (x:Addr) (rs:List Rw) (ss:List Str) (T:List Tr):Prop:=∃dx st sk cm St,H x=some (.ins t.C_Answers dx (afl st sk cm))∧H st=some (.dK (bv St))∧(∀q,q∈St↔q∈sts rs)∧H sk=some (.dK (bv ss))∧TAt H cm T
theorem a3C.same {t:Adr} {H H':Hp} {x:Addr} {rs:List Rw} {ss:List Str} {T:List Tr} (s:a0h H H') (h:a3C t H x rs ss T):a3C t H' x rs ss T:=let ⟨dx,st,sk,cm,St,a,b,c,d,e⟩:=h;⟨dx,st,sk,cm,St,s _ _ a,s _ _ b,c,s _ _ d,e.same s⟩
def b4E (t:Adr):Sp:=fun vs H Q _=>∃(x dx g:Addr) (rs:List Rw) (pl:List (Str×Str)) (po:List Str) (H0:Hp),vs=[.ref x,.ref g]∧H x=some (.ins t.C_Answers dx [])∧a0h H0 H∧H0 x=none∧a3J t H0 g rs pl∧(∀r∈rs,a1w r)∧rs.length≤126∧(∀z∈sts rs,z∈po)∧po.length≤18∧(∀q∈po,q.length≤100∧a0v (a0v q)=q)∧a3L t.TB_z0v a1y H0∧
 ∀H' ss T,(∀c o,c≠t.TB_z0v→H0 c=some o→H' c=some o)→a3L t.TB_z0v a1y H'→a5e (rs.map srW) ss→b2E rs pl ss T→a3C t H' x rs ss T→Q .non H'
def wr (rs:List Rw) (T:List Tr) (q:Str):Str×Nat:=if q∈sts rs then ((T.find? fun e=>decide (e.1=q)).map fun e=>(wd e.2.1,e.2.2)).getD (("":Str),0) else (("refused":Str),1)
def c8k (t:Adr):Sp:=fun vs H Q _=>∃(x:Addr) (q:Str) (rs:List Rw) (ss:List Str) (T:List Tr),vs=[.ref x,.str q]∧a3C t H x rs ss T∧(T.map (·.1)).Nodup∧∀p H',a0h H H'→H' p=some (.tup [.str (wr rs T q).1,.int ((wr rs T q).2:Nat)])→Q (.ref p) H'
def b5A (t:Adr) (f:List Rw→List Str→List Tr→Str→V):Sp:=fun vs H Q _=>∃(x:Addr) (q:Str) (rs:List Rw) (ss:List Str) (T:List Tr),vs=[.ref x,.str q]∧a3C t H x rs ss T∧(T.map (·.1)).Nodup∧∀H',a0h H H'→Q (f rs ss T q) H'
theorem b2R {rs:List Rw} {T:List Tr} (hn:(T.map (·.1)).Nodup) (hk:∀q∈T.map (·.1),q∈sts rs) (q:Str):(∃b n,wr rs T q=(wd b,n)∧((q,b,n)∈T∨q∉sts rs∧b=false∧n=1))∨(wr rs T q=(("":Str),0)∧q∈sts rs∧∀b n,(q,b,n)∉T):=by
 unfold wr
 by_cases h:q∈sts rs
 ·rw [if_pos h]
  cases e:T.find? (fun e=>decide (e.1=q)) with
  | none=>
   refine .inr ⟨rfl,h,fun b n z=>?_⟩
   have:=Ue.mp e _ z
   simp at this
  | some x=>
   obtain ⟨q',b,n⟩:=x
   have hm:=Jb e
   have hq:q'=q:=by have:=Uv e;simpa using this
   subst hq
   exact .inl ⟨b,n,rfl,.inl hm⟩
 ·rw [if_neg h]
  exact .inl ⟨false,1,rfl,.inr ⟨h,rfl,rfl⟩⟩
theorem b5J {T:List Tr} (hn:(T.map (·.1)).Nodup) {e:Tr} (he:e∈T):T.find? (fun x=>decide (x.1=e.1))=some e:=by
 induction T with
 | nil=>cases he
 | cons p T ih=>
  rw [Xg,Yw] at hn
  rcases Qy.mp he with z | z
  ·subst z;rw [Wo (by simp)]
  ·rw [Wp (by
    intro w
    have w':p.1=e.1:=by simpa using w
    exact hn.1 (Qf.mpr ⟨e,z,w'.symm⟩)),ih hn.2 z]
theorem b1i {T x C dx:Addr} {q:Str} {H:Hp} {fs:List (Str×V)} {o:HO} (h:a3L T q H) (hx:H x=some (.ins C dx fs)):a3L T q (upd H x o):=by
 obtain ⟨ps,a,b,c⟩:=h
 refine ⟨ps,by rw [a0a (a0G a hx (by intro z;cases z))];exact a,b,fun pos cv e=>?_⟩
 obtain ⟨c',o',vs,t,z1,z2,z3⟩:=c pos cv e
 exact ⟨c',o',vs,t,z1,by rw [a0a (a0G z2 hx (by intro z;cases z))];exact z2,z3⟩
/-! ### what the law writes down of the answers -/
def rk (rs:List Rw) (T:List Tr) (q:Str):Option Tr:=if (wr rs T q).1="" then none else some (q,decide ((wr rs T q).1="held"),(wr rs T q).2)
theorem b6o {rs:List Rw} {ss:List Str} (h:a5e (rs.map srW) ss):∀z∈ss,z∈sts rs:=fun z hz=>by
 have h1:=(b0n z).mp (h.1.mem_iff.mp hz)
 obtain ⟨b,hb⟩:=a5p _ z h1
 obtain ⟨r,hr,e⟩:=Qf.mp hb
 have e2:r.2.2.1=z:=congrArg (fun x:SR Str=>x.2.1) e
 exact a1a.mpr ⟨r,hr,_,Qs,.inl e2.symm⟩
def b5c (b:Bool) (w:Str):Str:=if b then "surely" else if w=("held":Str) then "mostly" else if w=("refused":Str) then "no" else "open"
def b6S:Sp:=fun vs H Q _=>∃(b:Bool) (w:Str),vs=[.bl b,.str w]∧Q (.str (b5c b w)) H
theorem b7g {rs rs':List (SR Str)} {kn kn':List Str} (hr:∀r,r∈rs↔r∈rs') (hk:∀x,x∈kn↔x∈kn') (x:Str):lk (FIN rs kn) x=lk (FIN rs' kn') x:=by
 have e1:sR rs kn (rs.length+rs'.length)=FIN rs kn:=(a2T (a5z rs kn) rs'.length).2
 have e2:sR rs' kn' (rs.length+rs'.length)=FIN rs' kn':=by rw [Vy];exact (a2T (a5z rs' kn') rs.length).2
 rw [←e1,←e2];exact (a4R hr hk _).2 x
theorem a5I {α:Type} {l m:List α} (h:∀r,r∈l↔r∈m):l=[]↔m=[]:=by
 rw [Zn,Zn]
 exact ⟨fun a x hx=>a x ((h x).mpr hx),fun a x hx=>a x ((h x).mp hx)⟩
theorem a6I {α:Type} {l m:List α} {f g:α→Bool} (h:∀r,r∈l↔r∈m) (e:∀r,f r=g r):l.any f=m.any g:=by
 rw [Xn,Yk,Yk]
 exact ⟨fun ⟨r,a,b⟩=>⟨r,(h r).mp a,by rw [←e];exact b⟩,fun ⟨r,a,b⟩=>⟨r,(h r).mpr a,by rw [e];exact b⟩⟩
theorem a9J {α:Type} {l m:List α} {f g:α→Bool} (h:∀r,r∈l↔r∈m) (e:∀r,f r=g r):l.all f=m.all g:=by
 rw [Xn,Ys,Ys]
 exact ⟨fun a r b=>by rw [←e];exact a r ((h r).mpr b),fun a r b=>by rw [e];exact a r ((h r).mp b)⟩
theorem a5G {rs rs':List Rw} (h:∀r,r∈rs↔r∈rs') (q:Str) (r:Rw):r∈hdF rs q↔r∈hdF rs' q:=by
 unfold hdF;rw [Qp,Qp,h]
theorem a8l {b U U':List Str} (hU:∀x,x∈U↔x∈U'):a2B b U=a2B b U':=a9J (fun _=>Iff.rfl) fun r=>by rw [Xn,decide_eq_true_eq,decide_eq_true_eq,hU]
theorem a7H {b U U':List Str} (hU:∀x,x∈U↔x∈U'):a2s b U=a2s b U':=a6I (fun _=>Iff.rfl) fun r=>by rw [Xn,decide_eq_true_eq,decide_eq_true_eq,hU]
theorem a6r {rs rs':List Rw} {U U':List Str} (h:∀r,r∈rs↔r∈rs') (hU:∀x,x∈U↔x∈U') (q:Str) (r:Rw):r∈a1i rs U q↔r∈a1i rs' U' q:=by
 unfold a1i;rw [Qp,Qp,Qp,Qp,a5G h,a8l hU]
theorem b2d {rs rs':List Rw} {D D':List Str} (h:∀r,r∈rs↔r∈rs') (hD:∀x,x∈D↔x∈D') (q:Str) (r:Rw):r∈unf rs D q↔r∈unf rs' D' q:=by
 unfold unf;rw [Qp,Qp,Qp,Qp,a5G h,a7H hD]
theorem b2y {pl pl':List (Str×Str)} {l m:List Rw} (hp:∀z,z∈pl↔z∈pl') (h:∀r,r∈l↔r∈m) (r:Rw):btn pl l r=btn pl' m r:=a6I h fun b=>by rw [Xn,decide_eq_true_eq,decide_eq_true_eq,hp]
theorem b5t {rs rs':List Rw} {pl pl':List (Str×Str)} {S S' U U' D D':List Str} (h:∀r,r∈rs↔r∈rs') (hp:∀z,z∈pl↔z∈pl') (hS:∀x,x∈S↔x∈S') (hU:∀x,x∈U↔x∈U') (hD:∀x,x∈D↔x∈D') (q:Str):stt rs pl S U D q=stt rs' pl' S' U' D' q:=by
 have e1:a0Z rs pl S U D q=a0Z rs' pl' S' U' D' q:=by
  unfold a0Z
  rw [a9J (g:=fun r=>a2s r.2.2.2 D' || btn pl' (a1i rs' U' q) r) (a5G h (a0v q)) fun r=>by rw [a7H hD,b2y hp (a6r h hU q)]]
  simp only [hS,a5I (a6r h hU q)]
 have e2:a3U rs pl S U D q=a3U rs' pl' S' U' D' q:=by
  unfold a3U
  rw [a6I (g:=fun r=>a2B r.2.2.2 U' && !btn pl' (unf rs' D' q) r) (a5G h (a0v q)) fun r=>by rw [a8l hU,b2y hp (b2d h hD q)]]
  simp only [hS,a5I (b2d h hD q)]
 unfold stt;rw [e1,e2]
theorem a3Q {rs rs':List Rw} {pl pl':List (Str×Str)} {S S' W W':List Str} {s s':RdS} (h:∀r,r∈rs↔r∈rs') (hp:∀z,z∈pl↔z∈pl') (hS:∀x,x∈S↔x∈S') (hW:∀x,x∈W↔x∈W') (hT:∀e,e∈s.T↔e∈s'.T) (hU:∀x,x∈s.U↔x∈s'.U) (hD:∀x,x∈s.D↔x∈s'.D) (e:Str×Bool):e∈fresh rs pl S W s↔e∈fresh rs' pl' S' W' s':=by
 obtain ⟨q,w⟩:=e
 have hk:q∈s.T.map (·.1)↔q∈s'.T.map (·.1):=by
  rw [Qf,Qf]
  exact ⟨fun ⟨e,a,b⟩=>⟨e,(hT e).mp a,b⟩,fun ⟨e,a,b⟩=>⟨e,(hT e).mpr a,b⟩⟩
 rw [a0o,a0o,hW,hk,b5t h hp hS hU hD]
theorem a7c {rs rs':List Rw} {pl pl':List (Str×Str)} {S S' W W' U D:List Str} (h:∀r,r∈rs↔r∈rs') (hp:∀z,z∈pl↔z∈pl') (hS:∀x,x∈S↔x∈S') (hW:∀x,x∈W↔x∈W'):∀n,(∀e,e∈(rds rs pl S W U D n).T↔e∈(rds rs' pl' S' W' U D n).T)∧(∀x,x∈(rds rs pl S W U D n).U↔x∈(rds rs' pl' S' W' U D n).U)∧(∀x,x∈(rds rs pl S W U D n).D↔x∈(rds rs' pl' S' W' U D n).D)
 | 0=>⟨fun _=>Iff.rfl,fun _=>Iff.rfl,fun _=>Iff.rfl⟩
 | n+1=>by
  obtain ⟨hT,hU,hD⟩:=a7c (U:=U) (D:=D) h hp hS hW n
  have hF:=a3Q h hp hS hW hT hU hD
  refine ⟨fun e=>?_,fun x=>?_,fun x=>?_⟩
  ·show e∈_++_↔e∈_++_
   rw [Qq,Qq,hT,Qf,Qf]
   exact or_congr Iff.rfl ⟨fun ⟨p,a,b⟩=>⟨p,(hF p).mp a,b⟩,fun ⟨p,a,b⟩=>⟨p,(hF p).mpr a,b⟩⟩
  ·show x∈_++_↔x∈_++_
   rw [Qq,Qq,hU,a2y,a2y,hF]
  ·show x∈_++_↔x∈_++_
   rw [Qq,Qq,hD,a1B,a1B,hF]
theorem b5U {rs rs':List Rw} {pl pl':List (Str×Str)} {ss ss':List Str} {T T':List Tr} (h:∀r,r∈rs↔r∈rs') (hp:∀z,z∈pl↔z∈pl') (hS:∀x,x∈ss↔x∈ss') (ho:∀q∈sts rs,a0v (a0v q)=q) (hT:b2E rs pl ss T) (hT':b2E rs' pl' ss' T') (e:Tr):e∈T↔e∈T':=by
 obtain ⟨_,n,W,hW,hf,hI⟩:=hT
 obtain ⟨_,n',W',hW',hf',hI'⟩:=hT'
 have hs:∀q,q∈sts rs↔q∈sts rs':=fun q=>by
  rw [a1a,a1a]
  exact ⟨fun ⟨r,a,b⟩=>⟨r,(h r).mp a,b⟩,fun ⟨r,a,b⟩=>⟨r,(h r).mpr a,b⟩⟩
 obtain ⟨aT,aU,aD⟩:=a7c (U:=[]) (D:=[]) h hp hS (W:=W') (W':=W') (fun _=>Iff.rfl) n'
 have g:fresh rs pl ss W' (rds rs pl ss W' [] [] n')=[]:=(a5I (a3Q h hp hS (fun _=>Iff.rfl) aT aU aD)).mpr hf'
 have gI:IsT rs pl ss W' [] [] n' T':=fun e=>(hI' e).trans (aT e).symm
 exact b6Z (fun x=>(hW x).trans ((hs x).trans (hW' x).symm)) (fun q hq=>ho q ((hW q).mp hq)) hf g hI gI e
theorem a5a {T:List Tr} (hn:(T.map (·.1)).Nodup) {e:Tr} (he:e∈T):(T.find? fun x=>decide (x.1=e.1))=some e:=by
 induction T with
 | nil=>cases he
 | cons y T ih=>
  rw [Xg,Yw] at hn
  rcases Qy.mp he with rfl | m
  ·exact Wo (by simp)
  ·rw [Wp (by
    intro z
    have z':y.1=e.1:=of_decide_eq_true z
    exact hn.1 (by rw [z'];exact Qf.mpr ⟨e,m,rfl⟩))]
   exact ih hn.2 m
theorem b3U {T T':List Tr} (hn:(T.map (·.1)).Nodup) (hn':(T'.map (·.1)).Nodup) (h:∀e,e∈T↔e∈T') (q:Str):(T.find? fun x=>decide (x.1=q))=T'.find? fun x=>decide (x.1=q):=by
 cases e:T.find? fun x=>decide (x.1=q) with
 | none=>
  cases e':T'.find? fun x=>decide (x.1=q) with
  | none=>rfl
  | some y=>
   have m:=Jb e'
   have z:=Uv e'
   exact absurd z (Ue.mp e y ((h y).mpr m))
 | some y=>
  have m:=Jb e
  have z0:=Uv e
  have z:y.1=q:=of_decide_eq_true z0
  have:=a5a hn' ((h y).mp m)
  rw [z] at this
  exact this.symm
theorem b7V {rs rs':List Rw} {T T':List Tr} (h:∀r,r∈rs↔r∈rs') (hn:(T.map (·.1)).Nodup) (hn':(T'.map (·.1)).Nodup) (hT:∀e,e∈T↔e∈T') (q:Str):wr rs T q=wr rs' T' q:=by
 have hs:q∈sts rs↔q∈sts rs':=by
  rw [a1a,a1a]
  exact ⟨fun ⟨r,a,b⟩=>⟨r,(h r).mp a,b⟩,fun ⟨r,a,b⟩=>⟨r,(h r).mpr a,b⟩⟩
 unfold wr
 rw [b3U hn hn' hT]
 by_cases c:q∈sts rs
 ·rw [if_pos c,if_pos (hs.mp c)]
 ·rw [if_neg c,if_neg fun z=>c (hs.mpr z)]
def a5L (rs:List Rw) (pl:List (Str×Str)) (S po U D:List Str):Prop:=(∀x∈U,x∉D)∧(∀x∈U,stt rs pl S U D x=some true)∧(∀x∈D,stt rs pl S U D x=some false)∧∀Uf Df:List Str,(∀x∈Uf,x∉Df)→(∀q∈po,∀b,stt rs pl S Uf Df q=some b→if b=true then q∈Uf else q∈Df)→(∀x∈U,x∈Uf)∧∀x∈D,x∈Df
theorem a5L.start {rs:List Rw} {pl:List (Str×Str)} {S po:List Str}:a5L rs pl S po [] []:=⟨fun _ h=>(by cases h),fun _ h=>(by cases h),fun _ h=>(by cases h),fun _ _ _ _=>⟨fun _ h=>(by cases h),fun _ h=>by cases h⟩⟩
theorem a5L.up {rs:List Rw} {pl:List (Str×Str)} {S po U D:List Str} (g:a5L rs pl S po U D) {q:Str} (hq:q∈po) (hd:q∉D) (e:stt rs pl S U D q=some true):a5L rs pl S po (U++[q]) D:=by
 obtain ⟨hc,h1,h2,h3⟩:=g
 have hc':∀x∈U++[q],x∉D:=fun x hx=>(Qq.mp hx).elim (hc x) fun z=>by rw [Xa.mp z];exact hd
 have sU:∀x∈U,x∈U++[q]:=fun x h=>Xx _ h
 refine ⟨hc',fun x hx=>a3x hc' sU (fun _ h=>h) ((Qq.mp hx).elim (h1 x) fun z=>by rw [Xa.mp z];exact e),fun x hx=>a3x hc' sU (fun _ h=>h) (h2 x hx),fun Uf Df k1 k2=>?_⟩
 obtain ⟨a,b⟩:=h3 Uf Df k1 k2
 refine ⟨fun x hx=>(Qq.mp hx).elim (a x) fun z=>?_,b⟩
 rw [Xa.mp z]
 exact k2 q hq true (a3x k1 a b e)
theorem a5L.down {rs:List Rw} {pl:List (Str×Str)} {S po U D:List Str} (g:a5L rs pl S po U D) {q:Str} (hq:q∈po) (hu:q∉U) (e:stt rs pl S U D q=some false):a5L rs pl S po U (D++[q]):=by
 obtain ⟨hc,h1,h2,h3⟩:=g
 have hc':∀x∈U,x∉D++[q]:=fun x hx m=>(Qq.mp m).elim (hc x hx) fun z=>hu (by rw [←Xa.mp z];exact hx)
 have sD:∀x∈D,x∈D++[q]:=fun x h=>Xx _ h
 refine ⟨hc',fun x hx=>a3x hc' (fun _ h=>h) sD (h1 x hx),fun x hx=>a3x hc' (fun _ h=>h) sD ((Qq.mp hx).elim (h2 x) fun z=>by rw [Xa.mp z];exact e),fun Uf Df k1 k2=>?_⟩
 obtain ⟨a,b⟩:=h3 Uf Df k1 k2
 refine ⟨a,fun x hx=>(Qq.mp hx).elim (b x) fun z=>?_⟩
 rw [Xa.mp z]
 have:=k2 q hq false (a3x k1 a b e)
 simpa using this
theorem a5L.all {rs:List Rw} {pl:List (Str×Str)} {S po U D:List Str} (g:a5L rs pl S po U D) (hz:∀q∈po,q∉U→q∉D→stt rs pl S U D q=none) {n:Nat} (hf:fresh rs pl S po (rds rs pl S po [] [] n)=[]):(∀x,x∈U↔x∈(rds rs pl S po [] [] n).U)∧∀x,x∈D↔x∈(rds rs pl S po [] [] n).D:=by
 obtain ⟨hc,h1,h2,h3⟩:=g
 have n0:∀x∈([]:List Str),x∉([]:List Str):=fun _ h=>by cases h
 have n1:∀x∈po,x∉([]:List Str)∧x∉([]:List Str):=fun _ _=>⟨fun h=>(by cases h),fun h=>by cases h⟩
 obtain ⟨a,b⟩:=h3 _ _ (a8c n0 n1 n) fun q hq b e=>by
  obtain ⟨k,hk⟩:=a8P n0 n1 hf hq e
  cases b with
  | true=>rw [if_pos rfl];exact ((a0Y n).1 q).mpr (.inr ⟨k,hk⟩)
  | false=>rw [if_neg (by decide)];exact ((a0Y n).2 q).mpr (.inr ⟨k,hk⟩)
 obtain ⟨c,d,_⟩:=a6z (W:=po) (U:=[]) (D:=[]) (Uf:=U) (Df:=D) hc (fun _ h=>by cases h) (fun _ h=>by cases h) (fun q hq b e=>by
  by_cases m:q∈U
  ·have:=h1 q m;rw [e] at this;cases this;rw [if_pos rfl];exact m
  ·by_cases m2:q∈D
   ·have:=h2 q m2;rw [e] at this;cases this;rw [if_neg (by decide)];exact m2
   ·rw [hz q hq m m2] at e;cases e) n
 exact ⟨fun x=>⟨a x,c x⟩,fun x=>⟨b x,d x⟩⟩
def a4t (od U D:List Str):Nat:=(od.filter fun q=>decide (q∉U∧q∉D)).length
theorem a2V {α:Type} {p p':α→Bool} (h:∀x,p' x=true→p x=true):∀{l:List α} {q:α},q∈l→p q=true→p' q=false→(l.filter p').length < (l.filter p).length
 | x::l,q,hq,h1,h2=>by
  have hle:(l.filter p').length≤(l.filter p).length:=by
   clear hq
   induction l with
   | nil=>exact Qk _
   | cons y l ih=>
    rw [Xw,Xw]
    cases e:p' y with
    | true=>rw [h y e,if_pos rfl,if_pos rfl,Qr,Qr];omega
    | false=>rw [if_neg Qo];split<;>(try rw [Qr])<;>omega
  rw [Xw,Xw]
  rcases Qy.mp hq with rfl | m
  ·rw [h1,h2,if_neg Qo,if_pos rfl,Qr];omega
  ·have ih:=a2V h m h1 h2
   cases e:p' x with
   | true=>rw [h x e,if_pos rfl,if_pos rfl,Qr,Qr];omega
   | false=>rw [if_neg Qo];split<;>(try rw [Qr])<;>omega
theorem b9M {od U D:List Str} {q:Str} (hq:q∈od) (hu:q∉U) (hd:q∉D):a4t od (U++[q]) D < a4t od U D:=a2V (fun x hx=>by simp at hx ⊢;exact ⟨hx.1.1,hx.2⟩) hq (by simp [hu,hd]) (by simp)
theorem b3y {od U D:List Str} {q:Str} (hq:q∈od) (hu:q∉U) (hd:q∉D):a4t od U (D++[q]) < a4t od U D:=a2V (fun x hx=>by simp at hx ⊢;exact ⟨hx.1,hx.2.1⟩) hq (by simp [hu,hd]) (by simp)
theorem c0u (od U D:List Str):a4t od U D≤od.length:=Qz _ _
def a3e (S U D:List Str) (q:Str):Str:=if q∈S then "surely" else if q∈U then "mostly" else if q∈D then "no" else "open"
def b7w (H:Hp) (D:Addr) (po:List Str) (f:Str→Str):Prop:=∃kvs,H D=some (.dK kvs)∧∀q∈po,a0N kvs (Sum.inr q:Key)=some (.str (f q))
theorem b7w.same {H H':Hp} {D:Addr} {po:List Str} {f:Str→Str} (s:a0h H H') (h:b7w H D po f):b7w H' D po f:=let ⟨k,a,b⟩:=h;⟨k,s _ _ a,b⟩
theorem b7w.get {H:Hp} {D:Addr} {po:List Str} {f:Str→Str} (h:b7w H D po f) {q:Str} (hq:q∈po):a2K H D (.str q) (some (.str (f q))):=by
 obtain ⟨k,a,b⟩:=h
 have:=a2K.k (k:=(Sum.inr q:Key)) a
 rw [b q hq] at this;exact this
theorem b8Z {H:Hp} {D:Addr} {F:List (Str×Nat)} (h:H D=some (.dK (dv F))):DAt H D (F.map (·.1)):=by
 refine ⟨_,h,fun x=>?_⟩
 rw [a4l,Ug]
 cases e:lk F x with
 | none=>symm;rw [Option.isSome_none];exact decide_eq_false fun z=>by obtain ⟨p,hp,ep⟩:=Qf.mp z;exact a5D e hp ep
 | some m=>symm;rw [Gg];exact decide_eq_true (Qf.mpr ⟨_,a9Z e,rfl⟩)
def c0p (K:Qd):Sp:=fun vs H Q _=>∃(R P O:Addr) (xs ps:List V) (rs:List Rw) (pl:List (Str×Str)) (od:List Str),vs=[.ref R,.ref P,.ref O]∧H R=some (.lst xs)∧a1v H xs rs∧(∀r∈rs,a1w r)∧rs.length≤100∧H P=some (.lst ps)∧a0R H ps pl∧b4R pl∧H O=some (.lst (od.map V.str))∧od.length≤18∧(∀q∈od,q.length≤100)∧
 ∀W U D H',a0h H H'→H W=none→a5L rs pl ((FIN (rs.map srW) []).map (·.1)) od U D→(∀q∈od,q∉U→q∉D→stt rs pl ((FIN (rs.map srW) []).map (·.1)) U D q=none)→b7w H' W od (a3e ((FIN (rs.map srW) []).map (·.1)) U D)→Q (.ref W) H'
def b6W (K:Qd):Sp:=fun vs H Q _=>∃(c:Int) (a:Addr) (xs:List V),vs=[.int c,.ref a]∧H a=some (.lst xs)∧xs.length < 64∧(∀x∈xs,(∃z,x=.str z)∨∃b,x=.ref b)∧∀D ys H',a0h H H'→H D=none→H' D=some (.lst ys)→ys.Perm xs→Q (.ref D) H'
def a9u (H:Hp):V→V
 | .ref a=>match H a with
  | some (.tup [_,_,x])=>x
  | _=>.non
 | _=>.non
/-! ### one list in another order -/
theorem a5R {α β:Type} {f:α→β} {l m:List β} (h:l.Perm m):∀zs:List α,zs.map f=m→∃zs':List α,zs'.Perm zs∧zs'.map f=l:=by
 induction h with
 | nil=>intro zs e;cases zs with
  | nil=>exact ⟨[],.nil,rfl⟩
  | cons z zs=>cases e
 | cons x h ih=>intro zs e;cases zs with
  | nil=>cases e
  | cons z zs=>
   rw [Xg] at e
   injection e with e1 e2
   obtain ⟨zs',a,b⟩:=ih zs e2
   exact ⟨z::zs',a.cons z,by rw [Xg,b,e1]⟩
 | swap x y l=>intro zs e;cases zs with
  | nil=>cases e
  | cons z zs=>cases zs with
   | nil=>injection e with _ e2;cases e2
   | cons w zs=>
    rw [Xg,Xg] at e
    injection e with e1 e2
    injection e2 with e2 e3
    exact ⟨w::z::zs,.swap z w zs,by rw [Xg,Xg,e1,e2,e3]⟩
 | trans h1 h2 i1 i2=>intro zs e;obtain ⟨a,a1,a2⟩:=i2 zs e;obtain ⟨b,b1,b2⟩:=i1 a a2;exact ⟨b,b1.trans a1,b2⟩
theorem a8r {H:Hp} {xs:List V} {rs:List Rw} (h:a1v H xs rs):∃zs:List RR,zs.map (·.1)=xs∧zs.map (·.2)=rs∧∀p∈zs,a4s H p.1 p.2:=by
 refine ⟨xs.zip rs,List.map_fst_zip (Ua h.len),Vw (Ua h.len.symm),fun p hp=>?_⟩
 obtain ⟨i,hi,e⟩:=Zg hp
 have h1:i < rs.length:=by rw [List.length_zip] at hi;omega
 obtain ⟨x,a,b⟩:=h.get i rs[i] (Qc h1)
 rw [List.getElem_zip] at e
 have:xs[i]'(by rw [h.len];exact h1)=x:=by rw [Qc (by rw [h.len];exact h1)] at a;exact Option.some.inj a
 rw [←e]
 show a4s H (xs[i]'(by rw [h.len];exact h1)) rs[i]
 rw [this];exact b
theorem c0k {H:Hp} {zs:List RR} (h:∀p∈zs,a4s H p.1 p.2):a1v H (zs.map (·.1)) (zs.map (·.2)):=by
 refine ⟨by rw [Qe,Qe],fun i r e=>?_⟩
 rw [Qm] at e
 obtain ⟨p,hp,e⟩:=Jn.mp e
 exact ⟨p.1,by rw [Qm,hp];rfl,by rw [←e];exact h p (Ut hp)⟩
theorem b6Y {H:Hp} {xs ys:List V} {rs:List Rw} (h:a1v H xs rs) (hp:ys.Perm xs):∃rs',a1v H ys rs'∧rs'.Perm rs:=by
 obtain ⟨zs,rfl,rfl,hz⟩:=a8r h
 obtain ⟨ws,a,rfl⟩:=a5R hp zs rfl
 exact ⟨_,c0k fun p m=>hz p (a.mem_iff.mp m),a.map _⟩
theorem b9n {H:Hp} {xs ys:List V} {rs rs':List Rw} (h:a1v H xs rs) (h':a1v H ys rs'):a1v H (xs++ys) (rs++rs'):=by
 obtain ⟨zs,rfl,rfl,hz⟩:=a8r h
 obtain ⟨ws,rfl,rfl,hw⟩:=a8r h'
 rw [←Xp,←Xp]
 exact c0k fun p m=>(Qq.mp m).elim (hz p) (hw p)
theorem c1j {H:Hp} {xs:List V} {rs:List Rw} (h:a1v H xs rs):∀x∈xs,∃b,x=V.ref b:=fun x hx=>by
 obtain ⟨zs,rfl,_,hz⟩:=a8r h
 obtain ⟨p,hp,rfl⟩:=Qf.mp hx
 obtain ⟨b,_,e,_⟩:=hz p hp
 exact ⟨b,e⟩
theorem b7t {H:Hp} {ps:List V} {pl:List (Str×Str)} (h:a0R H ps pl):a0R H ps.reverse pl.reverse:=by
 obtain ⟨as,rfl,e,g⟩:=h
 refine ⟨as.reverse,by rw [List.map_reverse],by rw [Ji,Ji,e],fun i a p h1 h2=>?_⟩
 have hi:i < as.length:=by have:=(Qn.mp h1).1;rw [Ji] at this;exact this
 rw [Us hi] at h1
 rw [Us (by omega)] at h2
 rw [←e] at h2
 exact g _ _ _ h1 h2
theorem a9D {ys:List V} {po:List Str} (h:ys.Perm (po.map V.str)):∃od:List Str,ys=od.map V.str∧od.Perm po:=let ⟨od,a,b⟩:=a5R h po rfl;⟨od,b.symm,a⟩
/-! ### what stays behind a table -/
theorem b5L {T x:Addr} {t:Adr} {H:Hp} {ps:Array Value} {rs:List Rw} {ss:List Str} {T0:List Tr} (hT:H T=some (.tbl ps)) (h:a3C t H x rs ss T0):a3C t (b3z T H) x rs ss T0:=by
 obtain ⟨dx,st,sk,cm,St,a,b,c,d,A,e,f,g⟩:=h
 exact ⟨dx,st,sk,cm,St,a0I hT a (fun _ z=>nomatch z),a0I hT b (fun _ z=>nomatch z),c,a0I hT d (fun _ z=>nomatch z),A,e,a0I hT f (fun _ z=>nomatch z),fun u hu=>a0I hT (g u hu) (fun _ z=>nomatch z)⟩
structure Lx (t:Adr) (H:Hp) (R M Pa Pr W:Addr) (xs ys ps:List V) (rs ms:List Rw) (pl:List (Str×Str)) (po:List Str) (f:Str→Str):Prop where
 B:H R=some (.lst xs)
 A:a1v H xs rs
 M:H M=some (.lst ys)
 N:a1v H ys ms
 P:H Pa=some (.lst (po.map V.str))
 R:H Pr=some (.lst ps)
 Q:a0R H ps pl
 W:b7w H W po f
section
variable {t:Adr} {H H':Hp} {R M Pa Pr W:Addr} {xs ys ps:List V} {rs ms:List Rw} {pl:List (Str×Str)} {po:List Str} {f:Str→Str}
theorem Lx.same (s:a0h H H') (h:Lx t H R M Pa Pr W xs ys ps rs ms pl po f):Lx t H' R M Pa Pr W xs ys ps rs ms pl po f:=⟨s _ _ h.B,h.A.same s,s _ _ h.M,h.N.same s,s _ _ h.P,s _ _ h.R,a0R.same s h.Q,h.W.same s⟩
theorem Lx.on {T:Addr} {q:Str} (lt:a3L T q H) (k:∀a o,a≠T→H a=some o→H' a=some o) (h:Lx t H R M Pa Pr W xs ys ps rs ms pl po f):Lx t H' R M Pa Pr W xs ys ps rs ms pl po f:=by
 obtain ⟨p,hT,_⟩:=id lt
 have s:=a3N k
 exact ⟨s _ _ (a0I hT h.B (fun _ z=>nomatch z)),(b5g hT h.A).same s,s _ _ (a0I hT h.M (fun _ z=>nomatch z)),(b5g hT h.N).same s,s _ _ (a0I hT h.P (fun _ z=>nomatch z)),s _ _ (a0I hT h.R (fun _ z=>nomatch z)),a0R.same s (b5G hT h.Q),let ⟨kv,a,b⟩:=h.W;⟨kv,s _ _ (a0I hT a (fun _ z=>nomatch z)),b⟩⟩
theorem a3C.on {T x:Addr} {q:Str} {ss:List Str} {T0:List Tr} (lt:a3L T q H) (k:∀a o,a≠T→H a=some o→H' a=some o) (h:a3C t H x rs ss T0):a3C t H' x rs ss T0:=let ⟨_,hT,_⟩:=id lt;(b5L hT h).same (a3N k)
end
theorem b2H {rs:List Rw} {pl:List (Str×Str)} {ss S:List Str} {T:List Tr} (hS:∀x,x∈ss↔x∈S) (h:b2E rs pl ss T):b2E rs pl S T:=by
 obtain ⟨a,n,W,hW,hf,hI⟩:=h
 obtain ⟨aT,aU,aD⟩:=a7c (U:=[]) (D:=[]) (rs:=rs) (rs':=rs) (pl:=pl) (pl':=pl) (fun _=>Iff.rfl) (fun _=>Iff.rfl) hS (W:=W) (W':=W) (fun _=>Iff.rfl) n
 exact ⟨a,n,W,hW,(a5I (a3Q (fun _=>Iff.rfl) (fun _=>Iff.rfl) hS (fun _=>Iff.rfl) aT aU aD)).mp hf,fun e=>(hI e).trans (aT e)⟩
theorem b3D {rs:List Rw} {pl:List (Str×Str)} {S od U D:List Str} {T:List Tr} (g:a5L rs pl S od U D) (hz:∀q∈od,q∉U→q∉D→stt rs pl S U D q=none) (hpo:∀x∈sts rs,x∈od) (ho:∀q∈od,a0v (a0v q)=q) (hS:∀x∈S,x∈sts rs) (hA:b2E rs pl S T) {q:Str} (hq:q∈od):(q∈U↔(wr rs T q).1="held")∧(q∈D↔(wr rs T q).1="refused"):=by
 obtain ⟨hn,n,W,hW,hf,hI⟩:=hA
 obtain ⟨eU,eD⟩:=g.all hz (b3X hW hpo ho hS hf)
 have hT:∀b k,(q,b,k)∈(rds rs pl S od [] [] (n+1)).T↔(q,b,k)∈T∨(q∉sts rs∧b=false∧k=1):=fun b k=>by
  rw [a3P hW hpo ho hS,a2i hf 1,hI]
  exact or_congr Iff.rfl ⟨fun ⟨_,_,a⟩=>a,fun a=>⟨Nat.succ_pos _,hq,a⟩⟩
 have hk:∀q∈T.map (·.1),q∈sts rs:=fun q hq=>by
  obtain ⟨e,he,z⟩:=Qf.mp hq
  exact (hW q).mp (a2p n q (Qf.mpr ⟨e,(hI e).mp he,z⟩))
 have hu:∀b k b' k',(q,b,k)∈T→(q,b',k')∈T→b=b':=fun b k b' k' h1 h2=>by
  have e1:=a5a hn h1
  have e2:=a5a hn h2
  rw [e1] at e2;cases e2;rfl
 have w1:(wd true:Str)="held":=rfl
 have w2:(wd false:Str)="refused":=rfl
 rw [eU,eD,(a0Y (n+1)).1,(a0Y (n+1)).2]
 have n0:∀p:Prop,(q∈([]:List Str)∨p)↔p:=fun p=>⟨fun z=>z.elim (fun z=>by cases z) id,.inr⟩
 rw [n0,n0]
 simp only [hT]
 rcases b2R hn hk q with ⟨b,m,e,h⟩ | ⟨e,h1,h2⟩
 ·rw [e]
  show (_↔(wd b:Str)=_)∧(_↔(wd b:Str)=_)
  rcases h with h | ⟨h1,rfl,rfl⟩
  ·have hin:=hk q (Qf.mpr ⟨_,h,rfl⟩)
   cases b with
   | true=>exact ⟨⟨fun _=>rfl,fun _=>⟨m,.inl h⟩⟩,⟨fun ⟨k,z⟩=>z.elim (fun z=>by cases hu _ _ _ _ h z) (fun z=>absurd hin z.1),fun z=>absurd z (by decide+kernel)⟩⟩
   | false=>exact ⟨⟨fun ⟨k,z⟩=>z.elim (fun z=>by cases hu _ _ _ _ h z) (fun z=>absurd hin z.1),fun z=>absurd z (by decide+kernel)⟩,⟨fun _=>rfl,fun _=>⟨m,.inl h⟩⟩⟩
  ·exact ⟨⟨fun ⟨k,z⟩=>z.elim (fun z=>absurd (hk q (Qf.mpr ⟨_,z,rfl⟩)) h1) (fun z=>by cases z.2.1),fun z=>absurd z (by decide+kernel)⟩,⟨fun _=>rfl,fun _=>⟨1,.inr (by simpa using h1)⟩⟩⟩
 ·rw [e]
  exact ⟨⟨fun ⟨k,z⟩=>z.elim (fun z=>absurd z (h2 _ _)) (fun z=>absurd h1 z.1),fun z=>absurd z (by decide+kernel)⟩,⟨fun ⟨k,z⟩=>z.elim (fun z=>absurd z (h2 _ _)) (fun z=>absurd h1 z.1),fun z=>absurd z (by decide+kernel)⟩⟩
theorem b0t {rs:List Rw} {pl:List (Str×Str)} {S ss od U D:List Str} {T:List Tr} (g:a5L rs pl S od U D) (hz:∀q∈od,q∉U→q∉D→stt rs pl S U D q=none) (hpo:∀x∈sts rs,x∈od) (ho:∀q∈od,a0v (a0v q)=q) (hss:∀x∈ss,x∈sts rs) (hS:∀x,x∈ss↔x∈S) (hA:b2E rs pl ss T) {q:Str} (hq:q∈od):b5c (decide (q∈ss)) (wr rs T q).1=a3e S U D q:=by
 obtain ⟨a,b⟩:=b3D g hz hpo ho (fun x hx=>hss x ((hS x).mpr hx)) (b2H hS hA) hq
 unfold b5c a3e
 simp only [decide_eq_true_eq,hS,←a,←b]
theorem a7f {rs:List Rw} {ss:List Str} (h:a5e (rs.map srW) ss) (x:Str):x∈ss↔x∈(FIN (rs.map srW) []).map (·.1):=h.1.mem_iff
theorem b0N {d:List (Str×Nat)} {x:Str}:x∈d.map (·.1)↔(lk d x).isSome=true:=by
 cases e:lk d x with
 | none=>exact ⟨fun z=>by obtain ⟨p,hp,ep⟩:=Qf.mp z;exact absurd ep (a5D e hp),fun z=>by cases z⟩
 | some m=>exact ⟨fun _=>rfl,fun _=>Qf.mpr ⟨_,a9Z e,rfl⟩⟩
theorem b3Y {rs rs':List Rw} {ss ss':List Str} (h:∀r,r∈rs↔r∈rs') (d:a5e (rs.map srW) ss) (d':a5e (rs'.map srW) ss') (x:Str):x∈ss↔x∈ss':=by
 rw [a7f d,a7f d',b0N,b0N,b7g (rs:=rs.map srW) (rs':=rs'.map srW) (kn:=[]) (kn':=[]) (fun r=>by
  rw [Qf,Qf]
  exact ⟨fun ⟨a,b,c⟩=>⟨a,(h a).mp b,c⟩,fun ⟨a,b,c⟩=>⟨a,(h a).mpr b,c⟩⟩) (fun _=>Iff.rfl)]
theorem a8v {rs rs':List Rw} (h:∀r,r∈rs↔r∈rs') (q:Str):q∈sts rs↔q∈sts rs':=by
 rw [a1a,a1a]
 exact ⟨fun ⟨r,a,b⟩=>⟨r,(h r).mp a,b⟩,fun ⟨r,a,b⟩=>⟨r,(h r).mpr a,b⟩⟩
theorem a8f {rs rs':List Rw} {pl pl':List (Str×Str)} {ss ss':List Str} {T T':List Tr} (h:∀r,r∈rs↔r∈rs') (hp:∀z,z∈pl↔z∈pl') (ho:∀q∈sts rs,a0v (a0v q)=q) (d:a5e (rs.map srW) ss) (d':a5e (rs'.map srW) ss') (hT:b2E rs pl ss T) (hT':b2E rs' pl' ss' T') (q:Str):decide (q∈ss)=decide (q∈ss')∧wr rs T q=wr rs' T' q:=by
 have hS:=b3Y h d d'
 exact ⟨by rw [Xn,decide_eq_true_eq,decide_eq_true_eq,hS],b7V h hT.1 hT'.1 (b5U h hp hS ho hT hT') q⟩
theorem a5m {K:Qd} {t:Adr} {H:Hp} {R:Addr} {xs:List V} {rs:List Rw} {js:List (Option Nat)} {σ:St} {Q:VK} (hR:H R=some (.lst xs)) (hA:a1v H xs rs) (hO:∀r∈rs,a1w r) (hl:rs.length≤126) (hj:a1G js σ=[none]) (q:∀Ru H' ys,a0h H H'→H' Ru=some (.lst ys)→a1J t H' ys rs→Q (.ref Ru) H'):a4y (Itl K R) js (a0l 0) b7C (a0x (a6P K t) [] E0 (a0j (a0k 0) a0r)) σ H Q:=by
 refine a9G (a3j (xs:=xs)) (Qi (show xs.length≤1000 by rw [hA.len];omega) (by decide)) [] hj (fun D i v H'=>∃hi:i < rs.length,RuD t D v rs[i] H') ?_ (fun H' s=>SqL.of (s _ _ hR)) (fun D i H' R hi hDn s hD hR=>?_) (fun Ru H4 ys hRn s4 hR4 hyl hv=>q Ru H4 ys s4 hR4 (b8L (hyl.trans hA.len) hv))
 ·rintro D i v Ha Hb up ⟨hi,p,dx,t0,e,n1,n2,g1,g2⟩
  exact ⟨hi,p,dx,t0,e,n1,n2,up _ _ n1 g1,up _ _ n2 g2⟩
 ·have hi':i < rs.length:=by rw [←hA.len];exact hi
  obtain ⟨x,ex,p,t1,rfl,g1,g2⟩:=hA.get i rs[i] (Qc hi')
  rw [ex,Xi]
  obtain ⟨zs,hD⟩:=hD
  refine ⟨_,rfl,?_⟩
  show a6P K t [V.ref p] H' R E0
  refine ⟨p,t1,rs[i],rfl,hO _ (Xd hi'),s _ _ g1,s _ _ g2,fun x H' s' hx=>?_⟩
  obtain ⟨dx,t0,f1,f2⟩:=hx
  have hD':=s' _ _ hD
  exact hR _ _ s' ⟨hi',x,dx,t0,rfl,a0G f1 hD' (by intro z;cases z),a0G f2 hD' (by intro z;cases z),f1,f2⟩
theorem a5c {t:Adr} {H:Hp} {g:Addr} {rs:List Rw} {pl:List (Str×Str)} {po:List Str} {R:Addr→Hp→Prop} {E:XK} (hG:a3J t H g rs pl) (hO:∀r∈rs,a1w r) (hl:rs.length≤126) (hpo:∀z∈sts rs,z∈po) (hp:po.length≤18) (hqs:∀q∈po,q.length≤100∧a0v (a0v q)=q) (lt:a3L t.TB_z0v a1y H)
  (q:∀x H' ss T,(∀c o,c≠t.TB_z0v→H c=some o→H' c=some o)→a3L t.TB_z0v a1y H'→a5e (rs.map srW) ss→b2E rs pl ss T→a3C t H' x rs ss T→R x H'):∀x dx,H x=none→H dx=none→dx≠x→b4E t [.ref x,.ref g] (upd (upd H dx (.own x)) x (.ins t.C_Answers dx [])) (fun v H2=>v=.non∧R x H2) E:=by
 intro x dx nx ndx ne
 obtain ⟨H4,e4,s4,h4⟩:∃H4,upd (upd H dx (.own x)) x (.ins t.C_Answers dx [])=H4∧a0h H H4∧H4 x=some (.ins t.C_Answers dx []):=⟨_,rfl,fun c o e=>by rw [a0a (a0c e nx),a0a (a0c e ndx)];exact e,a0d⟩
 rw [e4]
 exact ⟨x,dx,g,rs,pl,po,H,rfl,h4,s4,nx,hG,hO,hl,hpo,hp,hqs,lt,fun H' ss T k l d a b=>⟨rfl,q x H' ss T k l d a b⟩⟩
end K44
namespace K44
open PySem L2 Tx
local macro_rules | `(‹$n:num›)=>`(@pv _ $n _ _ (by rfl) (by first | exact c7p rfl | exact c7R rfl | exact c6A rfl) (by decide) (by decide))
local macro_rules | `(tactic| trivial)=>`(tactic| first | exact Or.inl rfl | exact Or.inr rfl | assumption)
set_option hygiene false
local macro_rules | `(‹($x)›)=>`(‹$x›)
local macro_rules | `(‹A0 $a $b›)=>`(@b1b _ _ _ _ _ ‹$a› ‹$b› (by rfl))
local macro_rules | `(‹A1›)=>`(@b4D _)
local macro_rules | `(‹A2 $a $b›)=>`(@b3c _ _ _ _ _ ‹$a› ‹$b›)
local macro_rules | `(‹A3 $a›)=>`(@b6P _ _ _ ‹$a›)
local macro_rules | `(‹A4›)=>`(@c0X _ _ _ _)
local macro_rules | `(‹A5 $a $b $c›)=>`(@c1W _ _ _ _ _ _ _ _ $a ‹$b› ‹$c›)
local macro_rules | `(‹A6 $a $b $c›)=>`(@c0M _ _ $a _ _ _ _ $b rfl (by trivial) ‹$c› (by rfl) (by trivial))
local macro_rules | `(‹A7 $a $b $c $d $e $f›)=>`(@b6i _ _ _ _ _ _ _ _ _ _ _ _ _ _ _ _ $a (hr.mono (by decide)) rfl $b $c $d $e a9v ‹$f› (by decide) (by rfl) (by rfl))
local macro_rules | `(‹A8 $a $b›)=>`(@b5r _ _ $a _ $b rfl (by trivial) (by trivial))
local macro_rules | `(‹A9 $a›)=>`(@b8c _ _ _ _ ‹$a›)
local macro_rules | `(‹B0›)=>`(@c0J _ _ _ _)
local macro_rules | `(‹B1 $a $b $c $d›)=>`(@b6x _ _ _ _ _ _ _ _ $a ‹$b› ‹$c› $d)
local macro_rules | `(‹B2 $a $b $c $d›)=>`(@b2l _ $a $b $c $d _ rfl rfl (by decide+kernel))
local macro_rules | `(‹B3 $a $b $c›)=>`(@c1L _ _ _ _ _ _ _ _ ‹$a› ‹$b› ‹$c›)
local macro_rules | `(‹B4 $a $b $c›)=>`(@c2h _ _ _ _ _ _ _ $a ‹$b› ‹$c› (fun _ _=>rfl))
local macro_rules | `(‹B5 $a›)=>`(@b5F _ _ _ _ ‹$a›)
local macro_rules | `(‹B6›)=>`(@b7d _)
local macro_rules | `(‹B7›)=>`(@c1N _ _ _ _)
local macro_rules | `(‹B8 $a›)=>`(@c1b _ _ _ _ ‹$a›)
local macro_rules | `(‹B9 $a $b $c $d $e›)=>`(@b6D _ _ _ _ _ _ _ _ _ _ _ _ _ ‹$a› rfl ‹$b› (fun _ _ _ _ _=>‹$c›) (fun _ _ _ _ _=>‹$d›) (fun _ _ _ _ _=>‹$e›) (by intro _;rfl))
local macro_rules | `(‹C0 $a $b $c›)=>`(@b8u _ _ _ _ _ _ _ _ PassesOwn.never rfl ‹$a› ‹$b› ‹$c› (by intro _;rfl))
local macro_rules | `(‹C1 $a $b $c›)=>`(@b5V _ _ _ _ _ _ _ _ _ (a1Y hr) ‹$a› ‹$b› ‹$c› rfl)
local macro_rules | `(‹C2 $a›)=>`(@c1i _ _ _ _ _ _ $a (by with_unfolding_all rfl))
local macro_rules | `(‹C3 $a›)=>`(@b9a _ _ _ ‹$a› (by intro _;rfl))
local macro_rules | `(‹C4 $a›)=>`(@b5S _ _ _ ‹$a›)
local macro_rules | `(‹C5 $a›)=>`(@c1r _ _ _ _ _ ‹$a›)
local macro_rules | `(‹C6 $a›)=>`(@b4M _ _ _ _ _ ‹$a› rfl)
local macro_rules | `(‹C7 $a $b $c $d $e $f›)=>`(@b7q _ _ _ _ _ _ _ _ _ _ _ _ _ _ _ _ _ _ _ _ ‹$a› $b $c $d (hr.mono (by decide)) $e .nil a9v ‹$f› (by rfl) (by rfl) (by rfl))
local macro_rules | `(‹C8 $a $b $c $d›)=>`(@b2N _ _ _ _ _ _ _ _ _ $a rfl $b $c ‹$d› (by decide) (by decide) (by rfl) (by rfl))
local macro_rules | `(‹C9›)=>`(@b6E _)
local macro_rules | `(‹D0›)=>`(@b2K _ _)
local macro_rules | `(‹D1 $a $b $c $d $e $f›)=>`(@c1T _ _ _ _ _ _ _ _ _ _ _ _ $a $b $c $d ‹$e› ‹$f› (by rfl) (by rfl) (by rfl) (by rfl) (by rfl))
local macro_rules | `(‹D2 $a $b $c›)=>`(@b5w _ _ $a _ _ rfl $b $c (by decide))
local macro_rules | `(‹D3 $a $b $c $d $e›)=>`(@b3A _ _ _ _ _ _ _ _ _ _ _ _ _ _ _ _ _ ‹$a› $b $c $d (hr.mono (by decide)) $e .nil a9v (by rfl))
local macro_rules | `(‹D4 $a›)=>`(@b6v _ _ _ _ ‹$a› (by rfl))
local macro_rules | `(‹D5 $a›)=>`(@PW.pt _ _ _ ‹$a›)
local macro_rules | `(‹D6 $a $b›)=>`(@b4d _ _ _ _ _ ‹$a› ‹$b› (by rfl))
local macro_rules | `(‹D7 $a›)=>`(@b5z _ (K) _ _ _ _ rfl ‹$a› rfl)
local macro_rules | `(‹D8 $a $b $c $d $e $f $g›)=>`(@a8U _ _ _ _ _ _ _ _ _ _ _ _ _ $a _ _ _ ‹$b› rfl ‹$c› (fun _ _ _ _ _=>‹$d›) (fun _ _ _ _ _=>‹$e›) (fun _ _ _ _ _=>‹$f›) $g rfl (by trivial) rfl (by intro _;rfl) (by trivial))
local macro_rules | `(‹D9 $a $b $c $d $e›)=>`(@b7c _ _ _ _ _ _ _ _ _ _ _ _ _ _ _ _ _ $a $b (hr.mono (by decide)) rfl $c $d .nil a9v ‹$e› (by decide) (by rfl) (by rfl))
local macro_rules | `(‹E0 $a $b›)=>`(@a9t _ _ _ _ _ (a1Y hr) ‹$a› ‹$b›)
local macro_rules | `(‹E1 $a›)=>`(@c1h _ _ _ _ ‹$a›)
local macro_rules | `(‹E2 $a›)=>`(@b5D _ _ _ _ ‹$a›)
local macro_rules | `(‹E3 $a $b›)=>`(@b6p _ _ _ _ _ ‹$a› ‹$b›)
local macro_rules | `(‹E4 $a $b›)=>`(@b5Q _ _ _ _ _ _ (a1Y hr) ‹$a› ‹$b› (fun _ _=>rfl))
local macro_rules | `(‹E5 $a $b›)=>`(@b9e _ _ _ _ _ _ _ _ ‹$a› ‹$b› rfl)
local macro_rules | `(‹E6 $a›)=>`(@b0c _ _ _ _ _ _ rfl T.z_range ‹$a› (by rfl))
local macro_rules | `(‹E7 $a $b›)=>`(@b9K _ _ _ _ ‹$a› ‹$b›)
local macro_rules | `(‹E8 $a $b $c›)=>`(@b3K _ _ _ _ _ _ _ _ _ (a1Y hr) ‹$a› ‹$b› ‹$c› ⟨rfl,rfl,rfl,rfl⟩)
local macro_rules | `(‹E9 $a $b $c $d›)=>`(@a9W _ _ _ _ _ _ _ _ _ $a rfl $b $c ‹$d› (by decide) (by decide) (by rfl) (by rfl))
local macro_rules | `(‹F0 $a $b $c $d›)=>`(@b6d _ _ _ _ _ _ _ _ $a ‹$b› ‹$c› $d)
local macro_rules | `(‹F1 $a $b›)=>`(@c2f _ _ _ _ _ _ _ ‹$a› ‹$b›)
local macro_rules | `(‹F2 $a $b›)=>`(@b8j _ _ _ _ _ _ _ ‹$a› ‹$b›)
local macro_rules | `(‹F3 $a›)=>`(@b8x _ _ _ _ ‹$a›)
local macro_rules | `(‹F4 $a›)=>`(@b7f _ _ _ _ ‹$a›)
local macro_rules | `(‹F5 $a›)=>`(@c0O _ _ _ _ ‹$a›)
local macro_rules | `(‹F6 $a›)=>`(@b9x _ _ _ _ _ _ $a (by with_unfolding_all rfl))
local macro_rules | `(‹F7 $a›)=>`(@b6g _ _ _ ‹$a›)
local macro_rules | `(‹F8 $a›)=>`(@b7m _ _ _ ‹$a›)
local macro_rules | `(‹F9 $a $b›)=>`(@b8e _ _ _ _ ‹$a› ‹$b›)
local macro_rules | `(‹G0 $a›)=>`(@b6k _ _ _ ‹$a›)
local macro_rules | `(‹G1 $a $b›)=>`(@b3Z _ _ _ _ _ _ PassesOwn.never ‹$a› ‹$b›)
local macro_rules | `(‹G2›)=>`(@b7z _)
local macro_rules | `(‹G3 $a $b $c›)=>`(@b3H _ _ _ _ _ _ _ _ ‹$a› ‹$b› ‹$c›)
local macro_rules | `(‹G4 $a $b $c›)=>`(@b3W _ _ _ _ _ _ _ _ _ _ b8b ‹$a› ‹$b› ‹$c›)
local macro_rules | `(‹G5 $a $b $c›)=>`(@b3E _ _ _ _ _ _ _ _ _ ‹$a› ‹$b› ‹$c› ⟨rfl,rfl,rfl,rfl⟩)
local macro_rules | `(‹G6›)=>`(@b5Y _)
local macro_rules | `(‹G7 $a $b›)=>`(@b9f _ _ _ _ ‹$a› ‹$b›)
local macro_rules | `(‹G8 $a›)=>`(@c0S _ _ _ _ _ ‹$a›)
local macro_rules | `(‹G9 $a›)=>`(@b4w _ _ _ _ _ _ rfl ‹$a› (by rfl) (by rfl))
local macro_rules | `(‹H0 $a›)=>`(@b6C _ _ _ _ _ _ _ _ rfl T.z_enumerate ‹$a› (by rfl))
local macro_rules | `(‹H1 $a›)=>`(@b6K _ (K) _ _ _ _ (2) rfl rfl ‹$a› (by rfl) (by rfl))
local macro_rules | `(‹H2 $a $b›)=>`(@c2a _ _ _ _ _ _ _ ‹$a› ‹$b›)
local macro_rules | `(‹H3 $a $b›)=>`(@c0h _ _ _ _ _ _ _ ‹$a› ‹$b›)
local macro_rules | `(‹H4 $a›)=>`(@b9V _ _ _ _ ‹$a›)
local macro_rules | `(‹H5 $a›)=>`(@b2I _ _ _ ‹$a›)
local macro_rules | `(‹H6›)=>`(@c1t _ _ _)
local macro_rules | `(‹H7 $a $b $c $d $e $f $g $h $i $j $k $l $m $n $o $p $q $r $s $t $u›)=>`(@b3h _ _ _ _ _ _ _ $a _ _ _ _ _ $b $c _ $d $e $f $g $h $i $j $k $l ‹$m› ‹$n› $o $p $q $r $s $t $u (by rfl))
local macro_rules | `(‹H8›)=>`(@b2S _ _)
local macro_rules | `(‹H9 $a $b $c $d $e›)=>`(@b9g _ _ $a _ _ _ _ _ _ $b $c (by trivial) ‹$d› $e (by trivial))
local macro_rules | `(‹J0 $a $b $c $d $e $f $g $h›)=>`(@b3p _ _ _ _ _ _ _ _ _ _ _ _ _ _ _ _ _ _ _ _ ‹$a› $b $c $d $e $f $g ‹$h› (by rfl) (by rfl) (by rfl))
local macro_rules | `(‹J1 $a $b›)=>`(@c0Q _ _ _ _ _ _ ‹$a› ‹$b› (by rfl) (by rfl) (by rfl))
local macro_rules | `(‹J2 $a $b $c›)=>`(@b0g _ _ _ _ _ _ _ $a $b ‹$c› (by rfl) (by rfl))
local macro_rules | `(‹J3 $a $b $c $d $e $f›)=>`(@a8N _ _ _ _ _ _ _ $a $b $c $d $e ‹$f› (by rfl) (by rfl))

section
variable {P:Program} {w:World} {K:Qd} {mg:Str→Option Value} {base:Heap} {t:Adr}
theorem b8F (T:Txt K mg t):a0V P w K mg base CX0 1 t.f_z0e t.fd_z0e ["self","q"] (b5A t fun rs ss T q=>.bl (decide (q∈ss))):=by
 refine T.F_z0e.ok b9L (fun vs H Q E h=>?_) (fun cdv A outer s H vs Q E hr h=>?_)
 ·obtain ⟨x,z,rs,ss,T0,rfl,hA,hn,q⟩:=h;rfl
 ·obtain ⟨x,z,rs,ss,T0,rfl,hA,hn,q⟩:=h
  refine ⟨_,‹A3 (A9 (F6 (a1A (a1Y hr) ‹1› ‹C6 0›)))›,?_⟩
  rw [show start b8K [V.ref x,V.str z]=[some (V.ref x),some (V.str z)] from rfl]
  obtain ⟨dx,st,sk,cm,St,hx,hst,hSt,hsk,hcm⟩:=hA
  try simp only [a1e,a9q,a0k,Qb,Qa,a3E,a0e]
  refine ⟨x,_,dx,_,_,rfl,hx,T.cl_Answers,T.nf_Answers_sure_keys,b8P _ _ _,sk,_,rfl,a2K.k (k:=(Sum.inr z:Key)) hsk,?_⟩
  have:Q (.bl (decide (z∈ss))) H:=q H (a0h.refl _)
  rw [a2m]
  by_cases hz:z∈ss
  ·rw [if_pos hz];rw [decide_eq_true hz] at this;exact this
  ·rw [if_neg hz];rw [decide_eq_false hz] at this;exact this
theorem b4s (T:Txt K mg t):a0V P w K mg base CX0 1 t.f_z00 t.fd_z00 ["self","q"] (c8k t):=by
 refine T.F_z00.ok b7R (fun vs H Q E h=>?_) (fun cdv A outer s H vs Q E hr h=>?_)
 ·obtain ⟨x,z,rs,ss,T0,rfl,hA,hn,q⟩:=h;rfl
 ·obtain ⟨x,z,rs,ss,T0,rfl,hA,hn,q⟩:=h
  obtain ⟨_,k_REFUSED⟩:=T.k_REFUSED
  refine ⟨_,‹A2 (B3 (C2 ‹E0 1 (C6 0)›) (A3 (A9 (C5 (A0 (D2 (.str "refused") k_REFUSED ⟨_,rfl⟩) (A0 A4 A1))))) B6) (A3 (A9 (E8 (C6 0) 1 (C5 (A0 B0 (A0 A4 A1))))))›,?_⟩
  rw [show start b8d [V.ref x,V.str z]=[some (V.ref x),some (V.str z)] from rfl]
  obtain ⟨dx,st,sk,cm,St,hx,hst,hSt,hsk,hcm⟩:=hA
  obtain ⟨A,rfl,hA,hAt⟩:=hcm
  try simp only [a1q,a3m,tB,a2n,a0k,Qb,Qa,a3E,a1e,a7o,a0j,tC,a0r,a1r,a4V,a0e,a1p,Yd]
  refine ⟨x,_,dx,_,_,rfl,hx,T.cl_Answers,T.nf_Answers_standing,b9z _ _ _,st,_,rfl,a2K.k (k:=(Sum.inr z:Key)) hst,?_⟩
  rw [a2m]
  by_cases hz:z∈sts rs
  ·rw [if_pos ((hSt z).mpr hz)]
   try skip
   refine ⟨x,_,dx,_,_,rfl,hx,T.cl_Answers,T.nf_Answers_came,b9R _ _ _,?_⟩
   try simp only [a0t]
   refine ⟨a2w hA,by simp only [Qr,Xl];decide,fun p hp=>?_⟩
   obtain ⟨H1,e1,s1,h1⟩:=a1f hp (.tup [V.str "",V.int 0]);rw [e1]
   refine ⟨_,a2K.k (k:=(Sum.inr z:Key)) (s1 _ _ hA),?_⟩
   by_cases hm:z∈(A.map (·.2)).map (·.1)
   ·obtain ⟨e0,he0,ez⟩:=Qf.mp hm
    obtain ⟨e,he,rfl⟩:=Qf.mp he0
    rw [←ez,b5u (by rw [Xo] at hn;exact hn) he]
    refine q e.1 H1 s1 ?_
    unfold wr
    rw [if_pos hz,←ez,b5J hn he0];exact s1 _ _ (hAt e he)
   ·rw [a9T (by rw [Xo] at hm;exact hm)]
    refine q p H1 s1 ?_
    unfold wr
    rw [if_pos hz,Ue.mpr fun x hx w=>hm (Qf.mpr ⟨x,hx,of_decide_eq_true w⟩)];exact h1
  ·rw [if_neg (fun w=>hz ((hSt z).mp w))]
   try skip
   refine ⟨by simp only [Qr,Xl];decide,fun p hp=>?_⟩
   obtain ⟨H1,e1,s1,h1⟩:=a1f hp (.tup [V.str "refused",V.int 1]);rw [e1]
   refine q p H1 s1 ?_
   unfold wr
   rw [if_neg hz];exact h1
theorem b9u (T:Txt K mg t):a0V P w K mg base CX0 1 t.f_z16 t.fd_z16 ["is_sure","word"] b6S:=by
 refine T.F_z16.ok b9O (fun vs H Q E h=>?_) (fun cdv A outer s H vs Q E hr h=>?_)
 ·obtain ⟨b,w,rfl,q⟩:=h;rfl
 ·obtain ⟨b,w,rfl,q⟩:=h
  obtain ⟨_,k_HELD⟩:=T.k_HELD
  obtain ⟨_,k_REFUSED⟩:=T.k_REFUSED
  refine ⟨_,‹A2 (B3 (C3 0) (A3 (A9 B0)) B6) (A2 (B3 (B1 (a1t hr.units) 1 (D2 (.str "held") k_HELD ⟨_,rfl⟩) (a0p _)) (A3 (A9 B0)) B6) (A3 (A9 (G3 (B1 (a1t hr.units) 1 (D2 (.str "refused") k_REFUSED ⟨_,rfl⟩) (a0p _)) B0 B0))))›,?_⟩
  rw [show start b8G [V.bl b,V.str w]=[some (V.bl b),some (V.str w)] from rfl]
  unfold b5c at q
  try simp only [a1q,a3m,tB,a0k,Qa,a1e,tC,a1r,a1l,tOp,Qb,tIf,a0e,a3H,a1p,decide_eq_true_eq]
  cases b with
  | true=>exact q
  | false=>
   try simp only [a7u]
   refine a1K (fun c=>?_) (fun c=>?_)
   ·rw [if_neg (by decide),if_pos c] at q;exact q
   ·rw [if_neg (by decide),if_neg c] at q
    refine a1K (fun d=>?_) (fun d=>?_)
    ·rw [if_pos d] at q;exact q
    ·rw [if_neg d] at q;exact q
theorem a9L (T:Txt K mg t):a0V P w K mg base CX0 2 t.f_z07 t.fd_z07 ["self","q"] (b5A t fun rs ss T q=>.str (b5c (decide (q∈ss)) (wr rs T q).1)):=by
 refine T.F_z07.ok b9k (fun vs H Q E h=>?_) (fun cdv A outer s H vs Q E hr h=>?_)
 ·obtain ⟨x,z,rs,ss,T0,rfl,hA,hn,q⟩:=h;rfl
 ·obtain ⟨x,z,rs,ss,T0,rfl,hA,hn,q⟩:=h
  refine ⟨_,‹A3 (A9 (A7 (b9u T) T.g_z16 T.F_z16.kp T.b_z16 .nil (A0 (C7 0 T.cl_Answers T.me_Answers_sure (b8F T) T.b_z0e (A0 1 A1)) (A0 (B4 a0H (C7 0 T.cl_Answers T.me_Answers_word_and_rank (b4s T) T.b_z00 (A0 1 A1)) A4) A1))))›,?_⟩
  rw [show start b8Q [V.ref x,V.str z]=[some (V.ref x),some (V.str z)] from rfl]
  obtain ⟨dx,st,sk,cm,St,hx,_⟩:=id hA
  try simp only [a1e,a0x,a0j,a2g,a0k,Qa,Qb,a0r,Qj,tOp,tC,a0e]
  refine ⟨x,dx,_,rfl,hx,a2N _ _ _ (by decide+kernel) (by decide+kernel) (by decide+kernel),x,z,rs,ss,T0,rfl,hA,hn,fun H1 s1=>?_⟩
  refine ⟨x,dx,_,rfl,s1 _ _ hx,a2N _ _ _ (by decide+kernel) (by decide+kernel) (by decide+kernel),x,z,rs,ss,T0,rfl,hA.same s1,hn,fun p H2 s2 h2=>a1F (SqT.of h2) rfl ?_⟩
  exact ⟨_,_,rfl,q H2 (s1.trans s2)⟩
theorem a4c (T:Txt K mg t):a0V P w K mg base CX0 1 t.f_z1f t.fd_z1f ["statement"] b6t:=by
 refine T.F_z1f.ok b8k (fun vs H Q E h=>?_) (fun cdv A outer s H vs Q E hr h=>?_)
 ·obtain ⟨z,rfl,hz,q⟩:=h;rfl
 ·obtain ⟨z,rfl,hz,q⟩:=h
  refine ⟨_,‹A3 (A9 (G3 (C3 (D1 Wq Vg Vh a5V 0 (A0 B0 A1))) (G4 0 (F7 A4) G6) (A5 a0q B0 0)))›,?_⟩
  rw [show start c0d [V.str z]=[some (V.str z)] from rfl]
  unfold a0v at q
  try simp only [a1e,tIf,tB,tBM,a0k,Qa,a0j,tC,a0r,tSl,b3J,a7h,b7b,a0e,a7O,tOp,a1z,a4S,a1p,b2n]
  refine a1K (fun c=>?_) (fun c=>?_)
  ·rw [if_pos c] at q
   exact ⟨a3G (by omega),q⟩
  ·rw [if_neg c] at q
   exact ⟨Qi (Nat.add_le_add (show (Uc "-").length≤1 by decide+kernel) hz) (by decide),q⟩
theorem b4n (T:Txt K mg t):a0V P w K mg base CX0 2 t.f_z01 t.fd_z01 ["self"] (c1Q t):=by
 refine T.F_z01.ok a7V (fun vs H Q E h=>?_) (fun cdv A outer s H vs Q E hr h=>?_)
 ·obtain ⟨g,rs,pl,po,rfl,hG,hO,hrl,hpo,hpl,q⟩:=h;rfl
 ·obtain ⟨g,rs,pl,po,rfl,hG,hO,hrl,hpo,hpl,q⟩:=h
  refine ⟨_,‹A2 (A6 1 a7V.nd D0) (A2 (C0 (E1 (C6 0)) (A8 2 a7V.nd) (A3 (C0 (E1 (A5 a0q (C5 (A0 (C6 2) A1)) (C6 2))) (A8 3 a7V.nd) (A2 (C1 1 3 B7) (A3 (C1 1 (A7 (a4c T) T.g_z1f T.F_z1f.kp T.b_z1f .nil (A0 3 A1)) B7)))))) (A3 (A9 (C8 (a8V rfl) T.z_sorted a2C (A0 1 A1)))))›,?_⟩
  rw [show start b8T [V.ref g]=[some (V.ref g),none,none,none] from rfl]
  obtain ⟨dx,io,bh,pr,xs,_,_,h1,h2,h3,_⟩:=id hG
  try simp only [a1q,a1S,a1L,a0l,Qg,Qh,a0D,b2C,a3E,a0k,Qa,a0e]
  intro D hD
  obtain ⟨H1,e1,s1,hD1⟩:=a1f hD (.dK []);rw [e1]
  have hioD:io≠D:=a0c h2 hD
  have hsz:∀A:List Str,(∀x∈A,x∈po)→(A.foldl a0S []).length≤18:=fun A hA=>Qi (a2a (a1x A Jr) (m:=po) fun x hx=>by
   rcases a1R.mp hx with z | z
   ·cases z
   ·exact hA x z) hpl
  refine ⟨g,_,dx,_,_,rfl,s1 _ _ h1,T.cl_Ground,T.nf_Ground_in_order,b4S _ _ _,?_⟩
  try simp only [a0t]
  refine ⟨⟨_,SqT.of (s1 _ _ h2)⟩,?_⟩
  refine a5o (K:=K) (a:=io) (xs:=xs) (fun i σ H'=>∃(x y:Option V),σ=[some (V.ref g),some (V.ref D),x,y]∧a3K H1 D H'∧H' D=some (.dK (bv ((sts (rs.take i)).foldl a0S []))))
   ⟨_,_,rfl,a3K.refl _ _,hD1⟩ (fun i σ H' _ ⟨_,_,_,k,_⟩=>SqT.of (k _ _ (s1 _ _ h2) hioD)) ?_ ?_
  ·rintro i v σ H3 hi ⟨x,y,rfl,k3,hD3⟩
   have hil:i < rs.length:=by rw [←h3.len];exact (Qn.mp hi).1
   obtain ⟨v',ev,p,rfl,hp⟩:=h3.get i rs[i] (Qc hil)
   rw [hi] at ev;cases ev
   have hrm:=Xd hil
   have hro:=hO _ hrm
   have CF:=a8S T hro.1
   have esn:sts (rs.take (i+1))=sts (rs.take i)++(rs[i].2.2.1::rs[i].2.2.2).flatMap fun q=>[q,a0v q]:=by
    unfold sts
    rw [Qw hil,Uz];simp
   have hA0:∀x∈sts (rs.take i),x∈po:=fun x hx=>hpo x (by
    obtain ⟨r,hr,z⟩:=a1a.mp hx
    exact a1a.mpr ⟨r,Zo hr,z⟩)
   have hA1:∀q∈rs[i].2.2.1::rs[i].2.2.2,q∈po∧a0v q∈po∧q.length≤100:=fun q hq=>⟨hpo q (a1a.mpr ⟨_,hrm,q,hq,.inl rfl⟩),hpo _ (a1a.mpr ⟨_,hrm,q,hq,.inr rfl⟩),by
    rcases Qy.mp hq with z | z
    ·rw [z];have:=hro.2.2.2.1.2;omega
    ·have:=(hro.2.2.2.2.1 q z).2;omega⟩
   generalize rs[i]=r at hp hro CF esn hA1
   generalize sts (rs.take i)=A0 at hD3 esn hA0
   rw [esn]
   clear esn
   obtain ⟨dx',t0,hp1,hp2⟩:=hp
   have hp1':=s1 _ _ hp1
   have hp2':=s1 _ _ hp2
   have hpD:p≠D:=a0c hp1 hD
   have htD:t0≠D:=a0c hp2 hD
   have hbl:=hro.2.2.2.2.2
   try simp only [a0l,Qg,Qh,a0D,b2C,tOp,a7o,a0j,a3E,a0k,Qb,Qa,a0r,a0e]
   refine ⟨p,_,dx',_,_,rfl,k3 _ _ hp1' hpD,CF.cl,CF.nh,a1h _ _ _,by simp only [Qr,Xl];decide,fun c hc=>?_⟩
   obtain ⟨H4,e4,s4,h4⟩:=a1f hc (.tup [V.str r.2.2.1]);rw [e4]
   have walk:∀(c2:Addr) (H5:Hp),a0h H3 H5→H5 c2=some (.tup ((r.2.2.1::r.2.2.2).map V.str))→c4k (Itt K c2) (a0l 3) (a1q (a3l (a0k 1) (a0k 3) (tC (V.bl true))) (a3l (a0k 1) (a0x b6t [] E0 (a0j (a0k 3) a0r)) (tC (V.bl true)))) {nx:=fun σ H'=>∃(x y:Option V),σ=[some (V.ref g),some (V.ref D),x,y]∧a3K H1 D H'∧H' D=some (.dK (bv ((A0++(r.2.2.1::r.2.2.2).flatMap fun q=>[q,a0v q]).foldl a0S []))),rt:=Q,bk:=a1e (tCB (b5h K) (a0j (a0k 1) a0r)) {nx:=fun x H'=>Q V.non H',rt:=Q},ct:=fun σ H'=>∃(x y:Option V),σ=[some (V.ref g),some (V.ref D),x,y]∧a3K H1 D H'∧H' D=some (.dK (bv ((A0++(r.2.2.1::r.2.2.2).flatMap fun q=>[q,a0v q]).foldl a0S [])))} [some (V.ref g),some (V.ref D),some (V.ref p),y] H5:=fun c2 H5 s5 h5=>by
    have hcD:c2≠D:=a0G h5 (s5 _ _ hD3) (by intro z;cases z)
    generalize r.2.2.1::r.2.2.2=qs at h5 hA1
    refine a5o (K:=K) (a:=c2) (xs:=qs.map V.str) (fun j σ H'=>∃(y:Option V),σ=[some (V.ref g),some (V.ref D),some (V.ref p),y]∧a3K H5 D H'∧H' D=some (.dK (bv ((A0++(qs.take j).flatMap fun q=>[q,a0v q]).foldl a0S []))))
     ⟨_,rfl,a3K.refl _ _,by rw [Ve,List.flatMap_nil,Qj];exact s5 _ _ hD3⟩ (fun j σ H' _ ⟨_,_,k,_⟩=>SqT.of (k _ _ h5 hcD)) ?_ ?_
    ·rintro j v σ H6 hj ⟨y,rfl,k6,hD6⟩
     have hjl:j < qs.length:=by simpa using (Qn.mp hj).1
     have ex:v=V.str qs[j]:=by
      rw [Qm,Qc hjl] at hj
      exact (Option.some.inj hj).symm
     subst ex
     have hq1:=hA1 _ (Xd hjl)
     have hA2:∀x∈A0++(qs.take j).flatMap (fun q=>[q,a0v q]),x∈po:=fun x hx=>by
      rcases Qq.mp hx with z | z
      ·exact hA0 x z
      ·obtain ⟨q,hq,w⟩:=Zj.mp z
       have:=hA1 q (Zo hq)
       simp only [Qy,Zu,or_false] at w
       rcases w with w | w
       ·rw [w];exact this.1
       ·rw [w];exact this.2.1
     have ej:A0++(qs.take (j+1)).flatMap (fun q=>[q,a0v q])=(A0++(qs.take j).flatMap fun q=>[q,a0v q])++[qs[j],a0v qs[j]]:=by
      rw [Qw hjl,Uz,←Ja];simp
     rw [ej]
     generalize (A0++(qs.take j).flatMap fun q=>[q,a0v q])=A1 at hD6 hA2
     generalize qs[j]=q0 at hq1
     have l1:=hsz A1 hA2
     have l2:=hsz (A1++[q0]) fun x hx=>by
      rcases Qq.mp hx with z | z
      ·exact hA2 x z
      ·rw [Xa.mp z];exact hq1.1
     try simp only [a0l,a1q,a3l,tC,a0k,Qg,Qh,Qb,Qa,a0x,a0j,a0r,Qj,a0e]
     refine ⟨D,_,rfl,b4o hD6 (by omega) q0,q0,rfl,hq1.2.2,D,_,rfl,b4o (x:=a0v q0) (S:=(A1++[q0]).foldl a0S []) (by rw [a0d,Yv];rfl) (by omega),_,rfl,fun b o e n=>?_,?_⟩
     ·rw [a0a n,a0a n];exact k6 _ _ e n
     ·rw [a0d,Yv,Yv];rfl
    ·rintro σ H6 ⟨y,rfl,k6,hD6⟩
     rw [Qe,Xs] at hD6
     exact ⟨_,_,rfl,fun b o e n=>k6 _ _ (s5 _ _ (k3 _ _ e n)) n,hD6⟩
   refine ⟨p,_,dx',_,_,rfl,s4 _ _ (k3 _ _ hp1' hpD),CF.cl,CF.nb,a1O _ _ _,.inr (.inr (.inr ⟨c,t0,_,_,rfl,rfl,SqT.of h4,SqT.of (s4 _ _ (k3 _ _ hp2' htD)),by simp,Qi (show _≤1000 by simp;omega) (by decide),fun e=>?_,fun e c2 hc2=>?_⟩))⟩
   ·refine ⟨c,rfl,⟨_,SqT.of h4⟩,walk c H4 s4 ?_⟩
    rw [Xg,e];exact h4
   ·obtain ⟨H5,e5,s5,h5⟩:=a1f hc2 (.tup ([V.str r.2.2.1]++r.2.2.2.map V.str));rw [e5]
    exact ⟨c2,rfl,⟨_,SqT.of h5⟩,walk c2 H5 (s4.trans s5) h5⟩
  ·rintro σ H3 ⟨x,y,rfl,k3,hD3⟩
   rw [show rs.take xs.length=rs by rw [h3.len];exact Xs] at hD3
   have hl:=hsz (sts rs) hpo
   try simp only [a1e,tCB,a0j,a0k,Qb,Qa,a0r,a0e]
   refine .inr (.inl ⟨D,_,_,rfl,.inl hD3,a5x _,by omega,fun l ss hl' hp hs=>?_⟩)
   have s3:a0h H H3:=fun b o e=>k3 _ _ (s1 _ _ e) (a0c e hD)
   obtain ⟨H4,e4,s4,h4⟩:=a1f hl' (.lst (ss.map V.str));rw [e4]
   exact q l ss H4 (s3.trans s4) (none_of s3 hl') h4 hp hs
theorem a2Y (T:Txt K mg t):a0V P w K mg base CX0 1 t.f_z1y t.fd_z1y ["some"] (b5P K):=by
 refine T.F_z1y.ok a8k (fun vs H Q E h=>?_) (fun cdv A outer s H vs Q E hr h=>?_)
 ·obtain ⟨v,kn,rfl,ha,hl,q⟩:=h;rfl
 ·obtain ⟨v,kn,rfl,ha,hl,q⟩:=h
  refine ⟨_,‹A2 (A6 1 a8k.nd D0) (A2 (G7 (F8 (C0 (E2 0) (A8 2 a8k.nd) (A3 (C1 1 2 B7)))) (C0 (B5 0) (A8 2 a8k.nd) (A3 (C1 1 2 B7)))) (A3 (A9 1)))›,?_⟩
  rw [show start b9j [v]=[some (v),none,none] from rfl]
  try simp only [a1q,a1S,a1L,a0l,Qg,Qh]
  intro D hD
  obtain ⟨H1,e1,s1,h1⟩:=a1f hD (.dK []);rw [e1]
  have hvD:v≠.ref D:=fun z=>by
   obtain ⟨b,o,e,hb⟩:=ha.at
   rw [z] at e;cases e;rw [hD] at hb;cases hb
  refine a4O (fun H0 i σ' H'=>∃x,σ'=[some v,some (V.ref D),x]∧a3K H0 D H'∧H' D=some (.dK (bv ((kn.take i).foldl a0S [])))) (ha.same s1) (a0K rfl) (fun H0 h0=>⟨_,rfl,a3K.refl _ _,h0.keep _ _ h1 hvD⟩) ?_ ?_ ?_
  ·rintro H0 i σ' H' b o ⟨x,rfl,k,_⟩ z e
   exact k _ _ e fun w=>hvD (by rw [z,w])
  ·rintro H0 i hi σ' H' rt bk h0 ⟨x,rfl,k,hD'⟩
   have hlen:=a0Q (kn.take i) []
   try simp only [a0l,a3l,tC,a0k,Qg,Qh,Qb,Qa,a0e]
   refine ⟨D,_,rfl,b4o hD' (by simp at hlen;omega) kn[i],_,rfl,fun b o e n=>?_,?_⟩
   ·rw [a0a n];exact k _ _ e n
   ·rw [a0d,Qw hi,Yv];rfl
  ·rintro H0 σ' H' H'' h0 ⟨x,rfl,k,hD'⟩ k1 k2
   rw [Xs] at hD'
   try simp only [a1e,a0k,Qb,Qa,a0e]
   refine q D H'' (fun b o e=>?_) hD (k1 _ _ hD' hvD)
   by_cases z:v=.ref b
   ·exact k2 b o z (s1 _ _ e)
   ·exact k1 b o (k b o (h0.keep _ _ (s1 _ _ e) z) (a0c e hD)) z
theorem b4O (T:Txt K mg t):a0V P w K mg base CX0 1 t.f_z0m t.fd_z0m ["self"] (a9Q t):=by
 refine T.F_z0m.ok b8a (fun vs H Q E h=>?_) (fun cdv A outer s H vs Q E hr h=>?_)
 ·obtain ⟨g,rs,pl,rfl,hG,q⟩:=h;rfl
 ·obtain ⟨g,rs,pl,rfl,hG,q⟩:=h
  refine ⟨_,‹A3 (A9 (E9 a2W T.z_list a2H (A0 (C6 0) A1)))›,?_⟩
  rw [show start b8J [V.ref g]=[some (V.ref g)] from rfl]
  obtain ⟨dx,io,bh,pr,xs,kvs,kps,h1,h2,h3,h4,h5,h6',h7'⟩:=hG
  try simp only [a1e,tCB,a0j,a3E,a0k,Qa,a0r,a0e]
  refine ⟨g,_,dx,_,_,rfl,h1,T.cl_Ground,T.nf_Ground_in_order,b4S _ _ _,io,_,rfl,.inr (SqT.of h2),fun l hl=>?_⟩
  obtain ⟨H6,e6,s6,h6⟩:=a1f hl (.lst xs);rw [e6]
  exact q l xs _ s6 hl h6 (h3.same s6)
theorem b8g (T:Txt K mg t):a0V P w K mg base CX0 2 t.f_z03 t.fd_z03 ["ground"] (b6U t):=by
 refine T.F_z03.ok a8b (fun vs H Q E h=>?_) (fun cdv A outer s H vs Q E hr h=>?_)
 ·obtain ⟨g,rs,pl,rfl,hG,hO,hrl,q⟩:=h;rfl
 ·obtain ⟨g,rs,pl,rfl,hG,hO,hrl,q⟩:=h
  refine ⟨_,‹A2 (A6 1 a8b.nd D0) (A2 (C0 (B5 (D3 0 T.cl_Ground T.me_Ground_rules (b4O T) T.b_z0m)) (A8 2 a8b.nd) (A3 (C0 (E1 (C6 2)) (A8 3 a8b.nd) (A3 (D4 (D1 Yl Ye Yg a1c (G5 1 3 (B8 A1)) (A0 (C6 2) A1))))))) (A3 (A9 1)))›,?_⟩
  rw [show start c0r [V.ref g]=[some (V.ref g),none,none,none] from rfl]
  obtain ⟨dx,io,bh,pr,_,_,_,hg1,_⟩:=id hG
  try simp only [a1q,a1S,a1L,a0l,Qg,Qh,a0D,a1E,a2g,a0k,Qa,a0r,Qj,a0e]
  intro D hD
  obtain ⟨H1,e1,s1,h1⟩:=a1f hD (.dK []);rw [e1]
  refine ⟨g,dx,_,rfl,s1 _ _ hg1,a2D _ _ _ (by decide+kernel) (by decide+kernel) (by decide+kernel),g,rs,pl,rfl,hG.same s1,fun W ys H2 s2 hWn hW2 hR2=>?_⟩
  have hWD:W≠D:=fun z=>by have e:=s2 _ _ h1;rw [←z,hW2] at e;cases e
  have s02:=s1.trans s2
  have hDn:=s2 _ _ h1
  have hyl:=hR2.len
  try simp only [a0t]
  refine ⟨⟨_,SqL.of hW2⟩,?_⟩
  refine a1d (K:=K) (a:=W) (xs:=ys) (fun i σ H'=>∃(kvs:List (Key×V)) (x y:Option V),σ=[some (V.ref g),some (V.ref D),x,y]∧a3K H2 D H'∧a9h H2 H' D kvs (phs (rs.take i)))
   ⟨[],_,_,rfl,a3K.refl _ _,⟨hDn,Qk _,fun p=>.inl ⟨rfl,rfl⟩,fun p p' N e=>by cases e⟩⟩ (fun i σ H' _ h=>by obtain ⟨_,_,_,_,k,_⟩:=h;exact SqL.of (k _ _ hW2 hWD)) ?_ ?_
  ·rintro i v σ H3 hi ⟨kvs,x,y,rfl,k3,I3⟩
   have hil:i < rs.length:=by rw [←hyl];exact (Qn.mp hi).1
   obtain ⟨v',ev,p,rfl,hp⟩:=hR2.get i rs[i] (Qc hil)
   rw [hi] at ev;cases ev
   have hro:=hO _ (Xd hil)
   have CF:=a8S T hro.1
   have esn:phs (rs.take (i+1))=phs (rs.take i)++rs[i].2.2.2.map fun p=>(p,rs[i].2.2.1):=by
    unfold phs
    rw [Qw hil,Uz];simp
   have hphl:(phs (rs.take i)).length≤504:=by
    have:=a6L (rs:=rs.take i) (fun r hr=>hO r (Zo hr))
    rw [Yo] at this;omega
   generalize rs[i]=r at hp hro CF esn
   generalize phs (rs.take i)=L0 at I3 esn hphl
   obtain ⟨dx',t0,hp1,hp2⟩:=hp
   have hpD:p≠D:=a0G hp1 hDn (by intro z;cases z)
   have htD:t0≠D:=a0G hp2 hDn (by intro z;cases z)
   have hbl:=hro.2.2.2.2.2
   try simp only [a0l,Qg,Qh,a0D,b2C,a3E,a0k,Qb,Qa,a0e]
   refine ⟨p,_,dx',_,_,rfl,k3 _ _ hp1 hpD,CF.cl,CF.nb,a1O _ _ _,?_⟩
   try simp only [a0t]
   refine ⟨⟨_,SqT.of (k3 _ _ hp2 htD)⟩,?_⟩
   refine a5o (K:=K) (a:=t0) (xs:=r.2.2.2.map V.str) (fun j σ H'=>∃(kvs:List (Key×V)) (y:Option V),σ=[some (V.ref g),some (V.ref D),some (V.ref p),y]∧a3K H2 D H'∧a9h H2 H' D kvs (L0++(r.2.2.2.take j).map fun p=>(p,r.2.2.1)))
    ⟨kvs,_,rfl,k3,by rw [Ve,Jq,Qj];exact I3⟩ (fun i σ H' _ h=>by obtain ⟨_,_,_,k,_⟩:=h;exact SqT.of (k _ _ hp2 htD)) ?_ ?_
   ·clear I3 k3
    rintro j v σ H4 hj ⟨kvs,y,rfl,k4,I4⟩
    have hjl:j < r.2.2.2.length:=by simpa using (Qn.mp hj).1
    have ex:v=V.str r.2.2.2[j]:=by
     rw [Qm,Qc hjl] at hj
     exact (Option.some.inj hj).symm
    subst ex
    have ej:L0++(r.2.2.2.take (j+1)).map (fun p=>(p,r.2.2.1))=(L0++(r.2.2.2.take j).map fun p=>(p,r.2.2.1))++[(r.2.2.2[j],r.2.2.1)]:=by
     rw [Qw hjl,Xp,←Ja];rfl
    have hll:(L0++(r.2.2.2.take j).map fun p=>(p,r.2.2.1)).length≤508:=by
     rw [Xq,Qe,Yo];omega
    rw [ej]
    generalize (L0++(r.2.2.2.take j).map fun p=>(p,r.2.2.1))=L1 at I4 hll
    generalize r.2.2.2[j]=pq
    have hp4:=k4 _ _ hp1 hpD
    have hkl:=I4.len
    try simp only [a0l,a4r,tBM,a7y,a0k,Qg,Qh,Qb,Qa,a3n,a0r,a0j,a3E,a0e,a0t]
    refine ⟨a2w I4.d,by decide,fun N hN=>?_⟩
    obtain ⟨H6,e6,s6,h6⟩:=a1f hN (.lst []);rw [e6]
    have hNn:H2 N=none:=by
     cases e:H2 N with
     | none=>rfl
     | some o=>
      by_cases z:N=D
      ·rw [z,I4.d] at hN;cases hN
      ·rw [k4 _ _ e z] at hN;cases hN
    have hND:N≠D:=fun z=>by rw [z,I4.d] at hN;cases hN
    have hNp:N≠p:=fun z=>by rw [z,hp4] at hN;cases hN
    refine ⟨kvs,Sum.inr pq,s6 _ _ I4.d,rfl,Xm (show kvs.length≤1000 by omega) (by decide),fun u hu=>?_,fun hu=>?_⟩
    ·rcases I4.at_ pq with ⟨e,_⟩ | ⟨M,e,_⟩
     ·rw [e] at hu;cases hu
     rw [e] at hu;cases hu
     obtain ⟨hM,hMn,I7⟩:=(I4.same s6).old (h:=r.2.2.1) e
     have hsz:=b4a L1 pq
     try skip
     refine ⟨.inl ⟨rfl,_,SqL.of hM⟩,p,_,dx',_,_,rfl,s6 _ _ hp4,CF.cl,CF.nh,a1h _ _ _,M,_,_,rfl,rfl,hM,Xm (show _≤1000 by rw [Qe];omega) (by decide),?_⟩
     exact ⟨kvs,_,rfl,fun b o e n=>by rw [a0a (a0c e hMn)];exact s6 _ _ (k4 _ _ e n),I7⟩
    ·have I7:=I4.new (h:=r.2.2.1) hu hN hNn (.lst [])
     rw [e6] at I7
     have hN7:upd H6 D (.dK (a1W kvs (Sum.inr pq) (V.ref N))) N=some (.lst []):=by rw [a0a hND];exact h6
     try skip
     refine ⟨.inl ⟨rfl,_,SqL.of hN7⟩,p,_,dx',_,_,rfl,(by rw [a0a hpD];exact s6 _ _ hp4),CF.cl,CF.nh,a1h _ _ _,N,_,_,rfl,rfl,hN7,by decide,?_⟩
     exact ⟨_,_,rfl,fun b o e n=>by rw [a0a (a0c e hNn),a0a n];exact s6 _ _ (k4 _ _ e n),I7⟩
   ·rintro σ H4 ⟨kvs,y,rfl,k4,I4⟩
    rw [Qe,Xs,←esn] at I4
    exact ⟨kvs,_,_,rfl,k4,I4⟩
  ·rintro σ H3 ⟨kvs,x,y,rfl,k3,I3⟩
   rw [show rs.take ys.length=rs by rw [hyl];exact Xs] at I3
   try simp only [a1e,a0k,Qb,Qa,a0e]
   exact q D H3 (fun c o e=>k3 _ _ (s02 _ _ e) (a0c e hD)) hD (I3.hds hO hrl)
theorem b8w (T:Txt K mg t):a0V P w K mg base CX0 2 t.f_z1n t.fd_z1n ["heads","came"] b1X:=by
 refine T.F_z1n.ok a8g (fun vs H Q E h=>?_) (fun cdv A outer s H vs Q E hr h=>?_)
 ·obtain ⟨hd,cm,rs,F,rfl,hoff,hcm,hFl,hO,hrl,q⟩:=h;rfl
 ·obtain ⟨hd,cm,rs,F,rfl,hoff,hcm,hFl,hO,hrl,q⟩:=h
  refine ⟨_,‹A2 (A6 2 a8g.nd D0) (A2 (F8 (C0 (E2 1) (A8 3 a8g.nd) (A3 (C0 (B5 (E8 0 3 (B8 A1))) (A8 4 a8g.nd) (A2 (C1 2 4 B7) (A3 (C1 2 (A7 (a4c T) T.g_z1f T.F_z1f.kp T.b_z1f .nil (A0 4 A1)) B7))))))) (A3 (A9 2)))›,?_⟩
  rw [show start b9I [V.ref hd,V.ref cm]=[some (V.ref hd),some (V.ref cm),none,none,none] from rfl]
  try simp only [a1q,a1S,a1L,a0l,Qg,Qh]
  intro D hD
  obtain ⟨H1,e1,s1,h1⟩:=a1f hD (.dK []);rw [e1]
  have hcD:cm≠D:=fun z=>by rw [z,hD] at hcm;cases hcm
  refine b1Y (kn:=F.map (·.1)) (fun H0 i σ' H'=>∃(x y:Option V) (T:List Str),σ'=[some (V.ref hd),some (V.ref cm),some (V.ref D),x,y]∧a3K H0 D H'∧H' D=some (.dK (bv T))∧T.Nodup∧T.length≤1200 * i∧∀z,z∈T↔tch rs ((F.map (·.1)).take i) z) (s1 _ _ hcm) (a3q F) (a0K rfl) (fun o=>⟨_,_,[],rfl,a3K.refl _ _,by rw [a0a hcD.symm];exact h1,Jr,Xe _,fun z=>⟨fun w=>(by cases w),fun ⟨r,_,⟨p,_,w⟩,_⟩=>(by cases w)⟩⟩) ?_ ?_ ?_
  ·rintro o i σ' H' ⟨x,y,T,rfl,k,_⟩
   exact k _ _ a0d hcD
  ·rintro o i hi σ' H' rt bk ⟨x,y,T,rfl,k,hT,hnd,hTl,hTm⟩
   have hoff':∀H2,a3K H' D H2→a4h H2 hd rs:=fun H2 k2=>hoff H2 fun b o e n=>k2 _ _ (k _ _ (by rw [a0a (fun z=>n (by rw [z]))];exact s1 _ _ e) (a0c e hD)) (a0c e hD)
   have hi100:i < 80:=by rw [Qe] at hi;omega
   have esn:∀z,tch rs ((F.map (·.1)).take (i+1)) z↔tch rs ((F.map (·.1)).take i) z∨∃r∈rs,(F.map (·.1))[i]∈r.2.2.2∧(z=r.2.2.1∨z=a0v r.2.2.1):=fun z=>by
    rw [Qw hi]
    constructor
    ·rintro ⟨r,hr,⟨p,hp,hm⟩,hz⟩
     rcases Qq.mp hm with w | w
     ·exact .inl ⟨r,hr,⟨p,hp,w⟩,hz⟩
     ·exact .inr ⟨r,hr,Xa.mp w ▸ hp,hz⟩
    ·rintro (⟨r,hr,⟨p,hp,hm⟩,hz⟩ | ⟨r,hr,hp,hz⟩)
     ·exact ⟨r,hr,⟨p,hp,Xx _ hm⟩,hz⟩
     ·exact ⟨r,hr,⟨_,hp,Xc _ (Xa.mpr rfl)⟩,hz⟩
   generalize (F.map (·.1))[i]=pq at esn
   obtain ⟨kvs,hk,hv⟩:=hoff' H' (a3K.refl _ _)
   have hdD:hd≠D:=fun z=>by
    obtain ⟨kvs2,hk2,_⟩:=hoff H (fun _ _ e _=>e)
    rw [z,hD] at hk2;cases hk2
   try simp only [a0l,Qg,Qh,a0D,a1E,a4V,a0k,Qa,Qb,a3n,a0r,a0e,a0t]
   refine ⟨a2w hk,by decide,fun N hN=>?_⟩
   obtain ⟨H2,e2,s2,h2⟩:=a1f hN (.lst []);rw [e2]
   refine ⟨_,a2K.k (k:=(Sum.inr pq:Key)) (s2 _ _ hk),?_⟩
   have hND:N≠D:=fun z=>by rw [z,hT] at hN;cases hN
   have hcase:∃(L:Addr) (hs:List Str),(a0N kvs (Sum.inr pq:Key)).getD (.ref N)=.ref L∧H2 L=some (.lst (hs.map V.str))∧hs.length≤600∧∀h:Str,h∈hs↔∃r∈rs,pq∈r.2.2.2∧r.2.2.1=h:=by
    rcases hv pq with ⟨e,g⟩ | ⟨L,hs,e,g1,g2,g3⟩
    ·rw [e];exact ⟨N,[],rfl,h2,Xe _,fun h=>⟨fun w=>(by cases w),fun ⟨r,hr,hp,_⟩=>absurd hp (g r hr)⟩⟩
    ·rw [e];exact ⟨L,hs,rfl,s2 _ _ g1,g2,g3⟩
   obtain ⟨L,hs,eL,hL,hsl,hsm⟩:=hcase
   have hT2:=s2 _ _ hT
   have hLD:L≠D:=a0G hL hT2 (by intro z;cases z)
   have hho:∀h∈hs,h.length≤40:=fun h hh=>by
    obtain ⟨r,hr,_,rfl⟩:=(hsm h).mp hh
    exact (hO r hr).2.2.2.1.2
   rw [eL]
   try simp only [a0t]
   refine ⟨⟨_,SqL.of hL⟩,?_⟩
   refine a1d (K:=K) (a:=L) (xs:=hs.map V.str) (fun j σ H'=>∃(y:Option V) (T':List Str),σ=[some (V.ref hd),some (V.ref cm),some (V.ref D),some (V.str pq),y]∧a3K H2 D H'∧H' D=some (.dK (bv T'))∧T'.Nodup∧T'.length≤1200 * i+2 * j∧∀z,z∈T'↔z∈T∨∃h∈hs.take j,z=h∨z=a0v h)
    ⟨_,T,rfl,a3K.refl _ _,hT2,hnd,by omega,fun z=>⟨.inl,fun w=>w.elim id fun ⟨_,h,_⟩=>(by cases h)⟩⟩ (fun j σ H' _ h=>by obtain ⟨_,_,_,k,_⟩:=h;exact SqL.of (k _ _ hL hLD)) ?_ ?_
   ·rintro j v σ H3 hj ⟨y,T',rfl,k3,hT3,hnd3,hTl3,hTm3⟩
    have hjl:j < hs.length:=by simpa using (Qn.mp hj).1
    have ex:v=V.str hs[j]:=by
     rw [Qm,Qc hjl] at hj
     exact (Option.some.inj hj).symm
    subst ex
    have hho':=hho _ (Xd hjl)
    rw [Qw hjl]
    generalize hs[j]=h0 at hho'
    have l1:=a0Q [h0] T'
    have l2:=a0Q [a0v h0] (a0S T' h0)
    try simp only [a0l,a1q,a3l,tC,a0k,Qg,Qh,Qb,Qa,a0x,a0j,a0r,Qj,a0e]
    refine ⟨D,_,rfl,b4o hT3 (by omega) h0,h0,rfl,by omega,?_⟩
    try simp only []
    refine ⟨D,_,rfl,b4o a0d (by simp at l1;show (a0S T' h0).length≤_;omega) (a0v h0),_,a0S (a0S T' h0) (a0v h0),rfl,fun b o e n=>?_,a0d,?_,?_,fun z=>?_⟩
    ·rw [a0a n,a0a n];exact k3 _ _ e n
    ·exact a1x [h0,a0v h0] hnd3
    ·have:=a0Q [h0,a0v h0] T'
     simp at this
     show (a0S (a0S T' h0) (a0v h0)).length≤_
     omega
    ·rw [a5E,a5E,hTm3]
     constructor
     ·rintro (((w | ⟨h,hh,w⟩) | w) | w)
      ·exact .inl w
      ·exact .inr ⟨h,Xx _ hh,w⟩
      ·exact .inr ⟨h0,Xc _ (Xa.mpr rfl),.inl w⟩
      ·exact .inr ⟨h0,Xc _ (Xa.mpr rfl),.inr w⟩
     ·rintro (w | ⟨h,hh,w⟩)
      ·exact .inl (.inl (.inl w))
      ·rcases Qq.mp hh with m | m
       ·exact .inl (.inl (.inr ⟨h,m,w⟩))
       ·rw [Xa.mp m] at w
        exact w.elim (fun w=>.inl (.inr w)) .inr
   ·rintro σ H3 ⟨y,T',rfl,k3,hT3,hnd3,hTl3,hTm3⟩
    rw [Qe,Xs] at hTm3
    refine ⟨_,_,T',rfl,fun b o e n=>k3 _ _ (s2 _ _ (k _ _ e n)) n,hT3,hnd3,by rw [Qe] at hTl3;omega,fun z=>?_⟩
    rw [hTm3,hTm,esn]
    refine or_congr Iff.rfl ⟨fun ⟨h,hh,w⟩=>?_,fun ⟨r,hr,hp,w⟩=>⟨r.2.2.1,(hsm _).mpr ⟨r,hr,hp,rfl⟩,w⟩⟩
    obtain ⟨r,hr,hp,rfl⟩:=(hsm h).mp hh
    exact ⟨r,hr,hp,w⟩
  ·rintro o σ' H' ⟨x,y,T,rfl,k,hT,hnd,hTl,hTm⟩
   rw [Xs] at hTm
   try simp only [a1e,a0k,Qb,Qa,a0e]
   refine q D T _ (fun b u e=>?_) hD (by rw [a0a hcD.symm];exact hT) hnd ?_ hTm
   ·by_cases z:b=cm
    ·subst z;rw [a0d,←hcm];exact e
    ·rw [a0a z];exact k _ _ (by rw [a0a z];exact s1 _ _ e) (a0c e hD)
   ·have:=a2a hnd (m:=rs.flatMap fun r=>[r.2.2.1,a0v r.2.2.1]) fun z hz=>by
     obtain ⟨r,hr,_,w⟩:=(hTm z).mp hz
     exact Zj.mpr ⟨r,hr,by simpa using w⟩
    have h2:=b1e rs
    omega
theorem b4v (T:Txt K mg t):a0V P w K mg base CX0 1 t.f_z0c t.fd_z0c ["self","statement"] (a9l t):=by
 refine T.F_z0c.ok c0K (fun vs H Q E h=>?_) (fun cdv A outer s H vs Q E hr h=>?_)
 ·obtain ⟨g,h,rs,pl,rfl,hG,q⟩:=h;rfl
 ·obtain ⟨g,h,rs,pl,rfl,hG,q⟩:=h
  refine ⟨_,‹A3 (A9 (E9 a2W T.z_list a2H (A0 (E8 (C6 0) 1 (B8 A1)) A1)))›,?_⟩
  rw [show start c0g [V.ref g,V.str h]=[some (V.ref g),some (V.str h)] from rfl]
  obtain ⟨dx,io,bh,pr,xs,kvs,kps,h1,h2,h3,h4,h5,_⟩:=hG
  try simp only [a1e,tCB,a0j,a4V,a3E,a0k,Qa,Qb,a3n,a0r,a0e]
  refine ⟨g,_,dx,_,_,rfl,h1,T.cl_Ground,T.nf_Ground_by_head,b7O _ _ _,?_⟩
  try simp only [a0t]
  refine ⟨a2w h4,by decide,fun N hN=>?_⟩
  obtain ⟨H6,e6,s6,h6⟩:=a1f hN (.lst []);rw [e6]
  refine ⟨_,a2K.k (k:=(Sum.inr h:Key)) (s6 _ _ h4),?_⟩
  rcases h5 h with ⟨e,g5⟩ | ⟨L,ys,e,g2,g4⟩
  ·rw [e]
   refine ⟨N,_,rfl,.inl (SqL.of h6),fun l hl=>?_⟩
   obtain ⟨H7,e7,s7,h7⟩:=a1f hl (.lst []);rw [e7]
   refine q l [] _ (s6.trans s7) (none_of s6 hl) h7 ?_
   rw [g5];exact ⟨rfl,fun i r e=>by simp at e⟩
  ·rw [e]
   refine ⟨L,_,rfl,.inl (SqL.of (s6 _ _ g2)),fun l hl=>?_⟩
   obtain ⟨H7,e7,s7,h7⟩:=a1f hl (.lst ys);rw [e7]
   exact q l ys _ (s6.trans s7) (none_of s6 hl) h7 (g4.same (s6.trans s7))
theorem b5a (T:Txt K mg t):a0V P w K mg base CX0 2 t.f_z09 t.fd_z09 ["self","statement"] (b0s t):=by
 refine T.F_z09.ok b7H (fun vs H Q E h=>?_) (fun cdv A outer s H vs Q E hr h=>?_)
 ·obtain ⟨g,h,rs,pl,rfl,hG,hO,hhl,q⟩:=h;rfl
 ·obtain ⟨g,h,rs,pl,rfl,hG,hO,hhl,q⟩:=h
  refine ⟨_,‹A3 (A9 (C7 0 T.cl_Ground T.me_Ground_ruling (b4v T) T.b_z0c (A0 (A7 (a4c T) T.g_z1f T.F_z1f.kp T.b_z1f .nil (A0 1 A1)) A1)))›,?_⟩
  rw [show start b9F [V.ref g,V.str h]=[some (V.ref g),some (V.str h)] from rfl]
  obtain ⟨dx,io,bh,pr,_,_,_,hg1,_⟩:=id hG
  try simp only [a1e,a2g,a0k,Qa,a0j,a0x,Qb,a0r,Qj,a0e]
  refine ⟨g,dx,_,rfl,hg1,a2D _ _ _ (by decide+kernel) (by decide+kernel) (by decide+kernel),h,rfl,hhl,?_⟩
  refine ⟨g,a0v h,rs,pl,rfl,hG,fun W ys H3 s3 hWn hW3 hR3=>?_⟩
  obtain ⟨zr,ez1,ez2,hz⟩:=hR3.zip (fun r hr=>hO r (Qp.mp hr).1)
  subst ez1
  exact q W zr H3 s3 hWn hW3 hz ez2
theorem b8R (T:Txt K mg t):a0V P w K mg base CX0 1 t.f_z0l t.fd_z0l ["self"] (a1b false):=by
 refine T.F_z0l.ok c1o (fun vs H Q E h=>?_) (fun cdv A outer s H vs Q E hr h=>?_)
 ·obtain ⟨x,rfl,q⟩:=h;rfl
 ·obtain ⟨x,rfl,q⟩:=h
  refine ⟨_,‹A3 (A9 B7)›,?_⟩
  rw [show start c0m [x]=[some (x)] from rfl]
  try simp only [a1e,tC]
  exact q
theorem b2i (T:Txt K mg t):a0V P w K mg base CX0 1 t.f_z0q t.fd_z0q ["self"] (a1b true):=by
 refine T.F_z0q.ok b8r (fun vs H Q E h=>?_) (fun cdv A outer s H vs Q E hr h=>?_)
 ·obtain ⟨x,rfl,q⟩:=h;rfl
 ·obtain ⟨x,rfl,q⟩:=h
  refine ⟨_,‹A3 (A9 B7)›,?_⟩
  rw [show start c0y [x]=[some (x)] from rfl]
  try simp only [a1e,tC]
  exact q
theorem b5e (T:Txt K mg t):a0V P w K mg base CX0 2 t.f_z05 t.fd_z05 ["self","statement"] (a8X t):=by
 refine T.F_z05.ok c0F (fun vs H Q E h=>?_) (fun cdv A outer s H vs Q E hr h=>?_)
 ·obtain ⟨g,h,rs,pl,rfl,hG,hO,hrl,q⟩:=h;rfl
 ·obtain ⟨g,h,rs,pl,rfl,hG,hO,hrl,q⟩:=h
  refine ⟨_,‹A3 (A9 (B9 (B2 (a0b a8I) b7o ["rule"] [none]) (B5 (C7 0 T.cl_Ground T.me_Ground_ruling (b4v T) T.b_z0c (A0 1 A1))) (A8 0 (show Xk (["rule"]:List Str) by decide+kernel)) (C4 (C3 (E7 (D3 0 T.cl_Fact T.me_Fact_speaks (b2i T) T.b_z0q) (E7 (D3 0 T.cl_Sure T.me_Sure_speaks (b2i T) T.b_z0q) (E7 (D3 0 T.cl_Most T.me_Most_speaks (b2i T) T.b_z0q) (D3 0 T.cl_Block T.me_Block_speaks (b8R T) T.b_z0l)))))) 0))›,?_⟩
  rw [show start b7o [V.ref g,V.str h]=[some (V.ref g),some (V.str h)] from rfl]
  obtain ⟨dx,io,bh,pr,_,_,_,hg1,_⟩:=id hG
  try simp only [a1e,a0n,a1E,a2g,a0k,Qa,a0j,Qb,a0r,Qj,a0e]
  refine ⟨g,dx,_,rfl,hg1,a2D _ _ _ (by decide+kernel) (by decide+kernel) (by decide+kernel),g,h,rs,pl,rfl,hG,fun W ys H3 s3 hWn hW3 hR3=>?_⟩
  obtain ⟨zr,ez1,ez2,hz⟩:=hR3.zip (fun r hr=>hO r (Qp.mp hr).1)
  subst ez1
  have hzl:zr.length≤126:=by
   have:=congrArg Yp ez2
   rw [Qe] at this
   rw [this];exact Qi (Qz _ _) hrl
  try simp only [a0t]
  refine ⟨⟨_,SqL.of hW3⟩,?_⟩
  refine a1X zr hW3 (by omega) hz [] rfl spk (fun p=>p.1) (fun x r H' R ho hr s' hR=>?_) (fun x r H' R ho hr s' hR=>?_) (fun W2 H4 hW2n s4 hW4=>?_)
  ·try simp only [tB]
   refine c6j ho.1 (a0K rfl) hr ⟨by decide+kernel,by decide+kernel,by decide+kernel⟩ ?_
   rw [a7m ho.1]
   try simp only [a4G,a1p]
   exact hR _ (a0h.refl _)
  ·try simp only [a0k,Qa,a0e]
   exact hR _ (a0h.refl _)
  refine q W2 (zr.filter fun p=>spk p.2) H4 (s3.trans s4) (none_of s3 hW2n) hW4 (fun p hp=>(hz.same s4) p (Qp.mp hp).1) ?_
  rw [←ez2,Zm];rfl
theorem a8m (T:Txt K mg t):a0V P w K mg base CX0 1 t.f_z12 t.fd_z12 ["statements","some"] a8t:=by
 refine T.F_z12.ok b8h (fun vs H Q E h=>?_) (fun cdv A outer s H vs Q E hr h=>?_)
 ·obtain ⟨t0,v,bd,S,rfl,ht,hl,hD,q⟩:=h;rfl
 ·obtain ⟨t0,v,bd,S,rfl,ht,hl,hD,q⟩:=h
  refine ⟨_,‹A3 (A9 (C8 (a2Q rfl) T.z_all a6w (A0 (B9 (B2 (a0b a8Q) b7s ["statement","some"] [none,some 1]) (E1 0) (A8 0 (show Xk (["statement","some"]:List Str) by decide+kernel)) C9 (E7 (F6 (a1A (a1Y hr) ‹0› ‹1›)) (F0 (b4L (K:=K) rfl) 0 1 (by with_unfolding_all rfl)))) A1)))›,?_⟩
  rw [show start b7s [V.ref t0,v]=[some (V.ref t0),some (v)] from rfl]
  try simp only [a1e,tCB,a0j,a0r,a0n,b2C,a0k,Qa,a0e,a0t]
  refine ⟨⟨_,SqT.of ht⟩,?_⟩
  refine a3S (a3V (xs:=bd.map V.str)) (Qi (show (bd.map V.str).length≤1000 by simpa using hl) (by decide)) [some v] rfl (fun i v=>∃hi:i < bd.length,v=.bl (decide (bd[i]∈S))) (fun H' s=>SqT.of (s _ _ ht)) (fun i H' R hi s hR=>?_) (fun E1 H1 ys hEn s1 hE hl1 hv1=>?_)
  ·have hi':i < bd.length:=by simpa using hi
   have e2:((bd.map V.str)[i]?).getD .non=V.str bd[i]:=by rw [Qm,Qc hi'];rfl
   rw [e2]
   exact b1y (hD.same s) (a0K rfl) (a0K rfl) (hR _ _ (a0h.refl _) ⟨hi',rfl⟩)
  have eys:ys=(bd.map fun q=>decide (q∈S)).map V.bl:=by
   refine Uh fun i=>?_
   rw [Qm,Qm]
   by_cases hi:i < ys.length
   ·obtain ⟨hi',e⟩:=hv1 i _ (Qc hi)
    rw [Qc hi,e,Qc hi'];rfl
   ·rw [Yh (by omega),Yh (by rw [Qe] at hl1;omega)];rfl
  subst eys
  refine ⟨E1,_,rfl,SqL.of hE,?_⟩
  have:=q _ s1
  rw [Vz];exact this
theorem b4t (T:Txt K mg t):a0V P w K mg base CX0 1 t.f_z13 t.fd_z13 ["statements","some"] b7Z:=by
 refine T.F_z13.ok b8X (fun vs H Q E h=>?_) (fun cdv A outer s H vs Q E hr h=>?_)
 ·obtain ⟨t0,v,bd,S,rfl,ht,hl,hD,q⟩:=h;rfl
 ·obtain ⟨t0,v,bd,S,rfl,ht,hl,hD,q⟩:=h
  refine ⟨_,‹A3 (A9 (C8 (a1Z rfl) T.z_any a4j (A0 (B9 (B2 (a0b a8L) b5T ["statement","some"] [none,some 1]) (E1 0) (A8 0 (show Xk (["statement","some"]:List Str) by decide+kernel)) C9 (E7 (F6 (a1A (a1Y hr) ‹0› ‹1›)) (F0 (b4L (K:=K) rfl) 0 1 (by with_unfolding_all rfl)))) A1)))›,?_⟩
  rw [show start b5T [V.ref t0,v]=[some (V.ref t0),some (v)] from rfl]
  try simp only [a1e,tCB,a0j,a0r,a0n,b2C,a0k,Qa,a0e,a0t]
  refine ⟨⟨_,SqT.of ht⟩,?_⟩
  refine a3S (a3V (xs:=bd.map V.str)) (Qi (show (bd.map V.str).length≤1000 by simpa using hl) (by decide)) [some v] rfl (fun i v=>∃hi:i < bd.length,v=.bl (decide (bd[i]∈S))) (fun H' s=>SqT.of (s _ _ ht)) (fun i H' R hi s hR=>?_) (fun E1 H1 ys hEn s1 hE hl1 hv1=>?_)
  ·have hi':i < bd.length:=by simpa using hi
   have e2:((bd.map V.str)[i]?).getD .non=V.str bd[i]:=by rw [Qm,Qc hi'];rfl
   rw [e2]
   exact b1y (hD.same s) (a0K rfl) (a0K rfl) (hR _ _ (a0h.refl _) ⟨hi',rfl⟩)
  have eys:ys=(bd.map fun q=>decide (q∈S)).map V.bl:=by
   refine Uh fun i=>?_
   rw [Qm,Qm]
   by_cases hi:i < ys.length
   ·obtain ⟨hi',e⟩:=hv1 i _ (Qc hi)
    rw [Qc hi,e,Qc hi'];rfl
   ·rw [Yh (by omega),Yh (by rw [Qe] at hl1;omega)];rfl
  subst eys
  refine ⟨E1,_,rfl,SqL.of hE,?_⟩
  have:=q _ s1
  rw [Jg];exact this
theorem b7X (T:Txt K mg t):a0V P w K mg base CX0 1 t.f_z0n t.fd_z0n ["self","one","other"] (b7j t):=by
 refine T.F_z0n.ok b8V (fun vs H Q E h=>?_) (fun cdv A outer s H vs Q E hr h=>?_)
 ·obtain ⟨g,x,y,rs,pl,r1,r2,rfl,hG,h1,h2,o1,o2,q⟩:=h;rfl
 ·obtain ⟨g,x,y,rs,pl,r1,r2,rfl,hG,h1,h2,o1,o2,q⟩:=h
  refine ⟨_,‹A3 (A9 (F6 (a1A (a1Y hr) ‹C5 (A0 (C6 1) (A0 (C6 2) A1))› ‹C6 0›)))›,?_⟩
  rw [show start b8p [V.ref g,V.ref x,V.ref y]=[some (V.ref g),some (V.ref x),some (V.ref y)] from rfl]
  obtain ⟨dx,io,bh,pr,_,_,kps,hg1,_,_,_,_,hk,hp⟩:=id hG
  obtain ⟨_,e1,dx1,t1,a1,b1⟩:=h1
  cases e1
  obtain ⟨_,e2,dx2,t2,a2,b2⟩:=h2
  cases e2
  have C1:=a8S T o1.1
  have C2:=a8S T o2.1
  try simp only [a1e,a9q,a7o,a0j,a3E,a0k,Qb,Qa,a0r,a0e]
  refine ⟨x,_,dx1,_,_,rfl,a1,C1.cl,C1.nl,a4E _ _ _,y,_,dx2,_,_,rfl,a2,C2.cl,C2.nl,a4E _ _ _,by simp only [Qr,Xl];decide,fun c hc=>?_⟩
  obtain ⟨H1,e1,s1,h1⟩:=a1f hc (.tup [V.str r1.2.1,V.str r2.2.1]);rw [e1]
  refine ⟨g,_,dx,_,_,rfl,s1 _ _ hg1,T.cl_Ground,T.nf_Ground_pairs,b4x _ _ _,pr,_,rfl,a2K.t (k:=[Sum.inr r1.2.1,Sum.inr r2.2.1]) (s1 _ _ hk) h1,?_⟩
  have:=q _ s1
  rw [hp]
  by_cases z:(r1.2.1,r2.2.1)∈pl
  ·rw [if_pos z];rw [decide_eq_true z] at this;exact this
  ·rw [if_neg z];rw [decide_eq_false z] at this;exact this
theorem b4k (T:Txt K mg t):a0V P w K mg base CX0 2 t.f_z14 t.fd_z14 ["ground","rule","beaters"] (b3d t):=by
 refine T.F_z14.ok c1p (fun vs H Q E h=>?_) (fun cdv A outer s H vs Q E hr h=>?_)
 ·obtain ⟨g,x,L,rs,pl,r,zr,rfl,hG,hx,hro,hL,hz,hzl,q⟩:=h;rfl
 ·obtain ⟨g,x,L,rs,pl,r,zr,rfl,hG,hx,hro,hL,hz,hzl,q⟩:=h
  refine ⟨_,‹A3 (A9 (C8 (a1Z rfl) T.z_any a4j (A0 (B9 (B2 (a0b a8O) b6c ["beater","rule","ground"] [none,some 1,some 0]) (B5 2) (A8 0 (show Xk (["beater","rule","ground"]:List Str) by decide+kernel)) C9 (C7 2 T.cl_Ground T.me_Ground_beats (b7X T) T.b_z0n (A0 0 (A0 1 A1)))) A1)))›,?_⟩
  rw [show start b6c [V.ref g,V.ref x,V.ref L]=[some (V.ref g),some (V.ref x),some (V.ref L)] from rfl]
  try simp only [a1e,tCB,a0j,a0r,a0n,a1E,a0k,Qb,Qa,a0e,a0t]
  refine ⟨⟨_,SqL.of hL⟩,?_⟩
  refine a1X zr hL (by omega) hz [some (V.ref x),some (V.ref g)] rfl (fun _=>true) (fun p=>V.bl (decide ((p.2.2.1,r.2.1)∈pl))) (fun y r' H' R ho hr s' hR=>hR _ (a0h.refl _)) (fun y r' H' R ho hr s' hR=>?_) (fun B H5 hBn s5 hB5=>?_)
  ·obtain ⟨dx,io,bh,pr,_,_,_,hg1,_⟩:=id (hG.same s')
   try simp only [a2g,a0k,Qb,Qa,a0j,a0r,Qj,a0e]
   exact ⟨g,dx,_,rfl,hg1,a2D _ _ _ (by decide+kernel) (by decide+kernel) (by decide+kernel),g,y,x,rs,pl,r',r,rfl,hG.same s',⟨y,rfl,hr⟩,hx.same s',ho,hro,fun H'' s''=>hR _ s''⟩
  have hB5':H5 B=some (.lst ((zr.map fun p=>decide ((p.2.2.1,r.2.1)∈pl)).map V.bl)):=by
   rw [hB5,Va.mpr (fun _ _=>rfl),Xo];rfl
  refine ⟨B,_,rfl,SqL.of hB5',?_⟩
  have:=q _ s5
  rw [show ((zr.map fun p=>decide ((p.2.2.1,r.2.1)∈pl)).any id)=btn pl (zr.map (·.2)) r from by unfold btn;rw [Jg,Jg];rfl]
  exact this
theorem b4T (T:Txt K mg t):a0V P w K mg base CX0 3 t.f_z1g t.fd_z1g ["ground","sures","held","refused","q"] (b0p t a0Z):=by
 refine T.F_z1g.ok b4C (fun vs H Q E h=>?_) (fun cdv A outer s H vs Q E hr h=>?_)
 ·obtain ⟨g,v1,v2,v3,q0,rs,pl,S,U,D,rfl,hG,hO,hrl,h1,h2,h3,hql,q⟩:=h;rfl
 ·obtain ⟨g,v1,v2,v3,q0,rs,pl,S,U,D,rfl,hG,hO,hrl,h1,h2,h3,hql,q⟩:=h
  refine ⟨_,‹A2 (B3 (F9 (C2 (a1A (a1Y hr) ‹4› ‹1›)) (B1 a4Q 4 1 (by with_unfolding_all rfl))) (A3 (A9 B7)) B6) (A2 (A6 5 b4C.nd (B9 (B2 (a0b a7b) b3R ["rule","held"] [none,some 2]) (B5 (C7 0 T.cl_Ground T.me_Ground_speaking (b5e T) T.b_z05 (A0 4 A1))) (A8 0 (show Xk (["rule","held"]:List Str) by decide+kernel)) (C4 (C3 (A7 (a8m T) T.g_z12 T.F_z12.kp T.b_z12 .nil (A0 (D7 0) (A0 1 A1))))) 0)) (E3 (B3 (D5 (F1 (B1 (a1t hr.units) (C8 a1C T.z_len a1D (A0 5 A1)) A4 (a0p _)) (F3 (F9 (C2 (a1A (a1Y hr) ‹A7 (a4c T) T.g_z1f T.F_z1f.kp T.b_z1f .nil (A0 4 A1)› ‹1›)) (B1 a4Q (A7 (a4c T) T.g_z1f T.F_z1f.kp T.b_z1f .nil (A0 4 A1)) 1 (by with_unfolding_all rfl)))))) (A3 (A9 B7)) B6) (A3 (A9 (C8 (a2Q rfl) T.z_all a6w (A0 (B9 (B2 (a0b a7b) b3R ["rule","refused","ground","standing"] [none,some 3,some 0,some 5]) (B5 (C7 0 T.cl_Ground T.me_Ground_against (b5a T) T.b_z09 (A0 4 A1))) (A8 0 (show Xk (["rule","refused","ground","standing"]:List Str) by decide+kernel)) C9 (H2 (A7 (b4t T) T.g_z13 T.F_z13.kp T.b_z13 .nil (A0 (D7 0) (A0 1 A1))) (G8 (A7 (b4k T) T.g_z14 T.F_z14.kp T.b_z14 .nil (A0 2 (A0 0 (A0 3 A1))))))) A1))))))›,?_⟩
  rw [show start b3R [V.ref g,v1,v2,v3,V.str q0]=[some (V.ref g),some (v1),some (v2),some (v3),some (V.str q0),none] from rfl]
  obtain ⟨dx,io,bh,pr,_,_,_,hg1,_⟩:=id hG
  try simp only [a1q,a3m,a1e,tC,a1r,a1S,a0l,Qg,Qh,a0n,a1E,a2g,a0k,Qa,a0j,Qb,a0r,Qj,a0e]
  refine a3O h1 (a0K rfl) (a0K rfl) ?_
  try simp only [decide_eq_true_eq]
  refine a1K (fun c0=>?_) (fun c0=>?_)
  ·have:=q H (a0h.refl _)
   unfold a0Z at this
   rw [if_pos c0] at this
   exact this
  refine ⟨g,dx,_,rfl,hg1,a2D _ _ _ (by decide+kernel) (by decide+kernel) (by decide+kernel),g,q0,rs,pl,rfl,hG,hO,hrl,fun W zr H3 s3 hWn hW3 hz ez=>?_⟩
  have hzl:zr.length≤126:=by
   have:=congrArg Yp ez
   rw [Qe] at this
   rw [this];exact Qi (Qz _ _) (Qi (Qz _ _) hrl)
  try simp only [a0t]
  refine ⟨⟨_,SqL.of hW3⟩,?_⟩
  refine a1X zr hW3 (by omega) hz [some v2] rfl (fun r=>a2B r.2.2.2 U) (fun p=>p.1) (fun x r H' R ho hr s' hR=>?_) (fun x r H' R ho hr s' hR=>?_) (fun W2 H4 hW2n s4 hW4=>?_)
  ·have CF:=a8S T ho.1
   obtain ⟨dx',t0,g1,g2⟩:=hr
   try simp only [tB,a0x,a0j,a3E,a0k,Qa,Qb,a0r,Qj,a0e]
   refine ⟨x,_,dx',_,_,rfl,g1,CF.cl,CF.nb,a1O _ _ _,t0,v2,r.2.2.2,U,rfl,g2,by have:=ho.2.2.2.2.2;omega,h2.same (s3.trans s'),fun H'' s''=>?_⟩
   try simp only [a1p]
   exact hR _ s''
  ·try simp only [a0k,Qa,a0e]
   exact hR _ (a0h.refl _)
  have s04:=s3.trans s4
  have hz4:a9s t H4 (zr.filter fun p=>a2B p.2.2.2.2 U):=fun p hp=>(hz.same s4) p (Qp.mp hp).1
  have hzl4:(zr.filter fun p=>a2B p.2.2.2.2 U).length≤126:=Qi (Qz _ _) hzl
  have est:(zr.filter fun p=>a2B p.2.2.2.2 U).map (·.2)=a1i rs U q0:=by
   unfold a1i
   rw [←ez,Zm];rfl
  generalize (zr.filter fun p=>a2B p.2.2.2.2 U)=zs at hW4 hz4 hzl4 est
  have hneed:∀H',a0h H H'→(a1i rs U q0=[]∨a0v q0∈S)→Q (.bl false) H':=fun H' s' hc=>by
   have:=q H' s'
   unfold a0Z at this
   rw [if_neg c0,if_pos hc] at this
   exact this
  refine ⟨fun σ' H'=>σ'=[some (V.ref g),some v1,some v2,some v3,some (V.str q0),some (V.ref W2)]∧H'=H4∧¬(a1i rs U q0=[]∨a0v q0∈S),?_,?_⟩
  ·try simp only [a3m,tOr,a1l,tOp,tCB,a0j,a0k,Qb,Qa,a0r,tC,a1e,a1r,if_true,a0e]
   refine a2c (SqL.of hW4) ?_
   try simp only [a2I,a1p,decide_eq_true_eq]
   refine a1K (fun c1=>?_) (fun c1=>?_)
   ·refine hneed _ s04 (.inl ?_)
    rw [←est]
    have:zs.length=0:=by rw [Qe] at c1;omega
    rw [We.mp this];rfl
   refine a3O (h1.same s04) (x:=a0v q0) (fun R hR=>?_) (a0K rfl) ?_
   ·try simp only [a0x,a0j,a0k,Qb,Qa,a0r,Qj,a0e]
    exact ⟨q0,rfl,hql,hR⟩
   try simp only [decide_eq_true_eq]
   refine a1K (fun c2=>hneed _ s04 (.inr c2)) (fun c2=>⟨(by trivial),(by trivial),fun z=>z.elim (fun w=>c1 ?_) c2⟩)
   rw [←est] at w
   have:zs.length=0:=by have:=congrArg Yp w;rw [Qe] at this;exact this
   rw [Qe,this];rfl
  rintro σ' H5 ⟨rfl,rfl,hc⟩
  try simp only [a1e,tCB,a0j,a0r,a0n,a1E,a2g,a0k,Qa,Qb,Qj,a0e]
  refine ⟨g,dx,_,rfl,s04 _ _ hg1,a2D _ _ _ (by decide+kernel) (by decide+kernel) (by decide+kernel),g,q0,rs,pl,rfl,hG.same s04,hO,hql,fun B zb H6 s6 hBn hB6 hzb eb=>?_⟩
  have hbl:zb.length≤126:=by
   have:=congrArg Yp eb
   rw [Qe] at this
   rw [this];exact Qi (Qz _ _) hrl
  have s06:=s04.trans s6
  try simp only [a0t]
  refine ⟨⟨_,SqL.of hB6⟩,?_⟩
  refine a1X zb hB6 (by omega) hzb [some v3,some (V.ref g),some (V.ref W2)] rfl (fun _=>true) (fun p=>V.bl (a2s p.2.2.2.2 D || btn pl (zs.map (·.2)) p.2)) (fun x r H' R ho hr s' hR=>hR _ (a0h.refl _)) (fun x r H' R ho hr s' hR=>?_) (fun C H7 hCn s7 hC7=>?_)
  ·have CF:=a8S T ho.1
   have hru:b1a t H' (.ref x) r:=⟨x,rfl,hr⟩
   obtain ⟨dx',t0,g1,g2⟩:=hr
   try simp only [c5K,a0x,a0j,a3E,a0k,Qa,Qb,a0r,Qj,a0e]
   refine ⟨x,_,dx',_,_,rfl,g1,CF.cl,CF.nb,a1O _ _ _,t0,v3,r.2.2.2,D,rfl,g2,by have:=ho.2.2.2.2.2;omega,h3.same (s06.trans s'),fun H'' s''=>?_⟩
   have s48:=(s6.trans s').trans s''
   have hh:=fun H'' s''=>hR H'' s''
   try simp only [a1p]
   refine a1K (fun c5=>?_) (fun c5=>?_)
   ·have:=hR _ s''
    rw [c5,Bool.true_or] at this;exact this
   ·have c6:a2s r.2.2.2 D=false:=by simpa using c5
    rw [c6] at hR
    exact ⟨g,x,W2,rs,pl,r,zs,rfl,(hG.same s04).same s48,hru.same s'',ho,s48 _ _ hW4,hz4.same s48,hzl4,fun H9 s9=>hR _ (s''.trans s9)⟩
  have hC7':H7 C=some (.lst ((zb.map fun p=>(a2s p.2.2.2.2 D || btn pl (zs.map (·.2)) p.2)).map V.bl)):=by
   rw [hC7,Va.mpr (fun _ _=>rfl),Xo];rfl
  refine ⟨C,_,rfl,SqL.of hC7',?_⟩
  have:=q _ (s06.trans s7)
  unfold a0Z at this
  rw [if_neg c0,if_neg hc,←eb,Vz,←est] at this
  rw [Vz]
  exact this
theorem b5b (T:Txt K mg t):a0V P w K mg base CX0 3 t.f_z0w t.fd_z0w ["ground","sures","held","refused","q"] (b0p t a3U):=by
 refine T.F_z0w.ok b4r (fun vs H Q E h=>?_) (fun cdv A outer s H vs Q E hr h=>?_)
 ·obtain ⟨g,v1,v2,v3,q0,rs,pl,S,U,D,rfl,hG,hO,hrl,h1,h2,h3,hql,q⟩:=h;rfl
 ·obtain ⟨g,v1,v2,v3,q0,rs,pl,S,U,D,rfl,hG,hO,hrl,h1,h2,h3,hql,q⟩:=h
  refine ⟨_,‹A2 (B3 (F9 (C2 (a1A (a1Y hr) ‹4› ‹1›)) (B1 a4Q 4 1 (by with_unfolding_all rfl))) (A3 (A9 B7)) B6) (A2 (A6 5 b4r.nd (B9 (B2 (a0b a7r) b2G ["rule","refused"] [none,some 3]) (B5 (C7 0 T.cl_Ground T.me_Ground_speaking (b5e T) T.b_z05 (A0 4 A1))) (A8 0 (show Xk (["rule","refused"]:List Str) by decide+kernel)) (C4 (F5 (C3 (A7 (b4t T) T.g_z13 T.F_z13.kp T.b_z13 .nil (A0 (D7 0) (A0 1 A1)))))) 0)) (E3 (B3 (D5 (F1 (B1 (a1t hr.units) (C8 a1C T.z_len a1D (A0 5 A1)) A4 (a0p _)) (F3 (F9 (C2 (a1A (a1Y hr) ‹A7 (a4c T) T.g_z1f T.F_z1f.kp T.b_z1f .nil (A0 4 A1)› ‹1›)) (B1 a4Q (A7 (a4c T) T.g_z1f T.F_z1f.kp T.b_z1f .nil (A0 4 A1)) 1 (by with_unfolding_all rfl)))))) (A3 (A9 B7)) B6) (A3 (A9 (C8 (a1Z rfl) T.z_any a4j (A0 (B9 (B2 (a0b a7r) b2G ["rule","held","ground","unfallen"] [none,some 2,some 0,some 5]) (B5 (C7 0 T.cl_Ground T.me_Ground_against (b5a T) T.b_z09 (A0 4 A1))) (A8 0 (show Xk (["rule","held","ground","unfallen"]:List Str) by decide+kernel)) C9 (H3 (A7 (a8m T) T.g_z12 T.F_z12.kp T.b_z12 .nil (A0 (D7 0) (A0 1 A1))) (G8 (H4 (A7 (b4k T) T.g_z14 T.F_z14.kp T.b_z14 .nil (A0 2 (A0 0 (A0 3 A1)))))))) A1))))))›,?_⟩
  rw [show start b2G [V.ref g,v1,v2,v3,V.str q0]=[some (V.ref g),some (v1),some (v2),some (v3),some (V.str q0),none] from rfl]
  obtain ⟨dx,io,bh,pr,_,_,_,hg1,_⟩:=id hG
  try simp only [a1q,a3m,a1e,tC,a1r,a1S,a0l,Qg,Qh,a0n,a1E,a2g,a0k,Qa,a0j,Qb,a0r,Qj,a0e]
  refine a3O h1 (a0K rfl) (a0K rfl) ?_
  try simp only [decide_eq_true_eq]
  refine a1K (fun c0=>?_) (fun c0=>?_)
  ·have:=q H (a0h.refl _)
   unfold a3U at this
   rw [if_pos c0] at this
   exact this
  refine ⟨g,dx,_,rfl,hg1,a2D _ _ _ (by decide+kernel) (by decide+kernel) (by decide+kernel),g,q0,rs,pl,rfl,hG,hO,hrl,fun W zr H3 s3 hWn hW3 hz ez=>?_⟩
  have hzl:zr.length≤126:=by
   have:=congrArg Yp ez
   rw [Qe] at this
   rw [this];exact Qi (Qz _ _) (Qi (Qz _ _) hrl)
  try simp only [a0t]
  refine ⟨⟨_,SqL.of hW3⟩,?_⟩
  refine a1X zr hW3 (by omega) hz [some v3] rfl (fun r=>!a2s r.2.2.2 D) (fun p=>p.1) (fun x r H' R ho hr s' hR=>?_) (fun x r H' R ho hr s' hR=>?_) (fun W2 H4 hW2n s4 hW4=>?_)
  ·have CF:=a8S T ho.1
   obtain ⟨dx',t0,g1,g2⟩:=hr
   try simp only [b7F,tB,a0x,a0j,a3E,a0k,Qa,Qb,a0r,Qj,a0e]
   refine ⟨x,_,dx',_,_,rfl,g1,CF.cl,CF.nb,a1O _ _ _,t0,v3,r.2.2.2,D,rfl,g2,by have:=ho.2.2.2.2.2;omega,h3.same (s3.trans s'),fun H'' s''=>?_⟩
   try simp only [a1p]
   exact hR _ s''
  ·try simp only [a0k,Qa,a0e]
   exact hR _ (a0h.refl _)
  have s04:=s3.trans s4
  have hz4:a9s t H4 (zr.filter fun p=>!a2s p.2.2.2.2 D):=fun p hp=>(hz.same s4) p (Qp.mp hp).1
  have hzl4:(zr.filter fun p=>!a2s p.2.2.2.2 D).length≤126:=Qi (Qz _ _) hzl
  have est:(zr.filter fun p=>!a2s p.2.2.2.2 D).map (·.2)=unf rs D q0:=by
   unfold unf
   rw [←ez,Zm];rfl
  generalize (zr.filter fun p=>!a2s p.2.2.2.2 D)=zs at hW4 hz4 hzl4 est
  have hneed:∀H',a0h H H'→(unf rs D q0=[]∨a0v q0∈S)→Q (.bl true) H':=fun H' s' hc=>by
   have:=q H' s'
   unfold a3U at this
   rw [if_neg c0,if_pos hc] at this
   exact this
  refine ⟨fun σ' H'=>σ'=[some (V.ref g),some v1,some v2,some v3,some (V.str q0),some (V.ref W2)]∧H'=H4∧¬(unf rs D q0=[]∨a0v q0∈S),?_,?_⟩
  ·try simp only [a3m,tOr,a1l,tOp,tCB,a0j,a0k,Qb,Qa,a0r,tC,a1e,a1r,if_true,a0e]
   refine a2c (SqL.of hW4) ?_
   try simp only [a2I,a1p,decide_eq_true_eq]
   refine a1K (fun c1=>?_) (fun c1=>?_)
   ·refine hneed _ s04 (.inl ?_)
    rw [←est]
    have:zs.length=0:=by rw [Qe] at c1;omega
    rw [We.mp this];rfl
   refine a3O (h1.same s04) (x:=a0v q0) (fun R hR=>?_) (a0K rfl) ?_
   ·try simp only [a0x,a0j,a0k,Qb,Qa,a0r,Qj,a0e]
    exact ⟨q0,rfl,hql,hR⟩
   try simp only [decide_eq_true_eq]
   refine a1K (fun c2=>hneed _ s04 (.inr c2)) (fun c2=>⟨(by trivial),(by trivial),fun z=>z.elim (fun w=>c1 ?_) c2⟩)
   rw [←est] at w
   have:zs.length=0:=by have:=congrArg Yp w;rw [Qe] at this;exact this
   rw [Qe,this];rfl
  rintro σ' H5 ⟨rfl,rfl,hc⟩
  try simp only [a1e,tCB,a0j,a0r,a0n,a1E,a2g,a0k,Qa,Qb,Qj,a0e]
  refine ⟨g,dx,_,rfl,s04 _ _ hg1,a2D _ _ _ (by decide+kernel) (by decide+kernel) (by decide+kernel),g,q0,rs,pl,rfl,hG.same s04,hO,hql,fun B zb H6 s6 hBn hB6 hzb eb=>?_⟩
  have hbl:zb.length≤126:=by
   have:=congrArg Yp eb
   rw [Qe] at this
   rw [this];exact Qi (Qz _ _) hrl
  have s06:=s04.trans s6
  try simp only [a0t]
  refine ⟨⟨_,SqL.of hB6⟩,?_⟩
  refine a1X zb hB6 (by omega) hzb [some v2,some (V.ref g),some (V.ref W2)] rfl (fun _=>true) (fun p=>V.bl (a2B p.2.2.2.2 U && !btn pl (zs.map (·.2)) p.2)) (fun x r H' R ho hr s' hR=>hR _ (a0h.refl _)) (fun x r H' R ho hr s' hR=>?_) (fun C H7 hCn s7 hC7=>?_)
  ·have CF:=a8S T ho.1
   have hru:b1a t H' (.ref x) r:=⟨x,rfl,hr⟩
   obtain ⟨dx',t0,g1,g2⟩:=hr
   try simp only [b9E,a0x,a0j,a3E,a0k,Qa,Qb,a0r,Qj,c0f,a0e]
   refine ⟨x,_,dx',_,_,rfl,g1,CF.cl,CF.nb,a1O _ _ _,t0,v2,r.2.2.2,U,rfl,g2,by have:=ho.2.2.2.2.2;omega,h2.same (s06.trans s'),fun H'' s''=>?_⟩
   have s48:=(s6.trans s').trans s''
   try simp only [a1p]
   refine a1K (fun c5=>?_) (fun c5=>?_)
   ·rw [c5,Jw] at hR
    refine ⟨g,x,W2,rs,pl,r,zs,rfl,(hG.same s04).same s48,hru.same s'',ho,s48 _ _ hW4,hz4.same s48,hzl4,fun H9 s9=>?_⟩
    try simp only [a1p]
    exact hR _ (s''.trans s9)
   ·have c6:a2B r.2.2.2 U=false:=by simpa using c5
    have:=hR _ s''
    rw [c6,Zt] at this
    exact this
  have hC7':H7 C=some (.lst ((zb.map fun p=>(a2B p.2.2.2.2 U && !btn pl (zs.map (·.2)) p.2)).map V.bl)):=by
   rw [hC7,Va.mpr (fun _ _=>rfl),Xo];rfl
  refine ⟨C,_,rfl,SqL.of hC7',?_⟩
  have:=q _ (s06.trans s7)
  unfold a3U at this
  rw [if_neg c0,if_neg hc,←eb,Jg,←est] at this
  rw [Jg]
  exact this
theorem b5o (T:Txt K mg t):a0V P w K mg base CX0 4 t.f_z15 t.fd_z15 ["ground","sures","held","refused","asked"] (b6q K t):=by
 refine T.F_z15.ok a7I (fun vs H Q E h=>?_) (fun cdv A outer s H vs Q E hr h=>?_)
 ·obtain ⟨g,v1,v2,v3,va,rs,pl,S,U,D,ask,rfl,hoff,hO,hrl,hA,hnd,hal,hql,q⟩:=h;rfl
 ·obtain ⟨g,v1,v2,v3,va,rs,pl,S,U,D,ask,rfl,hoff,hO,hrl,hA,hnd,hal,hql,q⟩:=h
  obtain ⟨_,k_HELD⟩:=T.k_HELD
  obtain ⟨_,k_REFUSED⟩:=T.k_REFUSED
  refine ⟨_,‹A2 (A6 5 a7I.nd D0) (A2 (G7 (F8 (C0 (E2 4) (A8 6 a7I.nd) (A3 (B3 (C3 (A7 (b4T T) T.g_z1g T.F_z1g.kp T.b_z1g .nil (A0 0 (A0 1 (A0 2 (A0 3 (A0 6 A1))))))) (A3 (C1 5 6 (D2 (.str "held") k_HELD ⟨_,rfl⟩))) (A3 (B3 (C3 (A7 (b5b T) T.g_z0w T.F_z0w.kp T.b_z0w .nil (A0 0 (A0 1 (A0 2 (A0 3 (A0 6 A1))))))) (A3 (C1 5 6 (D2 (.str "refused") k_REFUSED ⟨_,rfl⟩))) B6)))))) (C0 (B5 4) (A8 6 a7I.nd) (A3 (B3 (C3 (A7 (b4T T) T.g_z1g T.F_z1g.kp T.b_z1g .nil (A0 0 (A0 1 (A0 2 (A0 3 (A0 6 A1))))))) (A3 (C1 5 6 (D2 (.str "held") k_HELD ⟨_,rfl⟩))) (A3 (B3 (C3 (A7 (b5b T) T.g_z0w T.F_z0w.kp T.b_z0w .nil (A0 0 (A0 1 (A0 2 (A0 3 (A0 6 A1))))))) (A3 (C1 5 6 (D2 (.str "refused") k_REFUSED ⟨_,rfl⟩))) B6)))))) (A3 (A9 5)))›,?_⟩
  rw [show start b9Y [V.ref g,v1,v2,v3,va]=[some (V.ref g),some (v1),some (v2),some (v3),some (va),none,none] from rfl]
  try simp only [a1q,a1S,a1L,a0l,Qg,Qh]
  intro W hW
  obtain ⟨H1,e1,s1,h1⟩:=a1f hW (.dK []);rw [e1]
  have hvW:va≠.ref W:=fun z=>by
   obtain ⟨b,o,e,hb⟩:=hA.at
   rw [z] at e;cases e;rw [hW] at hb;cases hb
  refine a4O (fun H0 i σ' H'=>∃x,σ'=[some (V.ref g),some v1,some v2,some v3,some va,some (V.ref W),x]∧a3K H0 W H'∧H' W=some (.dK (wv (wds rs pl S U D (ask.take i))))) (hA.same s1) (a0K rfl) (fun H0 h0=>⟨_,rfl,a3K.refl _ _,h0.keep _ _ h1 hvW⟩) ?_ ?_ ?_
  ·rintro H0 i σ' H' b o ⟨x,rfl,k,_⟩ z e
   exact k _ _ e fun w=>hvW (by rw [z,w])
  ·rintro H0 i hi σ' H' rt bk h0 ⟨x,rfl,k,hW'⟩
   have off:∀H2,a0h H' H2→Off H va H2:=fun H2 s2 b o e n=>s2 _ _ (k _ _ (h0.keep _ _ (s1 _ _ e) n) (a0c e hW))
   have hiq:=hql _ (Xd hi)
   have hlen:(wds rs pl S U D (ask.take i)).length≤1000:=by
    have:=(a5J rs pl S U D (ask.take i)).length_le
    rw [Qe,Yo] at this;omega
   have hnew:ask[i]∉(wds rs pl S U D (ask.take i)).map (·.1):=fun z=>by
    have:=b3g z
    obtain ⟨j,hj,e⟩:=Zg this
    rw [List.getElem_take] at e
    rw [Yo] at hj
    have:=(Jd (h₀:=by omega) (h₁:=hi) hnd).mp e
    omega
   have hst:wds rs pl S U D (ask.take (i+1))=wds rs pl S U D (ask.take i)++((stt rs pl S U D ask[i]).map fun w=>(ask[i],w)).toList:=by rw [Qw hi,b2O]
   generalize wds rs pl S U D (ask.take i)=F at hW' hlen hnew hst
   generalize ask[i]=q0 at hiq hnew hst
   have hend:∀(b:Bool) (H2:Hp),a0h H' H2→stt rs pl S U D q0=some b→a4u H2 W (.str q0) (V.str (wd b)) (upd H2 W (.dK (wv (F++[(q0,b)]))))∧(a3K H0 W (upd H2 W (.dK (wv (F++[(q0,b)]))))∧upd H2 W (.dK (wv (F++[(q0,b)]))) W=some (.dK (wv (wds rs pl S U D (ask.take (i+1)))))):=fun b H2 s2 e=>
    ⟨c6T (s2 _ _ hW') (by omega) hnew b,fun c o e n=>by rw [a0a n];exact s2 _ _ (k _ _ e n),by rw [a0d,hst,e];rfl⟩
   obtain ⟨hG,k1,k2,k3⟩:=hoff H' (off H' (a0h.refl _))
   try simp only [a0l,a3m,tB,a0x,a0j,a0k,Qg,Qh,Qa,Qb,a0r,Qj,a3l,tC,a0e,a1r]
   refine ⟨g,v1,v2,v3,q0,rs,pl,S,U,D,rfl,hG,hO,hrl,k1,k2,k3,hiq,fun H2 s2=>?_⟩
   try simp only [a1p]
   refine a1K (fun c1=>?_) (fun c1=>?_)
   ·obtain ⟨a1,a2,a3⟩:=hend true H2 s2 (by unfold stt;rw [if_pos c1])
    exact ⟨W,_,rfl,a1,_,rfl,a2,a3⟩
   obtain ⟨hG,k1,k2,k3⟩:=hoff H2 (off H2 s2)
   refine ⟨g,v1,v2,v3,q0,rs,pl,S,U,D,rfl,hG,hO,hrl,k1,k2,k3,hiq,fun H3 s3=>?_⟩
   try simp only [a1p]
   refine a1K (fun c2=>?_) (fun c2=>?_)
   ·obtain ⟨a1,a2,a3⟩:=hend false H3 (s2.trans s3) (by unfold stt;rw [if_neg c1,if_pos c2])
    exact ⟨W,_,rfl,a1,_,rfl,a2,a3⟩
   ·refine ⟨_,rfl,fun c o e n=>s3 _ _ (s2 _ _ (k _ _ e n)),?_⟩
    rw [hst,show stt rs pl S U D q0=none from by unfold stt;rw [if_neg c1,if_neg c2]]
    show _=some (HO.dK (wv (F++[])))
    rw [Qj];exact s3 _ _ (s2 _ _ hW')
  ·rintro H0 σ' H' H'' h0 ⟨x,rfl,k,hW'⟩ k1 k2
   rw [Xs] at hW'
   try simp only [a1e,a0k,Qb,Qa,a0e]
   refine q W H'' (fun b o e=>?_) hW (k1 _ _ hW' hvW)
   by_cases z:va=.ref b
   ·exact k2 b o z (s1 _ _ e)
   ·exact k1 b o (k b o (h0.keep _ _ (s1 _ _ e) z) (a0c e hW)) z
theorem c1v (T:Txt K mg t):a0V P w K mg base CX0 5 t.f_z0p t.fd_z0p ["ground","some","sures","known"] (b3x K t):=by
 refine T.F_z0p.ok a2h (fun vs H Q E h=>?_) (fun cdv A outer s H vs Q E hr h=>?_)
 ·obtain ⟨g,v1,v2,kd,rs,pl,sm,S,kn,rfl,hG,hO,hrl,h1,h2,hkd,hkn,hsl,hSl,hkl,hsm,q⟩:=h;rfl
 ·obtain ⟨g,v1,v2,kd,rs,pl,sm,S,kn,rfl,hG,hO,hrl,h1,h2,hkd,hkn,hsl,hSl,hkl,hsm,q⟩:=h
  obtain ⟨_,k_HELD⟩:=T.k_HELD
  obtain ⟨_,k_REFUSED⟩:=T.k_REFUSED
  refine ⟨_,‹A2 (A6 4 a2h.nd (A7 (a2Y T) T.g_z1y T.F_z1y.kp T.b_z1y .nil (A0 2 A1))) (A2 (A6 5 a2h.nd (A7 (a2Y T) T.g_z1y T.F_z1y.kp T.b_z1y .nil (A0 (G0 (B9 (B2 (a0b a4v) a6Y ["q","known"] [none,some 3]) (E2 3) (A8 0 (show Xk (["q","known"]:List Str) by decide+kernel)) (C4 (B1 (a8o hr.units (K:=K) rfl) (E4 1 0) (D2 (.str "held") k_HELD ⟨_,rfl⟩) (a0p _))) 0)) A1))) (A2 (A6 6 a2h.nd (A7 (a2Y T) T.g_z1y T.F_z1y.kp T.b_z1y .nil (A0 (G0 (B9 (B2 (a0b a4v) a6Y ["q","known"] [none,some 3]) (E2 3) (A8 0 (show Xk (["q","known"]:List Str) by decide+kernel)) (C4 (B1 (a8o hr.units (K:=K) rfl) (E4 1 0) (D2 (.str "refused") k_REFUSED ⟨_,rfl⟩) (a0p _))) 0)) A1))) (A2 (A6 7 a2h.nd (A7 (b8g T) T.g_z03 T.F_z03.kp T.b_z03 .nil (A0 0 A1))) (A2 (A6 8 a2h.nd (A7 (a2Y T) T.g_z1y T.F_z1y.kp T.b_z1y .nil (A0 1 A1))) (A2 (A6 9 a2h.nd D0) (A2 (A6 10 a2h.nd A4) (A2 (A6 11 a2h.nd (A7 (b5o T) T.g_z15 T.F_z15.kp T.b_z15 .nil (A0 0 (A0 4 (A0 5 (A0 6 (A0 8 A1))))))) (A2 (G1 (B1 b6Q (C8 a1C T.z_len a1D (A0 11 A1)) A4 (a0p _)) (A2 (F8 (C0 (E2 11) (A8 12 a2h.nd) (A3 (C1 9 12 (C5 (A0 (E4 11 12) (A0 10 A1))))))) (A2 (D4 (D1 Jj Ud Wb a4T 5 (A0 (A7 (a2Y T) T.g_z1y T.F_z1y.kp T.b_z1y .nil (A0 (G0 (B9 (B2 (a0b a4v) a6Y ["q","came"] [none,some 11]) (E2 11) (A8 0 (show Xk (["q","came"]:List Str) by decide+kernel)) (C4 (B1 (a8o hr.units (K:=K) rfl) (E4 1 0) (D2 (.str "held") k_HELD ⟨_,rfl⟩) (a0p _))) 0)) A1)) A1))) (A2 (D4 (D1 Jj Ud Wb a4T 6 (A0 (A7 (a2Y T) T.g_z1y T.F_z1y.kp T.b_z1y .nil (A0 (G0 (B9 (B2 (a0b a4v) a6Y ["q","came"] [none,some 11]) (E2 11) (A8 0 (show Xk (["q","came"]:List Str) by decide+kernel)) (C4 (B1 (a8o hr.units (K:=K) rfl) (E4 1 0) (D2 (.str "refused") k_REFUSED ⟨_,rfl⟩) (a0p _))) 0)) A1)) A1))) (A2 (A6 10 a2h.nd (A5 a0q 10 A4)) (A2 (H5 (D8 13 (B2 (a0b a4v) a6Y ["q","wanted","told"] [none,some 8,some 9]) (E2 (A7 (b8w T) T.g_z1n T.F_z1n.kp T.b_z1n .nil (A0 7 (A0 11 A1)))) (A8 0 (show Xk (["q","wanted","told"]:List Str) by decide+kernel)) (C4 (D5 (F2 (C2 (a1A (a1Y hr) ‹0› ‹1›)) (F4 (C2 ‹E0 0 2›))))) 0 a2h.nd)) (A3 (A6 11 a2h.nd (A7 (b5o T) T.g_z15 T.F_z15.kp T.b_z15 .nil (A0 0 (A0 4 (A0 5 (A0 6 (A0 13 A1)))))))))))))) (A3 (A9 9))))))))))›,?_⟩
  rw [show start a6Y [V.ref g,v1,v2,V.ref kd]=[some (V.ref g),some (v1),some (v2),some (V.ref kd),none,none,none,none,none,none,none,none,none,none] from rfl]
  try simp only [a1q,a1S,a0x,a0j,a0k,Qb,Qa,a0r,Qj,a0l,Qg,Qh,a1L,tC,a0n,b1F,a0e]
  refine ⟨v2,S,rfl,h2,by omega,fun Su H1 s1 hSn hSu=>?_⟩
  have f1:=a5A kn true
  have f2:=a5A kn false
  try simp only []
  refine a3c (s1 _ _ hkd) (a3q kn) (by rw [Qe];omega) (a0K rfl) [some (V.ref kd)] rfl (fun q=>decide ((q,true)∈kn)) (fun q0 H0 H' R hq off hR s hR'=>a2Z (b:=true) hkn hq hR hR') fun L1 H2 hL1 s2 hL2=>?_
  refine ⟨_,_,rfl,.inl ⟨L1,rfl,hL2⟩,by omega,fun He H3 s3 hHen hHe=>?_⟩
  have s13:=s2.trans s3
  try simp only []
  refine a3c ((s1.trans s13) _ _ hkd) (a3q kn) (by rw [Qe];omega) (a0K rfl) [some (V.ref kd)] rfl (fun q=>decide ((q,false)∈kn)) (fun q0 H0 H' R hq off hR s hR'=>a2Z (b:=false) hkn hq hR hR') fun L2 H4 hL2n s4 hL4=>?_
  refine ⟨_,_,rfl,.inl ⟨L2,rfl,hL4⟩,by omega,fun Re H5 s5 hRen hRe=>?_⟩
  have s35:=s4.trans s5
  have s05:=(s1.trans s13).trans s35
  try simp only []
  refine ⟨g,rs,pl,rfl,hG.same s05,hO,hrl,fun Hd H6 s6 hHdn hHd=>?_⟩
  have s06:=s05.trans s6
  have hWl:(sm.foldl a0S []).length≤80:=Qi (a0Q sm []) (by simpa using hsl)
  have hWn:(sm.foldl a0S []).Nodup:=a1x sm (by simp)
  have hWm:∀x,x∈sm.foldl a0S []↔x∈sm:=fun x=>by rw [a1R];exact ⟨fun h=>h.elim (fun z=>(by cases z)) id,.inr⟩
  try simp only []
  refine ⟨v1,sm,rfl,h1.same s06,by omega,fun Wa H7 s7 hWan hWa=>?_⟩
  generalize sm.foldl a0S []=W at hWl hWn hWm hWa q
  try skip
  intro To hTo
  obtain ⟨H8,e8,s8,hTo8⟩:=a1f hTo (.dK []);rw [e8]
  have s68:=s7.trans s8
  have s08:=s06.trans s68
  have hHe6:=s6 _ _ (s35 _ _ hHe)
  have hRe6:=s6 _ _ hRe
  have hSu6:=s6 _ _ (s35 _ _ (s13 _ _ hSu))
  have aSu:∀H',a0h H6 H'→a1s H' (.ref Su) S:=fun H' s=>(a8Z (s _ _ hSu6) fun x=>by rw [a1R];exact ⟨fun h=>h.elim (fun z=>(by cases z)) id,.inr⟩).some
  have aHe:∀x,x∈((kn.map (·.1)).filter fun q=>decide ((q,true)∈kn)).foldl a0S []↔x∈ups kn:=fun x=>by rw [a5q,a2y]
  have aRe:∀x,x∈((kn.map (·.1)).filter fun q=>decide ((q,false)∈kn)).foldl a0S []↔x∈a1T kn:=fun x=>by rw [a5q,a1B]
  have lHe:=a0Q ((kn.map (·.1)).filter fun q=>decide ((q,true)∈kn)) []
  have lRe:=a0Q ((kn.map (·.1)).filter fun q=>decide ((q,false)∈kn)) []
  refine ⟨g,_,_,_,_,rs,pl,S,ups kn,a1T kn,W,rfl,fun H' off=>?_,hO,hrl,.inr ⟨Wa,_,rfl,s8 _ _ hWa,a5x _⟩,hWn,by omega,fun q0 hq0=>(hsm q0 ((hWm q0).mp hq0)).1,fun Cm H9 s9 hCmn hCm=>?_⟩
  ·have s6':a0h H6 H':=off.same s68 hWan
   exact ⟨hG.same (s06.trans s6'),aSu _ s6',(a8Z (s6' _ _ hHe6) aHe).some,(a8Z (s6' _ _ hRe6) aRe).some⟩
  have hHe8:=s68 _ _ hHe6
  have hRe8:=s68 _ _ hRe6
  have nST:Su≠To:=fun z=>by have:=s7 _ _ hSu6;rw [z,hTo] at this;cases this
  have nSH:Su≠He:=fun z=>by rw [←z,s2 _ _ hSu] at hHen;cases hHen
  have nSR:Su≠Re:=fun z=>by rw [←z,s4 _ _ (s13 _ _ hSu)] at hRen;cases hRen
  have nHT:He≠To:=fun z=>by have:=s7 _ _ hHe6;rw [z,hTo] at this;cases this
  have nRT:Re≠To:=fun z=>by have:=s7 _ _ hRe6;rw [z,hTo] at this;cases this
  have nHR:He≠Re:=fun z=>by rw [←z,s4 _ _ hHe] at hRen;cases hRen
  have hHd6:∃o,H6 Hd=some o:=let ⟨k,a,_⟩:=hHd;⟨_,a⟩
  have nDT:Hd≠To:=fun z=>by obtain ⟨o,e⟩:=hHd6;have:=s7 _ _ e;rw [z,hTo] at this;cases this
  have nDH:Hd≠He:=fun z=>by rw [z,s35 _ _ hHe] at hHdn;cases hHdn
  have nDR:Hd≠Re:=fun z=>by rw [z,hRe] at hHdn;cases hHdn
  have nWT:Wa≠To:=fun z=>by rw [z,hTo] at hWa;cases hWa
  have nWH:Wa≠He:=fun z=>by rw [z,hHe6] at hWan;cases hWan
  have nWR:Wa≠Re:=fun z=>by rw [z,hRe6] at hWan;cases hWan
  try simp only []
  obtain ⟨K3,eK3⟩:∃K3:Hp→Prop,K3=fun H'=>∀b o,H8 b=some o→b≠To→b≠He→b≠Re→H' b=some o:=⟨_,rfl⟩
  have k3of:∀H',K3 H'→∀b o,H8 b=some o→b≠To→b≠He→b≠Re→H' b=some o:=fun H' h=>by rw [eK3] at h;exact h
  have k3to:∀H',(∀b o,H8 b=some o→b≠To→b≠He→b≠Re→H' b=some o)→K3 H':=fun H' h=>by rw [eK3];exact h
  have k3H:∀H',K3 H'→a0h H H':=fun H' k b o e=>k3of _ k b o (s08 _ _ e) (a0c e (none_of s06 (none_of s7 hTo))) (a0c e (none_of (s1.trans s2) hHen)) (a0c e (none_of ((s1.trans s13).trans s4) hRen))
  have k3D:∀H',K3 H'→a4h H' Hd rs:=fun H' k=>(hHd.same s68).keep fun b o e hb=>by
   rcases hb with rfl | ⟨xs,rfl⟩
   ·exact k3of _ k _ _ e nDT nDH nDR
   ·exact k3of _ k _ _ e (a0G e hTo8 (by intro z;cases z)) (a0G e hHe8 (by intro z;cases z)) (a0G e hRe8 (by intro z;cases z))
  have k3S:∀H',K3 H'→a1s H' (.ref Su) S:=fun H' k=>(a8Z (k3of _ k _ _ (s68 _ _ hSu6) nST nSH nSR) fun x=>by rw [a1R];exact ⟨fun h=>h.elim (fun z=>(by cases z)) id,.inr⟩).some
  refine a5j (fun m σ H'=>∃(n:Nat) (T:List Tr) (F:List (Str×Bool)) (cm:Addr) (x12 x13:Option V) (kH kR:List (Key×V)),σ=[some (V.ref g),some v1,some v2,some (V.ref kd),some (V.ref Su),some (V.ref He),some (V.ref Re),some (V.ref Hd),some (V.ref Wa),some (V.ref To),some (V.int ((n:Int)+1)),some (V.ref cm),x12,x13]∧K3 H'∧TAt H' To T∧(T.map (·.1)).Nodup∧IsT rs pl S W (ups kn) (a1T kn) n T∧H' He=some (.dK kH)∧(∀x:Str,(a0N kH (Sum.inr x:Key)).isSome=decide (x∈(rds rs pl S W (ups kn) (a1T kn) n).U))∧kH.length≤100+T.length∧H' Re=some (.dK kR)∧(∀x:Str,(a0N kR (Sum.inr x:Key)).isSome=decide (x∈(rds rs pl S W (ups kn) (a1T kn) n).D))∧kR.length≤100+T.length∧H' cm=some (.dK (wv F))∧(cm≠To∧cm≠He∧cm≠Re∧cm≠Hd)∧(F.map (·.1)).Nodup∧IsF rs pl S W (ups kn) (a1T kn) n F∧m=W.length - T.length)
   W.length ⟨0,[],_,Cm,_,_,_,_,rfl,k3to _ fun b o e _ _ _=>s9 _ _ e,⟨[],rfl,s9 _ _ hTo8,fun _ h=>by cases h⟩,Jr,fun _=>Iff.rfl,s9 _ _ hHe8,(fun x=>by obtain ⟨k,e,h⟩:=a8Z (H:=H8) hHe8 aHe;rw [hHe8] at e;cases e;exact h x),(by unfold bv;rw [Qe];simp at lHe;omega),s9 _ _ hRe8,(fun x=>by obtain ⟨k,e,h⟩:=a8Z (H:=H8) hRe8 aRe;rw [hRe8] at e;cases e;exact h x),(by unfold bv;rw [Qe];simp at lRe;omega),hCm,⟨fun z=>(by rw [z,hTo8] at hCmn;cases hCmn),fun z=>(by rw [z,hHe8] at hCmn;cases hCmn),fun z=>(by rw [z,hRe8] at hCmn;cases hCmn),fun z=>(by obtain ⟨o,e⟩:=hHd6;rw [z,s68 _ _ e] at hCmn;cases hCmn)⟩,hWn.sublist (a5J _ _ _ _ _ _),b3k,rfl⟩ ?_
  clear hCm hCmn
  rintro m σ H10 ⟨n,T,F,cm,x12,x13,kH,kR,rfl,kk,hT,hTn,hIT,hH,hHm,hHl,hR,hRm,hRl,hC,⟨nCT,nCH,nCR,nCD⟩,hFn,hIF,hm⟩
  have hkey:∀x,x∈(T++F.map fun p=>(p.1,p.2,n+1)).map (·.1)→x∈W:=fun x hx=>by
   rw [a3p (a7G hIT hIF)] at hx
   exact a2p _ _ hx
  have hnew:∀x∈F.map (·.1),x∉T.map (·.1):=fun x hx=>by
   obtain ⟨⟨y,w⟩,hy,rfl⟩:=Qf.mp hx
   have:=(a0o.mp ((hIF _).mp hy)).2.1
   rw [a3p hIT];exact this
  have hnd:((T++F.map fun p=>(p.1,p.2,n+1)).map (·.1)).Nodup:=by
   rw [Xp,Zy]
   refine ⟨hTn,by rw [Xo];exact hFn,fun x hx y hy z=>hnew y (by rw [Xo] at hy;exact hy) (z ▸ hx)⟩
  have hTF:T.length+F.length≤W.length:=by
   have:=a2a hnd hkey
   simpa using this
  try simp only [a1l,tOp,tCB,a0j,a0k,Qb,Qa,a0r,tC,a1q,a1e,a0e]
  refine .inr ⟨cm,_,rfl,hC,?_⟩
  rw [show (wv F).length=F.length from by unfold wv;rw [Qe]]
  try simp only [a5b,a1p,decide_eq_true_eq]
  refine a1K (fun c1=>?_) (fun c1=>?_)
  ·refine ⟨fun σ H'=>∃m',m' < m∧∃(n:Nat) (T:List Tr) (F:List (Str×Bool)) (cm:Addr) (x12 x13:Option V) (kH kR:List (Key×V)),σ=[some (V.ref g),some v1,some v2,some (V.ref kd),some (V.ref Su),some (V.ref He),some (V.ref Re),some (V.ref Hd),some (V.ref Wa),some (V.ref To),some (V.int ((n:Int)+1)),some (V.ref cm),x12,x13]∧K3 H'∧TAt H' To T∧(T.map (·.1)).Nodup∧IsT rs pl S W (ups kn) (a1T kn) n T∧H' He=some (.dK kH)∧(∀x:Str,(a0N kH (Sum.inr x:Key)).isSome=decide (x∈(rds rs pl S W (ups kn) (a1T kn) n).U))∧kH.length≤100+T.length∧H' Re=some (.dK kR)∧(∀x:Str,(a0N kR (Sum.inr x:Key)).isSome=decide (x∈(rds rs pl S W (ups kn) (a1T kn) n).D))∧kR.length≤100+T.length∧H' cm=some (.dK (wv F))∧(cm≠To∧cm≠He∧cm≠Re∧cm≠Hd)∧(F.map (·.1)).Nodup∧IsF rs pl S W (ups kn) (a1T kn) n F∧m'=W.length - T.length,fun _ _ h=>h,?_⟩
   refine b1Y (kn:=F.map (·.1)) (fun H0 i σ' H'=>∃(x12:Option V),σ'=[some (V.ref g),some v1,some v2,some (V.ref kd),some (V.ref Su),some (V.ref He),some (V.ref Re),some (V.ref Hd),some (V.ref Wa),some (V.ref To),some (V.int ((n:Int)+1)),some (V.ref cm),x12,x13]∧a3K H0 To H'∧TAt H' To (T++(F.take i).map fun p=>(p.1,p.2,n+1))) hC (a3q F) (a0K rfl) (fun o=>⟨_,rfl,a3K.refl _ _,?_⟩) ?_ ?_ ?_
   ·rw [Ve,Jq,Qj]
    refine hT.keep fun b o e hb=>?_
    rcases hb with rfl | ⟨xs,rfl⟩
    ·rw [a0a nCT.symm];exact e
    ·rw [a0a (a0G e hC (by intro z;cases z))];exact e
   ·rintro o i σ' H' ⟨_,rfl,k,_⟩
    exact k _ _ a0d nCT
   ·rintro o i hi σ' H' rt bk ⟨_,rfl,k,hT'⟩
    have hi':i < F.length:=by simpa using hi
    have hcm':H' cm=some (.frz o (.dK (wv F))):=k _ _ a0d nCT
    have hv:=a9U hFn (show (F[i].1,F[i].2)∈F from Xd hi')
    have hq:F[i].1∉(T++(F.take i).map fun p=>(p.1,p.2,n+1)).map (·.1):=fun z=>by
     rw [Xp,Qq] at z
     rcases z with z | z
     ·exact hnew _ (Qf.mpr ⟨_,Xd hi',rfl⟩) z
     ·rw [Xo] at z
      obtain ⟨x,hx,e⟩:=Qf.mp z
      obtain ⟨j,hj,rfl⟩:=Zg hx
      rw [Yo] at hj
      have e':(F.map (·.1))[j]'(by rw [Qe];omega)=(F.map (·.1))[i]'hi:=by rw [Yr,Yr,←e,List.getElem_take];rfl
      have:=(Jd hFn).mp e'
      omega
    have hll:(T++(F.take i).map fun p=>(p.1,p.2,n+1)).length≤100000:=by
     rw [Xq,Qe,Yo];omega
    rw [Yr,Qw hi',Xp,←Ja]
    try simp only [a0l,a3l,a7o,a0j,b2f,a0k,Qg,Qh,Qb,Qa,a0r,a0e]
    refine ⟨cm,_,rfl,.inl ⟨_,Sum.inr F[i].1,.inr ⟨o,hcm'⟩,rfl,hv.symm⟩,by simp only [Qr,Xl];decide,fun p hp=>?_⟩
    obtain ⟨H11,e11,s11,h11⟩:=a1f hp (.tup [V.str (wd F[i].2),V.int ((n:Int)+1)]);rw [e11]
    obtain ⟨kv,hput,hT2⟩:=hT'.put (n:=n+1) s11 h11 hq hll
    exact ⟨To,_,rfl,hput,_,rfl,fun b o e n=>by rw [a0a n];exact s11 _ _ (k _ _ e n),hT2⟩
   ·rintro o σ' H' ⟨y12,rfl,k,hT'⟩
    rw [Qe,Xs] at hT'
    have k11:∀b o',H10 b=some o'→b≠To→upd H' cm (.dK (wv F)) b=some o':=fun b o' e nb=>by
     by_cases z:b=cm
     ·rw [z,a0d,←hC,←z];exact e
     ·rw [a0a z];exact k _ _ (by rw [a0a z];exact e) nb
    have hT11:TAt (upd H' cm (.dK (wv F))) To (T++F.map fun p=>(p.1,p.2,n+1)):=hT'.keep fun b o' e hb=>by
     have hcf:H' cm=some (.frz o (.dK (wv F))):=k _ _ a0d nCT
     rcases hb with rfl | ⟨xs,rfl⟩
     ·rw [a0a nCT.symm];exact e
     ·rw [a0a (a0G e hcf (by intro z;cases z))];exact e
    generalize upd H' cm (.dK (wv F))=H11 at k11 hT11
    clear hT' k
    have hC11:=k11 _ _ hC nCT
    have hH11:=k11 _ _ hH nHT
    have hR11:=k11 _ _ hR nRT
    have g1:=a5A F true
    have g2:=a5A F false
    have g3:=a0Q ((F.map (·.1)).filter fun q=>decide ((q,true)∈F)) []
    have g4:=a0Q ((F.map (·.1)).filter fun q=>decide ((q,false)∈F)) []
    have bvl:∀l:List Str,(bv l).length=l.length:=fun l=>by unfold bv;rw [Qe]
    try simp only [a1q,a4r,tBM,a0k,Qb,Qa,a0j,a0x,a0r,Qj,a1S,tOp,tC,a0l,b5l,Qg,Qh,a0e,a0O]
    refine ⟨.inr (.inr (.inl ⟨rfl,.inl ⟨_,hH11⟩⟩)),a3c hC11 (a3q F) (by rw [Qe];omega) (a0K rfl) [some (V.ref cm)] rfl (fun q=>decide ((q,true)∈F)) (fun q0 H0 H' R hq off hR s hR'=>a2Z (b:=true) hFn hq hR hR') fun L3 H12 hL3 s12 hL12=>?_⟩
    refine ⟨_,_,rfl,.inl ⟨L3,rfl,hL12⟩,by omega,fun KD H13 s13' hKn hKD=>?_⟩
    have s1113:=s12.trans s13'
    have nHK:He≠KD:=fun z=>by rw [←z,s12 _ _ hH11] at hKn;cases hKn
    refine ⟨He,KD,kH,_,rfl,rfl,nHK,s1113 _ _ hH11,hKD,Qi (show _≤1000 by rw [bvl];simp at g3;omega) (by decide),?_⟩
    have hml:=a1I (bv (((F.map (·.1)).filter fun q=>decide ((q,true)∈F)).foldl a0S [])) kH
    obtain ⟨H14,e14,k14,hH14⟩:∃H',upd H13 He (.dK (a1N kH (bv (((F.map (·.1)).filter fun q=>decide ((q,true)∈F)).foldl a0S []))))=H'∧(∀b o,H11 b=some o→b≠He→H' b=some o)∧H' He=some (.dK (a1N kH (bv (((F.map (·.1)).filter fun q=>decide ((q,true)∈F)).foldl a0S [])))):=⟨_,rfl,fun b o e n=>by rw [a0a n];exact s1113 _ _ e,a0d⟩
    rw [e14]
    have hC14:=k14 _ _ hC11 nCH
    have hR14:=k14 _ _ hR11 nHR.symm
    try simp only []
    refine ⟨.inr (.inr (.inl ⟨rfl,.inl ⟨_,hR14⟩⟩)),a3c hC14 (a3q F) (by rw [Qe];omega) (a0K rfl) [some (V.ref cm)] rfl (fun q=>decide ((q,false)∈F)) (fun q0 H0 H' R hq off hR s hR'=>a2Z (b:=false) hFn hq hR hR') fun L4 H15 hL4 s15 hL15=>?_⟩
    refine ⟨_,_,rfl,.inl ⟨L4,rfl,hL15⟩,by omega,fun KE H16 s16 hKEn hKE=>?_⟩
    have s1416:=s15.trans s16
    have nRK:Re≠KE:=fun z=>by rw [←z,s15 _ _ hR14] at hKEn;cases hKEn
    refine ⟨Re,KE,kR,_,rfl,rfl,nRK,s1416 _ _ hR14,hKE,Qi (show _≤1000 by rw [bvl];simp at g4;omega) (by decide),?_⟩
    have hml2:=a1I (bv (((F.map (·.1)).filter fun q=>decide ((q,false)∈F)).foldl a0S [])) kR
    obtain ⟨H17,e17,k17,hR17⟩:∃H',upd H16 Re (.dK (a1N kR (bv (((F.map (·.1)).filter fun q=>decide ((q,false)∈F)).foldl a0S []))))=H'∧(∀b o,H14 b=some o→b≠Re→H' b=some o)∧H' Re=some (.dK (a1N kR (bv (((F.map (·.1)).filter fun q=>decide ((q,false)∈F)).foldl a0S [])))):=⟨_,rfl,fun b o e n=>by rw [a0a n];exact s1416 _ _ e,a0d⟩
    rw [e17]
    rw [bvl] at hml hml2
    have hC17:=k17 _ _ hC14 nCR
    have hH17:=k17 _ _ hH14 nHR
    have hHm17:=DAt.merge hHm (b3C hIF)
    have hRm17:=DAt.merge hRm (b3q hIF)
    have hIT1:=a7G hIT hIF
    have hT17:TAt H17 To (T++F.map fun p=>(p.1,p.2,n+1)):=hT11.keep fun b o' e hb=>by
     rcases hb with rfl | ⟨xs,rfl⟩
     ·exact k17 _ _ (k14 _ _ e nHT.symm) nRT.symm
     ·exact k17 _ _ (k14 _ _ e (a0G e hH11 (by intro z;cases z))) (a0G e hR11 (by intro z;cases z))
    have kk17:K3 H17:=k3to _ fun b o e n1 n2 n3=>k17 _ _ (k14 _ _ (k11 _ _ (k3of _ kk _ _ e n1 n2 n3) n1) n2) n3
    generalize a1N kH (bv (((F.map (·.1)).filter fun q=>decide ((q,true)∈F)).foldl a0S []))=kH' at hml hH17 hHm17
    generalize a1N kR (bv (((F.map (·.1)).filter fun q=>decide ((q,false)∈F)).foldl a0S []))=kR' at hml2 hR17 hRm17
    have hTl1:(T++F.map fun p=>(p.1,p.2,n+1)).length=T.length+F.length:=by rw [Xq,Qe]
    generalize hTe:(T++F.map fun p=>(p.1,p.2,n+1))=T1 at hT17 hIT1 hnd hkey hTl1
    have hW17:=k3of _ kk17 _ _ (s8 _ _ hWa) nWT nWH nWR
    obtain ⟨kT,hkT,_,hkTm⟩:=hT17.keys
    try simp only []
    refine ⟨Hd,cm,rs,F,rfl,fun H' off=>(k3D _ kk17).keep fun b o e hb=>off b o e fun z=>?_,hC17,by omega,hO,hrl,fun Dt kt H18 s18 hDtn hDt hktn hktl hktm=>?_⟩
    ·cases z
     rcases hb with w | ⟨xs,rfl⟩
     ·exact nCD w
     ·rw [hC17] at e;cases e
    refine b2x hDt (a5x kt) hktl s18 [some (V.ref Wa),some (V.ref To)] (by rfl) (fun q=>decide (q∈W) && decide (q∉T1.map (·.1))) (fun q0 H0 H' R hq off s hR'=>?_) fun As H19 hAsn s19 hAs=>?_
    ·have hW':=s _ _ (off.keep _ _ (s18 _ _ hW17) fun z=>by cases z;rw [hW17] at hDtn;cases hDtn)
     have hT':=s _ _ (off.keep _ _ (s18 _ _ hkT) fun z=>by cases z;rw [hkT] at hDtn;cases hDtn)
     have:=hR' _ (a0h.refl _)
     try simp only [b6m,tB,a9q,a0k,Qa,Qb,a2n,a1p,a0e]
     refine ⟨Wa,_,rfl,a2K.k (k:=(Sum.inr q0:Key)) hW',?_⟩
     rw [a2m]
     by_cases z1:q0∈W
     ·rw [if_pos z1]
      rw [decide_eq_true z1,Jw] at this
      refine ⟨To,_,rfl,a2K.k (k:=(Sum.inr q0:Key)) hT',?_⟩
      rw [hkTm,show (!decide (q0∈T1.map (·.1)))=decide (q0∉T1.map (·.1)) from by simp]
      exact this
     ·rw [if_neg z1]
      rw [decide_eq_false z1,Zt] at this
      exact this
    try simp only [a1S,a0x,a0j,a0k,Qa,Qb,a0r,Qj,a0l,Qg,Qh,a0e]
    have ha:∀x,x∈kt.filter (fun q=>decide (q∈W) && decide (q∉T1.map (·.1)))↔tch rs (F.map (·.1)) x∧x∈W∧x∉T1.map (·.1):=fun x=>by
     rw [Qp,hktm,Xr,decide_eq_true_eq,decide_eq_true_eq]
    have hfl:=Qz (fun q=>decide (q∈W) && decide (q∉T1.map (·.1))) kt
    have hfn:(kt.filter (fun q=>decide (q∈W) && decide (q∉T1.map (·.1)))).Nodup:=hktn.sublist List.filter_sublist
    generalize kt.filter (fun q=>decide (q∈W) && decide (q∉T1.map (·.1)))=ask at ha hfl hfn hAs
    have hlt:W.length - T1.length < m:=by
     have:0 < F.length:=by omega
     omega
    refine ⟨g,_,_,_,_,rs,pl,S,(rds rs pl S W (ups kn) (a1T kn) (n+1)).U,(rds rs pl S W (ups kn) (a1T kn) (n+1)).D,ask,rfl,fun H' off=>?_,hO,hrl,.inl ⟨As,rfl,hAs⟩,hfn,by omega,fun q0 hq0=>(hsm q0 ((hWm q0).mp ((ha q0).mp hq0).2.1)).1,fun C2 H20 s20 hC2n hC2=>?_⟩
    ·have s18':a0h H18 H':=off.same s19 hAsn
     have kk':K3 H':=k3to _ fun b o e n1 n2 n3=>s18' _ _ (s18 _ _ (k3of _ kk17 _ _ e n1 n2 n3))
     exact ⟨hG.same (k3H _ kk'),k3S _ kk',.inr ⟨He,_,rfl,s18' _ _ (s18 _ _ hH17),hHm17⟩,.inr ⟨Re,_,rfl,s18' _ _ (s18 _ _ hR17),hRm17⟩⟩
    have s1720:=(s18.trans s19).trans s20
    have hn19:∀{x:Addr} {o:HO},H17 x=some o→C2≠x:=fun {x o} e z=>by rw [z,s19 _ _ (s18 _ _ e)] at hC2n;cases hC2n
    refine ⟨_,hlt,n+1,T1,_,C2,_,_,kH',kR',rfl,k3to _ fun b o e n1 n2 n3=>s1720 _ _ (k3of _ kk17 _ _ e n1 n2 n3),hT17.same s1720,hnd,hIT1,s1720 _ _ hH17,hHm17,by simp at g3;omega,s1720 _ _ hR17,hRm17,by simp at g4;omega,hC2,⟨hn19 hkT,hn19 hH17,hn19 hR17,?_⟩,hfn.sublist (a5J _ _ _ _ _ _),b2P (fun q0 hq0=>(hsm q0 ((hWm q0).mp hq0)).2) hIT1 hIF ha,rfl⟩
    obtain ⟨kv,e,_⟩:=k3D _ kk17
    exact hn19 e
  ·have hF0:F=[]:=by
    cases F with
    | nil=>rfl
    | cons x l=>exact absurd (by simp only [Qr];omega) c1
   subst hF0
   try skip
   exact q To T n H10 (k3H _ kk) (none_of s06 (none_of s7 hTo)) hT hTn (b7x hIF) hIT
theorem c0a (T:Txt K mg t):a0V P w K mg base CX0 1 t.f_z0j t.fd_z0j ["self"] (a1b true):=by
 refine T.F_z0j.ok c0I (fun vs H Q E h=>?_) (fun cdv A outer s H vs Q E hr h=>?_)
 ·obtain ⟨x,rfl,q⟩:=h;rfl
 ·obtain ⟨x,rfl,q⟩:=h
  refine ⟨_,‹A3 (A9 B7)›,?_⟩
  rw [show start c0U [x]=[some (x)] from rfl]
  try simp only [a1e,tC]
  exact q
theorem b5p (T:Txt K mg t):a0V P w K mg base CX0 1 t.f_z0h t.fd_z0h ["self"] (a1b false):=by
 refine T.F_z0h.ok c1n (fun vs H Q E h=>?_) (fun cdv A outer s H vs Q E hr h=>?_)
 ·obtain ⟨x,rfl,q⟩:=h;rfl
 ·obtain ⟨x,rfl,q⟩:=h
  refine ⟨_,‹A3 (A9 B7)›,?_⟩
  rw [show start b7W [x]=[some (x)] from rfl]
  try simp only [a1e,tC]
  exact q
theorem b8i (T:Txt K mg t):a0V P w K mg base CX0 1 t.f_z0k t.fd_z0k ["self"] (a1b true):=by
 refine T.F_z0k.ok c0T (fun vs H Q E h=>?_) (fun cdv A outer s H vs Q E hr h=>?_)
 ·obtain ⟨x,rfl,q⟩:=h;rfl
 ·obtain ⟨x,rfl,q⟩:=h
  refine ⟨_,‹A3 (A9 B7)›,?_⟩
  rw [show start b8M [x]=[some (x)] from rfl]
  try simp only [a1e,tC]
  exact q
theorem b9b (T:Txt K mg t):a0V P w K mg base CX0 3 t.f_z0o t.fd_z0o ["rules","known"] (b9Z K t):=by
 refine T.F_z0o.ok a2P (fun vs H Q E h=>?_) (fun cdv A outer s H vs Q E hr h=>?_)
 ·obtain ⟨a,kv,xs,rs,kn,rfl,ha,hA,hO,hrl,hk,hkl,q⟩:=h;rfl
 ·obtain ⟨a,kv,xs,rs,kn,rfl,ha,hA,hO,hrl,hk,hkl,q⟩:=h
  refine ⟨_,‹E3 (A6 2 a2P.nd (A7 (a2Y T) T.g_z1y T.F_z1y.kp T.b_z1y .nil (A0 (G3 (B1 b7J 1 H6 (a0p _)) (B8 A1) 1) A1))) (A2 (D8 3 (B2 (a0b a2M) a9c ["rule","sure"] [none,some 2]) (B5 0) (A8 0 (show Xk (["rule","sure"]:List Str) by decide+kernel)) (C4 (D5 (F2 (C3 (E7 (D3 0 T.cl_Fact T.me_Fact_is_sure (c0a T) T.b_z0j) (E7 (D3 0 T.cl_Sure T.me_Sure_is_sure (b8i T) T.b_z0k) (E7 (D3 0 T.cl_Most T.me_Most_is_sure (b5p T) T.b_z0h) (D3 0 T.cl_Block T.me_Block_is_sure (b5p T) T.b_z0h))))) (F4 (C2 ‹E0 (D7 0) 1›))))) 0 a2P.nd) (A2 (A6 4 a2P.nd D0) (A2 (A6 5 a2P.nd A4) (A2 (D8 6 (B2 (a0b a2M) a9c ["rule","sure"] [none,some 2]) (B5 3) (A8 0 (show Xk (["rule","sure"]:List Str) by decide+kernel)) (C4 (C3 (A7 (a8m T) T.g_z12 T.F_z12.kp T.b_z12 .nil (A0 (D7 0) (A0 1 A1))))) (D7 0) a2P.nd) (A2 (G1 (B1 b6Q (C8 a1C T.z_len a1D (A0 6 A1)) A4 (a0p _)) (A2 (C0 (B5 6) (A8 7 a2P.nd) (A2 (C1 4 7 5) (A3 (C1 2 7 B7)))) (A2 (D8 3 (B2 (a0b a2M) a9c ["rule","sure"] [none,some 2]) (B5 3) (A8 0 (show Xk (["rule","sure"]:List Str) by decide+kernel)) (C4 (C2 ‹E0 (D7 0) 1›)) 0 a2P.nd) (A2 (A6 5 a2P.nd (A5 a0q 5 A4)) (A3 (D8 6 (B2 (a0b a2M) a9c ["rule","sure"] [none,some 2]) (B5 3) (A8 0 (show Xk (["rule","sure"]:List Str) by decide+kernel)) (C4 (C3 (A7 (a8m T) T.g_z12 T.F_z12.kp T.b_z12 .nil (A0 (D7 0) (A0 1 A1))))) (D7 0) a2P.nd)))))) (A3 (A9 4)))))))›,?_⟩
  rw [show start a9c [V.ref a,kv]=[some (V.ref a),some (kv),none,none,none,none,none,none] from rfl]
  have hkl':(kn.foldl a0S []).length≤100:=Qi (a0Q kn []) (by simpa using hkl)
  have hkn:(kn.foldl a0S []).Nodup:=a1x kn (by simp)
  try simp only [a0n,a1E,a0k]
  refine ⟨fun σ' H'=>∃D,σ'=[some (V.ref a),some kv,some (V.ref D),none,none,none,none,none]∧a0h H H'∧H D=none∧H' D=some (.dK (bv (kn.foldl a0S []))),?_,?_⟩
  ·rcases hk with ⟨rfl,rfl⟩ | ⟨b,rfl,hb⟩
   ·try simp only [a1S,a0x,a0j,tIf,a1l,tOp,a0k,Qb,Qa,tC,a3n,a0r,Qj,a0l,Qg,Qh,a0e,b4g,a1p,if_true]
    refine ⟨by decide,fun p hp=>?_⟩
    obtain ⟨H1,e1,s1,h1⟩:=a1f hp (.lst []);rw [e1]
    exact ⟨_,[],rfl,.inl ⟨p,rfl,h1⟩,by decide,fun D H' s hD hD'=>⟨D,rfl,s1.trans s,none_of s1 hD,hD'⟩⟩
   ·try simp only [a1S,a0x,a0j,tIf,a1l,tOp,a0k,Qb,Qa,tC,a3n,a0r,Qj,a0l,Qg,Qh,a0e,b3u,a1p,a7u]
    exact ⟨_,kn,rfl,.inl ⟨b,rfl,hb⟩,by omega,fun D H' s hD hD'=>⟨D,rfl,s,hD,hD'⟩⟩
  rintro σ H1 ⟨D,rfl,s1,hD,hD1⟩
  generalize kn.foldl a0S []=k0 at hD1 hkl' hkn q
  obtain ⟨zr,ez1,ez2,hz⟩:=hA.zip hO
  subst ez1 ez2
  have hzl:zr.length≤126:=by simpa using hrl
  try simp only [a1q,Qa,a1S,a1L,a0l,tC,Qg,Qh,Qb,a0e,a0t]
  refine ⟨⟨_,SqL.of (s1 _ _ ha)⟩,?_⟩
  refine a1X zr (s1 _ _ ha) (by omega) (hz.same s1) [some (V.ref D)] rfl (fun r=>(srW r).1 && decide ((srW r).2.1∉k0)) (fun p=>p.1) (fun x r H' R ho hr s hR=>?_) (fun x r H' R ho hr s hR=>?_) (fun W H2 hWn s2 hW2=>?_)
  ·try simp only [b6m,tB,a2n,a3E,a0k,Qa,Qb,a1p,a0e]
   have CF:=a8S T ho.1
   refine c6j ho.1 (a0K rfl) hr ⟨by decide+kernel,by decide+kernel,by decide+kernel⟩ ?_
   rw [a9z ho.1]
   try simp only [a4G,a1p,decide_eq_true_eq]
   obtain ⟨dx,t0,h1,h2⟩:=hr
   have:=hR _ (a0h.refl _)
   refine a1K (fun c=>?_) (fun c=>?_)
   ·have e1:(srW r).1=true:=decide_eq_true (by have:=c;omega)
    refine ⟨x,_,dx,_,_,rfl,h1,CF.cl,CF.nh,a1h _ _ _,D,_,rfl,c1z (s _ _ hD1) _,?_⟩
    rw [e1,Jw] at this
    by_cases h:r.2.2.1∈k0
    ·rw [if_pos h];rw [decide_eq_false (show ¬¬(srW r).2.1∈k0 from fun z=>z h)] at this;exact this
    ·rw [if_neg h];rw [decide_eq_true (show ¬(srW r).2.1∈k0 from h)] at this;exact this
   ·have e1:(srW r).1=false:=decide_eq_false (by have:=c;omega)
    rw [e1,Zt] at this;exact this
  ·try simp only [a0k,Qa,a0e]
   exact hR _ (a0h.refl _)
  try simp only [a0t]
  obtain ⟨RS,eRS⟩:∃RS,(zr.map (·.2)).map srW=RS:=⟨_,rfl⟩
  rw [eRS] at q
  have hRl:RS.length≤126:=by rw [←eRS];simpa using hzl
  intro R hR0
  obtain ⟨H3,e3,s3,hR3⟩:=a1f hR0 (.dK []);rw [e3]
  have hD3:=s3 _ _ (s2 _ _ hD1)
  have hW3:=s3 _ _ hW2
  have s03:=(s1.trans s2).trans s3
  have hRn:H R=none:=none_of (s1.trans s2) hR0
  have hDR:D≠R:=fun z=>by have e:=s2 _ _ hD1;rw [z,hR0] at e;cases e
  refine ⟨⟨_,SqL.of hW3⟩,?_⟩
  have hAm:∀(S:List Str) (x:Addr) (r:Rw) (H':Hp) (R:Bool→Hp→Prop),a1w r→a1U H' x (a4A t r.1) (.str r.2.1) (.str r.2.2.1) (r.2.2.2.map V.str)→H' D=some (.dK (bv S))→(∀H'',a0h H' H''→R ((srW r).2.2.all fun q=>decide (q∈S)) H'')→tB (a0x a8t [] E0 (a0j (a3E K (a0k 0) "body") (a0j (a0k 1) a0r))) [some (V.ref x),some (V.ref D)] H' R:=by
   intro S x r H' R ho hr hD' hR
   have CF:=a8S T ho.1
   obtain ⟨dx,t0,h1,h2⟩:=hr
   try simp only [tB,a0x,a0j,a3E,a0k,Qa,Qb,a0r,Qj,a0e]
   refine ⟨x,_,dx,_,_,rfl,h1,CF.cl,CF.nb,a1O _ _ _,?_⟩
   refine ⟨t0,_,r.2.2.2,S,rfl,h2,by have:=ho.2.2.2.2.2;omega,c6B hD',fun H'' s''=>?_⟩
   try simp only [a1p]
   exact hR _ s''
  have hHd:∀(x:Addr) (r:Rw) (H':Hp) (R:V→Hp→Prop),a1w r→a1U H' x (a4A t r.1) (.str r.2.1) (.str r.2.2.1) (r.2.2.2.map V.str)→(∀H'',a0h H' H''→R (V.str (srW r).2.1) H'')→a3E K (a0k 0) "head" [some (V.ref x),some (V.ref D)] H' R:=by
   intro x r H' R ho hr hR
   have CF:=a8S T ho.1
   obtain ⟨dx,t0,h1,h2⟩:=hr
   try simp only [a3E,a0k,Qa,a0e]
   exact ⟨x,_,dx,_,_,rfl,h1,CF.cl,CF.nh,a1h _ _ _,hR _ (a0h.refl _)⟩
  refine a1X (wat zr k0) hW3 (Qi (a6G _ _) (by omega)) ((b2s hz).same s03) [some (V.ref D)] rfl (fun r=>(srW r).2.2.all fun q=>decide (q∈k0)) (fun p=>V.str (srW p.2).2.1) (fun x r H' R ho hr s hR=>hAm k0 x r H' R ho hr (s _ _ hD3) hR) (fun x r H' R ho hr s hR=>hHd x r H' R ho hr hR) (fun F H4 hFn s4 hF4=>?_)
  rw [a7C,eRS] at hF4
  refine a5j (fun m σ H'=>∃(n:Nat) (W F:Addr) (x7:Option V),σ=[some (V.ref a),some kv,some (V.ref D),some (V.ref W),some (V.ref R),some (V.int ((n:Int)+1)),some (V.ref F),x7]∧a0h H H'∧H' D=some (.dK (bv (sS RS k0 n)))∧H' R=some (.dK (dv (sR RS k0 n)))∧H' W=some (.lst ((wat zr (sS RS k0 n)).map (·.1)))∧H' F=some (.lst ((frs RS (sS RS k0 n)).map V.str))∧m=b0K RS (sS RS k0 n))
   (b0K RS k0) ⟨0,W,F,_,rfl,s03.trans s4,s4 _ _ hD3,s4 _ _ hR3,s4 _ _ hW3,hF4,rfl⟩ ?_
  clear hF4 hFn s4 hW3 hW2 hWn
  rintro m σ H4 ⟨n,W,F,x7,rfl,s4,hD4,hR4,hW4,hF4,hm⟩
  have hfl:=a6R RS (sS RS k0 n)
  have hSl:=b1u (rs:=RS) hkn n
  have hRl':=b5k (rs:=RS) hkn n
  try simp only [a1l,tOp,tCB,a0j,a0k,Qb,Qa,a0r,tC,a1q,a0D,a1E,a0e,a0t,a1e]
  refine a2c (SqL.of hF4) ?_
  rw [Qe]
  try simp only [a5b,a1p,decide_eq_true_eq]
  refine a1K (fun c1=>?_) (fun c1=>?_)
  ·have hne:frs RS (sS RS k0 n)≠[]:=fun z=>by rw [z] at c1;exact absurd c1 (by decide)
   refine ⟨fun σ' H'=>∃m',m' < m∧∃(n:Nat) (W F:Addr) (x7:Option V),σ'=[some (V.ref a),some kv,some (V.ref D),some (V.ref W),some (V.ref R),some (V.int ((n:Int)+1)),some (V.ref F),x7]∧a0h H H'∧H' D=some (.dK (bv (sS RS k0 n)))∧H' R=some (.dK (dv (sR RS k0 n)))∧H' W=some (.lst ((wat zr (sS RS k0 n)).map (·.1)))∧H' F=some (.lst ((frs RS (sS RS k0 n)).map V.str))∧m'=b0K RS (sS RS k0 n),fun _ _ h=>h,⟨_,SqL.of hF4⟩,?_⟩
   have hFD:F≠D:=a0G hF4 hD4 (by intro z;cases z)
   have hFR:F≠R:=a0G hF4 hR4 (by intro z;cases z)
   have hWD:W≠D:=a0G hW4 hD4 (by intro z;cases z)
   have hWR:W≠R:=a0G hW4 hR4 (by intro z;cases z)
   refine a1d (K:=K) (a:=F) (xs:=(frs RS (sS RS k0 n)).map V.str) (fun j σ H'=>∃(x7:Option V),σ=[some (V.ref a),some kv,some (V.ref D),some (V.ref W),some (V.ref R),some (V.int ((n:Int)+1)),some (V.ref F),x7]∧a0h H H'∧H' D=some (.dK (bv (((frs RS (sS RS k0 n)).take j).foldl a0S (sS RS k0 n))))∧H' R=some (.dK (dv (((frs RS (sS RS k0 n)).take j).foldl (a3z (n+1)) (sR RS k0 n))))∧H' W=some (.lst ((wat zr (sS RS k0 n)).map (·.1)))∧H' F=some (.lst ((frs RS (sS RS k0 n)).map V.str)))
    ⟨_,rfl,s4,hD4,hR4,hW4,hF4⟩ (fun j σ H' _ h=>by obtain ⟨_,_,_,_,_,_,h⟩:=h;exact SqL.of h) ?_ ?_
   ·rintro j x σ H5 hj ⟨x9,rfl,s5,hD5,hR5,hW5,hF5⟩
    have hjl:j < (frs RS (sS RS k0 n)).length:=by simpa using (Qn.mp hj).1
    have ex:x=V.str (frs RS (sS RS k0 n))[j]:=by
     rw [Qm,Qc hjl] at hj
     exact (Option.some.inj hj).symm
    subst ex
    have hnew:=a4o (Xd hjl)
    rw [Qw hjl,Yv,Yv]
    have hlkt:lk (((frs RS (sS RS k0 n)).take j).foldl (a3z (n+1)) (sR RS k0 n)) (frs RS (sS RS k0 n))[j]=none∨lk (((frs RS (sS RS k0 n)).take j).foldl (a3z (n+1)) (sR RS k0 n)) (frs RS (sS RS k0 n))[j]=some (n+1):=by
     rw [a3M fun h hh=>.inl (a4o (Zo hh)),hnew]
     split
     ·exact .inr rfl
     ·exact .inl rfl
    have l1:=a0Q ((frs RS (sS RS k0 n)).take j) (sS RS k0 n)
    have l2:=a4i (n+1) ((frs RS (sS RS k0 n)).take j) (sR RS k0 n)
    have l3:((frs RS (sS RS k0 n)).take j).length≤126:=by rw [Yo];omega
    have nd:=a2X (n+1) ((frs RS (sS RS k0 n)).take j) (a0W (rs:=RS) (kn:=k0) n)
    generalize ((frs RS (sS RS k0 n)).take j).foldl (a3z (n+1)) (sR RS k0 n)=R5 at hR5 l2 nd hlkt
    generalize ((frs RS (sS RS k0 n)).take j).foldl a0S (sS RS k0 n)=S5 at hD5 l1
    try simp only [a0l,a1q,a3l,a0k,Qg,Qh,Qb,Qa,tC,a0e]
    refine ⟨R,_,rfl,c3k (n:=n+1) hR5 (by omega) nd hlkt,?_⟩
    refine ⟨D,_,rfl,b4o (by rw [a0a hDR];exact hD5) (by omega) _,_,rfl,?_,a0d,?_,?_,?_⟩
    ·intro b o e;rw [a0a (a0c e hD),a0a (a0c e hRn)];exact s5 _ _ e
    ·rw [a0a hDR.symm,a0d];rfl
    ·rw [a0a hWD,a0a hWR];exact hW5
    ·rw [a0a hFD,a0a hFR];exact hF5
   ·rintro σ H5 ⟨x9,rfl,s5,hD5,hR5,hW5,hF5⟩
    rw [Qe,Xs] at hD5 hR5
    have hD5':H5 D=some (.dK (bv (sS RS k0 (n+1)))):=hD5
    have hR5':H5 R=some (.dK (dv (sR RS k0 (n+1)))):=hR5
    clear hD5 hR5
    have hsub:∀x,x∈sS RS k0 n→x∈sS RS k0 (n+1):=fun x hx=>a3f.mpr (.inl hx)
    have hlack:=a4m hne
    try simp only [a1q,Qb,Qa,a1S,tOp,a0k,Qg,Qh,tC,a0l,a0e,a0O,a0t]
    refine ⟨⟨_,SqL.of hW5⟩,?_⟩
    refine a1X (wat zr (sS RS k0 n)) hW5 (Qi (a6G _ _) (by omega)) ((b2s hz).same s5) [some (V.ref D)] rfl (fun r=>decide ((srW r).2.1∉sS RS k0 (n+1))) (fun p=>p.1) (fun x r H' R ho hr s hR=>?_) (fun x r H' R ho hr s hR=>?_) (fun W' H6 hWn s6 hW6=>?_)
    ·have CF:=a8S T ho.1
     obtain ⟨dx,t0,h1,h2⟩:=hr
     try simp only [tB,a2n,a3E,a0k,Qa,Qb,a1p,a0e]
     refine ⟨x,_,dx,_,_,rfl,h1,CF.cl,CF.nh,a1h _ _ _,D,_,rfl,c1z (s _ _ hD5') _,?_⟩
     have:=hR _ (a0h.refl _)
     by_cases h:r.2.2.1∈sS RS k0 (n+1)
     ·rw [if_pos h];rw [decide_eq_false (show ¬¬(srW r).2.1∈sS RS k0 (n+1) from fun z=>z h)] at this;exact this
     ·rw [if_neg h];rw [decide_eq_true (show ¬(srW r).2.1∈sS RS k0 (n+1) from h)] at this;exact this
    ·try simp only [a0k,Qa,a0e]
     exact hR _ (a0h.refl _)
    rw [b9y zr hsub] at hW6
    have hD6:=s6 _ _ hD5'
    try simp only [a0t]
    refine ⟨⟨_,SqL.of hW6⟩,?_⟩
    refine a1X (wat zr (sS RS k0 (n+1))) hW6 (Qi (a6G _ _) (by omega)) ((b2s hz).same (s5.trans s6)) [some (V.ref D)] rfl (fun r=>(srW r).2.2.all fun q=>decide (q∈sS RS k0 (n+1))) (fun p=>V.str (srW p.2).2.1) (fun x r H' R ho hr s hR=>hAm _ x r H' R ho hr (s _ _ hD6) hR) (fun x r H' R ho hr s hR=>hHd x r H' R ho hr hR) (fun F' H7 hFn s7 hF7=>?_)
    rw [a7C,eRS] at hF7
    have s57:=s6.trans s7
    exact ⟨_,by rw [hm];exact hlack,n+1,W',F',_,rfl,s5.trans s57,s57 _ _ hD5',s57 _ _ hR5',s7 _ _ hW6,hF7,rfl⟩
  ·have he:frs RS (sS RS k0 n)=[]:=by
    cases e:frs RS (sS RS k0 n) with
    | nil=>rfl
    | cons x l=>rw [e] at c1;exact absurd (by simp only [Qr];omega) c1
   rw [b4j he] at hR4
   try skip
   exact q R H4 s4 hRn hR4
theorem c1e (T:Txt K mg t):a0V P w K mg base CX0 4 t.f_z0v t.fd_z0v ["ground"] (b6T t):=by
 refine T.F_z0v.okC b4U (fun vs H Q E h=>?_) (fun A outer s H vs Q E hr h=>?_)
 ·obtain ⟨g,rs,pl,po,rfl,hG,hO,hrl,hpo,hpl,lt,q⟩:=h;rfl
 ·obtain ⟨g,rs,pl,po,rfl,hG,hO,hrl,hpo,hpl,lt,q⟩:=h
  refine ⟨_,‹A2 (A6 1 b4U.nd (A7 (b9b T) T.g_z0o T.F_z0o.kp T.bd_z0o (.cons (show a0P .non Value.none from rfl) .nil) (A0 (D3 0 T.cl_Ground T.me_Ground_rules (b4O T) T.b_z0m) A1))) (A3 (A9 (H7 ("statement") ["ranks"] [some 1] a1y 0 rfl rfl (hr.mono (by decide)) rfl T.z_sorted T.L_z0v T.LB 1 (B2 (a0b a8G) b5R ["statement","ranks"] [none,some 1]) rfl rfl rfl (fun _ _ _ _ _ _=>rfl) a2L rfl (fun _ _ _ _ _ _ hr=>‹C5 (A0 (E4 1 0) (A0 0 A1))›))))›,?_⟩
  rw [show start b5R [V.ref g]=[some (V.ref g),none] from rfl]
  obtain ⟨dx,io,bh,pr,_,_,_,hg1,_⟩:=id hG
  try simp only [a1q,a1S,a0x,a0j,a2g,a0k,Qa,a0r,Qj,Ju,Uu,a0l,a1e,b4p,Qg,Qh,Qb,a0e]
  refine ⟨g,dx,_,rfl,hg1,a2D _ _ _ (by decide+kernel) (by decide+kernel) (by decide+kernel),g,rs,pl,rfl,hG,fun W ys H1 s1 hWn hW1 hR1=>?_⟩
  refine ⟨W,_,ys,rs,[],rfl,hW1,hR1,hO,by omega,.inl ⟨rfl,rfl⟩,by decide,fun Fd H2 s2 hFn hF2=>?_⟩
  obtain ⟨F,eF⟩:∃F,FIN (rs.map srW) []=F:=⟨_,rfl⟩
  have hF2':H2 Fd=some (.dK (dv F)):=by rw [←eF];exact hF2
  have hFn':(F.map (·.1)).Nodup:=by rw [←eF];exact a5Z _ _
  have hFl:F.length≤63:=by rw [←eF];exact Qi (b4G hpo) hpl
  have lt2:=lt.mono (s1.trans s2)
  try skip
  refine ⟨Fd,dv F,F.map (·.1),gF (rs.map srW),rfl,hF2',b5M F,by rw [Qe];omega,hFn',lt2,fun z hz H3 k3=>?_,fun l H' ss lt' k' hln hl' hp hs=>?_⟩
  ·have hF3:=a7Z lt2 k3 hF2' (by intro _ z;cases z)
   try simp only [a7o,a0j,b2f,a0k,Qb,Qa,a0r,a0t,a0e]
   obtain ⟨p0,hp0,rfl⟩:=Qf.mp hz
   have hlk:=a9O hFn' hp0
   have hg:gF (rs.map srW) p0.1=(p0.2:Int):=by unfold gF;rw [eF,hlk];rfl
   have hd:=a2K.k (k:=(Sum.inr p0.1:Key)) hF3
   rw [a4l,hlk] at hd
   exact ⟨_,rfl,Fd,_,rfl,hd,by simp only [Qr,Xl];decide,fun p hp=>⟨by rw [a0d,hg],a0h.upd hp⟩⟩
  ·exact q l ss H' lt' (fun a o n e=>k' a o n (s2 _ _ (s1 _ _ e))) (none_of (s1.trans s2) hln) hl' ⟨by rw [eF];exact hp,hs⟩
theorem b0w (T:Txt K mg t):a0V P w K mg base CX0 6 t.f_z0d t.fd_z0d ["self","ground"] (b4E t):=by
 refine T.F_z0d.ok c0E (fun vs H Q E h=>?_) (fun cdv A outer s H vs Q E hr h=>?_)
 ·obtain ⟨x,dx,g,rs,pl,po,H0,rfl,hx,s0,hxn,hG0,hO,hrl,hpo,hpl,hqs,lt0,q⟩:=h;rfl
 ·obtain ⟨x,dx,g,rs,pl,po,H0,rfl,hx,s0,hxn,hG0,hO,hrl,hpo,hpl,hqs,lt0,q⟩:=h
  refine ⟨_,‹A2 (E5 0 (A7 (a2Y T) T.g_z1y T.F_z1y.kp T.b_z1y .nil (A0 (D3 1 T.cl_Ground T.me_Ground_statements (b4n T) T.b_z01) A1))) (A2 (E5 0 (A7 (a2Y T) T.g_z1y T.F_z1y.kp T.b_z1y .nil (A0 (A7 (c1e T) T.g_z0v T.F_z0v.kp T.b_z0v .nil (A0 1 A1)) A1))) (A3 (E5 0 (A7 (c1v T) T.g_z0p T.F_z0p.kp T.b_z0p .nil (A0 1 (A0 (D3 1 T.cl_Ground T.me_Ground_statements (b4n T) T.b_z01) (A0 (C6 0) (A0 D0 A1))))))))›,?_⟩
  rw [show start c1s [V.ref x,V.ref g]=[some (V.ref x),some (V.ref g)] from rfl]
  obtain ⟨gx,io,bh,pr,_,_,_,hg0,_⟩:=id hG0
  have ngx:g≠x:=a0c hg0 hxn
  try simp only [a1q,c0L,a0x,a0j,a2g,a0k,Qb,Qa,a0r,Qj,a3E,a1L,a0e]
  refine ⟨g,gx,_,rfl,s0 _ _ hg0,a2D _ _ _ (by decide+kernel) (by decide+kernel) (by decide+kernel),g,rs,pl,po,rfl,hG0.same s0,hO,hrl,hpo,hpl,fun S1 St H1 s1 hS1n hS1 hSp hSs=>?_⟩
  have mem0:∀{l:List Str},l.Perm ((sts rs).foldl a0S [])→(∀q,q∈l↔q∈sts rs)∧l.Nodup∧l.length≤18:=fun {l} h=>by
   have h1:∀q,q∈l↔q∈sts rs:=fun q=>h.mem_iff.trans (by rw [a1R];exact ⟨fun h=>h.elim (fun z=>(by cases z)) id,.inr⟩)
   have h2:=h.nodup_iff.mpr (a1x (sts rs) Jr)
   exact ⟨h1,h2,Qi (a2a h2 fun x hx=>hpo x ((h1 x).mp hx)) hpl⟩
  obtain ⟨hStm,hStn,hStl⟩:=mem0 hSp
  refine ⟨_,St,rfl,.inl ⟨S1,rfl,hS1⟩,by omega,fun st H2 s2 hstn hst=>?_⟩
  rw [a4p hStn] at hst
  have s02:=s1.trans s2
  have nstx:st≠x:=fun z=>by rw [z,s1 _ _ hx] at hstn;cases hstn
  refine ⟨x,t.C_Answers,dx,_,rfl,s02 _ _ hx,T.cl_Answers,T.nf_Answers_standing,by show 0 < 1000;decide,?_⟩
  obtain ⟨H3,e3,s3,h3x,h3st⟩:∃H3,upd H2 x (.ins t.C_Answers dx (a1o "standing" (.ref st) []))=H3∧a0h H0 H3∧H3 x=some (.ins t.C_Answers dx (a1o "standing" (.ref st) []))∧H3 st=some (.dK (bv St)):=⟨_,rfl,fun c o e=>by rw [a0a (a0c e hxn)];exact s02 _ _ (s0 _ _ e),a0d,by rw [a0a nstx];exact hst⟩
  rw [e3]
  have lt3:=lt0.mono s3
  refine ⟨g,rs,pl,po,rfl,hG0.same s3,hO,hrl,fun r hr=>hpo _ (a1a.mpr ⟨r,hr,_,Qs,.inl rfl⟩),by omega,lt3,fun Fo ss H4 lt4 k4 hFn hF4 hdue=>?_⟩
  have hssn:ss.Nodup:=hdue.1.nodup_iff.mpr (a0W _)
  have hssl:ss.length≤18:=by rw [hdue.1.length_eq,Qe];exact Qi (b4G fun r hr=>hpo _ (a1a.mpr ⟨r,hr,_,Qs,.inl rfl⟩)) hpl
  refine ⟨_,ss,rfl,.inl ⟨Fo,rfl,hF4⟩,by omega,fun sk H5 s5 hskn hsk=>?_⟩
  rw [a4p hssn] at hsk
  have h4x:=a7Z lt3 k4 h3x (fun _ z=>nomatch z)
  have h4st:=a7Z lt3 k4 h3st (fun _ z=>nomatch z)
  have nskx:sk≠x:=fun z=>by rw [z,h4x] at hskn;cases hskn
  refine ⟨x,t.C_Answers,dx,_,rfl,s5 _ _ h4x,T.cl_Answers,T.nf_Answers_sure_keys,by show 1 < 1000;decide,?_⟩
  obtain ⟨H6,e6,k6,lt6,h6x,h6st,h6sk⟩:∃H6,upd H5 x (.ins t.C_Answers dx (a1o "sure_keys" (.ref sk) (a1o "standing" (.ref st) [])))=H6∧(∀c o,c≠t.TB_z0v→H0 c=some o→H6 c=some o)∧a3L t.TB_z0v a1y H6∧H6 x=some (.ins t.C_Answers dx (a1o "sure_keys" (.ref sk) (a1o "standing" (.ref st) [])))∧H6 st=some (.dK (bv St))∧H6 sk=some (.dK (bv ss)):=⟨_,rfl,fun c o n e=>by rw [a0a (a0c e hxn)];exact s5 _ _ (k4 _ _ n (s3 _ _ e)),b1i (lt4.mono s5) (s5 _ _ h4x),a0d,by rw [a0a nstx];exact s5 _ _ h4st,by rw [a0a nskx];exact hsk⟩
  rw [e6]
  try skip
  refine ⟨g,gx,_,rfl,a7Z lt0 k6 hg0 (fun _ z=>nomatch z),a2D _ _ _ (by decide+kernel) (by decide+kernel) (by decide+kernel),g,rs,pl,po,rfl,c0R lt0 k6 hG0,hO,hrl,hpo,hpl,fun S2 St2 H7 s7 hS2n hS2 hSp2 hSs2=>?_⟩
  obtain ⟨hStm2,hStn2,hStl2⟩:=mem0 hSp2
  refine ⟨x,_,dx,_,_,rfl,s7 _ _ h6x,T.cl_Answers,T.nf_Answers_sure_keys,by rw [a0f,if_pos rfl],fun kd hkd=>?_⟩
  obtain ⟨H8,e8,s8,h8⟩:=a1f hkd (.dK []);rw [e8]
  have s68:=s7.trans s8
  have k8:∀c o,c≠t.TB_z0v→H0 c=some o→H8 c=some o:=fun c o n e=>s68 _ _ (k6 c o n e)
  refine ⟨g,V.ref S2,V.ref sk,kd,rs,pl,St2,ss,[],rfl,c0R lt0 k8 hG0,hO,hrl,.inl ⟨S2,rfl,s8 _ _ hS2⟩,.inr ⟨sk,_,rfl,s68 _ _ h6sk,a5x _⟩,h8,Jr,by omega,by omega,by decide,fun q hq=>hqs q (hpo q ((hStm2 q).mp hq)),fun cm T0 n H9 s9 hcmn hTA hTn hfr hIT=>?_⟩
  have s69:=s68.trans s9
  have h9x:=s69 _ _ h6x
  refine ⟨x,t.C_Answers,dx,_,rfl,h9x,T.cl_Answers,T.nf_Answers_came,by show 2 < 1000;decide,?_⟩
  have hW:∀q,q∈St2.foldl a0S []↔q∈sts rs:=fun q=>by rw [a4p hStn2];exact hStm2 q
  refine q _ ss T0 (fun c o n e=>?_) (b1i (lt6.mono s69) h9x) hdue ⟨hTn,n,_,hW,hfr,hIT⟩ ⟨dx,st,sk,cm,St,a0d,?_,hStm,?_,hTA.keep fun b o e hb=>?_⟩
  ·rw [a0a (a0c e hxn)];exact s69 _ _ (k6 c o n e)
  ·rw [a0a nstx];exact s69 _ _ h6st
  ·rw [a0a nskx];exact s69 _ _ h6sk
  ·rcases hb with rfl | ⟨xs,rfl⟩
   ·rw [a0a (fun z=>by rw [z,s68 _ _ h6x] at hcmn;cases hcmn)];exact e
   ·rw [a0a (a0G e h9x (by intro z;cases z))];exact e
theorem a7W (T:Txt K mg t):a0V P w K mg base CX0 2 t.f_z0g t.fd_z0g ["self","q"] (b5A t fun rs ss T q=>.int ((wr rs T q).2:Nat)):=by
 refine T.F_z0g.ok b9i (fun vs H Q E h=>?_) (fun cdv A outer s H vs Q E hr h=>?_)
 ·obtain ⟨x,z,rs,ss,T0,rfl,hA,hn,q⟩:=h;rfl
 ·obtain ⟨x,z,rs,ss,T0,rfl,hA,hn,q⟩:=h
  refine ⟨_,‹A3 (A9 (B4 a0H (C7 0 T.cl_Answers T.me_Answers_word_and_rank (b4s T) T.b_z00 (A0 1 A1)) A4))›,?_⟩
  rw [show start c1q [V.ref x,V.str z]=[some (V.ref x),some (V.str z)] from rfl]
  obtain ⟨dx,st,sk,cm,St,hx,_⟩:=id hA
  try simp only [a1e,tOp,a2g,a0k,Qa,a0j,Qb,a0r,Qj,tC,a0e]
  refine ⟨x,dx,_,rfl,hx,a2N _ _ _ (by decide+kernel) (by decide+kernel) (by decide+kernel),x,z,rs,ss,T0,rfl,hA,hn,fun p H1 s1 h1=>a1F (SqT.of h1) rfl ?_⟩
  exact q H1 s1
theorem b2A (T:Txt K mg t):a0V P w K mg base CX0 1 t.f_z0t t.fd_z0t ["self","rules","pairs"] (c0A t):=by
 refine T.F_z0t.ok b2r (fun vs H Q E h=>?_) (fun cdv A outer s H vs Q E hr h=>?_)
 ·obtain ⟨x,dx,b,pb,xs,rs,ps,pl,rfl,hx,hb,hA,hO,hrl,hpb,hPr,hpll,q⟩:=h;rfl
 ·obtain ⟨x,dx,b,pb,xs,rs,ps,pl,rfl,hx,hb,hA,hO,hrl,hpb,hPr,hpll,q⟩:=h
  refine ⟨_,‹A2 (E5 0 (E9 a2G T.z_tuple a2q (A0 1 A1))) (A2 (E5 0 D0) (A2 (C0 (E1 (C6 0)) (A8 3 b2r.nd) (A3 (D4 (D1 Yl Ye Yg a1c (G5 (C6 0) (C6 3) (B8 A1)) (A0 3 A1))))) (A2 (E5 0 H8) (A3 (C0 (B5 2) (A8 4 b2r.nd) (A3 (C1 (C6 0) (C5 (A0 (B4 a0H 4 A4) (A0 (B4 a0H 4 A4) A1))) B7)))))))›,?_⟩
  rw [show start c0z [V.ref x,V.ref b,V.ref pb]=[some (V.ref x),some (V.ref b),some (V.ref pb),none,none] from rfl]
  have hxl:=hA.len
  try simp only [a1q,c0L,tCB,a0j,a0k,Qb,Qa,a0r,a1L,a0D,b2C,a3E,a0e]
  refine ⟨b,xs,rfl,.inl ⟨SqL.of hb,fun io hio=>?_⟩⟩
  obtain ⟨H1,e1,s1,h1⟩:=a1f hio (.tup xs);rw [e1]
  have hiox:io≠x:=fun z=>by rw [z,hx] at hio;cases hio
  refine ⟨x,t.C_Ground,dx,_,rfl,s1 _ _ hx,T.cl_Ground,T.nf_Ground_in_order,by show 0 < 1000;decide,?_⟩
  obtain ⟨H2,e2,k2,h2x,h2io⟩:∃H',upd H1 x (.ins t.C_Ground dx (a1o "in_order" (.ref io) []))=H'∧(∀c o,H c=some o→c≠x→H' c=some o)∧H' x=some (.ins t.C_Ground dx (a1o "in_order" (.ref io) []))∧H' io=some (.tup xs):=⟨_,rfl,fun c o e hc=>by rw [a0a hc];exact s1 _ _ e,a0d,by rw [a0a hiox];exact h1⟩
  rw [e2]
  intro bh hbh
  obtain ⟨H3,e3,s3,h3⟩:=a1f hbh (.dK []);rw [e3]
  have hbhx:bh≠x:=fun z=>by rw [z,h2x] at hbh;cases hbh
  have hbhn:H bh=none:=by
   cases e:H bh with
   | none=>rfl
   | some o=>rw [k2 _ _ e hbhx] at hbh;cases hbh
  refine ⟨x,t.C_Ground,dx,_,rfl,s3 _ _ h2x,T.cl_Ground,T.nf_Ground_by_head,by show 1 < 1000;decide,?_⟩
  have e2f:a1o "by_head" (V.ref bh) (a1o "in_order" (V.ref io) [])=([("in_order",V.ref io),("by_head",V.ref bh)]:List (Str×V)):=by
   show (if ("in_order":Str)="by_head" then _ else _)=_
   rw [if_neg (by decide+kernel)];rfl
  obtain ⟨H4,e4,k4,h4x,h4io,h4bh⟩:∃H',upd H3 x (.ins t.C_Ground dx (a1o "by_head" (.ref bh) (a1o "in_order" (.ref io) [])))=H'∧(∀c o,H c=some o→c≠x→H' c=some o)∧H' x=some (.ins t.C_Ground dx (a1o "by_head" (.ref bh) (a1o "in_order" (.ref io) [])))∧H' io=some (.tup xs)∧H' bh=some (.dK []):=
   ⟨_,rfl,fun c o e hc=>by rw [a0a hc];exact s3 _ _ (k2 c o e hc),a0d,by rw [a0a hiox];exact s3 _ _ h2io,by rw [a0a hbhx];exact h3⟩
  rw [e4]
  have lio:(a1o "by_head" (V.ref bh) (a1o "in_order" (V.ref io) [])).lookup ("in_order":Str)=some (V.ref io):=by rw [a0f,if_neg (by decide+kernel),a0f,if_pos rfl]
  have lbh:(a1o "by_head" (V.ref bh) (a1o "in_order" (V.ref io) [])).lookup ("by_head":Str)=some (V.ref bh):=by rw [a0f,if_pos rfl]
  refine ⟨x,_,dx,_,_,rfl,h4x,T.cl_Ground,T.nf_Ground_in_order,lio,?_⟩
  try simp only [a0t]
  refine ⟨⟨_,SqT.of h4io⟩,?_⟩
  refine a5o (K:=K) (a:=io) (xs:=xs) (fun i σ H'=>∃(kvs:List (Key×V)) (y3:Option V),σ=[some (V.ref x),some (V.ref b),some (V.ref pb),y3,none]∧(∀c o,H c=some o→c≠x→H' c=some o)∧H' x=some (.ins t.C_Ground dx (a1o "by_head" (.ref bh) (a1o "in_order" (.ref io) [])))∧H' io=some (.tup xs)∧H' bh=some (.dK kvs)∧kvs.length≤i∧
    (∀h:Str,(a0N kvs (Sum.inr h:Key)=none∧hdF (rs.take i) h=[])∨∃L ys,a0N kvs (Sum.inr h:Key)=some (.ref L)∧H L=none∧H' L=some (.lst ys)∧ys.length≤i∧a1J t H ys (hdF (rs.take i) h))∧
    (∀(h h':Str) (L:Addr),a0N kvs (Sum.inr h:Key)=some (.ref L)→a0N kvs (Sum.inr h':Key)=some (.ref L)→h=h'))
   ⟨[],_,rfl,k4,h4x,h4io,h4bh,Qk _,fun h=>.inl ⟨rfl,rfl⟩,fun h h' L e=>by cases e⟩ (fun i σ H' _ h=>by obtain ⟨_,_,_,_,_,h,_⟩:=h;exact SqT.of h) ?_ ?_
  ·rintro i v σ H5 hi ⟨kvs,y3,rfl,k5,h5x,h5io,h5bh,hkl,hF,hinj⟩
   have hil:i < rs.length:=by rw [←hA.len];exact (Qn.mp hi).1
   obtain ⟨v',ev,p,rfl,hp⟩:=hA.get i rs[i] (Qc hil)
   rw [hi] at ev;cases ev
   have hro:=hO _ (Xd hil)
   have CF:=a8S T hro.1
   have hru:b1a t H (.ref p) rs[i]:=⟨p,rfl,hp⟩
   have esn:∀h,hdF (rs.take (i+1)) h=hdF (rs.take i) h++(if rs[i].2.2.1=h then [rs[i]] else []):=fun h=>by
    unfold hdF
    rw [Qw hil,Zv,Xw]
    by_cases z:rs[i].2.2.1=h
    ·rw [if_pos z,if_pos (decide_eq_true z)];rfl
    ·rw [if_neg z,if_neg (by simpa using z)];rfl
   generalize rs[i]=r at hp hro CF hru esn
   obtain ⟨dx',t0,hp1,hp2⟩:=hp
   have hpx:p≠x:=fun z=>by
    rw [z,hx] at hp1
    injection hp1 with hp1
    injection hp1 with _ _ h3
    have:=a1h (.str r.2.1) (.str r.2.2.1) t0
    rw [←h3] at this;cases this
   have hp5:=k5 _ _ hp1 hpx
   try simp only [a0l,a4r,tBM,a7y,a3E,a0k,Qg,Qh,Qa,Qb,a3n,a0r,a0j,a0e]
   refine ⟨x,_,dx,_,_,rfl,h5x,T.cl_Ground,T.nf_Ground_by_head,lbh,?_⟩
   try simp only [a0t]
   refine ⟨a2w h5bh,p,_,dx',_,_,rfl,hp5,CF.cl,CF.nh,a1h _ _ _,by decide,fun N hN=>?_⟩
   obtain ⟨H6,e6,s6,h6⟩:=a1f hN (.lst []);rw [e6]
   have hNx:N≠x:=fun z=>by rw [z,h5x] at hN;cases hN
   have hNio:N≠io:=fun z=>by rw [z,h5io] at hN;cases hN
   have hNbh:N≠bh:=fun z=>by rw [z,h5bh] at hN;cases hN
   have hNn:H N=none:=by
    cases e:H N with
    | none=>rfl
    | some o=>rw [k5 _ _ e hNx] at hN;cases hN
   refine ⟨kvs,Sum.inr r.2.2.1,s6 _ _ h5bh,rfl,Xm (show kvs.length≤1000 by omega) (by decide),fun u hu=>?_,fun hu=>?_⟩
   ·rcases hF r.2.2.1 with ⟨e,_⟩ | ⟨L,ys,e,hLn,hL5,hyl,hR⟩
    ·rw [e] at hu;cases hu
    rw [e] at hu;cases hu
    have hL6:=s6 _ _ hL5
    have hLx:L≠x:=a0G hL5 h5x (by intro z;cases z)
    have hLio:L≠io:=a0G hL5 h5io (by intro z;cases z)
    have hLbh:L≠bh:=a0G hL5 h5bh (by intro z;cases z)
    try skip
    refine ⟨.inl ⟨rfl,_,SqL.of hL6⟩,L,_,_,rfl,rfl,hL6,Xm (show ys.length≤1000 by omega) (by decide),?_⟩
    refine ⟨kvs,_,rfl,fun c o e hc=>?_,?_,?_,?_,by omega,fun h=>?_,hinj⟩
    ·rw [a0a (a0c e hLn)];exact s6 _ _ (k5 c o e hc)
    ·rw [a0a hLx.symm];exact s6 _ _ h5x
    ·rw [a0a hLio.symm];exact s6 _ _ h5io
    ·rw [a0a hLbh.symm];exact s6 _ _ h5bh
    ·rw [esn]
     by_cases z:r.2.2.1=h
     ·subst z
      rw [if_pos rfl]
      refine .inr ⟨L,ys++[V.ref p],e,hLn,a0d,by simp;omega,?_⟩
      refine ⟨by simp [hR.len],fun j r' ej=>?_⟩
      by_cases hj:j < (hdF (rs.take i) r.2.2.1).length
      ·rw [Yc hj] at ej
       rw [Yc (by rw [hR.len];exact hj)]
       exact hR.get j r' ej
      ·rw [Xz (by omega)] at ej
       rw [Xz (by rw [hR.len];omega),hR.len]
       have hj0:=(Qn.mp ej).1
       have ej0:j - (hdF (rs.take i) r.2.2.1).length=0:=by simp at hj0;omega
       rw [ej0] at ej ⊢
       cases ej
       exact ⟨_,rfl,hru⟩
     ·rw [if_neg z,Qj]
      rcases hF h with ⟨e',g⟩ | ⟨L',ys',e',g1,g2,g3,g4⟩
      ·exact .inl ⟨e',g⟩
      ·refine .inr ⟨L',ys',e',g1,?_,by omega,g4⟩
       have:L'≠L:=fun w=>z (hinj _ _ L e (by rw [←w];exact e'))
       rw [a0a this];exact s6 _ _ g2
   ·try skip
    have hbN:bh≠N:=hNbh.symm
    refine ⟨.inl ⟨rfl,_,SqL.of (show upd H6 bh (.dK (a1W kvs (Sum.inr r.2.2.1) (V.ref N))) N=some (.lst []) by rw [a0a hNbh];exact h6)⟩,N,_,_,rfl,rfl,(by rw [a0a hNbh];exact h6),by decide,?_⟩
    have kvl:=a0z kvs (Sum.inr r.2.2.1:Key) (V.ref N)
    refine ⟨a1W kvs (Sum.inr r.2.2.1) (V.ref N),_,rfl,fun c o e hc=>?_,?_,?_,?_,by omega,fun h=>?_,fun h h' L e1 e2=>?_⟩
    ·rw [a0a (a0c e hNn),a0a (a0c e hbhn)];exact s6 _ _ (k5 c o e hc)
    ·rw [a0a hNx.symm,a0a hbhx.symm];exact s6 _ _ h5x
    ·rw [a0a hNio.symm,a0a (a0G h5io h5bh (by intro z;cases z))];exact s6 _ _ h5io
    ·rw [a0a hbN,a0d]
    ·rw [esn,a1k]
     by_cases z:r.2.2.1=h
     ·subst z
      rw [if_pos rfl,if_pos rfl]
      rcases hF r.2.2.1 with ⟨e',g⟩ | ⟨L',ys',e',_⟩
      ·rw [g]
       refine .inr ⟨N,[V.ref p],rfl,hNn,a0d,by simp,⟨rfl,fun j r' ej=>?_⟩⟩
       cases j with
       | zero=>cases ej;exact ⟨_,rfl,hru⟩
       | succ j=>simp at ej
      ·rw [e'] at hu;cases hu
     ·rw [if_neg z,Qj,if_neg (fun w=>z (Sum.inr.inj w).symm)]
      rcases hF h with ⟨e',g⟩ | ⟨L',ys',e',g1,g2,g3,g4⟩
      ·exact .inl ⟨e',g⟩
      ·refine .inr ⟨L',ys',e',g1,?_,by omega,g4⟩
       have hLN:L'≠N:=fun w=>by rw [w,hN] at g2;cases g2
       rw [a0a hLN,a0a (a0G g2 h5bh (by intro z;cases z))];exact s6 _ _ g2
    ·rw [a1k] at e1 e2
     by_cases z1:(Sum.inr h:Key)=Sum.inr r.2.2.1
     ·by_cases z2:(Sum.inr h':Key)=Sum.inr r.2.2.1
      ·rw [Sum.inr.inj z1,Sum.inr.inj z2]
      ·rw [if_pos z1] at e1;cases e1
       rw [if_neg z2] at e2
       rcases hF h' with ⟨e',_⟩ | ⟨L',ys',e',_,g2,_⟩
       ·rw [e'] at e2;cases e2
       ·rw [e'] at e2;cases e2;rw [hN] at g2;cases g2
     ·rw [if_neg z1] at e1
      by_cases z2:(Sum.inr h':Key)=Sum.inr r.2.2.1
      ·rw [if_pos z2] at e2;cases e2
       rcases hF h with ⟨e',_⟩ | ⟨L',ys',e',_,g2,_⟩
       ·rw [e'] at e1;cases e1
       ·rw [e'] at e1;cases e1;rw [hN] at g2;cases g2
      ·rw [if_neg z2] at e2
       exact hinj _ _ L e1 e2
  rintro σ H5 ⟨kvs,y3,rfl,k5,h5x,h5io,h5bh,hkl,hF,hinj⟩
  rw [show rs.take xs.length=rs by rw [hxl];exact Xs] at hF
  try simp only [a1q,c0L,a0k,Qa,a0D,a1E,Qb,a0e,a0t]
  intro pr hpr
  obtain ⟨H6,e6,s6,h6⟩:=a1f hpr (.dT []);rw [e6]
  have hprx:pr≠x:=fun z=>by rw [z,h5x] at hpr;cases hpr
  have hprn:H pr=none:=by
   cases e:H pr with
   | none=>rfl
   | some o=>rw [k5 _ _ e hprx] at hpr;cases hpr
  refine ⟨x,t.C_Ground,dx,_,rfl,s6 _ _ h5x,T.cl_Ground,T.nf_Ground_pairs,by rw [e2f];show 2 < 1000;decide,?_⟩
  rw [show a1o "pairs" (V.ref pr) (a1o "by_head" (V.ref bh) (a1o "in_order" (V.ref io) []))=gfl io bh pr from rfl]
  obtain ⟨as,eas,hal,hat⟩:=hPr
  have hiopr:io≠pr:=fun z=>by rw [z,hpr] at h5io;cases h5io
  have hbhpr:bh≠pr:=fun z=>by rw [z,hpr] at h5bh;cases h5bh
  have base:∀H',(∀c o,upd H6 x (.ins t.C_Ground dx (gfl io bh pr)) c=some o→c≠pr→H' c=some o)→(∀c o,H c=some o→c≠x→H' c=some o)∧(∀kps,H' pr=some (.dT kps)→c2e kps pl→a3J t H' x rs pl):=fun H' kk=>by
   have k7:∀c o,H c=some o→c≠x→H' c=some o:=fun c o e hc=>kk c o (by rw [a0a hc];exact s6 _ _ (k5 c o e hc)) (a0c e hprn)
   refine ⟨k7,fun kps hk hp=>⟨dx,io,bh,pr,xs,kvs,kps,kk _ _ a0d hprx.symm,kk _ _ (by rw [a0a hiox];exact s6 _ _ h5io) hiopr,hA.refs hx k7,kk _ _ (by rw [a0a hbhx];exact s6 _ _ h5bh) hbhpr,fun h=>?_,hk,hp⟩⟩
   rcases hF h with z | ⟨L,ys,e,_,g2,_,g4⟩
   ·exact .inl z
   ·exact .inr ⟨L,ys,e,kk _ _ (by rw [a0a (a0G g2 h5x (by intro z;cases z))];exact s6 _ _ g2) (fun z=>by rw [z,hpr] at g2;cases g2),g4.refs hx k7⟩
  have hpb7:upd H6 x (.ins t.C_Ground dx (gfl io bh pr)) pb=some (.lst ps):=by
   have hpx:=a0G hpb hx (by intro z;cases z)
   rw [a0a hpx];exact s6 _ _ (k5 _ _ hpb hpx)
  have hpr7:upd H6 x (.ins t.C_Ground dx (gfl io bh pr)) pr=some (.dT []):=by rw [a0a hprx];exact h6
  have hx7:upd H6 x (.ins t.C_Ground dx (gfl io bh pr)) x=some (.ins t.C_Ground dx (gfl io bh pr)):=a0d
  have hpbpr:pb≠pr:=a0c hpb hprn
  obtain ⟨H7,e7⟩:∃H7,upd H6 x (.ins t.C_Ground dx (gfl io bh pr))=H7:=⟨_,rfl⟩
  rw [e7] at base hpb7 hpr7 hx7 ⊢
  refine ⟨⟨_,SqL.of hpb7⟩,?_⟩
  refine a1d (K:=K) (a:=pb) (xs:=ps) (fun i σ H'=>∃(kps:List (List Key×V)) (y4:Option V),σ=[some (V.ref x),some (V.ref b),some (V.ref pb),y3,y4]∧(∀c o,H7 c=some o→c≠pr→H' c=some o)∧H' pr=some (.dT kps)∧kps.length≤i∧c2e kps (pl.take i))
   ⟨[],_,rfl,fun c o e _=>e,hpr7,Qk _,fun a b=>by rw [Ve,if_neg (by simp)];rfl⟩ (fun i σ H' _ h=>by obtain ⟨_,_,_,kk,_⟩:=h;exact SqL.of (kk _ _ hpb7 hpbpr)) ?_ ?_
  ·rintro i v σ H8 hi ⟨kps,y4,rfl,kk,h8,hkl8,hpo⟩
   have hil:i < as.length:=by
    have:=(Qn.mp hi).1
    rw [eas,Qe] at this;exact this
   have hil':i < pl.length:=by omega
   have ev:v=V.ref as[i]:=by
    rw [eas,Qm,Qc hil] at hi
    exact (Option.some.inj hi).symm
   subst ev
   have hp:=hat i _ _ (Qc hil) (Qc hil')
   have hp8:=(base H8 kk).1 _ _ hp (a0G hp hx (by intro z;cases z))
   have hx8:=kk _ _ hx7 hprx.symm
   rw [Qw hil']
   generalize pl[i]=pp at hp hp8
   generalize pl.take i=pt at hpo
   try simp only [a0l,a3l,tC,a3E,a0k,Qg,Qh,Qa,a7o,a0j,tOp,Qb,a0r,a0e]
   refine ⟨x,_,dx,_,_,rfl,hx8,T.cl_Ground,T.nf_Ground_pairs,b4x _ _ _,?_⟩
   refine a1F (SqT.of hp8) rfl (a1F (SqT.of hp8) rfl ⟨by simp only [Qr,Xl];decide,fun c hc=>?_⟩)
   obtain ⟨H9,e9,s9,h9⟩:=a1f hc (.tup [V.str pp.1,V.str pp.2]);rw [e9]
   refine ⟨pr,_,rfl,a4u.t (k:=[Sum.inr pp.1,Sum.inr pp.2]) (s9 _ _ h8) h9 (Xm (show kps.length≤1000 by omega) (by decide)),a1W kps [Sum.inr pp.1,Sum.inr pp.2] (V.bl true),_,rfl,?_,a0d,by have:=a0z kps ([Sum.inr pp.1,Sum.inr pp.2]:List Key) (V.bl true);omega,fun a b=>?_⟩
   ·intro d o e hd;rw [a0a hd];exact s9 _ _ (kk d o e hd)
   ·rw [a1k,hpo]
    by_cases z:(a,b)=pp
    ·rw [if_pos (by rw [←z]),if_pos (by rw [←z];simp)]
    ·rw [if_neg (fun w=>z (by
      have w1:=congrArg (fun l:List Key=>l.head?) w
      have w2:=congrArg (fun l:List Key=>l.getLast?) w
      simp at w1 w2
      exact Prod.ext w1 w2))]
     by_cases y:(a,b)∈pt
     ·rw [if_pos y,if_pos (Xx _ y)]
     ·rw [if_neg y,if_neg (by simp [y,z])]
  ·rintro σ H8 ⟨kps,y4,rfl,kk,h8,hkl8,hpo⟩
   rw [show pl.take ps.length=pl by rw [eas,Qe,hal,Xs]] at hpo
   try simp only []
   obtain ⟨b1,b2⟩:=base H8 kk
   exact q _ b1 (b2 kps h8 hpo)
theorem a3a (T:Txt K mg t):a0V P w K mg base CX0 1 t.f_z1d t.fd_z1d ["_law_script","_law_k"] (c0s K):=by
 refine T.F_z1d.ok b9v (fun vs H Q E h=>?_) (fun cdv A outer s H vs Q E hr h=>?_)
 ·obtain ⟨a,ns,k,rfl,hS,hl,k0,k1,q⟩:=h;rfl
 ·obtain ⟨a,ns,k,rfl,hS,hl,k0,k1,q⟩:=h
  refine ⟨_,‹A2 (B3 (B1 b4m 1 (C8 a1C T.z_len a1D (A0 0 A1)) (a0p _)) (A3 (A9 (B4 a0H 0 1))) B6) (A3 (A9 A4))›,?_⟩
  rw [show start b9U [V.ref a,V.int k]=[some (V.ref a),some (V.int k)] from rfl]
  try simp only [a1q,a3m,a1l,tOp,a0k,Qb,Qa,tCB,a0j,a0r,a1e,a0e,a1r,tC]
  refine a2c hS ?_
  try simp only [a7B,a1p,decide_eq_true_eq]
  refine a1K (fun c=>?_) (fun c=>q 0 (by rw [Qe] at c;rw [Xh,Yh (by omega)];rfl))
  obtain ⟨v,e,hv,_⟩:=a3w (xs:=ns.map V.int) (i:=k) k0 (by simpa using c)
  obtain ⟨i,_,rfl⟩:=Qf.mp hv
  refine a0E hS e (q i ?_)
  have hc:k.toNat < ns.length:=by rw [Qe] at c;omega
  unfold atI ixN at e
  rw [if_pos (by omega),if_pos (by rw [Qe];omega)] at e
  have e':(ns.map V.int)[k.toNat]?=some (V.int i):=e
  rw [Qm,Qc hc] at e'
  rw [Xh,Qc hc]
  exact (V.int.inj (Option.some.inj e')).symm
theorem c1u (T:Txt K mg t):a0V P w K mg base CX0 1 t.f_z21 t.fd_z21 ["_law_rows_here"] c8c:=by
 refine T.F_z21.ok b0o (fun vs H Q E h=>?_) (fun cdv A outer s H vs Q E hr h=>?_)
 ·obtain ⟨a,xs,rs,rfl,ha,hA,hrl,q⟩:=h;rfl
 ·obtain ⟨a,xs,rs,rfl,ha,hA,hrl,q⟩:=h
  refine ⟨_,‹A2 (A6 1 b0o.nd D0) (A2 (C0 (B5 0) (A8 2 b0o.nd) (A3 (D4 (D1 Yl Ye Yg a1c (G5 1 (B4 a0H 2 A4) (B8 A1)) (A0 2 A1))))) (A3 (A9 1)))›,?_⟩
  rw [show start b9d [V.ref a]=[some (V.ref a),none,none] from rfl]
  have hxl:=hA.len
  try simp only [a1q,a1S,a1L,a0l,Qg,Qh,a0D,a1E,a0k,Qa,a0e,a0t]
  intro bh hbh
  obtain ⟨H1,e1,s1,h1⟩:=a1f hbh (.dK []);rw [e1]
  refine ⟨⟨_,SqL.of (s1 _ _ ha)⟩,?_⟩
  refine a1d (K:=K) (a:=a) (xs:=xs) (fun i σ H'=>∃(kvs:List (Key×V)) (y2:Option V),σ=[some (V.ref a),some (V.ref bh),y2]∧a0h H H'∧H' bh=some (.dK kvs)∧kvs.length≤i∧
    (∀h:Str,(a0N kvs (Sum.inr h:Key)=none∧hdF (rs.take i) h=[])∨∃L ys,a0N kvs (Sum.inr h:Key)=some (.ref L)∧H L=none∧H' L=some (.lst ys)∧ys.length≤i∧a1v H ys (hdF (rs.take i) h))∧
    (∀(h h':Str) (L:Addr),a0N kvs (Sum.inr h:Key)=some (.ref L)→a0N kvs (Sum.inr h':Key)=some (.ref L)→h=h'))
   ⟨[],_,rfl,s1,h1,Qk _,fun h=>.inl ⟨rfl,rfl⟩,fun h h' L e=>by cases e⟩ (fun i σ H' _ h=>by obtain ⟨_,_,_,s,_⟩:=h;exact SqL.of (s _ _ ha)) ?_ ?_
  ·rintro i v σ H5 hi ⟨kvs,y2,rfl,s5,h5bh,hkl,hF,hinj⟩
   have hil:i < rs.length:=by rw [←hA.len];exact (Qn.mp hi).1
   obtain ⟨v',ev,hru⟩:=hA.get i rs[i] (Qc hil)
   rw [hi] at ev;cases ev
   have esn:∀h,hdF (rs.take (i+1)) h=hdF (rs.take i) h++(if rs[i].2.2.1=h then [rs[i]] else []):=fun h=>by
    unfold hdF
    rw [Qw hil,Zv,Xw]
    by_cases z:rs[i].2.2.1=h
    ·rw [if_pos z,if_pos (decide_eq_true z)];rfl
    ·rw [if_neg z,if_neg (by simpa using z)];rfl
   generalize rs[i]=r at hru esn
   obtain ⟨p,t1,rfl,hp1,hp2⟩:=id hru
   have hp5:=s5 _ _ hp1
   try simp only [a0l,a4r,tBM,a7y,a0k,Qg,Qh,Qb,Qa,tOp,tC,a3n,a0r,a0j,a0e,a0t]
   refine ⟨a2w h5bh,a1F (SqT.of hp5) rfl ⟨by decide,fun N hN=>?_⟩⟩
   obtain ⟨H6,e6,s6,h6⟩:=a1f hN (.lst []);rw [e6]
   have hNbh:N≠bh:=fun z=>by rw [z,h5bh] at hN;cases hN
   have hNn:H N=none:=none_of s5 hN
   refine ⟨kvs,Sum.inr r.2.2.1,s6 _ _ h5bh,rfl,Xm (show kvs.length≤1000 by omega) (by decide),fun u hu=>?_,fun hu=>?_⟩
   ·rcases hF r.2.2.1 with ⟨e,_⟩ | ⟨L,ys,e,hLn,hL5,hyl,hR⟩
    ·rw [e] at hu;cases hu
    rw [e] at hu;cases hu
    have hL6:=s6 _ _ hL5
    have hLbh:L≠bh:=a0G hL5 h5bh (by intro z;cases z)
    try skip
    refine ⟨.inl ⟨rfl,_,SqL.of hL6⟩,L,_,_,rfl,rfl,hL6,Xm (show ys.length≤1000 by omega) (by decide),?_⟩
    refine ⟨kvs,_,rfl,fun c o e=>?_,?_,by omega,fun h=>?_,hinj⟩
    ·rw [a0a (a0c e hLn)];exact s6 _ _ (s5 c o e)
    ·rw [a0a hLbh.symm];exact s6 _ _ h5bh
    ·rw [esn]
     by_cases z:r.2.2.1=h
     ·subst z
      rw [if_pos rfl]
      refine .inr ⟨L,ys++[V.ref p],e,hLn,a0d,by simp;omega,?_⟩
      refine ⟨by simp [hR.len],fun j r' ej=>?_⟩
      by_cases hj:j < (hdF (rs.take i) r.2.2.1).length
      ·rw [Yc hj] at ej
       rw [Yc (by rw [hR.len];exact hj)]
       exact hR.get j r' ej
      ·rw [Xz (by omega)] at ej
       rw [Xz (by rw [hR.len];omega),hR.len]
       have hj0:=(Qn.mp ej).1
       have ej0:j - (hdF (rs.take i) r.2.2.1).length=0:=by simp at hj0;omega
       rw [ej0] at ej ⊢
       cases ej
       exact ⟨_,rfl,hru⟩
     ·rw [if_neg z,Qj]
      rcases hF h with ⟨e',g⟩ | ⟨L',ys',e',g1,g2,g3,g4⟩
      ·exact .inl ⟨e',g⟩
      ·refine .inr ⟨L',ys',e',g1,?_,by omega,g4⟩
       have:L'≠L:=fun w=>z (hinj _ _ L e (by rw [←w];exact e'))
       rw [a0a this];exact s6 _ _ g2
   ·try skip
    have hbN:bh≠N:=hNbh.symm
    refine ⟨.inl ⟨rfl,_,SqL.of (show upd H6 bh (.dK (a1W kvs (Sum.inr r.2.2.1) (V.ref N))) N=some (.lst []) by rw [a0a hNbh];exact h6)⟩,N,_,_,rfl,rfl,(by rw [a0a hNbh];exact h6),by decide,?_⟩
    have kvl:=a0z kvs (Sum.inr r.2.2.1:Key) (V.ref N)
    refine ⟨a1W kvs (Sum.inr r.2.2.1) (V.ref N),_,rfl,fun c o e=>?_,?_,by omega,fun h=>?_,fun h h' L e1 e2=>?_⟩
    ·rw [a0a (a0c e hNn),a0a (a0c e hbh)];exact s6 _ _ (s5 c o e)
    ·rw [a0a hbN,a0d]
    ·rw [esn,a1k]
     by_cases z:r.2.2.1=h
     ·subst z
      rw [if_pos rfl,if_pos rfl]
      rcases hF r.2.2.1 with ⟨e',g⟩ | ⟨L',ys',e',_⟩
      ·rw [g]
       refine .inr ⟨N,[V.ref p],rfl,hNn,a0d,by simp,⟨rfl,fun j r' ej=>?_⟩⟩
       cases j with
       | zero=>cases ej;exact ⟨_,rfl,hru⟩
       | succ j=>simp at ej
      ·rw [e'] at hu;cases hu
     ·rw [if_neg z,Qj,if_neg (fun w=>z (Sum.inr.inj w).symm)]
      rcases hF h with ⟨e',g⟩ | ⟨L',ys',e',g1,g2,g3,g4⟩
      ·exact .inl ⟨e',g⟩
      ·refine .inr ⟨L',ys',e',g1,?_,by omega,g4⟩
       have hLN:L'≠N:=fun w=>by rw [w,hN] at g2;cases g2
       rw [a0a hLN,a0a (a0G g2 h5bh (by intro z;cases z))];exact s6 _ _ g2
    ·rw [a1k] at e1 e2
     by_cases z1:(Sum.inr h:Key)=Sum.inr r.2.2.1
     ·by_cases z2:(Sum.inr h':Key)=Sum.inr r.2.2.1
      ·rw [Sum.inr.inj z1,Sum.inr.inj z2]
      ·rw [if_pos z1] at e1;cases e1
       rw [if_neg z2] at e2
       rcases hF h' with ⟨e',_⟩ | ⟨L',ys',e',_,g2,_⟩
       ·rw [e'] at e2;cases e2
       ·rw [e'] at e2;cases e2;rw [hN] at g2;cases g2
     ·rw [if_neg z1] at e1
      by_cases z2:(Sum.inr h':Key)=Sum.inr r.2.2.1
      ·rw [if_pos z2] at e2;cases e2
       rcases hF h with ⟨e',_⟩ | ⟨L',ys',e',_,g2,_⟩
       ·rw [e'] at e1;cases e1
       ·rw [e'] at e1;cases e1;rw [hN] at g2;cases g2
      ·rw [if_neg z2] at e2
       exact hinj _ _ L e1 e2
  rintro σ H5 ⟨kvs,y2,rfl,s5,h5bh,hkl,hF,hinj⟩
  rw [show rs.take xs.length=rs by rw [hxl];exact Xs] at hF
  try simp only [a1e,a0k,Qb,Qa,a0e]
  refine q bh H5 s5 hbh ⟨kvs,h5bh,fun h=>(hF h).imp id fun ⟨L,ys,a,_,b,_,c⟩=>⟨L,ys,a,b,c.same s5⟩⟩
theorem b4q (T:Txt K mg t):a0V P w K mg base CX0 1 t.f_z1m t.fd_z1m ["_law_pairs_here","_law_row_here","_law_some"] b0x:=by
 refine T.F_z1m.ok c0H (fun vs H Q E h=>?_) (fun cdv A outer s H vs Q E hr h=>?_)
 ·obtain ⟨P0,G,v,ps,pl,r,zs,rfl,hP,hPr,hPo,hv,hro,hG,hz,hzl,q⟩:=h;rfl
 ·obtain ⟨P0,G,v,ps,pl,r,zs,rfl,hP,hPr,hPo,hv,hro,hG,hz,hzl,q⟩:=h
  refine ⟨_,‹A3 (A9 (F0 (a2v hr.units) (B9 (B2 (a0b a9e) b5N ["_law_one","_law_pairs_here","_law_row_here"] [none,some 0,some 1]) (B5 2) (A8 0 (show Xk (["_law_one","_law_pairs_here","_law_row_here"]:List Str) by decide+kernel)) (C4 (B1 (b6h hr.units (K:=K) rfl) (C5 (A0 (B4 (a2S (K:=K) rfl) 0 A4) (A0 (B4 (a2S (K:=K) rfl) 2 A4) A1))) 1 (by with_unfolding_all rfl))) 0) (B8 A1) (a0p _)))›,?_⟩
  rw [show start b5N [V.ref P0,v,V.ref G]=[some (V.ref P0),some (v),some (V.ref G)] from rfl]
  try simp only [a1e,tOp,a3n,a0r,a0n,a1E,a0k,Qb,Qa,a0e,a0t]
  refine ⟨⟨_,SqL.of hG⟩,?_⟩
  refine a2R (fun H' v r=>a4s H' v r∧a1w r) (0,"","",[]) zs hG (by omega) (fun H' s=>hz.same s) [some (V.ref P0),some v] rfl (fun b=>decide ((b.2.1,r.2.1)∈pl)) (fun p=>p.1) (fun x b H' R' hx s' hR'=>?_) (fun x b H' R' hx s' hR'=>?_) (fun W H5 hWn s5 hW5=>?_)
  ·obtain ⟨⟨p,t1,rfl,hp,ht⟩,hbo⟩:=hx
   obtain ⟨p',t2,rfl,hp',ht'⟩:=hv
   try simp only [a1l,tOp,a7o,a0j,a0k,Qa,tC,Qb,a0r,a0e]
   refine a1F (SqT.of hp) rfl (a1F (SqT.of (s' _ _ hp')) rfl ⟨by simp only [Qr,Xl];decide,fun c hc=>?_⟩)
   obtain ⟨H6,e6,s6,h6⟩:=a1f hc (.tup [V.str b.2.1,V.str r.2.1]);rw [e6]
   exact ⟨c,P0,_,_,ps,pl,rfl,rfl,h6,SqL.of (s6 _ _ (s' _ _ hP)),a0R.same s6 (a0R.same s' hPr),⟨hbo.2.2.1.1,hro.2.2.1.1⟩,hPo,_,rfl,hR' _ s6⟩
  ·try simp only [a0k,Qa,a0e]
   exact hR' _ (a0h.refl _)
  try skip
  refine ⟨Xe _,fun p7 hp7=>?_⟩
  obtain ⟨H7,e7,s7,h7⟩:=a1f hp7 (.lst []);rw [e7]
  refine a7J (s7 _ _ hW5) (SqL.of h7) (fun p hp=>((hz.same s5).same s7) p (Qp.mp hp).1) ?_
  have e:(!decide (zs.filter (fun p=>decide ((p.2.2.1,r.2.1)∈pl))=[]))=btn pl (zs.map (·.2)) r:=by
   unfold btn
   rw [Jg,Xn,Yd,decide_eq_false_iff_not,Zi,Yk]
   simp
  rw [e]
  exact q _ (s5.trans s7)
theorem b5j (T:Txt K mg t):a0V P w K mg base CX0 1 t.f_z1p t.fd_z1p ["_law_row_here","_law_down"] b5y:=by
 refine T.F_z1p.ok b8t (fun vs H Q E h=>?_) (fun cdv A outer s H vs Q E hr h=>?_)
 ·obtain ⟨v,a,r,U,rfl,hv,hro,ha,q⟩:=h;rfl
 ·obtain ⟨v,a,r,U,rfl,hv,hro,ha,q⟩:=h
  refine ⟨_,‹A3 (A9 (F0 (a2v hr.units) (B9 (B2 (a0b a9g) b5B ["_law_p","_law_down"] [none,some 1]) (E1 (B4 a0H 0 A4)) (A8 0 (show Xk (["_law_p","_law_down"]:List Str) by decide+kernel)) (C4 (C2 (a1A (a1Y hr) ‹0› ‹1›))) 0) (B8 A1) (a0p _)))›,?_⟩
  rw [show start b5B [v,V.ref a]=[some (v),some (V.ref a)] from rfl]
  obtain ⟨p,t1,rfl,hp,ht⟩:=hv
  have hbl:r.2.2.2.length≤4:=hro.2.2.2.2.2
  have hbo:∀q∈r.2.2.2,OkS q:=hro.2.2.2.2.1
  try simp only [a1e,tOp,a3n,a0r,a0n,b2C,a0k,Qa,tC,a0e]
  refine a1F (SqT.of hp) rfl ?_
  generalize r.2.2.2=bd at hbl hbo ht q
  try simp only [a0t]
  refine ⟨⟨_,SqT.of ht⟩,?_⟩
  refine a4d (a3V (xs:=bd.map V.str)) (Qi (show (bd.map V.str).length≤1000 by rw [Qe];omega) (by decide)) [some (V.ref a)] rfl (fun i=>decide (((bd[i]?).getD "")∈U)) (fun i=>V.str ((bd[i]?).getD "")) (fun H'' s=>SqT.of (s _ _ ht)) (fun i H'' R'' hi s hR''=>?_) (fun i H'' R'' hi s hR''=>?_) (fun C H6 hCn s6 hC=>?_)
  ·have hi':i < bd.length:=by simpa using hi
   have e2:((bd.map V.str)[i]?).getD .non=V.str bd[i]:=by rw [Qm,Qc hi'];rfl
   rw [e2]
   rw [Qc hi',Xi] at hR''
   try simp only [tB,a9q,a0k,Qa,Qb,a1p,a0e]
   obtain ⟨o,ho,eo⟩:=(ha.same s).get bd[i]
   refine ⟨a,o,rfl,ho,?_⟩
   have:=hR'' _ (a0h.refl _)
   rw [eo]
   exact this
  ·have hi':i < bd.length:=by simpa using hi
   have e2:((bd.map V.str)[i]?).getD .non=V.str bd[i]:=by rw [Qm,Qc hi'];rfl
   rw [e2]
   rw [Qc hi',Xi] at hR''
   try simp only [a0k,Qa,a0e]
   exact hR'' _ (a0h.refl _)
  rw [show (bd.map V.str).length=bd.length by simp,a0U ("":Str) (fun z=>decide (z∈U)) V.str bd] at hC
  try skip
  refine ⟨Xe _,fun p7 hp7=>?_⟩
  obtain ⟨H7,e7,s7,h7⟩:=a1f hp7 (.lst []);rw [e7]
  refine b1s (SqL.of (s7 _ _ hC)) (SqL.of h7) (fun z hz=>(hbo z (Qp.mp hz).1).1) ?_
  have e:(!decide (bd.filter (fun z=>decide (z∈U))=[]))=a2s bd U:=by
   unfold a2s
   rw [Xn,Yd,decide_eq_false_iff_not,Zi,Yk]
   simp
  rw [e]
  exact q _ (s6.trans s7)
theorem a7E (T:Txt K mg t):a0V P w K mg base CX0 1 t.f_z1o t.fd_z1o ["_law_q"] b6t:=by
 refine T.F_z1o.ok c0n (fun vs H Q E h=>?_) (fun cdv A outer s H vs Q E hr h=>?_)
 ·obtain ⟨z,rfl,hz,q⟩:=h;rfl
 ·obtain ⟨z,rfl,hz,q⟩:=h
  refine ⟨_,‹A2 (B3 (C3 (D1 Wq Vg Vh a5V 0 (A0 B0 A1))) (A3 (A9 (G4 0 (F7 A4) G6))) B6) (A3 (A9 (A5 a0q B0 0)))›,?_⟩
  rw [show start b8s [V.str z]=[some (V.str z)] from rfl]
  unfold a0v at q
  try simp only [a1q,a3m,tB,tBM,a0k,Qa,a0j,tC,a0r,a1e,tSl,b3J,a7h,b7b,a0e,a7O,a1r,tOp,a1z,a4S,a1p,b2n]
  refine a1K (fun c=>?_) (fun c=>?_)
  ·rw [if_pos c] at q
   exact ⟨a3G (by omega),q⟩
  ·rw [if_neg c] at q
   exact ⟨Qi (Nat.add_le_add (show (Uc "-").length≤1 by decide+kernel) hz) (by decide),q⟩
theorem b4i (T:Txt K mg t):a0V P w K mg base CX0 1 t.f_z1l t.fd_z1l ["_law_row_here","_law_up"] b4c:=by
 refine T.F_z1l.ok b9W (fun vs H Q E h=>?_) (fun cdv A outer s H vs Q E hr h=>?_)
 ·obtain ⟨v,a,r,U,rfl,hv,hro,ha,q⟩:=h;rfl
 ·obtain ⟨v,a,r,U,rfl,hv,hro,ha,q⟩:=h
  refine ⟨_,‹A3 (A9 (F0 (a1t hr.units) (B9 (B2 (a0b a8y) b7u ["_law_p","_law_up"] [none,some 1]) (E1 (B4 a0H 0 A4)) (A8 0 (show Xk (["_law_p","_law_up"]:List Str) by decide+kernel)) (C4 (C2 ‹E0 0 1›)) 0) (B8 A1) (a0p _)))›,?_⟩
  rw [show start b7u [v,V.ref a]=[some (v),some (V.ref a)] from rfl]
  obtain ⟨p,t1,rfl,hp,ht⟩:=hv
  have hbl:r.2.2.2.length≤4:=hro.2.2.2.2.2
  have hbo:∀q∈r.2.2.2,OkS q:=hro.2.2.2.2.1
  try simp only [a1e,tOp,a3n,a0r,a0n,b2C,a0k,Qa,tC,a0e]
  refine a1F (SqT.of hp) rfl ?_
  generalize r.2.2.2=bd at hbl hbo ht q
  try simp only [a0t]
  refine ⟨⟨_,SqT.of ht⟩,?_⟩
  refine a4d (a3V (xs:=bd.map V.str)) (Qi (show (bd.map V.str).length≤1000 by rw [Qe];omega) (by decide)) [some (V.ref a)] rfl (fun i=>decide (((bd[i]?).getD "")∉U)) (fun i=>V.str ((bd[i]?).getD "")) (fun H'' s=>SqT.of (s _ _ ht)) (fun i H'' R'' hi s hR''=>?_) (fun i H'' R'' hi s hR''=>?_) (fun C H6 hCn s6 hC=>?_)
  ·have hi':i < bd.length:=by simpa using hi
   have e2:((bd.map V.str)[i]?).getD .non=V.str bd[i]:=by rw [Qm,Qc hi'];rfl
   rw [e2]
   rw [Qc hi',Xi] at hR''
   try simp only [tB,a2n,a0k,Qa,Qb,a1p,a0e]
   obtain ⟨o,ho,eo⟩:=(ha.same s).get bd[i]
   refine ⟨a,o,rfl,ho,?_⟩
   have:=hR'' _ (a0h.refl _)
   rw [eo,show (!decide (bd[i]∈U))=decide (bd[i]∉U) from by simp]
   exact this
  ·have hi':i < bd.length:=by simpa using hi
   have e2:((bd.map V.str)[i]?).getD .non=V.str bd[i]:=by rw [Qm,Qc hi'];rfl
   rw [e2]
   rw [Qc hi',Xi] at hR''
   try simp only [a0k,Qa,a0e]
   exact hR'' _ (a0h.refl _)
  rw [show (bd.map V.str).length=bd.length by simp,a0U ("":Str) (fun z=>decide (z∉U)) V.str bd] at hC
  try skip
  refine ⟨Xe _,fun p7 hp7=>?_⟩
  obtain ⟨H7,e7,s7,h7⟩:=a1f hp7 (.lst []);rw [e7]
  refine b1p (SqL.of (s7 _ _ hC)) (SqL.of h7) (fun z hz=>(hbo z (Qp.mp hz).1).1) ?_
  rw [a4F]
  exact q _ (s6.trans s7)
theorem c1f (T:Txt K mg t):a0V P w K mg base CX0 2 t.f_z1w t.fd_z1w ["_law_by_here","_law_pairs_here","_law_firm","_law_up","_law_down","_law_q"] (b2u a0Z):=by
 refine T.F_z1w.ok b1v (fun vs H Q E h=>?_) (fun cdv A outer s H vs Q E hr h=>?_)
 ·obtain ⟨B,P0,a1,a2,a3,q0,rs,ps,pl,S,U,D,rfl,hB,hO,hrl,hP,hPr,hPo,h1,h2,h3,hql,q⟩:=h;rfl
 ·obtain ⟨B,P0,a1,a2,a3,q0,rs,ps,pl,S,U,D,rfl,hB,hO,hrl,hP,hPr,hPo,h1,h2,h3,hql,q⟩:=h
  refine ⟨_,‹A2 (B3 (C2 (a1A (a1Y hr) ‹5› ‹2›)) (A3 (A9 B7)) B6) (A2 (A6 6 b1v.nd (B9 (B2 (a0b a6f) b0Z ["_law_row_here","_law_up"] [none,some 3]) (B5 (E8 0 5 (B8 A1))) (A8 0 (show Xk (["_law_row_here","_law_up"]:List Str) by decide+kernel)) (C4 (D5 (F2 (B1 (b4I hr.units (K:=K) rfl) (B4 (a2S (K:=K) rfl) 0 A4) B0 (a0p _)) (F4 (C3 (A7 (b4i T) T.g_z1l T.F_z1l.kp T.b_z1l .nil (A0 0 (A0 1 A1)))))))) 0)) (E3 (B3 (D5 (F1 (B1 (a1t hr.units) 6 (B8 A1) (a0p _)) (F3 (C2 (a1A (a1Y hr) ‹A7 (a7E T) T.g_z1o T.F_z1o.kp T.b_z1o .nil (A0 5 A1)› ‹2›))))) (A3 (A9 B7)) B6) (A2 (D8 7 (B2 (a0b a6f) b0Z ["_law_row_here","_law_down"] [none,some 4]) (B5 (E8 0 (A7 (a7E T) T.g_z1o T.F_z1o.kp T.b_z1o .nil (A0 5 A1)) (B8 A1))) (A8 0 (show Xk (["_law_row_here","_law_down"]:List Str) by decide+kernel)) (C4 (F5 (C3 (A7 (b5j T) T.g_z1p T.F_z1p.kp T.b_z1p .nil (A0 0 (A0 1 A1)))))) 0 b1v.nd) (A3 (A9 (F0 (a1t hr.units) (B9 (B2 (a0b a6f) b0Z ["_law_row_here","_law_pairs_here","_law_good"] [none,some 1,some 6]) (B5 7) (A8 0 (show Xk (["_law_row_here","_law_pairs_here","_law_good"]:List Str) by decide+kernel)) (C4 (F5 (C3 (A7 (b4q T) T.g_z1m T.F_z1m.kp T.b_z1m .nil (A0 1 (A0 0 (A0 2 A1))))))) 0) (B8 A1) (a0p _)))))))›,?_⟩
  rw [show start b0Z [V.ref B,V.ref P0,V.ref a1,V.ref a2,V.ref a3,V.str q0]=[some (V.ref B),some (V.ref P0),some (V.ref a1),some (V.ref a2),some (V.ref a3),some (V.str q0),none,none] from rfl]
  try simp only [a1q,a3m,tB,a9q,a0k,Qb,Qa,a1e,tC,a1r,a1S,a0l,a0n,a1E,a4V,a0x,a0j,a0r,Qj,a3n,Qg,Qh,a0e,a0t,a1p]
  obtain ⟨o1,ho1,eo1⟩:=h1.get q0
  refine ⟨a1,o1,rfl,ho1,?_⟩
  rw [eo1]
  try simp only [decide_eq_true_eq]
  refine a1K (fun c0=>?_) (fun c0=>?_)
  ·have:=q H (a0h.refl _)
   unfold a0Z at this
   rw [if_pos c0] at this
   exact this
  obtain ⟨kvs,hk,_⟩:=id hB
  refine ⟨a2w hk,by decide,fun N hN=>?_⟩
  obtain ⟨H1,e1,s1,hN1⟩:=a1f hN (.lst []);rw [e1]
  obtain ⟨_,o,hDg,L,zr,eL,hL,hz,ez⟩:=a7S (hB.same s1) hN1 hO q0
  have hzl:zr.length≤126:=by
   have:=congrArg Yp ez
   rw [Qe] at this
   rw [this];exact Qi (Qz _ _) hrl
  refine ⟨o,hDg,?_⟩
  rw [eL]
  try simp only [a0t]
  refine ⟨⟨_,SqL.of hL⟩,?_⟩
  refine a2R (fun H' v r=>a4s H' v r∧a1w r) (0,"","",[]) zr hL (by omega) (fun H' s=>hz.same s) [some (V.ref a2)] rfl (fun r=>spk r && a2B r.2.2.2 U) (fun p=>p.1) (fun x r H' R' hx s' hR'=>?_) (fun x r H' R' hx s' hR'=>?_) (fun W H4 hWn s4 hW4=>?_)
  ·have hx':=hx
   obtain ⟨⟨p,t1,rfl,hp,ht⟩,hro⟩:=hx
   try simp only [b6m,a1l,tOp,a0k,Qa,tC,tB,a0x,a0j,Qb,a0r,Qj,a0e]
   refine a1F (SqT.of hp) rfl ?_
   try simp only [a5s,a1p,Yd,decide_eq_false_iff_not]
   refine a1K (fun c1=>?_) (fun c1=>?_)
   ·rw [a7P hro.1 c1,Jw] at hR'
    refine ⟨_,a2,r,U,rfl,hx'.1,hro,h2.same (s1.trans s'),fun H'' s''=>?_⟩
    try simp only [a1p]
    exact hR' _ s''
   ·have:=hR' _ (a0h.refl _)
    rw [a8i hro.1 c1,Zt] at this
    exact this
  ·try simp only [a0k,Qa,a0e]
   exact hR' _ (a0h.refl _)
  have s04:=s1.trans s4
  have hz4:b1t H4 (zr.filter fun p=>spk p.2 && a2B p.2.2.2.2 U):=fun p hp=>(hz.same s4) p (Qp.mp hp).1
  have hzl4:(zr.filter fun p=>spk p.2 && a2B p.2.2.2.2 U).length≤126:=Qi (Qz _ _) hzl
  have est:(zr.filter fun p=>spk p.2 && a2B p.2.2.2.2 U).map (·.2)=a1i rs U q0:=by
   unfold a1i
   rw [←ez,Zw,Zm]
   refine congrArg (Gm _) (Zz fun p _=>?_)
   simp only [Function.comp]
   rw [Uk]
  generalize (zr.filter fun p=>spk p.2 && a2B p.2.2.2.2 U)=zs at hW4 hz4 hzl4 est
  have hemp:(a1i rs U q0=[])↔zs=[]:=by rw [←est,Gd]
  have hneed:∀H',a0h H H'→(a1i rs U q0=[]∨a0v q0∈S)→Q (.bl false) H':=fun H' s' hc=>by
   have:=q H' s'
   unfold a0Z at this
   rw [if_neg c0,if_pos hc] at this
   exact this
  try skip
  refine ⟨fun σ' H'=>σ'=[some (V.ref B),some (V.ref P0),some (V.ref a1),some (V.ref a2),some (V.ref a3),some (V.str q0),some (V.ref W),none]∧a0h H4 H'∧¬(a1i rs U q0=[]∨a0v q0∈S),?_,?_⟩
  ·try simp only [a3m,tOr,a1l,tOp,a0k,Qb,Qa,a3n,a0r,a1e,tC,a1r,if_true,tB,a9q,a0x,a0j,Qj,a1p,a0e]
   refine ⟨Xe _,fun p7 hp7=>?_⟩
   obtain ⟨H7,e7,s7,h7⟩:=a1f hp7 (.lst []);rw [e7]
   refine a5K (s7 _ _ hW4) (SqL.of h7) (hz4.same s7) ?_
   try simp only [a1p,decide_eq_true_eq]
   refine a1K (fun c1=>hneed _ (s04.trans s7) (.inl (hemp.mpr c1))) (fun c1=>?_)
   obtain ⟨o9,ho9,eo9⟩:=(h1.same (s04.trans s7)).get (a0v q0)
   refine ⟨q0,rfl,hql,a1,o9,rfl,ho9,?_⟩
   rw [eo9]
   try simp only [decide_eq_true_eq]
   exact a1K (fun c2=>hneed _ (s04.trans s7) (.inr c2)) (fun c2=>⟨(by trivial),s7,fun z=>z.elim (fun w=>c1 (hemp.mp w)) c2⟩)
  rintro σ' H5 ⟨rfl,s5,hc⟩
  have s05:=s04.trans s5
  try simp only [a1q,Qa,Qb,a1e,tOp,Qg,Qh,a3n,a0r,a0n,a1E,a0k,a0e,a0t]
  refine ⟨a2w (s05 _ _ hk),q0,rfl,hql,by decide,fun N2 hN2=>?_⟩
  obtain ⟨H6,e6,s6,hN6⟩:=a1f hN2 (.lst []);rw [e6]
  have s06:=s05.trans s6
  obtain ⟨_,o2,hDg2,L2,zb,eL2,hL2,hzb,ezb⟩:=a7S (hB.same s06) hN6 hO (a0v q0)
  have hbl:zb.length≤126:=by
   have:=congrArg Yp ezb
   rw [Qe] at this
   rw [this];exact Qi (Qz _ _) hrl
  refine ⟨o2,hDg2,?_⟩
  rw [eL2]
  try simp only [a0t]
  refine ⟨⟨_,SqL.of hL2⟩,?_⟩
  refine a2R (fun H' v r=>a4s H' v r∧a1w r) (0,"","",[]) zb hL2 (by omega) (fun H' s=>hzb.same s) [some (V.ref a3)] rfl (fun r=>!a2s r.2.2.2 D) (fun p=>p.1) (fun x r H' R' hx s' hR'=>?_) (fun x r H' R' hx s' hR'=>?_) (fun W2 H7 hW2n s7 hW7=>?_)
  ·try simp only [b7F,tB,a0x,a0j,a0k,Qa,Qb,a0r,Qj,a0e]
   refine ⟨_,a3,r,D,rfl,hx.1,hx.2,h3.same (s06.trans s'),fun H'' s''=>?_⟩
   try simp only [a1p]
   exact hR' _ s''
  ·try simp only [a0k,Qa,a0e]
   exact hR' _ (a0h.refl _)
  have s57:=s6.trans s7
  have s07:=s05.trans s57
  have hz7:b1t H7 (zb.filter fun p=>!a2s p.2.2.2.2 D):=fun p hp=>(hzb.same s7) p (Qp.mp hp).1
  have hbl7:(zb.filter fun p=>!a2s p.2.2.2.2 D).length≤126:=Qi (Qz _ _) hbl
  have hWz:=s57 _ _ (s5 _ _ hW4)
  have hzz:=hz4.same (s5.trans s57)
  try simp only [a0t]
  refine ⟨⟨_,SqL.of hW7⟩,?_⟩
  refine a2R (fun H' v r=>a4s H' v r∧a1w r) (0,"","",[]) (zb.filter fun p=>!a2s p.2.2.2.2 D) hW7 (Qi hbl7 (by decide)) (fun H' s=>hz7.same s) [some (V.ref P0),some (V.ref W)] rfl (fun r=>!btn pl (zs.map (·.2)) r) (fun p=>p.1) (fun x r H' R' hx s' hR'=>?_) (fun x r H' R' hx s' hR'=>?_) (fun W3 H8 hW3n s8 hW8=>?_)
  ·try simp only [b7F,tB,a0x,a0j,a0k,Qb,Qa,a0r,Qj,a0e]
   refine ⟨P0,W,_,ps,pl,r,zs,rfl,(s07.trans s') _ _ hP,a0R.same (s07.trans s') hPr,hPo,hx.1,hx.2,s' _ _ hWz,hzz.same s',hzl4,fun H'' s''=>?_⟩
   try simp only [a1p]
   exact hR' _ s''
  ·try simp only [a0k,Qa,a0e]
   exact hR' _ (a0h.refl _)
  try skip
  refine ⟨Xe _,fun p9 hp9=>?_⟩
  obtain ⟨H9,e9,s9,h9⟩:=a1f hp9 (.lst []);rw [e9]
  have hz9:b1t H9 ((zb.filter fun p=>!a2s p.2.2.2.2 D).filter fun p=>!btn pl (zs.map (·.2)) p.2):=fun p hp=>(hz7.same (s8.trans s9)) p (Qp.mp hp).1
  have:=q _ ((s07.trans s8).trans s9)
  unfold a0Z at this
  rw [if_neg c0,if_neg hc,←ezb,Vz,←est] at this
  refine a5K (s9 _ _ hW8) (SqL.of h9) hz9 ?_
  rw [b3b]
  exact this
theorem b8Y (T:Txt K mg t):a0V P w K mg base CX0 2 t.f_z1e t.fd_z1e ["_law_by_here","_law_pairs_here","_law_firm","_law_up","_law_down","_law_q"] (b2u a3U):=by
 refine T.F_z1e.ok b0r (fun vs H Q E h=>?_) (fun cdv A outer s H vs Q E hr h=>?_)
 ·obtain ⟨B,P0,a1,a2,a3,q0,rs,ps,pl,S,U,D,rfl,hB,hO,hrl,hP,hPr,hPo,h1,h2,h3,hql,q⟩:=h;rfl
 ·obtain ⟨B,P0,a1,a2,a3,q0,rs,ps,pl,S,U,D,rfl,hB,hO,hrl,hP,hPr,hPo,h1,h2,h3,hql,q⟩:=h
  refine ⟨_,‹A2 (B3 (C2 (a1A (a1Y hr) ‹5› ‹2›)) (A3 (A9 B7)) B6) (A2 (A6 6 b0r.nd (B9 (B2 (a0b a6d) b1B ["_law_row_here","_law_down"] [none,some 4]) (B5 (E8 0 5 (B8 A1))) (A8 0 (show Xk (["_law_row_here","_law_down"]:List Str) by decide+kernel)) (C4 (D5 (F2 (B1 (b4I hr.units (K:=K) rfl) (B4 (a2S (K:=K) rfl) 0 A4) B0 (a0p _)) (F4 (F5 (C3 (A7 (b5j T) T.g_z1p T.F_z1p.kp T.b_z1p .nil (A0 0 (A0 1 A1))))))))) 0)) (E3 (B3 (D5 (F1 (B1 (a1t hr.units) 6 (B8 A1) (a0p _)) (F3 (C2 (a1A (a1Y hr) ‹A7 (a7E T) T.g_z1o T.F_z1o.kp T.b_z1o .nil (A0 5 A1)› ‹2›))))) (A3 (A9 B7)) B6) (A2 (D8 7 (B2 (a0b a6d) b1B ["_law_row_here","_law_up"] [none,some 3]) (B5 (E8 0 (A7 (a7E T) T.g_z1o T.F_z1o.kp T.b_z1o .nil (A0 5 A1)) (B8 A1))) (A8 0 (show Xk (["_law_row_here","_law_up"]:List Str) by decide+kernel)) (C4 (C3 (A7 (b4i T) T.g_z1l T.F_z1l.kp T.b_z1l .nil (A0 0 (A0 1 A1))))) 0 b0r.nd) (A3 (A9 (F0 (a2v hr.units) (B9 (B2 (a0b a6d) b1B ["_law_row_here","_law_pairs_here","_law_left"] [none,some 1,some 6]) (B5 7) (A8 0 (show Xk (["_law_row_here","_law_pairs_here","_law_left"]:List Str) by decide+kernel)) (C4 (F5 (C3 (A7 (b4q T) T.g_z1m T.F_z1m.kp T.b_z1m .nil (A0 1 (A0 0 (A0 2 A1))))))) 0) (B8 A1) (a0p _)))))))›,?_⟩
  rw [show start b1B [V.ref B,V.ref P0,V.ref a1,V.ref a2,V.ref a3,V.str q0]=[some (V.ref B),some (V.ref P0),some (V.ref a1),some (V.ref a2),some (V.ref a3),some (V.str q0),none,none] from rfl]
  try simp only [a1q,a3m,tB,a9q,a0k,Qb,Qa,a1e,tC,a1r,a1S,a0l,a0n,a1E,a4V,a0x,a0j,a0r,Qj,a3n,Qg,Qh,a0e,a0t,a1p]
  obtain ⟨o1,ho1,eo1⟩:=h1.get q0
  refine ⟨a1,o1,rfl,ho1,?_⟩
  rw [eo1]
  try simp only [decide_eq_true_eq]
  refine a1K (fun c0=>?_) (fun c0=>?_)
  ·have:=q H (a0h.refl _)
   unfold a3U at this
   rw [if_pos c0] at this
   exact this
  obtain ⟨kvs,hk,_⟩:=id hB
  refine ⟨a2w hk,by decide,fun N hN=>?_⟩
  obtain ⟨H1,e1,s1,hN1⟩:=a1f hN (.lst []);rw [e1]
  obtain ⟨_,o,hDg,L,zr,eL,hL,hz,ez⟩:=a7S (hB.same s1) hN1 hO q0
  have hzl:zr.length≤126:=by
   have:=congrArg Yp ez
   rw [Qe] at this
   rw [this];exact Qi (Qz _ _) hrl
  refine ⟨o,hDg,?_⟩
  rw [eL]
  try simp only [a0t]
  refine ⟨⟨_,SqL.of hL⟩,?_⟩
  refine a2R (fun H' v r=>a4s H' v r∧a1w r) (0,"","",[]) zr hL (by omega) (fun H' s=>hz.same s) [some (V.ref a3)] rfl (fun r=>spk r && !a2s r.2.2.2 D) (fun p=>p.1) (fun x r H' R' hx s' hR'=>?_) (fun x r H' R' hx s' hR'=>?_) (fun W H4 hWn s4 hW4=>?_)
  ·have hx':=hx
   obtain ⟨⟨p,t1,rfl,hp,ht⟩,hro⟩:=hx
   try simp only [b6m,a1l,tOp,a0k,Qa,tC,b7F,tB,a0x,a0j,Qb,a0r,Qj,a0e]
   refine a1F (SqT.of hp) rfl ?_
   try simp only [a5s,a1p,Yd,decide_eq_false_iff_not]
   refine a1K (fun c1=>?_) (fun c1=>?_)
   ·rw [a7P hro.1 c1,Jw] at hR'
    refine ⟨_,a3,r,D,rfl,hx'.1,hro,h3.same (s1.trans s'),fun H'' s''=>?_⟩
    try simp only [a1p]
    exact hR' _ s''
   ·have:=hR' _ (a0h.refl _)
    rw [a8i hro.1 c1,Zt] at this
    exact this
  ·try simp only [a0k,Qa,a0e]
   exact hR' _ (a0h.refl _)
  have s04:=s1.trans s4
  have hz4:b1t H4 (zr.filter fun p=>spk p.2 && !a2s p.2.2.2.2 D):=fun p hp=>(hz.same s4) p (Qp.mp hp).1
  have hzl4:(zr.filter fun p=>spk p.2 && !a2s p.2.2.2.2 D).length≤126:=Qi (Qz _ _) hzl
  have est:(zr.filter fun p=>spk p.2 && !a2s p.2.2.2.2 D).map (·.2)=unf rs D q0:=by
   unfold unf
   rw [←ez,Zw,Zm]
   refine congrArg (Gm _) (Zz fun p _=>?_)
   simp only [Function.comp]
   rw [Uk]
  generalize (zr.filter fun p=>spk p.2 && !a2s p.2.2.2.2 D)=zs at hW4 hz4 hzl4 est
  have hemp:(unf rs D q0=[])↔zs=[]:=by rw [←est,Gd]
  have hneed:∀H',a0h H H'→(unf rs D q0=[]∨a0v q0∈S)→Q (.bl true) H':=fun H' s' hc=>by
   have:=q H' s'
   unfold a3U at this
   rw [if_neg c0,if_pos hc] at this
   exact this
  try skip
  refine ⟨fun σ' H'=>σ'=[some (V.ref B),some (V.ref P0),some (V.ref a1),some (V.ref a2),some (V.ref a3),some (V.str q0),some (V.ref W),none]∧a0h H4 H'∧¬(unf rs D q0=[]∨a0v q0∈S),?_,?_⟩
  ·try simp only [a3m,tOr,a1l,tOp,a0k,Qb,Qa,a3n,a0r,a1e,tC,a1r,if_true,tB,a9q,a0x,a0j,Qj,a1p,a0e]
   refine ⟨Xe _,fun p7 hp7=>?_⟩
   obtain ⟨H7,e7,s7,h7⟩:=a1f hp7 (.lst []);rw [e7]
   refine a5K (s7 _ _ hW4) (SqL.of h7) (hz4.same s7) ?_
   try simp only [a1p,decide_eq_true_eq]
   refine a1K (fun c1=>hneed _ (s04.trans s7) (.inl (hemp.mpr c1))) (fun c1=>?_)
   obtain ⟨o9,ho9,eo9⟩:=(h1.same (s04.trans s7)).get (a0v q0)
   refine ⟨q0,rfl,hql,a1,o9,rfl,ho9,?_⟩
   rw [eo9]
   try simp only [decide_eq_true_eq]
   exact a1K (fun c2=>hneed _ (s04.trans s7) (.inr c2)) (fun c2=>⟨(by trivial),s7,fun z=>z.elim (fun w=>c1 (hemp.mp w)) c2⟩)
  rintro σ' H5 ⟨rfl,s5,hc⟩
  have s05:=s04.trans s5
  try simp only [a1q,Qa,Qb,a1e,tOp,Qg,Qh,a3n,a0r,a0n,a1E,a0k,a0e,a0t]
  refine ⟨a2w (s05 _ _ hk),q0,rfl,hql,by decide,fun N2 hN2=>?_⟩
  obtain ⟨H6,e6,s6,hN6⟩:=a1f hN2 (.lst []);rw [e6]
  have s06:=s05.trans s6
  obtain ⟨_,o2,hDg2,L2,zb,eL2,hL2,hzb,ezb⟩:=a7S (hB.same s06) hN6 hO (a0v q0)
  have hbl:zb.length≤126:=by
   have:=congrArg Yp ezb
   rw [Qe] at this
   rw [this];exact Qi (Qz _ _) hrl
  refine ⟨o2,hDg2,?_⟩
  rw [eL2]
  try simp only [a0t]
  refine ⟨⟨_,SqL.of hL2⟩,?_⟩
  refine a2R (fun H' v r=>a4s H' v r∧a1w r) (0,"","",[]) zb hL2 (by omega) (fun H' s=>hzb.same s) [some (V.ref a2)] rfl (fun r=>a2B r.2.2.2 U) (fun p=>p.1) (fun x r H' R' hx s' hR'=>?_) (fun x r H' R' hx s' hR'=>?_) (fun W2 H7 hW2n s7 hW7=>?_)
  ·try simp only [tB,a0x,a0j,a0k,Qa,Qb,a0r,Qj,a0e]
   refine ⟨_,a2,r,U,rfl,hx.1,hx.2,h2.same (s06.trans s'),fun H'' s''=>?_⟩
   try simp only [a1p]
   exact hR' _ s''
  ·try simp only [a0k,Qa,a0e]
   exact hR' _ (a0h.refl _)
  have s57:=s6.trans s7
  have s07:=s05.trans s57
  have hz7:b1t H7 (zb.filter fun p=>a2B p.2.2.2.2 U):=fun p hp=>(hzb.same s7) p (Qp.mp hp).1
  have hbl7:(zb.filter fun p=>a2B p.2.2.2.2 U).length≤126:=Qi (Qz _ _) hbl
  have hWz:=s57 _ _ (s5 _ _ hW4)
  have hzz:=hz4.same (s5.trans s57)
  try simp only [a0t]
  refine ⟨⟨_,SqL.of hW7⟩,?_⟩
  refine a2R (fun H' v r=>a4s H' v r∧a1w r) (0,"","",[]) (zb.filter fun p=>a2B p.2.2.2.2 U) hW7 (Qi hbl7 (by decide)) (fun H' s=>hz7.same s) [some (V.ref P0),some (V.ref W)] rfl (fun r=>!btn pl (zs.map (·.2)) r) (fun p=>p.1) (fun x r H' R' hx s' hR'=>?_) (fun x r H' R' hx s' hR'=>?_) (fun W3 H8 hW3n s8 hW8=>?_)
  ·try simp only [b7F,tB,a0x,a0j,a0k,Qb,Qa,a0r,Qj,a0e]
   refine ⟨P0,W,_,ps,pl,r,zs,rfl,(s07.trans s') _ _ hP,a0R.same (s07.trans s') hPr,hPo,hx.1,hx.2,s' _ _ hWz,hzz.same s',hzl4,fun H'' s''=>?_⟩
   try simp only [a1p]
   exact hR' _ s''
  ·try simp only [a0k,Qa,a0e]
   exact hR' _ (a0h.refl _)
  try skip
  refine ⟨Xe _,fun p9 hp9=>?_⟩
  obtain ⟨H9,e9,s9,h9⟩:=a1f hp9 (.lst []);rw [e9]
  have hz9:b1t H9 ((zb.filter fun p=>a2B p.2.2.2.2 U).filter fun p=>!btn pl (zs.map (·.2)) p.2):=fun p hp=>(hz7.same (s8.trans s9)) p (Qp.mp hp).1
  have:=q _ ((s07.trans s8).trans s9)
  unfold a3U at this
  rw [if_neg c0,if_neg hc,←ezb,Jg,←est] at this
  refine a7J (s9 _ _ hW8) (SqL.of h9) hz9 ?_
  rw [b3o]
  exact this
theorem b8B (T:Txt K mg t):a0V P w K mg base CX0 1 t.f_z1k t.fd_z1k ["_law_rows_here","_law_known"] (b2B K):=by
 refine T.F_z1k.ok a2f (fun vs H Q E h=>?_) (fun cdv A outer s H vs Q E hr h=>?_)
 ·obtain ⟨a,b,xs,rs,kn,rfl,ha,hA,hO,hrl,hb,hkl,q⟩:=h;rfl
 ·obtain ⟨a,b,xs,rs,kn,rfl,ha,hA,hO,hrl,hb,hkl,q⟩:=h
  refine ⟨_,‹A2 (A6 2 a2f.nd D0) (A2 (C0 (B5 1) (A8 3 a2f.nd) (A3 (C1 2 3 B7))) (A2 (A6 4 a2f.nd D0) (A2 (A6 5 a2f.nd A4) (A2 (A6 6 a2f.nd (B8 (A0 B0 A1))) (A2 (G1 (B1 (a2v hr.units) 6 (B8 A1) (a0p _)) (A2 (H9 5 a2f.nd rfl A4 c1k) (A2 (A6 6 a2f.nd (B8 A1)) (A2 (C0 (B5 0) (G9 (D6 (A8 7 a2f.nd) (D6 (A8 8 a2f.nd) (D6 (A8 9 a2f.nd) (D6 (A8 10 a2f.nd) G2))))) (A3 (B3 (D5 (F2 (B1 a4Q 7 (C5 (A0 B0 (A0 B0 A1))) (by with_unfolding_all rfl)) (F2 (C2 ‹E0 9 2›) (F4 (B1 (a1t hr.units) (B9 (B2 (a0b a8M) b5K ["_law_q","_law_there"] [none,some 2]) (E1 10) (A8 0 (show Xk (["_law_q","_law_there"]:List Str) by decide+kernel)) (C4 (C2 ‹E0 0 1›)) 0) (B8 A1) (a0p _)))))) (A3 (D4 (D1 Yl Ye Yg a1c 6 (A0 9 A1)))) B6))) (A3 (C0 (B5 6) (A8 9 a2f.nd) (A2 (C1 2 9 B7) (A3 (C1 4 9 5))))))))) (A3 (A9 4)))))))›,?_⟩
  rw [show start b5K [V.ref a,V.ref b]=[some (V.ref a),some (V.ref b),none,none,none,none,none,none,none,none,none] from rfl]
  try simp only [a1q,a1S,a1L,a0l,Qg,Qh,a0D,a1E,a0k,Qb,Qa,a0e,a0t]
  intro D hD
  have hb0:SqL K (upd H D (.dK [])) b (kn.map V.str):=(a0h.upd hD).seq hb
  refine ⟨⟨_,hb0⟩,?_⟩
  refine a1d (K:=K) (a:=b) (xs:=kn.map V.str) (fun i σ H'=>∃x,σ=[some (V.ref a),some (V.ref b),some (V.ref D),x,none,none,none,none,none,none,none]∧a0h H H'∧H' D=some (.dK (bv ((kn.take i).foldl a0S [])))) ⟨_,rfl,a0h.upd hD,a0d⟩ (fun i σ H' _ h=>by obtain ⟨_,_,s,_⟩:=h;exact s.seq hb) ?_ ?_
  ·rintro i x σ H' hi ⟨y,rfl,s,hD'⟩
   have hil:i < kn.length:=by simpa using (Qn.mp hi).1
   have ex:x=V.str kn[i]:=by
    rw [Qm,Qc hil] at hi
    exact (Option.some.inj hi).symm
   subst ex
   have hlen:=a0Q (kn.take i) []
   try simp only [a0l,a3l,tC,a0k,Qg,Qh,Qb,Qa,a0e]
   refine ⟨D,_,rfl,b4o hD' (by simp at hlen;omega) kn[i],_,rfl,?_,?_⟩
   ·intro b o e;rw [a0a (a0c e hD)];exact s _ _ e
   ·rw [a0d,Qw hil,Yv];rfl
  rintro σ H1 ⟨y,rfl,s1,hD1⟩
  rw [Qe,Xs] at hD1
  have hkl':(kn.foldl a0S []).length≤100:=Qi (a0Q kn []) (by simpa using hkl)
  have hkn:(kn.foldl a0S []).Nodup:=a1x kn (by simp)
  generalize kn.foldl a0S []=k0 at hD1 hkl' hkn q
  have hRl:(rs.map srW).length≤100:=by simpa using hrl
  try simp only [a1q,a1S,a1L,a0l,tC,a3n,a0j,a0r,Qg,Qh]
  intro R hR1
  have hRn:H R=none:=none_of s1 hR1
  have hDR:D≠R:=fun z=>by rw [z,hR1] at hD1;cases hD1
  refine ⟨by simp only [Qr,Xl];decide,fun F0 hF0=>?_⟩
  have hF0R:F0≠R:=fun z=>by rw [z,a0d] at hF0;cases hF0
  have hF0':H1 F0=none:=by rw [a0a hF0R] at hF0;exact hF0
  have hDF0:D≠F0:=fun z=>by rw [z,hF0'] at hD1;cases hD1
  refine a5j (fun m σ H'=>∃(n:Nat) (zs:List Str) (F:Addr) (x3 x7 x8 x9 x10:Option V),σ=[some (V.ref a),some (V.ref b),some (V.ref D),x3,some (V.ref R),some (V.int n),some (V.ref F),x7,x8,x9,x10]∧a0h H H'∧H' D=some (.dK (bv (sS (rs.map srW) k0 n)))∧H' R=some (.dK (dv (sR (rs.map srW) k0 n)))∧H' F=some (.lst (zs.map V.str))∧(∀z∈zs,Yb z=true)∧
    ((n=0∧zs≠[]∧m=rs.length+2)∨∃n',n=n'+1∧zs=frs (rs.map srW) (sS (rs.map srW) k0 n')∧m=if zs=[] then 0 else b0K (rs.map srW) (sS (rs.map srW) k0 n)+1))
   (rs.length+2) ⟨0,[""],F0,_,_,_,_,_,rfl,?_,?_,?_,a0d,?_,.inl ⟨rfl,by simp,rfl⟩⟩ ?_
  ·intro b o e;rw [a0a (a0c (s1 _ _ e) hF0'),a0a (a0c (s1 _ _ e) hR1)];exact s1 _ _ e
  ·rw [a0a hDF0,a0a hDR];exact hD1
  ·rw [a0a hF0R.symm,a0d];rfl
  ·intro z hz;rw [Xa.mp hz];decide+kernel
  rintro m σ H2 ⟨n,zs,F,x3,x7,x8,x9,x10,rfl,s2,hD2,hR2,hF2,hzo,hm⟩
  try simp only [a1l,tOp,a0k,Qb,Qa,a3n,a0r,a1q,c4N,tC,ipI,a1S,a0l,Qg,Qh,a0D,a1E,a0e,a0t,a1e]
  refine ⟨by decide,fun N hN=>?_⟩
  obtain ⟨H3,e3,s3,h3⟩:=a1f hN (.lst []);rw [e3]
  refine b1s (SqL.of (s3 _ _ hF2)) (SqL.of h3) hzo ?_
  try simp only [a1p,Yd,decide_eq_false_iff_not]
  have hD3:=s3 _ _ hD2
  have hR3:=s3 _ _ hR2
  have s03:=s2.trans s3
  refine a1K (fun c1=>?_) (fun c1=>?_)
  ·have hne:zs≠[]:=by simpa using c1
   refine ⟨fun σ' H'=>∃m',m' < m∧∃(n:Nat) (zs:List Str) (F:Addr) (x3 x7 x8 x9 x10:Option V),σ'=[some (V.ref a),some (V.ref b),some (V.ref D),x3,some (V.ref R),some (V.int n),some (V.ref F),x7,x8,x9,x10]∧a0h H H'∧H' D=some (.dK (bv (sS (rs.map srW) k0 n)))∧H' R=some (.dK (dv (sR (rs.map srW) k0 n)))∧H' F=some (.lst (zs.map V.str))∧(∀z∈zs,Yb z=true)∧
    ((n=0∧zs≠[]∧m'=rs.length+2)∨∃n',n=n'+1∧zs=frs (rs.map srW) (sS (rs.map srW) k0 n')∧m'=if zs=[] then 0 else b0K (rs.map srW) (sS (rs.map srW) k0 n)+1),fun _ _ h=>h,?_⟩
   try skip
   refine ⟨_,_,rfl,rfl,Xe _,fun G hG=>?_⟩
   have hGD:G≠D:=fun z=>by rw [z,hD3] at hG;cases hG
   have hGR:G≠R:=fun z=>by rw [z,hR3] at hG;cases hG
   have sG:a0h H (upd H3 G (.lst [])):=s03.trans (a0h.upd hG)
   refine ⟨⟨_,SqL.of (sG _ _ ha)⟩,?_⟩
   refine a1d (K:=K) (a:=a) (xs:=xs) (fun j σ H'=>∃(x3 x7 x8 x9 x10:Option V),σ=[some (V.ref a),some (V.ref b),some (V.ref D),x3,some (V.ref R),some (V.int ((n:Int)+1)),some (V.ref G),x7,x8,x9,x10]∧a0h H H'∧H' D=some (.dK (bv (sS (rs.map srW) k0 n)))∧H' R=some (.dK (dv (sR (rs.map srW) k0 n)))∧H' G=some (.lst ((frs ((rs.take j).map srW) (sS (rs.map srW) k0 n)).map V.str)))
    ⟨_,_,_,_,_,rfl,sG,by rw [a0a hGD.symm];exact hD3,by rw [a0a hGR.symm];exact hR3,a0d⟩ (fun j σ H' _ h=>by obtain ⟨_,_,_,_,_,_,s,_⟩:=h;exact SqL.of (s _ _ ha)) ?_ ?_
   ·rintro j x σ H4 hj ⟨x3,x7,x8,x9,x10,rfl,s4,hD4,hR4,hG4⟩
    have hjl:j < rs.length:=by rw [←hA.len];exact (Qn.mp hj).1
    obtain ⟨x',ex,hx⟩:=(hA.same s4).get j rs[j] (Qc hjl)
    rw [hj] at ex;cases ex
    obtain ⟨p,t1,rfl,hp,ht⟩:=hx
    have hro:=hO rs[j] (Xd hjl)
    rw [Qw hjl,Xp,Xg,Jq,b2F]
    have hfl:(frs ((rs.take j).map srW) (sS (rs.map srW) k0 n)).length≤100:=Qi (a6R _ _) (by rw [Qe,Yo];omega)
    generalize frs ((rs.take j).map srW) (sS (rs.map srW) k0 n)=fz at hG4 hfl
    generalize sS (rs.map srW) k0 n=S at hD4
    generalize rs[j]=r at hp ht hro
    obtain ⟨so,lb,hd,bd⟩:=r
    dsimp only at hp ht
    have hno:∀H',a0h H4 H'→((srW (so,lb,hd,bd)).1 && decide ((srW (so,lb,hd,bd)).2.1∉S) && (srW (so,lb,hd,bd)).2.2.all fun q=>decide (q∈S))=false→
      ∃(y3 y7 y8 y9 y10:Option V),[some (V.ref a),some (V.ref b),some (V.ref D),x3,some (V.ref R),some (V.int ((n:Int)+1)),some (V.ref G),some (V.str (a2b so)),some (V.str lb),some (V.str hd),some (V.ref t1)]=[some (V.ref a),some (V.ref b),some (V.ref D),y3,some (V.ref R),some (V.int ((n:Int)+1)),some (V.ref G),y7,y8,y9,y10]∧a0h H H'∧H' D=some (.dK (bv S))∧H' R=some (.dK (dv (sR (rs.map srW) k0 n)))∧H' G=some (.lst ((fz++if ((srW (so,lb,hd,bd)).1 && decide ((srW (so,lb,hd,bd)).2.1∉S) && (srW (so,lb,hd,bd)).2.2.all fun q=>decide (q∈S))=true then [(srW (so,lb,hd,bd)).2.1] else []).map V.str)):=fun H' s' hc=>
     ⟨_,_,_,_,_,rfl,s4.trans s',s' _ _ hD4,s' _ _ hR4,by rw [hc,if_neg Qo,Qj];exact s' _ _ hG4⟩
    try simp only [c1c,a9S,a0l,c1A,a3m,b6m,a1l,tOp,a0k,Qg,Qh,Qb,Qa,a7o,a0j,tC,a0r,tB,a2n,a3n,a4r,tBM,a0e,a1r,a0n,b2C,a7u,a1p,Yd]
    refine ⟨p,_,rfl,SqT.of hp,rfl,_,_,rfl,_,_,rfl,_,_,rfl,_,_,rfl,rfl,?_⟩
    try simp only [a0t]
    refine ⟨by simp only [Qr,Xl];decide,fun p5 hp5=>?_⟩
    obtain ⟨H5,e5,s5,h5⟩:=a1f hp5 (.tup [V.str "fact",V.str "sure"]);rw [e5]
    refine b7r (r:=["fact","sure"]) (SqT.of h5) ?_
    rw [b1j hro.1]
    try simp only [a1p,decide_eq_true_eq]
    refine a1K (fun c1=>?_) (fun c1=>hno _ s5 (by show (decide (so < 2) && _ && _)=false;rw [decide_eq_false c1];rfl))
    refine ⟨D,_,rfl,c1z (s5 _ _ hD4) hd,?_⟩
    by_cases c2:hd∈S
    ·rw [if_pos c2]
     try skip
     exact hno _ s5 (by show (_ && decide (hd∉S) && _)=false;rw [decide_eq_false (by simpa using c2),Wt,Zt])
    rw [if_neg c2]
    try skip
    refine ⟨⟨_,SqT.of (s5 _ _ ht)⟩,?_⟩
    have hbl:bd.length≤4:=hro.2.2.2.2.2
    refine a4d (a3V (xs:=bd.map V.str)) (Qi (show (bd.map V.str).length≤1000 by rw [Qe];omega) (by decide)) [some (V.ref D)] rfl (fun i=>decide (((bd[i]?).getD "")∉S)) (fun i=>V.str ((bd[i]?).getD "")) (fun H' s=>SqT.of (s _ _ (s5 _ _ ht))) (fun i H' R' hi s hR'=>?_) (fun i H' R' hi s hR'=>?_) (fun C H6 hCn s6 hC=>?_)
    ·have hi':i < bd.length:=by simpa using hi
     have e2:((bd.map V.str)[i]?).getD .non=V.str bd[i]:=by rw [Qm,Qc hi'];rfl
     rw [e2]
     rw [Qc hi',Xi] at hR'
     try simp only [tB,a2n,a0k,Qa,Qb,a1p,a0e]
     refine ⟨D,_,rfl,c1z (s _ _ (s5 _ _ hD4)) bd[i],?_⟩
     try skip
     have:=hR' _ (a0h.refl _)
     by_cases h:bd[i]∈S
     ·rw [if_pos h];rw [decide_eq_false (by simpa using h)] at this;exact this
     ·rw [if_neg h];rw [decide_eq_true h] at this;exact this
    ·have hi':i < bd.length:=by simpa using hi
     have e2:((bd.map V.str)[i]?).getD .non=V.str bd[i]:=by rw [Qm,Qc hi'];rfl
     rw [e2]
     rw [Qc hi',Xi] at hR'
     try simp only [a0k,Qa,a0e]
     exact hR' _ (a0h.refl _)
    rw [show (bd.map V.str).length=bd.length by simp,a0U ("":Str) (fun z=>decide (z∉S)) V.str bd] at hC
    try skip
    refine ⟨Xe _,fun p7 hp7=>?_⟩
    obtain ⟨H7,e7,s7,h7⟩:=a1f hp7 (.lst []);rw [e7]
    refine b1p (SqL.of (s7 _ _ hC)) (SqL.of h7) (fun z hz=>(hro.2.2.2.2.1 z (Qp.mp hz).1).1) ?_
    rw [a4F]
    have s47:=(s5.trans s6).trans s7
    try simp only [a1p]
    refine a1K (fun c3=>?_) (fun c3=>hno _ s47 (by show (_ && _ && bd.all fun q=>decide (q∈S))=false;rw [Bool.eq_false_iff.mpr c3,Wt]))
    refine ⟨.inl ⟨rfl,_,SqL.of (s47 _ _ hG4)⟩,G,_,_,rfl,rfl,s47 _ _ hG4,Xm (show _≤1000 by rw [Qe];omega) (by decide),_,_,_,_,_,rfl,?_,?_,?_,?_⟩
    ·intro b o e
     rw [a0a (a0c (s03 _ _ e) hG)];exact s47 _ _ (s4 _ _ e)
    ·rw [a0a hGD.symm];exact s47 _ _ hD4
    ·rw [a0a hGR.symm];exact s47 _ _ hR4
    ·rw [a0d,if_pos (by show (decide (so < 2) && decide (hd∉S) && bd.all fun q=>decide (q∈S))=true;rw [decide_eq_true c1,decide_eq_true c2,c3];rfl)]
     simp [srW]
   ·rintro σ H4 ⟨y3,y7,y8,y9,y10,rfl,s4,hD4,hR4,hG4⟩
    rw [hA.len,Xs] at hG4
    have hfo:∀z∈frs (rs.map srW) (sS (rs.map srW) k0 n),Yb z=true:=fun z hz=>by
     obtain ⟨_,b',h2,_⟩:=a2o.mp hz
     obtain ⟨r,hr,e⟩:=Qf.mp h2
     have:r.2.2.1=z:=congrArg (fun q:SR Str=>q.2.1) e
     rw [←this];exact (hO r hr).2.2.2.1.1
    have hfl:=a6R (rs.map srW) (sS (rs.map srW) k0 n)
    have hSl:=b1u (rs:=rs.map srW) hkn n
    have hRl':=b5k (rs:=rs.map srW) hkn n
    try simp only [a0D,a1E,a0k,Qb,Qa,a0e,a0t]
    refine ⟨⟨_,SqL.of hG4⟩,?_⟩
    refine a1d (K:=K) (a:=G) (xs:=(frs (rs.map srW) (sS (rs.map srW) k0 n)).map V.str) (fun j σ H'=>∃(x9:Option V),σ=[some (V.ref a),some (V.ref b),some (V.ref D),y3,some (V.ref R),some (V.int ((n:Int)+1)),some (V.ref G),y7,y8,x9,y10]∧a0h H H'∧H' D=some (.dK (bv (((frs (rs.map srW) (sS (rs.map srW) k0 n)).take j).foldl a0S (sS (rs.map srW) k0 n))))∧H' R=some (.dK (dv (((frs (rs.map srW) (sS (rs.map srW) k0 n)).take j).foldl (a3z (n+1)) (sR (rs.map srW) k0 n))))∧H' G=some (.lst ((frs (rs.map srW) (sS (rs.map srW) k0 n)).map V.str)))
     ⟨_,rfl,s4,hD4,hR4,hG4⟩ (fun j σ H' _ h=>by obtain ⟨_,_,_,_,_,h⟩:=h;exact SqL.of h) ?_ ?_
    ·rintro j x σ H5 hj ⟨x9,rfl,s5,hD5,hR5,hG5⟩
     have hjl:j < (frs (rs.map srW) (sS (rs.map srW) k0 n)).length:=by simpa using (Qn.mp hj).1
     have ex:x=V.str (frs (rs.map srW) (sS (rs.map srW) k0 n))[j]:=by
      rw [Qm,Qc hjl] at hj
      exact (Option.some.inj hj).symm
     subst ex
     have hnew:=a4o (Xd hjl)
     rw [Qw hjl,Yv,Yv]
     have hlkt:lk (((frs (rs.map srW) (sS (rs.map srW) k0 n)).take j).foldl (a3z (n+1)) (sR (rs.map srW) k0 n)) (frs (rs.map srW) (sS (rs.map srW) k0 n))[j]=none∨lk (((frs (rs.map srW) (sS (rs.map srW) k0 n)).take j).foldl (a3z (n+1)) (sR (rs.map srW) k0 n)) (frs (rs.map srW) (sS (rs.map srW) k0 n))[j]=some (n+1):=by
      rw [a3M fun h hh=>.inl (a4o (Zo hh)),hnew]
      split
      ·exact .inr rfl
      ·exact .inl rfl
     have l1:=a0Q ((frs (rs.map srW) (sS (rs.map srW) k0 n)).take j) (sS (rs.map srW) k0 n)
     have l2:=a4i (n+1) ((frs (rs.map srW) (sS (rs.map srW) k0 n)).take j) (sR (rs.map srW) k0 n)
     have l3:((frs (rs.map srW) (sS (rs.map srW) k0 n)).take j).length≤100:=by rw [Yo];omega
     have nd:=a2X (n+1) ((frs (rs.map srW) (sS (rs.map srW) k0 n)).take j) (a0W (rs:=rs.map srW) (kn:=k0) n)
     generalize ((frs (rs.map srW) (sS (rs.map srW) k0 n)).take j).foldl (a3z (n+1)) (sR (rs.map srW) k0 n)=R5 at hR5 l2 nd hlkt
     generalize ((frs (rs.map srW) (sS (rs.map srW) k0 n)).take j).foldl a0S (sS (rs.map srW) k0 n)=S5 at hD5 l1
     try simp only [a0l,a1q,a3l,tC,a0k,Qg,Qh,Qb,Qa,a0e]
     refine ⟨D,_,rfl,b4o hD5 (by omega) _,?_⟩
     have hR5':upd H5 D (.dK (bv (a0S S5 (frs (rs.map srW) (sS (rs.map srW) k0 n))[j]))) R=some (.dK (dv R5)):=by rw [a0a hDR.symm];exact hR5
     refine ⟨R,_,rfl,c3k (n:=n+1) hR5' (by omega) nd hlkt,_,rfl,?_,?_,a0d,?_⟩
     ·intro b o e;rw [a0a (a0c e hRn),a0a (a0c e hD)];exact s5 _ _ e
     ·rw [a0a hDR,a0d];rfl
     ·rw [a0a hGR,a0a hGD];exact hG5
    ·rintro σ H5 ⟨x9,rfl,s5,hD5,hR5,hG5⟩
     rw [Qe,Xs] at hD5 hR5
     refine ⟨if frs (rs.map srW) (sS (rs.map srW) k0 n)=[] then 0 else b0K (rs.map srW) (sS (rs.map srW) k0 (n+1))+1,?_,n+1,_,G,_,_,_,_,_,rfl,s5,hD5,hR5,hG5,hfo,.inr ⟨n,rfl,rfl,rfl⟩⟩
     by_cases hfz:frs (rs.map srW) (sS (rs.map srW) k0 n)=[]
     ·rw [if_pos hfz]
      rcases hm with ⟨_,_,rfl⟩ | ⟨n',_,_,hm'⟩
      ·omega
      ·rw [hm',if_neg hne];omega
     ·rw [if_neg hfz]
      have h1:=a4m hfz
      rcases hm with ⟨_,_,rfl⟩ | ⟨n',_,_,hm'⟩
      ·have:=b1q (rs.map srW) (sS (rs.map srW) k0 n)
       rw [Qe] at this
       omega
      ·rw [hm',if_neg hne];omega
  ·have he:zs=[]:=by simpa using c1
   rcases hm with ⟨_,h,_⟩ | ⟨n',rfl,hz,_⟩
   ·exact absurd he h
   ·rw [he] at hz
    have e1:=(a2T hz.symm 1).2
    rw [e1,b4j hz.symm] at hR3
    try skip
    exact q R H3 s03 hRn hR3
theorem c0b (T:Txt K mg t):a0V P w K mg base CX0 3 t.f_z0a t.fd_z0a ["_law_rows_here","_law_pairs_here","_law_order"] (c0p K):=by
 refine T.F_z0a.ok a2t (fun vs H Q E h=>?_) (fun cdv A outer s H vs Q E hr h=>?_)
 ·obtain ⟨R,P0,O,xs,ps,rs,pl,od,rfl,hR,hA,hO,hrl,hP,hPs,hPo,hOd,hol,hoq,q⟩:=h;rfl
 ·obtain ⟨R,P0,O,xs,ps,rs,pl,od,rfl,hR,hA,hO,hrl,hP,hPs,hPo,hOd,hol,hoq,q⟩:=h
  refine ⟨_,‹A2 (A6 3 a2t.nd (A7 (c1u T) T.g_z21 T.F_z21.kp T.b_z21 .nil (A0 0 A1))) (A2 (A6 4 a2t.nd (A7 (b8B T) T.g_z1k T.F_z1k.kp T.b_z1k .nil (A0 0 (A0 (B8 A1) A1)))) (A2 (A6 5 a2t.nd D0) (A2 (A6 6 a2t.nd D0) (A2 (A6 7 a2t.nd B7) (A2 (G1 (C3 7) (A2 (A6 7 a2t.nd B7) (A3 (C0 (B5 2) (A8 8 a2t.nd) (A3 (B3 (D5 (F2 (C2 ‹E0 8 5›) (F4 (C2 ‹E0 8 6›)))) (A3 (B3 (C3 (A7 (c1f T) T.g_z1w T.F_z1w.kp T.b_z1w .nil (A0 3 (A0 1 (A0 4 (A0 5 (A0 6 (A0 8 A1)))))))) (A2 (C1 5 8 B7) (A3 (A6 7 a2t.nd B7))) (A3 (B3 (C3 (A7 (b8Y T) T.g_z1e T.F_z1e.kp T.b_z1e .nil (A0 3 (A0 1 (A0 4 (A0 5 (A0 6 (A0 8 A1)))))))) (A2 (C1 6 8 B7) (A3 (A6 7 a2t.nd B7))) B6)))) B6)))))) (A2 (A6 9 a2t.nd D0) (A2 (C0 (B5 2) (A8 8 a2t.nd) (A2 (C1 9 8 B0) (A3 (B3 (C2 (a1A (a1Y hr) ‹8› ‹4›)) (A3 (C1 9 8 B0)) (A3 (B3 (C2 (a1A (a1Y hr) ‹8› ‹5›)) (A3 (C1 9 8 B0)) (A3 (B3 (C2 (a1A (a1Y hr) ‹8› ‹6›)) (A3 (C1 9 8 B0)) B6)))))))) (A3 (A9 9)))))))))›,?_⟩
  rw [show start b9w [V.ref R,V.ref P0,V.ref O]=[some (V.ref R),some (V.ref P0),some (V.ref O),none,none,none,none,none,none,none] from rfl]
  try simp only [a1q,a1S,a0x,a0j,a0k,Qa,a0r,Qj,a0l,Qg,Qh,a3n,a1L,tC,a0e]
  refine ⟨R,xs,rs,rfl,hR,hA,by omega,fun B H1 s1 hBn hB1=>?_⟩
  try simp only []
  refine ⟨Xe _,fun E hE=>?_⟩
  obtain ⟨H2,e2,s2,h2⟩:=a1f hE (.lst []);rw [e2]
  have s12:=s1.trans s2
  refine ⟨R,E,xs,rs,[],rfl,s12 _ _ hR,hA.same s12,hO,hrl,SqL.of h2,Xe _,fun F H3 s3 hFn hF3=>?_⟩
  have s13:=s12.trans s3
  have hB3:=hB1.same (s2.trans s3)
  have hD3:DAt H3 F ((FIN (rs.map srW) []).map (·.1)):=b8Z hF3
  generalize (FIN (rs.map srW) []).map (·.1)=S at hD3 q
  clear hF3 hB1 h2
  try simp only []
  intro U0 hU0 D0 hD0
  obtain ⟨H4,e4,s4,h4⟩:=a1f hU0 (.dK [])
  rw [e4] at hD0 ⊢
  obtain ⟨H5,e5,s5,h5⟩:=a1f hD0 (.dK []);rw [e5]
  have nUD:U0≠D0:=fun z=>by rw [←z,h4] at hD0;cases hD0
  have s35:=s4.trans s5
  have hD03:H3 D0=none:=none_of s4 hD0
  have d0:∀{H':Hp} {a:Addr},H' a=some (.dK [])→a6k H' a [] 0:=fun h=>⟨[],h,fun x=>by simp [a0N],Xe _⟩
  have fr:∀{H':Hp},a0h H3 H'→b5I H' B rs∧H' P0=some (.lst ps)∧a0R H' ps pl∧DAt H' F S∧SqL K H' O (od.map V.str):=fun s=>⟨hB3.same s,s _ _ (s13 _ _ hP),a0R.same (s13.trans s) hPs,hD3.same s,SqL.of (s _ _ (s13 _ _ hOd))⟩
  refine a5j (fun m σ H'=>∃(U D:List Str) (b:Bool) (x8:Option V),σ=[some (V.ref R),some (V.ref P0),some (V.ref O),some (V.ref B),some (V.ref F),some (V.ref U0),some (V.ref D0),some (V.bl b),x8,none]∧a0h H3 H'∧a6k H' U0 U U.length∧a6k H' D0 D D.length∧a5L rs pl S od U D∧U.length+D.length+a4t od U D≤18∧(b=false→∀q∈od,q∉U→q∉D→stt rs pl S U D q=none)∧m=if b=true then a4t od U D+1 else 0)
   (a4t od [] []+1) ⟨[],[],true,_,rfl,s35,d0 (s5 _ _ h4),d0 h5,a5L.start,by have:=c0u od [] [];simp only [Xl];omega,fun z=>(by cases z),rfl⟩ ?_
  rintro m σ H6 ⟨U,D,b,x8,rfl,s6,hU6,hD6,hg,hn,hz,rfl⟩
  try simp only [tB,a0k,Qb,Qa,a1q,a1S,tC,a0l,Qg,Qh,a0D,a1E,a0e,a0t,a1L,a1p]
  cases b with
  | false=>
   rw [if_neg Qo]
   intro W hWn
   obtain ⟨H7,e7,s7,h7⟩:=a1f hWn (.dK []);rw [e7]
   have hW3:H3 W=none:=none_of s6 hWn
   have s67:=s6.trans s7
   have nWU:W≠U0:=fun z=>by obtain ⟨k,h,_⟩:=hU6;rw [z,h] at hWn;cases hWn
   have nWD:W≠D0:=fun z=>by obtain ⟨k,h,_⟩:=hD6;rw [z,h] at hWn;cases hWn
   refine ⟨⟨_,(fr s67).2.2.2.2⟩,?_⟩
   refine a1d (K:=K) (a:=O) (xs:=od.map V.str) (fun j σ H'=>∃(x8:Option V) (kvs:List (Key×V)),σ=[some (V.ref R),some (V.ref P0),some (V.ref O),some (V.ref B),some (V.ref F),some (V.ref U0),some (V.ref D0),some (V.bl false),x8,some (V.ref W)]∧a0h H3 H'∧DAt H' U0 U∧DAt H' D0 D∧H' W=some (.dK kvs)∧kvs.length≤2 * j∧∀q∈od.take j,a0N kvs (Sum.inr q:Key)=some (.str (a3e S U D q)))
    ⟨_,[],rfl,s67,hU6.dat.same s7,hD6.dat.same s7,h7,Xe _,fun q hq=>(by cases hq)⟩ (fun i σ H' _ ⟨_,_,_,s,_⟩=>(fr s).2.2.2.2) ?_ ?_
   ·rintro j x σ H8 hj ⟨y8,kvs,rfl,s8,hU8,hD8,hW8,hkl,hkv⟩
    have hjl:j < od.length:=by simpa using (Qn.mp hj).1
    have ex:x=V.str od[j]:=by
     rw [Qm,Qc hjl] at hj
     exact (Option.some.inj hj).symm
    subst ex
    have etk:∀x,x∈od.take (j+1)↔x∈od.take j∨x=od[j]:=fun x=>by rw [Qw hjl,Qq,Xa]
    generalize od[j]=q0 at etk
    have upW:∀o,(∀{c:Addr} {v},c≠W→H8 c=some v→upd H8 W o c=some v):=fun o c v n h=>by rw [a0a n];exact h
    have l1:=a0z kvs (Sum.inr q0:Key) (V.str "open")
    have p1:a4u H8 W (.str q0) (.str "open") (upd H8 W (.dK (a1W kvs (Sum.inr q0:Key) (V.str "open")))):=a4u.k (k:=(Sum.inr q0:Key)) hW8 (Xm (show kvs.length≤1000 by omega) (by decide))
    have s9:a0h H3 (upd H8 W (.dK (a1W kvs (Sum.inr q0:Key) (V.str "open")))):=fun c o e=>by rw [a0a (a0c e hW3)];exact s8 _ _ e
    have hU9:DAt (upd H8 W (.dK (a1W kvs (Sum.inr q0:Key) (V.str "open")))) U0 U:=by obtain ⟨k,h,g⟩:=hU8;exact ⟨k,by rw [a0a nWU.symm];exact h,g⟩
    have hD9:DAt (upd H8 W (.dK (a1W kvs (Sum.inr q0:Key) (V.str "open")))) D0 D:=by obtain ⟨k,h,g⟩:=hD8;exact ⟨k,by rw [a0a nWD.symm];exact h,g⟩
    have v9:∀x∈od.take (j+1),a0N (a1W kvs (Sum.inr q0:Key) (V.str "open")) (Sum.inr x:Key)=some (.str (if x=q0 then "open" else a3e S U D x)):=fun x hx=>by
     rw [a1k]
     by_cases e:x=q0
     ·rw [if_pos (by rw [e]),if_pos e]
     ·rw [if_neg (fun z=>e (Sum.inr.inj z)),if_neg e,hkv x (((etk x).mp hx).resolve_right e)]
    have h9:upd H8 W (.dK (a1W kvs (Sum.inr q0:Key) (V.str "open"))) W=some (.dK (a1W kvs (Sum.inr q0:Key) (V.str "open"))):=a0d
    have l9:(a1W kvs (Sum.inr q0:Key) (V.str "open")).length≤2 * j+1:=by omega
    try simp only [a0l,a1q,a3l,tC,a0k,Qg,Qh,Qb,Qa,a3m,tB,a9q,a0e,a1r,a1p]
    refine ⟨W,_,rfl,p1,?_⟩
    clear p1 l1
    generalize a1W kvs (Sum.inr q0:Key) (V.str "open")=kw at s9 hU9 hD9 v9 h9 l9
    generalize upd H8 W (.dK kw)=H9 at s9 hU9 hD9 h9
    have fin:∀w:Str,a3e S U D q0=w→∃H':Hp,a4u H9 W (.str q0) (.str w) H'∧∃(x8:Option V) (kvs:List (Key×V)),[some (V.ref R),some (V.ref P0),some (V.ref O),some (V.ref B),some (V.ref F),some (V.ref U0),some (V.ref D0),some (V.bl false),some (V.str q0),some (V.ref W)]=[some (V.ref R),some (V.ref P0),some (V.ref O),some (V.ref B),some (V.ref F),some (V.ref U0),some (V.ref D0),some (V.bl false),x8,some (V.ref W)]∧a0h H3 H'∧DAt H' U0 U∧DAt H' D0 D∧H' W=some (.dK kvs)∧kvs.length≤2 * (j+1)∧∀q∈od.take (j+1),a0N kvs (Sum.inr q:Key)=some (.str (a3e S U D q)):=fun w ew=>by
     have l2:=a0z kw (Sum.inr q0:Key) (V.str w)
     refine ⟨_,a4u.k (k:=(Sum.inr q0:Key)) h9 (Xm (show kw.length≤1000 by omega) (by decide)),_,_,rfl,fun c o e=>?_,?_,?_,a0d,by omega,fun x hx=>?_⟩
     ·rw [a0a (a0c e hW3)];exact s9 _ _ e
     ·obtain ⟨k,h,g⟩:=hU9;exact ⟨k,by rw [a0a nWU.symm];exact h,g⟩
     ·obtain ⟨k,h,g⟩:=hD9;exact ⟨k,by rw [a0a nWD.symm];exact h,g⟩
     ·rw [a1k]
      by_cases e:x=q0
      ·rw [if_pos (by rw [e]),e,ew]
      ·rw [if_neg (fun z=>e (Sum.inr.inj z)),v9 x hx,if_neg e]
    obtain ⟨o1,ho1,eo1⟩:=(fr s9).2.2.2.1.get q0
    refine ⟨F,o1,rfl,ho1,?_⟩
    rw [eo1]
    by_cases c1:q0∈S
    ·rw [decide_eq_true c1,if_pos rfl]
     obtain ⟨H',g1,g2⟩:=fin "surely" (by unfold a3e;rw [if_pos c1])
     exact ⟨W,H',rfl,g1,g2⟩
    rw [decide_eq_false c1,if_neg Qo]
    obtain ⟨o2,ho2,eo2⟩:=hU9.get q0
    refine ⟨U0,o2,rfl,ho2,?_⟩
    rw [eo2]
    by_cases c2:q0∈U
    ·rw [decide_eq_true c2,if_pos rfl]
     obtain ⟨H',g1,g2⟩:=fin "mostly" (by unfold a3e;rw [if_neg c1,if_pos c2])
     exact ⟨W,H',rfl,g1,g2⟩
    rw [decide_eq_false c2,if_neg Qo]
    obtain ⟨o3,ho3,eo3⟩:=hD9.get q0
    refine ⟨D0,o3,rfl,ho3,?_⟩
    rw [eo3]
    by_cases c3:q0∈D
    ·rw [decide_eq_true c3,if_pos rfl]
     obtain ⟨H',g1,g2⟩:=fin "no" (by unfold a3e;rw [if_neg c1,if_neg c2,if_pos c3])
     exact ⟨W,H',rfl,g1,g2⟩
    rw [decide_eq_false c3,if_neg Qo]
    refine ⟨_,kw,rfl,s9,hU9,hD9,h9,by omega,fun x hx=>?_⟩
    rw [v9 x hx]
    by_cases e:x=q0
    ·rw [if_pos e,e];unfold a3e;rw [if_neg c1,if_neg c2,if_neg c3]
    ·rw [if_neg e]
   ·rintro σ H8 ⟨y8,kvs,rfl,s8,hU8,hD8,hW8,hkl,hkv⟩
    rw [Qe,Xs] at hkv
    try simp only [a1e,a0k,Qb,Qa,a0e]
    exact q W U D H8 (s13.trans s8) (none_of s13 hW3) hg (hz rfl) ⟨kvs,hW8,hkv⟩
  | true=>
   rw [if_pos rfl]
   refine ⟨fun σ' H'=>∃m',m' < (a4t od U D+1)∧∃(U D:List Str) (b:Bool) (x8:Option V),σ'=[some (V.ref R),some (V.ref P0),some (V.ref O),some (V.ref B),some (V.ref F),some (V.ref U0),some (V.ref D0),some (V.bl b),x8,none]∧a0h H3 H'∧a6k H' U0 U U.length∧a6k H' D0 D D.length∧a5L rs pl S od U D∧U.length+D.length+a4t od U D≤18∧(b=false→∀q∈od,q∉U→q∉D→stt rs pl S U D q=none)∧m'=if b=true then a4t od U D+1 else 0,fun _ _ h=>h,?_⟩
   try skip
   refine ⟨⟨_,(fr s6).2.2.2.2⟩,?_⟩
   refine a1d (K:=K) (a:=O) (xs:=od.map V.str) (fun j σ H'=>∃(U' D':List Str) (b:Bool) (x8:Option V),σ=[some (V.ref R),some (V.ref P0),some (V.ref O),some (V.ref B),some (V.ref F),some (V.ref U0),some (V.ref D0),some (V.bl b),x8,none]∧a0h H3 H'∧a6k H' U0 U' U'.length∧a6k H' D0 D' D'.length∧a5L rs pl S od U' D'∧U'.length+D'.length+a4t od U' D'≤18∧(b=false→∀q∈od.take j,q∉U'→q∉D'→stt rs pl S U' D' q=none)∧a4t od U' D'≤a4t od U D∧(b=true→a4t od U' D' < a4t od U D))
    ⟨U,D,false,_,rfl,s6,hU6,hD6,hg,hn,fun _ q hq=>(by cases hq),Qk _,fun z=>(by cases z)⟩ (fun i σ H' _ ⟨_,_,_,_,_,s,_⟩=>(fr s).2.2.2.2) ?_ ?_
   ·rintro j x σ H7 hj ⟨U',D',b,y8,rfl,s7,hU7,hD7,hg7,hn7,hz7,hc7,hb7⟩
    have hjl:j < od.length:=by simpa using (Qn.mp hj).1
    have ex:x=V.str od[j]:=by
     rw [Qm,Qc hjl] at hj
     exact (Option.some.inj hj).symm
    subst ex
    have hqo:od[j]∈od:=Xd hjl
    have hql:=hoq _ hqo
    have etk:∀x,x∈od.take (j+1)↔x∈od.take j∨x=od[j]:=fun x=>by rw [Qw hjl,Qq,Xa]
    generalize od[j]=q0 at hqo hql etk
    try simp only [a0l,a3m,b6m,tB,a2n,a0k,Qg,Qh,Qb,Qa,a0x,a0j,a0r,Qj,a1q,a3l,tC,a1S,a0e,a1r,a1p,Yd,a7u]
    obtain ⟨o1,ho1,eo1⟩:=hU7.dat.get q0
    refine ⟨U0,o1,rfl,ho1,?_⟩
    have stay:∀H':Hp,a0h H7 H'→(q0∉U'→q0∉D'→stt rs pl S U' D' q0=none)→∃(U' D':List Str) (b_1:Bool) (x8:Option V),[some (V.ref R),some (V.ref P0),some (V.ref O),some (V.ref B),some (V.ref F),some (V.ref U0),some (V.ref D0),some (V.bl b),some (V.str q0),none]=[some (V.ref R),some (V.ref P0),some (V.ref O),some (V.ref B),some (V.ref F),some (V.ref U0),some (V.ref D0),some (V.bl b_1),x8,none]∧a0h H3 H'∧a6k H' U0 U' U'.length∧a6k H' D0 D' D'.length∧a5L rs pl S od U' D'∧U'.length+D'.length+a4t od U' D'≤18∧(b_1=false→∀q∈od.take (j+1),q∉U'→q∉D'→stt rs pl S U' D' q=none)∧a4t od U' D'≤a4t od U D∧(b_1=true→a4t od U' D' < a4t od U D):=fun H' s' hs=>
     ⟨U',D',b,_,rfl,s7.trans s',hU7.keep (s' _) (Qk _),hD7.keep (s' _) (Qk _),hg7,hn7,fun e x hx=>((etk x).mp hx).elim (hz7 e x) (fun z=>by rw [z];exact hs),hc7,hb7⟩
    rw [eo1]
    by_cases c1:q0∈U'
    ·rw [decide_eq_true c1,if_neg (by decide)]
     exact stay _ (a0h.refl _) fun z=>absurd c1 z
    rw [decide_eq_false c1,if_pos rfl]
    obtain ⟨o2,ho2,eo2⟩:=hD7.dat.get q0
    refine ⟨D0,o2,rfl,ho2,?_⟩
    rw [eo2]
    by_cases c2:q0∈D'
    ·rw [decide_eq_true c2,if_neg (by decide)]
     exact stay _ (a0h.refl _) fun _ z=>absurd c2 z
    rw [decide_eq_false c2,if_pos rfl]
    obtain ⟨g1,g2,g3,g4,_⟩:=fr s7
    refine ⟨B,P0,F,U0,D0,q0,rs,ps,pl,S,U',D',rfl,g1,hO,by omega,g2,g3,hPo,g4,hU7.dat,hD7.dat,hql,fun H8 s8=>⟨_,rfl,?_⟩⟩
    refine a1K (fun c3=>?_) (fun c3=>?_)
    ·have hstt:stt rs pl S U' D' q0=some true:=by unfold stt;rw [if_pos c3]
     obtain ⟨kv,hp,hU9⟩:=(hU7.keep (s8 U0) (Qk _)).put (by omega) q0 (V.bl true)
     have hct:=b9M hqo c1 c2
     refine ⟨U0,_,rfl,hp,U'++[q0],D',true,_,rfl,fun c o e=>?_,?_,?_,hg7.up hqo c2 hstt,?_,fun z=>(by cases z),by omega,fun _=>by omega⟩
     ·rw [a0a (a0c e hU0)];exact s8 _ _ (s7 _ _ e)
     ·rw [Xq];exact hU9
     ·exact (hD7.keep (s8 D0) (Qk _)).keep (fun o e=>by rw [a0a nUD.symm];exact e) (Qk _)
     ·rw [Xq,Uq];omega
    obtain ⟨g1,g2,g3,g4,_⟩:=fr (s7.trans s8)
    refine ⟨B,P0,F,U0,D0,q0,rs,ps,pl,S,U',D',rfl,g1,hO,by omega,g2,g3,hPo,g4,hU7.dat.same s8,hD7.dat.same s8,hql,fun H9 s9=>⟨_,rfl,?_⟩⟩
    refine a1K (fun c4=>?_) (fun c4=>?_)
    ·have hstt:stt rs pl S U' D' q0=some false:=by unfold stt;rw [if_neg c3,if_pos c4]
     obtain ⟨kv,hp,hD9⟩:=(hD7.keep ((s8.trans s9) D0) (Qk _)).put (by omega) q0 (V.bl true)
     have hct:=b3y hqo c1 c2
     refine ⟨D0,_,rfl,hp,U',D'++[q0],true,_,rfl,fun c o e=>?_,?_,?_,hg7.down hqo c1 hstt,?_,fun z=>(by cases z),by omega,fun _=>by omega⟩
     ·rw [a0a (a0c e hD03)];exact (s8.trans s9) _ _ (s7 _ _ e)
     ·exact (hU7.keep ((s8.trans s9) U0) (Qk _)).keep (fun o e=>by rw [a0a nUD];exact e) (Qk _)
     ·rw [Xq];exact hD9
     ·rw [Xq,Uq];omega
    ·exact stay _ (s8.trans s9) fun _ _=>by unfold stt;rw [if_neg c3,if_neg c4]
   ·rintro σ H7 ⟨U',D',b,y8,rfl,s7,hU7,hD7,hg7,hn7,hz7,hc7,hb7⟩
    rw [Qe,Xs] at hz7
    refine ⟨if b=true then a4t od U' D'+1 else 0,?_,U',D',b,_,rfl,s7,hU7,hD7,hg7,hn7,hz7,rfl⟩
    cases b with
    | true=>rw [if_pos rfl];have:=hb7 rfl;omega
    | false=>rw [if_neg Qo];omega
theorem a7D (T:Txt K mg t):a0V P w K mg base CX0 1 t.f_z17 t.fd_z17 ["self","label","head","body"] (b8A K):=by
 refine T.F_z17.ok c0q (fun vs H Q E h=>?_) (fun cdv A outer s H vs Q E hr h=>?_)
 ·obtain ⟨x,C,dx,lb,hd,b,bs,rfl,hx,hC,hb,q⟩:=h;rfl
 ·obtain ⟨x,C,dx,lb,hd,b,bs,rfl,hx,hC,hb,q⟩:=h
  refine ⟨_,‹A2 (E5 0 1) (A2 (E5 0 2) (A3 (E5 0 (E9 a2G T.z_tuple a2q (A0 3 A1)))))›,?_⟩
  rw [show start c1a [V.ref x,lb,hd,V.ref b]=[some (V.ref x),some (lb),some (hd),some (V.ref b)] from rfl]
  obtain ⟨cl,n1,n2,n3⟩:=hC
  try simp only [a1q,c0L,a0k,Qb,Qa,tCB,a0j,a0r,a0e]
  have cut:∀(H0:Hp),(∀c o,H c=some o→c≠x→H0 c=some o)→H0 x=some (.ins C dx (a1o "head" hd (a1o "label" lb [])))→∀t,H0 t=some (.tup bs)→t≠x→(∀c o,H c=some o→c≠x→upd H0 x (.ins C dx (a9r lb hd t)) c=some o)∧a1U (upd H0 x (.ins C dx (a9r lb hd t))) x C lb hd bs:=fun H0 k0 h0 t ht htx=>
   ⟨fun c o e hc=>by rw [a0a hc];exact k0 c o e hc,dx,t,a0d,by rw [a0a htx];exact ht⟩
  refine ⟨x,C,dx,_,rfl,hx,cl,n1,by show 0 < 1000;decide,x,C,dx,_,rfl,a0d,cl,n2,by show 1 < 1000;decide,?_⟩
  rw [b7l]
  obtain ⟨H1,e1,k1,h1⟩:∃H',upd H x (.ins C dx (a1o "head" hd (a1o "label" lb [])))=H'∧(∀c o,H c=some o→c≠x→H' c=some o)∧H' x=some (.ins C dx (a1o "head" hd (a1o "label" lb []))):=⟨_,rfl,fun c o e hc=>by rw [a0a hc];exact e,a0d⟩
  rw [e1]
  have hlen:(a1o "head" hd (a1o "label" lb [])).length < 1000:=by
   rw [show a1o "head" hd (a1o "label" lb [])=([("label",lb),("head",hd)]:List (Str×V)) from by
    show (if ("label":Str)="head" then _ else _)=_
    rw [if_neg (by decide+kernel)];rfl]
   show 2 < 1000;decide
  rcases hb with hb | ⟨hb,hb'⟩
  ·have hb1:SqL K H1 b bs:=by
    rcases hb with (hb | ⟨o,hb⟩) | hb
    ·exact .inl (.inl (k1 _ _ hb (a0G hb hx (by intro z;cases z))))
    ·exact .inl (.inr ⟨o,k1 _ _ hb (a0G hb hx (by intro z;cases z))⟩)
    ·exact .inr hb
   refine ⟨b,bs,rfl,.inl ⟨hb1,fun t ht=>?_⟩⟩
   have htx:t≠x:=fun z=>by rw [z,h1] at ht;cases ht
   obtain ⟨H2,e2,s2,h2⟩:=a1f ht (.tup bs);rw [e2]
   obtain ⟨a1,a2⟩:=cut H2 (fun c o e hc=>s2 _ _ (k1 c o e hc)) (s2 _ _ h1) t h2 htx
   exact ⟨x,C,dx,_,rfl,s2 _ _ h1,cl,n3,hlen,q _ a1 a2⟩
  ·have hbx:b≠x:=a0G hb' hx (by intro z;cases z)
   have hb1:=k1 _ _ hb' hbx
   refine ⟨b,bs,rfl,.inr ⟨SqT.of hb1,?_⟩⟩
   obtain ⟨a1,a2⟩:=cut H1 k1 h1 b hb1 hbx
   exact ⟨x,C,dx,_,rfl,h1,cl,n3,hlen,q _ a1 a2⟩
theorem b8v (T:Txt K mg t):a0V P w K mg base CX0 2 t.f_z19 t.fd_z19 ["self","head"] (b5s K t.C_Fact):=by
 refine T.F_z19.ok b8n (fun vs H Q E h=>?_) (fun cdv A outer s H vs Q E hr h=>?_)
 ·obtain ⟨x,dx,hd,rfl,hx,q⟩:=h;rfl
 ·obtain ⟨x,dx,hd,rfl,hx,q⟩:=h
  refine ⟨_,‹A3 (D4 (J0 (D2 (.ref t.C_Rule) T.g_Rule rfl) T.cm_Rule (a7D T) (hr.mono (by decide)) T.b_z17 .nil a9v (A0 0 (A0 B0 (A0 1 (A0 (C5 A1) A1))))))›,?_⟩
  rw [show start b9C [V.ref x,hd]=[some (V.ref x),some (hd)] from rfl]
  try simp only [a4r,b4l,tC,a0j,a0k,Qa,Qb,a7o,a0r,Qj,a0e]
  refine ⟨(by trivial),by decide,fun b hb=>?_⟩
  obtain ⟨H1,e1,s1,h1⟩:=a1f hb (.tup []);rw [e1]
  refine ⟨x,t.C_Fact,dx,_,hd,b,[],rfl,s1 _ _ hx,⟨T.cl_Fact,T.nf_Fact_label,T.nf_Fact_head,T.nf_Fact_body⟩,.inr ⟨SqT.of h1,h1⟩,fun H' k r=>?_⟩
  exact q _ (fun c o e hc=>k c o (s1 _ _ e) hc) r
theorem b1P (T:Txt K mg t):a0V P w K mg base CX0 4 t.f_z1u t.fd_z1u ["_law_row_here"] (a6P K t):=by
 refine T.F_z1u.ok a6x (fun vs H Q E h=>?_) (fun cdv A outer s H vs Q E hr h=>?_)
 ·obtain ⟨p,b,r,rfl,hro,hp,hb,q⟩:=h;rfl
 ·obtain ⟨p,b,r,rfl,hro,hp,hb,q⟩:=h
  refine ⟨_,‹A2 (J1 0 (G9 (D6 (A8 1 a6x.nd) (D6 (A8 2 a6x.nd) (D6 (A8 3 a6x.nd) (D6 (A8 4 a6x.nd) G2)))))) (A2 (B3 (B1 (a1t hr.units) 1 B0 (a0p _)) (A3 (A9 (D9 T.mk_Fact (b8v T) T.g_Fact T.b_z19 (A0 3 A1)))) B6) (A2 (B3 (B1 (a1t hr.units) 1 B0 (a0p _)) (A3 (A9 (D9 T.mk_Sure (a7D T) T.g_Sure T.b_z17 (A0 2 (A0 3 (A0 (E9 a2W T.z_list a2H (A0 4 A1)) A1)))))) B6) (A2 (B3 (B1 (a1t hr.units) 1 B0 (a0p _)) (A3 (A9 (D9 T.mk_Most (a7D T) T.g_Most T.b_z17 (A0 2 (A0 3 (A0 4 A1)))))) B6) (A3 (A9 (D9 T.mk_Block (a7D T) T.g_Block T.b_z17 (A0 2 (A0 3 (A0 4 A1)))))))))›,?_⟩
  rw [show start c0W [V.ref p]=[some (V.ref p),none,none,none,none] from rfl]
  obtain ⟨so,lb,hd,bd⟩:=r
  dsimp only at hp hb
  try simp only [a1q,a1S,a0k,Qa,c1c,a9S,a0l,c1A,a3m,a1l,tOp,Qg,Qh,Qb,tC,a1e,b6L,a0j,a0r,Qj,a0e,a1r,tCB]
  refine ⟨p,_,rfl,SqT.of hp,rfl,_,_,rfl,_,_,rfl,_,_,rfl,_,_,rfl,rfl,?_⟩
  have hh:∀{H0:Hp} {x dx:Addr} {C:Addr},H0 x=none→H0 dx=none→dx≠x→(a0h H0 (upd (upd H0 dx (.own x)) x (.ins C dx [])))∧(upd (upd H0 dx (.own x)) x (.ins C dx [])) x=some (.ins C dx []):=fun {H0 x dx C} h1 h2 h3=>
   ⟨fun c o e=>by rw [a0a (a0c e h1),a0a (a0c e h2)];exact e,a0d⟩
  have ez:so=0→bd=[]∧lb="":=hro.2.1
  try simp only [a3H,a1p,decide_eq_true_eq]
  match so,hro.1,ez with
  | 0,_,ez=>
   refine a1K (fun _=>?_) (fun c=>absurd rfl c)
   intro x dx nx ndx ne
   obtain ⟨s,hx⟩:=hh (C:=t.C_Fact) nx ndx ne
   refine ⟨x,dx,_,rfl,hx,fun H' k r=>⟨rfl,q x H' (fun c o e=>k c o (s _ _ e) (a0c e nx)) ?_⟩⟩
   obtain ⟨e1,e2⟩:=ez rfl
   subst e1 e2
   exact r
  | 1,_,_=>
   refine a1K (fun c=>absurd c (by decide+kernel)) (fun _=>a1K (fun _=>?_) (fun c=>absurd rfl c))
   refine ⟨b,_,rfl,.inr (SqT.of hb),fun l hl=>?_⟩
   obtain ⟨H1,e1,s1,h1⟩:=a1f hl (.lst (bd.map V.str));rw [e1]
   intro x dx nx ndx ne
   obtain ⟨s,hx⟩:=hh (C:=t.C_Sure) nx ndx ne
   exact ⟨x,t.C_Sure,dx,_,_,l,_,rfl,hx,⟨T.cl_Sure,T.nf_Sure_label,T.nf_Sure_head,T.nf_Sure_body⟩,.inl (SqL.of (s _ _ h1)),fun H' k r=>⟨rfl,q x H' (fun c o e=>k c o (s _ _ (s1 _ _ e)) (a0c (s1 _ _ e) nx)) r⟩⟩
  | 2,_,_=>
   refine a1K (fun c=>absurd c (by decide+kernel)) (fun _=>a1K (fun c=>absurd c (by decide+kernel)) (fun _=>a1K (fun _=>?_) (fun c=>absurd rfl c)))
   intro x dx nx ndx ne
   obtain ⟨s,hx⟩:=hh (C:=t.C_Most) nx ndx ne
   exact ⟨x,t.C_Most,dx,_,_,b,_,rfl,hx,⟨T.cl_Most,T.nf_Most_label,T.nf_Most_head,T.nf_Most_body⟩,.inr ⟨SqT.of (s _ _ hb),s _ _ hb⟩,fun H' k r=>⟨rfl,q x H' (fun c o e=>k c o (s _ _ e) (a0c e nx)) r⟩⟩
  | 3,_,_=>
   refine a1K (fun c=>absurd c (by decide+kernel)) (fun _=>a1K (fun c=>absurd c (by decide+kernel)) (fun _=>a1K (fun c=>absurd c (by decide+kernel)) (fun _=>?_)))
   intro x dx nx ndx ne
   obtain ⟨s,hx⟩:=hh (C:=t.C_Block) nx ndx ne
   exact ⟨x,t.C_Block,dx,_,_,b,_,rfl,hx,⟨T.cl_Block,T.nf_Block_label,T.nf_Block_head,T.nf_Block_body⟩,.inr ⟨SqT.of (s _ _ hb),s _ _ hb⟩,fun H' k r=>⟨rfl,q x H' (fun c o e=>k c o (s _ _ e) (a0c e nx)) r⟩⟩
theorem a6s (T:Txt K mg t):a0V P w K mg base CX0 1 t.f_z1z t.fd_z1z ["_law_cell","_law_k"] b8y:=by
 refine T.F_z1z.ok b1R (fun vs H Q E h=>?_) (fun cdv A outer s H vs Q E hr h=>?_)
 ·obtain ⟨c,k,rfl,q⟩:=h;rfl
 ·obtain ⟨c,k,rfl,q⟩:=h
  refine ⟨_,‹A2 (A6 2 b1R.nd (A5 a0y (A5 a0q (A5 a0q 0 (A5 a3Y A4 1)) A4) A4)) (A2 (A6 2 b1R.nd (A5 a0y (A5 a3Y (A5 a0y (A5 a3Y 2 2) A4) A4) A4)) (A3 (A9 (A5 a0y (A5 a3Y (A5 a0q 2 A4) (A5 a0q 2 A4)) A4))))›,?_⟩
  rw [show start b9q [V.int c,V.int k]=[some (V.int c),some (V.int k),none] from rfl]
  try simp only [a1q,a1S,tOp,a0k,Qa,tC,Qb,a0l,Qg,Qh,a1e,a0e,a0T,b6R,a0O]
  have h0:=a1n (i:=c+7919 * k+12345) (j:=2147483629) (by decide)
  generalize (c+7919 * k+12345) % 2147483629=n at h0 ⊢
  have h1:=a1n (i:=n * n) (j:=2147483629) (by decide)
  generalize n * n % 2147483629=m at h1 ⊢
  have h2:=a1n (i:=m * 48271) (j:=2147483647) (by decide)
  generalize m * 48271 % 2147483647=l at h2 ⊢
  exact ⟨.inl (by decide),by decide,.inl (by omega),by decide,.inr (by decide),by decide,.inl (by omega),by decide,q _ (Ze _ (by decide))⟩
theorem b4Q (T:Txt K mg t):a0V P w K mg base CX0 2 t.f_z1r t.fd_z1r ["_law_cell","_law_some"] (b6W K):=by
 refine T.F_z1r.ok b8f (fun vs H Q E h=>?_) (fun cdv A outer s H vs Q E hr h=>?_)
 ·obtain ⟨c,a,xs,rfl,ha,hl,hx,q⟩:=h;rfl
 ·obtain ⟨c,a,xs,rfl,ha,hl,hx,q⟩:=h
  refine ⟨_,‹A3 (A9 (B9 (B2 (a0b a7i) b3w ["_law_pair"] [none]) (B5 (C8 a7d T.z_sorted a2C (A0 (B9 (B2 (a0b a7i) b3w ["_law_k","_law_one","_law_cell"] [none,none,some 0]) (H0 (A0 1 A1)) (H1 (D6 (A8 0 (show Xk (["_law_k","_law_one","_law_cell"]:List Str) by decide+kernel)) (D6 (A8 1 (show Xk (["_law_k","_law_one","_law_cell"]:List Str) by decide+kernel)) G2))) C9 (C5 (A0 (A7 (a6s T) T.g_z1z T.F_z1z.kp T.b_z1z .nil (A0 2 (A0 0 A1))) (A0 0 (A0 1 A1))))) A1))) (A8 0 (show Xk (["_law_pair"]:List Str) by decide+kernel)) C9 (B4 (a2S (K:=K) rfl) 0 A4)))›,?_⟩
  rw [show start b3w [V.int c,V.ref a]=[some (V.int c),some (V.ref a)] from rfl]
  try simp only [a1e,a0n,a1E,tCB,a0j,a0r,b6G,a0k,Qb,Qa,a0e]
  refine ⟨a,rfl,⟨_,SqL.of ha⟩,?_⟩
  refine b5i (xs:=xs) (Qi (show xs.length≤1000 by omega) (by decide)) [some (V.int c)] rfl (fun D i v H'=>∃(hi:i < xs.length) (p:Addr) (m:Int),v=.ref p∧p≠D∧H' p=some (.tup [.int m,.int i,xs[i]])) (fun D i v Ha Hb up ⟨hi,p,m,e,n,g⟩=>⟨hi,p,m,e,n,up _ _ n g⟩) (SqL.of ha) (fun D i H' R hi hDn s hD hR=>?_) (fun L H1 ys hLn s1 hL1 hyl hv=>?_)
  ·obtain ⟨zs,hD⟩:=hD
   try simp only [a7o,a0j,a0x,a0k,Qb,Qa,a0r,Qj,a0e,a3k]
   intro r hr0
   refine ⟨by simp only [Qr,Xl];decide,fun p hp=>?_⟩
   exact hR _ _ (a0h.upd hp) ⟨hi,p,r,rfl,(fun z=>by rw [z,hD] at hp;cases hp),a0d⟩
  have hg:∀(i:Nat) (hi:i < ys.length),∃(p:Addr) (m:Int),ys[i]=.ref p∧H1 p=some (.tup [.int m,.int i,xs[i]'(by omega)]):=fun i hi=>by
   obtain ⟨_,p,m,e,_,g⟩:=hv i _ (Qc hi)
   exact ⟨p,m,e,g⟩
  have hmem:∀v∈ys,∃(p:Addr) (m k:Int) (x:V),v=.ref p∧H1 p=some (.tup [.int m,.int k,x])∧x∈xs:=fun v hv=>by
   obtain ⟨i,hi,e⟩:=Zg hv
   obtain ⟨p,m,e2,g⟩:=hg i hi
   exact ⟨p,m,i,_,by rw [←e,e2],g,Xd _⟩
  refine ⟨L,ys,rfl,SqL.of hL1,by omega,fun v hv=>?_,?_,fun L2 zs hL2 hperm=>?_⟩
  ·obtain ⟨p,m,k,x,e,g,hxx⟩:=hmem v hv
   exact ⟨p,m,k,x,e,g,hx x hxx⟩
  ·have:(ys.map fun v=>(a2d H1 v).2)=(Xu ys.length).map fun i:Nat=>(i:Int):=by
    refine Jf (by simp) fun i h1 h2=>?_
    rw [Qe] at h1
    rw [Yr,Yr,List.getElem_range]
    obtain ⟨p,m,e2,g⟩:=hg i h1
    rw [e2]
    show (match H1 p with | some (.tup [.int i,.int k,_])=>(i,k) | _=>((0:Int),(0:Int))).2=_
    rw [g]
   rw [this]
   exact Ui.mpr (Vx.imp fun h e=>h (Int.ofNat_inj.mp e))
  obtain ⟨H2,e2,s2,h2⟩:=a1f hL2 (.lst zs);rw [e2]
  try simp only [a0t]
  refine ⟨⟨_,SqL.of h2⟩,?_⟩
  have hzl:zs.length=xs.length:=by rw [hperm.length_eq,hyl]
  have hz:∀(i:Nat) (hi:i < zs.length),∃(p:Addr) (m k:Int) (x:V),zs[i]=.ref p∧H1 p=some (.tup [.int m,.int k,x]):=fun i hi=>by
   obtain ⟨p,m,k,x,e,g,_⟩:=hmem _ (hperm.mem_iff.mp (Xd hi))
   exact ⟨p,m,k,x,e,g⟩
  refine a3S (a3j (xs:=zs)) (Qi (show zs.length≤1000 by omega) (by decide)) [] rfl (fun i v=>v=a9u H1 ((zs[i]?).getD .non)) (fun H' s=>SqL.of (s _ _ h2)) (fun i H' R hi s hR=>?_) (fun D H3 vs hDn s3 hD3 hvl hvs=>?_)
  ·obtain ⟨p,m,k,x,e,g⟩:=hz i hi
   rw [Qc hi,Xi] at hR ⊢
   rw [e] at hR ⊢
   try simp only [tOp,a0k,Qa,tC,a0e]
   have et:a9u H1 (.ref p)=x:=by
    show (match H1 p with | some (.tup [_,_,x])=>x | _=>.non)=x
    rw [g]
   refine a1F (i:=2) (v:=x) (SqT.of (s _ _ (s2 _ _ g))) (by rfl) (hR _ _ (a0h.refl _) et.symm)
  have ev:vs=zs.map (a9u H1):=by
   refine Jf (by rw [Qe];exact hvl) fun i h1 h2=>?_
   rw [Yr,hvs i _ (Qc h1),Qc (by omega),Xi]
  have ex:ys.map (a9u H1)=xs:=by
   refine Jf (by rw [Qe];exact hyl) fun i h1 h2=>?_
   rw [Qe] at h1
   rw [Yr]
   obtain ⟨p,m,e2,g⟩:=hg i h1
   rw [e2]
   show (match H1 p with | some (.tup [_,_,x])=>x | _=>.non)=_
   rw [g]
  have s13:=(s1.trans s2).trans s3
  exact q D vs H3 s13 (none_of (s1.trans s2) hDn) hD3 (by rw [ev];have:=hperm.map (a9u H1);rw [ex] at this;exact this)
theorem b5f (T:Txt K mg t):a0V P w K mg base CX0 1 t.f_z1s t.fd_z1s ["_law_cell","_law_k","_law_signs"] c0x:=by
 refine T.F_z1s.ok a3u (fun vs H Q E h=>?_) (fun cdv A outer s H vs Q E hr h=>?_)
 ·obtain ⟨c,k,sg,rfl,hsg,q⟩:=h;rfl
 ·obtain ⟨c,k,sg,rfl,hsg,q⟩:=h
  refine ⟨_,‹A2 (A6 3 a3u.nd (A5 a0q A4 (A5 a0y 0 A4))) (A2 (A6 4 a3u.nd (A5 a0y (A5 a0M 0 A4) 3)) (A2 (A6 5 a3u.nd B0) (A2 (C0 (E6 (A0 3 A1)) (A8 6 a3u.nd) (A2 (A6 7 a3u.nd (A5 a0q (A5 a0M 0 A4) (A5 a3Y A4 6))) (E3 (B3 (B1 (a1t hr.units) 6 4 (a0p _)) (A3 (A6 7 a3u.nd (A5 a0q 7 1))) B6) (A3 (A6 5 a3u.nd (A5 a0q 5 (B4 a0H 2 (A5 a0y 7 (C8 a1C T.z_len a1D (A0 2 A1)))))))))) (A3 (A9 5)))))›,?_⟩
  rw [show start b9D [V.int c,V.int k,sv sg]=[some (V.int c),some (V.int k),some (sv sg),none,none,none,none,none] from rfl]
  have m8:=a1n (i:=c) (j:=8) (by decide)
  try simp only [a1q,a1S,tOp,tC,a0k,Qa,a0l,Qg,Qh,Qb,a0D,a5M,a0j,a0r,a0e,a0T,a7F,a0O]
  refine ⟨by decide,⟨by decide,by decide⟩,by omega,_,rfl,by omega,by omega,?_⟩
  refine a2j (n:=(1+c % 8).toNat) (lo:=0) (fun i σ H'=>H=H'∧∃(j st:Option V),σ=[some (V.int c),some (V.int k),some (sv sg),some (V.int (1+c % 8)),some (V.int (c / 8 % (1+c % 8))),some (sv ((Xu i).map fun (j:Nat)=>sg.getD (((c / 64+5 * (j:Int)+(if (j:Int)=c / 8 % (1+c % 8) then k else 0)) % (sg.length:Int)).toNat) 0)),j,st]) ⟨rfl,_,_,rfl⟩ ?_ ?_
  ·rintro i σ H' hi ⟨rfl,j,st,rfl⟩
   obtain ⟨l,el⟩:∃l,((Xu i).map fun (j:Nat)=>sg.getD (((c / 64+5 * (j:Int)+(if (j:Int)=c / 8 % (1+c % 8) then k else 0)) % (sg.length:Int)).toNat) 0)=l:=⟨_,rfl⟩
   have hl:l.length=i:=by rw [←el,Qe,Zc]
   rw [Jx,Xp,Xg,Jq,el,Int.zero_add]
   try simp only [a0l,a1q,a1S,tOp,a0k,Qg,Qh,Qa,tC,Qb,a0e,a0T,b6R,a7F,a0O]
   refine ⟨⟨by decide,by decide⟩,.inl (by decide),fun σ' H'=>H=H'∧∃n:Int,n=c / 64+5 * (i:Int)+(if (i:Int)=c / 8 % (1+c % 8) then k else 0)∧σ'=[some (V.int c),some (V.int k),some (sv sg),some (V.int (1+c % 8)),some (V.int (c / 8 % (1+c % 8))),some (sv l),some (V.int (i:Int)),some (V.int n)],?_,?_⟩
   ·try simp only [a3m,a1l,tOp,a0k,Qb,Qa,a1S,a0l,Qg,Qh,a0e,a0O,a1r,a2I,a1p,decide_eq_true_eq]
    exact a1K (fun z=>⟨(by trivial),_,by rw [if_pos z],rfl⟩) (fun z=>⟨(by trivial),_,by rw [if_neg z,Int.add_zero],rfl⟩)
   rintro σ' H' ⟨rfl,n,hn,rfl⟩
   rw [←hn]
   try simp only [a1S,tOp,a0k,Qb,Qa,tCB,a0j,a0r,a0l,Qg,Qh,a0e,b2z,a0T,b6j,a1z]
   have hm:=a1n (i:=n) (j:=((mk sg).length:Int)) (by rw [a0A];omega)
   obtain ⟨d,e,hv,hd⟩:=a3w (xs:=(mk sg).cps.toList) hm.1 (by rw [show ((mk sg).cps.toList.length:Int)=((mk sg).length:Int) by rw [a0A]];exact hm.2)
   have hd':sg.getD ((n % (sg.length:Int)).toNat) 0=d:=by
    have hd2:sg[(n % ((mk sg).length:Int)).toNat]?=some d:=hd
    rw [a0A] at hd2
    rw [Xh,hd2];rfl
   rw [hd']
   refine ⟨a3G (by rw [a0A];omega),by rw [a0A];omega,a3G (by rw [a0A];omega),d,e,?_,(by trivial),_,_,by rw [show (mk l++(⟨#[d]⟩:Str))=mk (l++[d]) from a2z l [d]]⟩
   show (mk l).length+1≤sizeLine
   rw [a0A]
   exact Qi (show l.length+1≤1000 by omega) (by decide)
  ·rintro σ H' ⟨rfl,j,st,rfl⟩
   try simp only [a1e,a0k,Qb,Qa,a0e]
   exact q
theorem b1C (T:Txt K mg t):a0V P w K mg base CX0 2 t.f_z1j t.fd_z1j ["_law_cell"] b4e:=by
 refine T.F_z1j.ok c1g (fun vs H Q E h=>?_) (fun cdv A outer s H vs Q E hr h=>?_)
 ·obtain ⟨c,rfl,q⟩:=h;rfl
 ·obtain ⟨c,rfl,q⟩:=h
  refine ⟨_,‹A3 (A9 (B9 (B2 (a0b a8w) b6s ["_law_k","_law_cell"] [none,some 0]) (E6 (A0 A4 A1)) (A8 0 (show Xk (["_law_k","_law_cell"]:List Str) by decide+kernel)) C9 (A7 (b5f T) T.g_z1s T.F_z1s.kp T.b_z1s .nil (A0 (A5 a0M 1 A4) (A0 0 (A0 B0 A1))))))›,?_⟩
  rw [show start b6s [V.int c]=[some (V.int c)] from rfl]
  try simp only [a1e,a0n,a5M,a0j,tC,a0r]
  refine ⟨12,rfl,by decide,by decide,?_⟩
  refine a3S a3g (Qi (show (12:Int).toNat≤1000 by decide) (by decide)) [some (V.int c)] rfl (fun i v=>∃z,v=.str z∧OkS z) (fun _ _=>trivial) (fun i H' R hi s hR=>?_) (fun D H' ys hDn s hD hl hv=>?_)
  ·try simp only [a0x,a0j,tOp,a0k,Qb,Qa,tC,a0r,Qj,a0e,a0T,a7F]
   rw [b6O]
   refine ⟨⟨by decide,by decide⟩,_,_,c1H,rfl,by decide,hR _ _ (a0h.refl _) ⟨_,rfl,OkS.of (fun x hx=>b6N (a4g (by decide) x hx)) (Qi (a3h _ _ _).2 (by decide))⟩⟩
  ·obtain ⟨zs,rfl,ho⟩:=a6H hv
   exact q D zs H' s hDn hD (by simpa using hl) ho
theorem c0B (T:Txt K mg t):a0V P w K mg base CX0 3 t.f_z1q t.fd_z1q ["_law_cell","_law_many"] b6y:=by
 refine T.F_z1q.ok a3Z (fun vs H Q E h=>?_) (fun cdv A outer s H vs Q E hr h=>?_)
 ·obtain ⟨c,m,rfl,hm,q⟩:=h;rfl
 ·obtain ⟨c,m,rfl,hm,q⟩:=h
  refine ⟨_,‹A2 (A6 2 a3Z.nd (A7 (b1C T) T.g_z1j T.F_z1j.kp T.b_z1j .nil (A0 0 A1))) (A2 (A6 3 a3Z.nd (B8 A1)) (A2 (C0 (E6 (A0 1 A1)) (A8 4 a3Z.nd) (A2 (A6 5 a3Z.nd (A7 (a6s T) T.g_z1z T.F_z1z.kp T.b_z1z .nil (A0 0 (A0 (A5 a0q A4 4) A1)))) (A2 (A6 6 a3Z.nd (A5 a0y 5 A4)) (A2 (A6 7 a3Z.nd (A5 a0y (A5 a0M 5 A4) A4)) (A3 (B3 (B1 (a2v hr.units) 6 7 (a0p _)) (A3 (D4 (D1 Yl Ye Yg a1c 3 (A0 (C5 (A0 (B4 a0H 2 (C8 (a9A rfl) T.z_min b2c (A0 6 (A0 7 A1)))) (A0 (B4 a0H 2 (C8 (b0W rfl) T.z_max b0Q (A0 6 (A0 7 A1)))) A1))) A1)))) B6)))))) (A3 (A9 3))))›,?_⟩
  rw [show start b9P [V.int c,V.int m]=[some (V.int c),some (V.int m),none,none,none,none,none,none] from rfl]
  try simp only [a1q,a1S,a0x,a0j,a0k,Qa,a0r,Qj,a0l,a3n,Qg,Qh,a0D,a5M,Qb,a0e]
  refine ⟨c,rfl,fun La ls H1 s1 hLn hL hl12 hlo=>?_⟩
  try simp only []
  refine ⟨by decide,fun D hD=>⟨_,rfl,by omega,by omega,?_⟩⟩
  obtain ⟨H2,e2,s2,h2⟩:=a1f hD (.lst []);rw [e2]
  have hDn:H D=none:=none_of s1 hD
  have hLD:La≠D:=a0c hL hD
  refine a2j (n:=m.toNat) (lo:=0) (fun i σ H'=>∃(ps:List V) (pl:List (Str×Str)) (x4 x5 x6 x7:Option V),σ=[some (V.int c),some (V.int m),some (V.ref La),some (V.ref D),x4,x5,x6,x7]∧a0h H H'∧H' La=some (.lst (ls.map V.str))∧H' D=some (.lst ps)∧a0R H' ps pl∧pl.length≤i∧b4R pl)
   ⟨[],[],_,_,_,_,rfl,s1.trans s2,s2 _ _ hL,h2,⟨[],rfl,rfl,fun i a p e=>by simp at e⟩,Qk _,fun _ h=>by cases h⟩ ?_ ?_
  ·rintro i σ H3 hi ⟨ps,pl,x4,x5,x6,x7,rfl,s3,hL3,hD3,hP3,hpl,hpo⟩
   try simp only [a0l,a1q,a1S,a0x,a0j,a0k,Qg,Qh,Qa,tOp,tC,Qb,a0r,Qj,a3m,a1l,a4r,tBM,a7o,tCB,a0e,a1r,a0O,a3k,a0T,a7F,a7t,a1p,Yd,decide_eq_false_iff_not]
   intro r hr
   have m1:=a1n (i:=r) (j:=12) (by decide)
   have m2:=a1n (i:=r / 12) (j:=12) (by decide)
   generalize r % 12=x at m1
   generalize r / 12 % 12=y at m2
   have hpsl:ps.length≤60:=by
    obtain ⟨as,rfl,hal,_⟩:=hP3
    rw [Qe];omega
   refine ⟨by decide,⟨by decide,by decide⟩,by decide,a1K (fun c1=>?_) (fun c1=>⟨ps,pl,_,_,_,_,rfl,s3,hL3,hD3,hP3,by omega,hpo⟩)⟩
   have pk:∀n:Int,0≤n∧n < 12→∃z,atI (ls.map V.str) n=some (.str z)∧OkS z:=fun n hn=>by
    obtain ⟨v,e,hv,_⟩:=a3w (xs:=ls.map V.str) (i:=n) hn.1 (by rw [Qe,hl12];exact hn.2)
    obtain ⟨z,hz,rfl⟩:=Qf.mp hv
    exact ⟨z,e,hlo z hz⟩
   obtain ⟨z1,ez1,o1⟩:=pk (if y < x then y else x) (by split<;>omega)
   obtain ⟨z2,ez2,o2⟩:=pk (if y > x then y else x) (by split<;>omega)
   refine ⟨.inl ⟨rfl,_,SqL.of hD3⟩,x,y,rfl,a0E (SqL.of hL3) ez1 ⟨x,y,rfl,a0E (SqL.of hL3) ez2 ⟨by simp only [Qr,Xl];decide,fun p hp=>?_⟩⟩⟩
   obtain ⟨H4,e4,s4,h4⟩:=a1f hp (.tup [V.str z1,V.str z2]);rw [e4]
   have hD4:=s4 _ _ hD3
   have hpD:p≠D:=fun z=>by rw [z,hD3] at hp;cases hp
   refine ⟨D,_,_,rfl,rfl,hD4,Xm (show _≤1000 by omega) (by decide),?_⟩
   have up:∀b o,b≠D→H4 b=some o→upd H4 D (.lst (ps++[V.ref p])) b=some o:=fun b o hb e=>by rw [a0a hb];exact e
   refine ⟨ps++[V.ref p],pl++[(z1,z2)],_,_,_,_,rfl,fun b o e=>up _ _ (a0c e hDn) (s4 _ _ (s3 _ _ e)),up _ _ hLD (s4 _ _ hL3),a0d,a7U (a7R (a0R.same s4 hP3) ⟨_,hD4⟩ up) (up _ _ hpD h4),by simp;omega,fun w hw=>?_⟩
   rcases Qq.mp hw with z | z
   ·exact hpo w z
   ·rw [Xa.mp z];exact ⟨o1.1,o2.1⟩
  ·rintro σ H3 ⟨ps,pl,x4,x5,x6,x7,rfl,s3,hL3,hD3,hP3,hpl,hpo⟩
   try simp only [a1e,a0k,Qb,Qa,a0e]
   exact q D ps pl H3 s3 hDn hD3 hP3 (by omega) hpo
theorem b9p (T:Txt K mg t):a0V P w K mg base CX0 4 t.f_z02 t.fd_z02 ["_law_script"] (b4b K):=by
 refine T.F_z02.ok a4a (fun vs H Q E h=>?_) (fun cdv A outer s H vs Q E hr h=>?_)
 ·obtain ⟨a,ns,rfl,hS,hl,q⟩:=h;rfl
 ·obtain ⟨a,ns,rfl,hS,hl,q⟩:=h
  refine ⟨_,‹A2 (A6 1 a4a.nd (A7 (b1C T) T.g_z1j T.F_z1j.kp T.b_z1j .nil (A0 (A7 (a3a T) T.g_z1d T.F_z1d.kp T.b_z1d .nil (A0 0 (A0 A4 A1))) A1))) (A2 (A6 2 a4a.nd (A7 (a3a T) T.g_z1d T.F_z1d.kp T.b_z1d .nil (A0 0 (A0 A4 A1)))) (A2 (B3 (B1 b4m (A5 a0y (A7 (a3a T) T.g_z1d T.F_z1d.kp T.b_z1d .nil (A0 0 (A0 A4 A1))) A4) A4 (a0p _)) (A3 (A9 (A7 (c0B T) T.g_z1q T.F_z1q.kp T.b_z1q .nil (A0 (A7 (a3a T) T.g_z1d T.F_z1d.kp T.b_z1d .nil (A0 0 (A0 A4 A1))) (A0 (A5 a0y 2 A4) A1))))) B6) (A2 (A6 3 a4a.nd (B8 A1)) (A2 (C0 (E6 (A0 A4 A1)) (A8 4 a4a.nd) (A3 (C0 (J2 rfl T.z_range (A0 (A5 a0q 4 A4) (A0 A4 A1))) (A8 5 a4a.nd) (E3 (B3 (B1 (a1t hr.units) (A5 a0y 2 A4) A4 (a0p _)) (A3 (D4 (D1 Yl Ye Yg a1c 3 (A0 (C5 (A0 (B4 a0H 1 4) (A0 (B4 a0H 1 5) A1))) A1)))) B6) (A3 (A6 2 a4a.nd (A5 a0M 2 A4))))))) (A3 (A9 3))))))›,?_⟩
  rw [show start c0Z [V.ref a]=[some (V.ref a),none,none,none,none,none] from rfl]
  try simp only [a1q,a1S,a0x,a0j,a0k,Qa,tC,a0r,Qj,a0l,Qg,Qh,a3m,a1l,tOp,a1e,Qb,a0e,a1r,a3n,a0D,a5M]
  refine ⟨a,ns,0,rfl,hS,hl,by decide,by decide,fun c0 _=>?_⟩
  refine ⟨c0,rfl,fun La ls H1 s1 hLn hL hl12 hlo=>?_⟩
  have hS1:SqL K H1 a (ns.map V.int):=s1.seq hS
  try simp only []
  refine ⟨a,ns,2,rfl,hS1,hl,by decide,by decide,fun c2 _=>?_⟩
  try simp only [a0T]
  refine ⟨a,ns,1,rfl,hS1,hl,by decide,by decide,fun c1 _=>?_⟩
  try simp only [a0T,a7B,a1p,decide_eq_true_eq]
  refine ⟨by decide,a1K (fun cc=>?_) (fun cc=>?_)⟩
  ·refine ⟨a,ns,0,rfl,hS1,hl,by decide,by decide,fun c3 _=>?_⟩
   have m25:=a1n (i:=c2) (j:=25) (by decide)
   try simp only []
   exact ⟨by decide,c3,c2 % 25,rfl,by omega,fun D ps pl H' s' hDn hD hP hpl hpo=>q D ps pl H' (s1.trans s') (none_of s1 hDn) hD hP hpl hpo⟩
  refine ⟨by decide,fun D hD=>⟨11,rfl,by decide,by decide,?_⟩⟩
  obtain ⟨H2,e2,s2,h2⟩:=a1f hD (.lst []);rw [e2]
  have hDn:H D=none:=none_of s1 hD
  have hLD:La≠D:=a0c hL hD
  have pk:∀n:Int,0≤n∧n < 12→∃z,atI (ls.map V.str) n=some (.str z)∧OkS z:=fun n hn=>by
   obtain ⟨v,e,hv,_⟩:=a3w (xs:=ls.map V.str) (i:=n) hn.1 (by rw [Qe,hl12];exact hn.2)
   obtain ⟨z,hz,rfl⟩:=Qf.mp hv
   exact ⟨z,e,hlo z hz⟩
  refine a2j (n:=(11:Int).toNat) (lo:=0) (fun i σ H'=>∃(ps:List V) (pl:List (Str×Str)) (cc:Int) (x4 x5:Option V),σ=[some (V.ref a),some (V.ref La),some (V.int cc),some (V.ref D),x4,x5]∧a0h H H'∧H' La=some (.lst (ls.map V.str))∧H' D=some (.lst ps)∧a0R H' ps pl∧pl.length≤10 * i∧b4R pl)
   ⟨[],[],_,_,_,rfl,s1.trans s2,s2 _ _ hL,h2,⟨[],rfl,rfl,fun i a p e=>by simp at e⟩,Qk _,fun _ h=>by cases h⟩ ?_ ?_
  ·rintro i σ H3 hi ⟨ps,pl,cc,x4,x5,rfl,s3,hL3,hD3,hP3,hpl,hpo⟩
   have hi11:i < 11:=hi
   try simp only [a0l,Qg,Qh,a0D,b7K,a0j,tOp,a0k,Qb,Qa,tC,a0r,a0e,a0O]
   refine ⟨_,_,rfl,⟨by omega,by omega,by omega,by omega⟩,?_⟩
   refine a2j (n:=(11 - (0+(i:Int)+1)).toNat) (lo:=0+(i:Int)+1) (fun j σ H'=>∃(ps:List V) (pl:List (Str×Str)) (cc:Int) (x5:Option V),σ=[some (V.ref a),some (V.ref La),some (V.int cc),some (V.ref D),some (V.int (0+(i:Int))),x5]∧a0h H H'∧H' La=some (.lst (ls.map V.str))∧H' D=some (.lst ps)∧a0R H' ps pl∧pl.length≤10 * i+j∧b4R pl)
    ⟨ps,pl,cc,_,rfl,s3,hL3,hD3,hP3,by omega,hpo⟩ ?_ ?_
   ·clear hD3 hP3 hpl hpo
    rintro j σ H4 hj ⟨ps,pl,cc,x5,rfl,s4,hL4,hD4,hP4,hpl,hpo⟩
    have hpsl:ps.length≤200:=by
     obtain ⟨as,rfl,hal,_⟩:=hP4
     rw [Qe];omega
    try simp only [a0l,Qg,Qh]
    refine ⟨fun σ' H'=>∃(ps:List V) (pl:List (Str×Str)),σ'=[some (V.ref a),some (V.ref La),some (V.int cc),some (V.ref D),some (V.int (0+(i:Int))),some (V.int (0+(i:Int)+1+(j:Int)))]∧a0h H H'∧H' La=some (.lst (ls.map V.str))∧H' D=some (.lst ps)∧a0R H' ps pl∧pl.length≤10 * i+(j+1)∧b4R pl,?_,?_⟩
    ·try simp only [a3m,a1l,tOp,a0k,Qb,Qa,tC,a4r,tBM,a0j,a7o,a0r,a0e,a1r,a0T,a2I,a1p,decide_eq_true_eq]
     refine ⟨by decide,a1K (fun c5=>?_) (fun c5=>⟨ps,pl,(by trivial),s4,hL4,hD4,hP4,by omega,hpo⟩)⟩
     obtain ⟨z1,ez1,o1⟩:=pk (0+(i:Int)) (by omega)
     obtain ⟨z2,ez2,o2⟩:=pk (0+(i:Int)+1+(j:Int)) (by omega)
     refine ⟨.inl ⟨rfl,_,SqL.of hD4⟩,a0E (SqL.of hL4) ez1 (a0E (SqL.of hL4) ez2 ⟨by simp only [Qr,Xl];decide,fun p hp=>?_⟩)⟩
     obtain ⟨H5,e5,s5,h5⟩:=a1f hp (.tup [V.str z1,V.str z2]);rw [e5]
     have hD5:=s5 _ _ hD4
     have hpD:p≠D:=fun z=>by rw [z,hD4] at hp;cases hp
     refine ⟨D,_,_,rfl,rfl,hD5,Xm (show _≤1000 by omega) (by decide),?_⟩
     have up:∀b o,b≠D→H5 b=some o→upd H5 D (.lst (ps++[V.ref p])) b=some o:=fun b o hb e=>by rw [a0a hb];exact e
     refine ⟨ps++[V.ref p],pl++[(z1,z2)],(by trivial),fun b o e=>up _ _ (a0c e hDn) (s5 _ _ (s4 _ _ e)),up _ _ hLD (s5 _ _ hL4),a0d,a7U (a7R (a0R.same s5 hP4) ⟨_,hD5⟩ up) (up _ _ hpD h5),by simp;omega,fun w hw=>?_⟩
     rcases Qq.mp hw with z | z
     ·exact hpo w z
     ·rw [Xa.mp z];exact ⟨o1.1,o2.1⟩
    ·rintro σ' H5 ⟨ps,pl,rfl,s5,hL5,hD5,hP5,hpl5,hpo5⟩
     try simp only [a1S,tOp,a0k,Qb,Qa,tC,a0l,Qg,Qh,a0e,a0T,a7F]
     exact ⟨⟨by decide,by decide⟩,ps,pl,_,_,rfl,s5,hL5,hD5,hP5,hpl5,hpo5⟩
   ·rintro σ H4 ⟨ps,pl,cc,x5,rfl,s4,hL4,hD4,hP4,hpl,hpo⟩
    exact ⟨ps,pl,cc,_,_,rfl,s4,hL4,hD4,hP4,by omega,hpo⟩
  ·rintro σ H3 ⟨ps,pl,cc,x4,x5,rfl,s3,hL3,hD3,hP3,hpl,hpo⟩
   try simp only [a1e,a0k,Qb,Qa,a0e]
   exact q D ps pl H3 s3 hDn hD3 hP3 (by have:(11:Int).toNat=11:=rfl;omega) hpo
theorem b4F (T:Txt K mg t):a0V P w K mg base CX0 2 t.f_z1t t.fd_z1t ["_law_cell"] b8E:=by
 refine T.F_z1t.ok a6c (fun vs H Q E h=>?_) (fun cdv A outer s H vs Q E hr h=>?_)
 ·obtain ⟨c,rfl,q⟩:=h;rfl
 ·obtain ⟨c,rfl,q⟩:=h
  refine ⟨_,‹A2 (D8 1 (B2 (a0b a8C) b5X ["_law_k","_law_cell"] [none,some 0]) (E6 (A0 A4 A1)) (A8 0 (show Xk (["_law_k","_law_cell"]:List Str) by decide+kernel)) C9 (A7 (b5f T) T.g_z1s T.F_z1s.kp T.b_z1s .nil (A0 (A5 a0M 1 A4) (A0 0 (A0 B0 A1)))) a6c.nd) (A2 (A6 2 a6c.nd (B8 A1)) (A2 (C0 (E6 (A0 (A5 a0q A4 (A5 a0y 0 A4)) A1)) (A8 3 a6c.nd) (A2 (A6 4 a6c.nd (B4 a0H (B8 (A0 B0 (A0 (A5 a0q (A5 a0q B0 (B4 a0H 1 A4)) B0) (A0 (A5 a0q (A5 a0q (A5 a0q (A5 a0q B0 (B4 a0H 1 A4)) B0) (B4 a0H 1 A4)) B0) A1)))) (A5 a0M 3 A4))) (A2 (D4 (D1 Yl Ye Yg a1c 2 (A0 (A5 a0q (B4 a0H 1 (A5 a0y 3 A4)) 4) A1))) (A3 (D4 (D1 Yl Ye Yg a1c 2 (A0 (A5 a0q (A5 a0q B0 (B4 a0H 1 (A5 a0y 3 A4))) 4) A1))))))) (A3 (A9 2))))›,?_⟩
  rw [show start b5X [V.int c]=[some (V.int c),none,none,none,none] from rfl]
  try simp only [a1q,a1S,a3n,a0r,a0l,Qg,Qh,a0D,a5M,a0j,tOp,tC,a0k,Qa,a0e,a0T,a0O,a0n]
  refine ⟨5,rfl,by decide,by decide,?_⟩
  refine a3S a3g (Qi (show (5:Int).toNat≤1000 by decide) (by decide)) [some (V.int c)] rfl (fun i v=>v=sv (a2E (c / 9) (i:Int) a3b)) (fun _ _=>trivial) (fun i H' R hi s hR=>?_) (fun W H1 ys hWn s1 hW hl hv=>?_)
  ·try simp only [a0x,a0j,tOp,a0k,Qb,Qa,tC,a0r,Qj,a0e,a0T,a7F]
   rw [c1m]
   refine ⟨⟨by decide,by decide⟩,_,_,a3b,rfl,by decide,hR _ _ (a0h.refl _) (by rw [Int.zero_add])⟩
  obtain ⟨wd,hwd⟩:∃wd:Nat→List Nat,wd=fun (i:Nat)=>a2E (c / 9) (i:Int) a3b:=⟨_,rfl⟩
  have hw1:∀k,k < 5→∀x∈wd k,x∈a3b:=fun k _ x hx=>by rw [hwd] at hx;exact a4g (by decide) x hx
  have hw2:∀k,k < 5→wd k≠[]:=fun k _ z=>by
   have:=(a3h (c / 9) (k:Int) a3b).1
   rw [hwd] at z
   rw [show a2E (c / 9) (k:Int) a3b=[] from z] at this
   simp at this
  have hw3:∀j k,j < 5→k < 5→wd j=wd k→j=k:=fun j k hj hk e=>by
   rw [hwd] at e
   have:=a9x (c:=c / 9) (k:=(j:Int)) (k':=(k:Int)) (by omega) (by omega) e
   omega
  have hyi:∀n:Nat,n < 5→atI ys (n:Int)=some (sv (wd n))∧(wd n).length≤8∧∀x∈wd n,x∈a3b:=fun n hn=>by
   have hn':n < ys.length:=by rw [hl];exact hn
   refine ⟨?_,by rw [hwd];exact (a3h _ _ _).2,hw1 n hn⟩
   unfold atI ixN
   rw [if_pos (by omega),if_pos (by omega)]
   show ys[((n:Int)).toNat]?=_
   rw [Int.toNat_natCast,Qc hn',hv n _ (Qc hn'),hwd]
  have m9:=a1n (i:=c) (j:=9) (by decide)
  try skip
  refine ⟨by decide,fun D hD=>?_⟩
  have hWD:W≠D:=fun z=>by rw [z,hD] at hW;cases hW
  refine ⟨by decide,_,rfl,by omega,by omega,?_⟩
  refine a2j (n:=(1+c % 9).toNat) (lo:=0) (fun i σ H'=>∃(pl:List Str) (k pc:Option V),σ=[some (V.int c),some (V.ref W),some (V.ref D),k,pc]∧a0h H1 H'∧H' D=some (.lst (pl.map V.str))∧(pl=(Xu (2 * i)).map (plG wd))∧∀z∈pl,OkS z) ⟨[],_,_,rfl,a0h.upd hD,a0d,rfl,by simp⟩ ?_ ?_
  ·rintro i σ H2 hi ⟨pl,k,pc,rfl,s2,hD2,hpl,hok⟩
   have hW2:=s2 _ _ hW
   have hpll:pl.length=2 * i:=by rw [hpl,Qe,Zc]
   obtain ⟨e3,b3,c3⟩:=hyi 3 (by decide)
   obtain ⟨e4,b4,c4⟩:=hyi 4 (by decide)
   obtain ⟨en,bn,cn⟩:=hyi (i % 3) (by omega)
   rw [show ((i % 3:Nat):Int)=(0+(i:Int)) % 3 by omega] at en
   have enm:nmL wd i=wd (i % 3)++pcl wd (i / 3):=rfl
   have epc:∀(x y z:V),x=sv (pcl wd 0)→y=sv (pcl wd 1)→z=sv (pcl wd 2)→atI [x,y,z] ((0+(i:Int)) / 3)=some (sv (pcl wd (i / 3))):=fun x y z h1 h2 h3=>by
    have hi3:i / 3 < 3:=by omega
    rw [show (0+(i:Int)) / 3=((i / 3:Nat):Int) by omega]
    match i / 3,hi3 with
    | 0,_=>rw [h1];rfl
    | 1,_=>rw [h2];rfl
    | 2,_=>rw [h3];rfl
   have e31:pcl wd 1=40::(wd 3++[41]):=rfl
   have e32:pcl wd 2=40::(wd 4++[44])++wd 3++[41]:=rfl
   have eplG:(Xu (2 * (i+1))).map (plG wd)=pl++[mk (nmL wd i),mk (45::nmL wd i)]:=by
    rw [show 2 * (i+1)=2 * i+1+1 by omega,Jx,Jx,Xp,Xp,←hpl]
    have g1:plG wd (2 * i)=mk (nmL wd i):=by unfold plG;rw [if_pos (by omega),show 2 * i / 2=i by omega]
    have g2:plG wd (2 * i+1)=mk (45::nmL wd i):=by unfold plG;rw [if_neg (by omega),show (2 * i+1) / 2=i by omega]
    rw [Xg,Xg,Jq,g1,g2,Ja];rfl
   generalize wd 3=l3 at e3 b3 c3 e31 e32
   generalize wd 4=l4 at e4 b4 c4 e32
   generalize wd (i % 3)=ln at en bn cn enm
   try simp only [a0l,a1q,a1S,tOp,a3n,a0j,tC,a0k,Qg,Qh,Qb,Qa,a0r,a4r,tBM,a0e,a0T,a7F]
   rw [show ("(":Str)=mk [40] by decide+kernel,show (")":Str)=mk [41] by decide+kernel,show (",":Str)=mk [44] by decide+kernel,show ("-":Str)=mk [45] by decide+kernel]
   refine a0E (SqL.of hW2) e3 ?_
   try simp only [a1z]
   rw [a2z,a2z]
   refine ⟨by rw [a0A,a0A];exact Qi (show _≤2000 by simp;omega) (by decide),by rw [a0A,a0A];exact Qi (show _≤2000 by simp;omega) (by decide),a0E (SqL.of hW2) e4 ?_⟩
   try simp only [Ju,Uu,a1z]
   rw [a2z,a2z]
   refine ⟨by rw [a0A,a0A];exact Qi (show _≤2000 by simp;omega) (by decide),by rw [a0A,a0A];exact Qi (show _≤2000 by simp;omega) (by decide),a0E (SqL.of hW2) e3 ?_⟩
   try simp only [Ju,Uu,a1z]
   rw [a2z,a2z]
   refine ⟨by rw [a0A,a0A];exact Qi (show _≤2000 by simp;omega) (by decide),by rw [a0A,a0A];exact Qi (show _≤2000 by simp;omega) (by decide),by simp only [Qr,Xl];decide,fun p3 hp3=>?_⟩
   obtain ⟨H3,e3',s3,h3⟩:=a1f hp3 (.lst [V.str "",sv (40::(l3++[41])),sv (40::(l4++[44])++l3++[41])]);rw [e3']
   have d3:0≤(0+(i:Int)) / 3∧(0+(i:Int)) / 3 < 3:=by omega
   have epv:=epc (V.str "") (sv (40::(l3++[41]))) (sv (40::(l4++[44])++l3++[41])) rfl (by rw [e31]) (by rw [e32])
   have hpc:(pcl wd (i / 3)).length≤30∧∀c∈pcl wd (i / 3),c < 128:=by
    have hi3:i / 3 < 3:=by omega
    match i / 3,hi3 with
    | 0,_=>exact ⟨Xe _,fun c hc=>by cases hc⟩
    | 1,_=>
     rw [e31]
     refine ⟨by simp;omega,fun c hc=>?_⟩
     simp only [Qq,Qy,Zu,or_false] at hc
     rcases hc with h | h | h
     ·omega
     ·exact a6v (c3 c h)
     ·omega
    | 2,_=>
     rw [e32]
     refine ⟨by simp;omega,fun c hc=>?_⟩
     simp only [Qq,Qy,Zu,or_false] at hc
     rcases hc with ((h | h | h) | h) | h
     ·omega
     ·exact a6v (c4 c h)
     ·omega
     ·exact a6v (c3 c h)
     ·omega
   obtain ⟨bpc,cpc⟩:=hpc
   generalize pcl wd (i / 3)=pc' at epv bpc cpc enm
   have hW3:=s3 _ _ hW2
   have hD3:=s3 _ _ hD2
   refine ⟨⟨by decide,by decide⟩,a0E (SqL.of h3) epv ?_⟩
   have o1:OkS (mk (ln++pc')):=OkS.of (fun c hc=>(Qq.mp hc).elim (fun h=>a6v (cn c h)) (fun h=>cpc c h)) (by simp;omega)
   have o2:OkS (mk ([45]++ln++pc')):=OkS.of (fun c hc=>by
    simp only [Qq,Xa] at hc
    rcases hc with (h | h) | h
    ·omega
    ·exact a6v (cn c h)
    ·exact cpc c h) (by simp;omega)
   have hWD3:upd H3 D (.lst (pl.map V.str++[sv (ln++pc')])) W=some (.lst ys):=by rw [a0a hWD];exact hW3
   refine ⟨.inl ⟨rfl,_,SqL.of hD3⟩,by decide,a0E (SqL.of hW3) en ?_⟩
   try simp only [a1z]
   rw [a2z]
   refine ⟨by rw [a0A,a0A];exact Qi (show _≤2000 by omega) (by decide),D,_,_,rfl,rfl,hD3,Xm (show _≤1000 by rw [Qe];omega) (by decide),?_⟩
   refine ⟨.inl ⟨rfl,_,SqL.of a0d⟩,by decide,a0E (SqL.of hWD3) en ?_⟩
   try simp only [a1z]
   rw [a2z,a2z]
   refine ⟨by rw [a0A,a0A];exact Qi (show _≤2000 by simp;omega) (by decide),by rw [a0A,a0A];exact Qi (show _≤2000 by simp;omega) (by decide),D,_,_,rfl,rfl,a0d,Xm (show _≤1000 by simp;omega) (by decide),pl++[mk (ln++pc'),mk ([45]++ln++pc')],_,_,rfl,?_,?_,by rw [eplG,enm];rfl,fun z hz=>?_⟩
   ·intro b o e;rw [a0a (a0c e hD),a0a (a0c e hD)];exact s3 _ _ (s2 _ _ e)
   ·rw [a0d];simp
   ·rcases Qq.mp hz with h | h
    ·exact hok z h
    ·simp only [Qy,Zu,or_false] at h
     rcases h with rfl | rfl
     ·exact o1
     ·exact o2
  ·rintro σ H2 ⟨pl,k,pc,rfl,s2,hD2,hpl,hok⟩
   try simp only [a1e,a0k,Qb,Qa,a0e]
   have hpll:pl.length=2 * (1+c % 9).toNat:=by rw [hpl,Qe,Zc]
   exact q D pl H2 (s1.trans s2) (none_of s1 hD) hD2 (by omega) (by omega) hok (by rw [hpl];exact b3j hw1 hw2 hw3 (by omega)) (fun z hz=>by rw [hpl] at hz;obtain ⟨j,_,rfl⟩:=Qf.mp hz;exact b8N hw1 hw2 j) (by rw [hpl,hwd];rfl)
theorem b7U (T:Txt K mg t):a0V P w K mg base CX0 2 t.f_z20 t.fd_z20 ["_law_m","_law_k","_law_pool_here","_law_labels_here","_law_style"] c2c:=by
 refine T.F_z20.ok a3t (fun vs H Q E h=>?_) (fun cdv A outer s H vs Q E hr h=>?_)
 ·obtain ⟨m,k,st,P,L,pl,ls,rfl,hP,hp2,hp18,hpo,hL,hl12,hlo,q⟩:=h;rfl
 ·obtain ⟨m,k,st,P,L,pl,ls,rfl,hP,hp2,hp18,hpo,hL,hl12,hlo,q⟩:=h
  refine ⟨_,‹A2 (A6 5 a3t.nd (C8 a1C T.z_len a1D (A0 2 A1))) (A2 (A6 6 a3t.nd (B4 a0H 2 (A5 a0y (A5 a0M 0 A4) 5))) (A2 (D8 7 (B2 (a0b a7k) b2M ["_law_j","_law_pool_here","_law_size","_law_m"] [none,some 2,some 5,some 0]) (E6 (A0 (A5 a0y (A5 a0M 0 A4) A4) A1)) (A8 0 (show Xk (["_law_j","_law_pool_here","_law_size","_law_m"]:List Str) by decide+kernel)) C9 (B4 (a2S (K:=K) rfl) 1 (A5 a0y (A7 (a6s T) T.g_z1z T.F_z1z.kp T.b_z1z .nil (A0 3 (A0 (A5 (b0u (K:=K) rfl) A4 0) A1))) 2)) a3t.nd) (E3 (B3 (B1 (a1t hr.units) 4 A4 (a0p _)) (A2 (A6 6 a3t.nd (B4 a0H 2 (A5 a0y (A5 a3Y A4 1) 5))) (A2 (A6 8 a3t.nd (B4 a0H (B8 (A0 A4 (A0 A4 (A0 A4 (A0 A4 (A0 A4 (A0 A4 A1))))))) (A5 a0y (A5 a0M 0 A4) A4))) (A3 (D8 7 (B2 (a0b a7k) b2M ["_law_j","_law_pool_here","_law_size","_law_k","_law_m"] [none,some 2,some 5,some 1,some 0]) (E6 (A0 8 A1)) (A8 0 (show Xk (["_law_j","_law_pool_here","_law_size","_law_k","_law_m"]:List Str) by decide+kernel)) C9 (B4 (a2S (K:=K) rfl) 1 (A5 a0y (A5 b4B (A5 b4B (A5 a3Y A4 3) A4) (A5 a0y (A7 (a6s T) T.g_z1z T.F_z1z.kp T.b_z1z .nil (A0 4 (A0 (A5 (b0u (K:=K) rfl) A4 0) A1))) A4)) 2)) a3t.nd)))) B6) (A2 (A6 9 a3t.nd (B4 a0H (B8 (A0 B0 (A0 B0 (A0 B0 (A0 B0 (A0 B0 (A0 B0 (A0 B0 (A0 B0 A1))))))))) (A5 a0y 0 A4))) (A2 (B3 (B1 (a1t hr.units) (A5 a0y (A5 a0M 0 A4) A4) A4 (a0p _)) (A3 (A9 (C5 (A0 B0 (A0 B0 (A0 6 (A0 (C5 A1) A1))))))) B6) (A3 (A9 (C5 (A0 9 (A0 (B4 a0H 3 (A5 a0y (A5 a0M 0 A4) A4)) (A0 6 (A0 (E9 a2G T.z_tuple a2q (A0 7 A1)) A1))))))))))))›,?_⟩
  rw [show start b2M [V.int m,V.int k,V.ref P,V.ref L,V.int st]=[some (V.int m),some (V.int k),some (V.ref P),some (V.ref L),some (V.int st),none,none,none,none,none] from rfl]
  have hpo':∀z∈pl,OkP pl z:=fun z hz=>⟨hpo z hz,hz⟩
  obtain ⟨z0,e0,o0⟩:=a2U hp2 hpo' (m / 8)
  have m5:=a1n (i:=m / 200) (j:=5) (by decide)
  try simp only [a1q,a1S,tCB,a0j,a0k,Qb,Qa,a0r,a0l,tOp,Qg,Qh,tC,a0n,a5M,a0e,a0T,a7F]
  refine a2c (SqL.of hP) ?_
  try simp only [a0T]
  rw [Qe]
  refine ⟨⟨by decide,by decide⟩,by omega,a0E (SqL.of hP) e0 ?_⟩
  try skip
  refine ⟨⟨by decide,by decide⟩,by decide,_,rfl,by omega,by omega,?_⟩
  refine a3S a3g (Qi (show (m / 200 % 5).toNat≤1000 by omega) (by decide)) [some (V.ref P),some (V.int pl.length),some (V.int m)] rfl (fun i v=>∃z,v=V.str z∧OkP pl z) (fun _ _=>trivial) (fun i H' R hi s hR=>?_) (fun B H1 ys hBn s1 hB hl hv=>?_)
  ·try simp only [tOp,a0k,Qb,Qa,a0x,a0j,tC,a0r,Qj,a0e,a0O,a3k,a0T]
   intro r hr
   obtain ⟨z,e,o⟩:=a2U hp2 hpo' r
   exact ⟨by omega,a0E (SqL.of (s _ _ hP)) e (hR _ _ (a0h.refl _) ⟨z,rfl,o⟩)⟩
  obtain ⟨zs,rfl,hzo⟩:=a6H hv
  have hzl:zs.length≤4:=by
   rw [Qe] at hl;omega
  refine ⟨fun σ' H'=>∃(hd:Str) (B:Addr) (zs:List Str) (mn:Option V),σ'=[some (V.int m),some (V.int k),some (V.ref P),some (V.ref L),some (V.int st),some (V.int pl.length),some (V.str hd),some (V.ref B),mn,none]∧a0h H H'∧OkP pl hd∧H' B=some (.lst (zs.map V.str))∧zs.length≤4∧∀z∈zs,OkP pl z,?_,?_⟩
  ·try simp only [a3m,a1l,tOp,a0k,Qb,Qa,tC,a1q,a1S,a0l,a3n,a0j,a0r,Qg,Qh,a0e,a0T,a7F,b6R,a1r,a2I,a1p,decide_eq_true_eq]
   refine a1K (fun c1=>?_) (fun c1=>⟨_,_,_,_,rfl,s1,o0,hB,hzl,hzo⟩)
   obtain ⟨z1,e1,o1⟩:=a2U hp2 hpo' (2 * k)
   have hP1:=s1 _ _ hP
   have m6:=a1n (i:=m / 200) (j:=6) (by decide)
   refine ⟨.inl (by decide),by omega,a0E (SqL.of hP1) e1 ?_⟩
   refine ⟨by simp only [Qr,Xl];decide,fun p2 hp2'=>?_⟩
   obtain ⟨H2,e2,s2,h2⟩:=a1f hp2' (.lst [V.int 1,V.int 2,V.int 0,V.int 1,V.int 2,V.int 1]);rw [e2]
   obtain ⟨v6,e6,hv6,_⟩:=a3w (xs:=[V.int 1,V.int 2,V.int 0,V.int 1,V.int 2,V.int 1]) m6.1 m6.2
   obtain ⟨mn,rfl,hmn⟩:∃n:Int,v6=.int n∧(0≤n∧n≤2):=by
    simp only [Qy,Zu,or_false] at hv6
    rcases hv6 with rfl | rfl | rfl | rfl | rfl | rfl<;>exact ⟨_,rfl,by decide⟩
   refine ⟨⟨by decide,by decide⟩,by decide,a0E (SqL.of h2) e6 ?_⟩
   try skip
   refine ⟨_,rfl,by omega,by omega,?_⟩
   have hP2:=s2 _ _ hP1
   refine a3S a3g (Qi (show mn.toNat≤1000 by omega) (by decide)) [some (V.ref P),some (V.int pl.length),some (V.int k),some (V.int m)] rfl (fun i v=>∃z,v=V.str z∧OkP pl z) (fun _ _=>trivial) (fun i H' R hi s hR=>?_) (fun B2 H3 ys3 hBn3 s3 hB3 hl3 hv3=>?_)
   ·try simp only [tOp,a0k,Qb,Qa,tC,a0x,a0j,a0r,Qj,a0e,a0O,a3k,a0T,b6R,a5b]
    refine ⟨.inl (by decide),?_⟩
    intro r hr
    obtain ⟨z,e,o⟩:=a2U hp2 hpo' (2 * k - 2 - r % 3)
    exact ⟨by decide,by omega,a0E (SqL.of (s _ _ hP2)) e (hR _ _ (a0h.refl _) ⟨z,rfl,o⟩)⟩
   obtain ⟨zs3,rfl,hzo3⟩:=a6H hv3
   exact ⟨_,_,zs3,_,rfl,(s1.trans s2).trans s3,o1,hB3,by rw [Qe] at hl3;omega,hzo3⟩
  clear hB hzl hzo hBn
  rintro σ' H2 ⟨hd,B,zs,mn,rfl,s2,oh,hB,hzl,hzo⟩
  have m8:=a1n (i:=m) (j:=8) (by decide)
  try simp only [a1q,a1S,tOp,a3n,a0j,tC,a0r,a0k,Qa,a0l,a3m,a1l,Qg,Qh,a1e,a7o,Qb,a0e,a1r,tCB,a0T,a7F,a2I,a1p,decide_eq_true_eq]
  refine ⟨by simp only [Qr,Xl];decide,fun p3 hp3=>?_⟩
  obtain ⟨H3,e3,s3,h3⟩:=a1f hp3 (.lst [V.str "most",V.str "most",V.str "most",V.str "block",V.str "most",V.str "most",V.str "sure",V.str "most"]);rw [e3]
  obtain ⟨v8,e8,hv8,_⟩:=a3w (xs:=[V.str "most",V.str "most",V.str "most",V.str "block",V.str "most",V.str "most",V.str "sure",V.str "most"]) m8.1 m8.2
  obtain ⟨so,rfl,hso⟩:∃so:Nat,v8=.str (a2b so)∧(so < 4∧so≠0):=by
   simp only [Qy,Zu,or_false] at hv8
   rcases hv8 with rfl | rfl | rfl | rfl | rfl | rfl | rfl | rfl
   all_goals first | exact ⟨2,rfl,by decide⟩ | exact ⟨3,rfl,by decide⟩ | exact ⟨1,rfl,by decide⟩
  refine ⟨by decide,a0E (SqL.of h3) e8 ?_⟩
  have s03:=s2.trans s3
  have hL3:=s03 _ _ hL
  have hB3:=s3 _ _ hB
  try skip
  refine ⟨⟨by decide,by decide⟩,by decide,a1K (fun _=>?_) (fun _=>?_)⟩
  ·refine ⟨Xe _,fun t ht=>⟨by simp only [Qr,Xl];decide,fun p hp=>?_⟩⟩
   have hpt:t≠p:=fun z=>by rw [←z,a0d] at hp;cases hp
   have hp':H3 p=none:=by rw [a0a hpt.symm] at hp;exact hp
   refine q p t (0,"",hd,[]) _ (s03.trans (fun b o e=>?_)) (none_of s03 hp') (none_of s03 ht) ⟨⟨show 0 < 4 by decide,fun _=>⟨rfl,rfl⟩,OkS.of (l:=[]) (by simp) (by simp),oh.1,by simp,by simp⟩,oh.2,by simp⟩ a0d (by rw [a0a hpt,a0d];rfl)
   rw [a0a (a0c e hp'),a0a (a0c e ht)];exact e
  obtain ⟨z12,e12,o12⟩:=a9X hl12 hlo (m / 1000)
  refine ⟨⟨by decide,by decide⟩,by decide,a0E (SqL.of hL3) e12 ?_⟩
  refine ⟨B,_,rfl,.inl ⟨SqL.of hB3,fun t ht=>?_⟩⟩
  refine ⟨by simp only [Qr,Xl];decide,fun p hp=>?_⟩
  have hpt:t≠p:=fun z=>by rw [←z,a0d] at hp;cases hp
  have hp':H3 p=none:=by rw [a0a hpt.symm] at hp;exact hp
  refine q p t (so,z12,hd,zs) _ (s03.trans (fun b o e=>?_)) (none_of s03 hp') (none_of s03 ht) ⟨⟨hso.1,fun z=>absurd z hso.2,o12,oh.1,fun z hz=>(hzo z hz).1,hzl⟩,oh.2,fun z hz=>(hzo z hz).2⟩ a0d (by rw [a0a hpt,a0d])
  rw [a0a (a0c e hp'),a0a (a0c e ht)];exact e
theorem b7N (T:Txt K mg t):a0V P w K mg base CX0 1 t.f_z06 t.fd_z06 ["_law_cell","_law_pool_here","_law_labels_here"] c2b:=by
 refine T.F_z06.ok a2O (fun vs H Q E h=>?_) (fun cdv A outer s H vs Q E hr h=>?_)
 ·obtain ⟨m,P,L,pl,ls,rfl,hP,hp2,hp18,hpo,hL,hl12,hlo,q⟩:=h;rfl
 ·obtain ⟨m,P,L,pl,ls,rfl,hP,hp2,hp18,hpo,hL,hl12,hlo,q⟩:=h
  refine ⟨_,‹A2 (A6 3 a2O.nd (C8 a1C T.z_len a1D (A0 1 A1))) (A2 (A6 4 a2O.nd (B4 a0H (B8 (A0 B0 (A0 B0 (A0 B0 (A0 B0 (A0 B0 (A0 B0 (A0 B0 (A0 B0 A1))))))))) (A5 a0y 0 A4))) (A2 (A6 5 a2O.nd (B4 a0H 2 (A5 a0y (A5 a0M 0 A4) A4))) (A2 (A6 6 a2O.nd (B4 a0H 1 (A5 a0y (A5 a0M 0 A4) 3))) (A2 (A6 7 a2O.nd (A5 a0y (A5 a0M (A5 a0M 0 A4) 3) A4)) (A2 (A6 8 a2O.nd (A5 a0M (A5 a0M 0 A4) 3)) (A2 (A6 9 a2O.nd (B8 A1)) (A2 (C0 (E6 (A0 7 A1)) (A8 10 a2O.nd) (A2 (D4 (D1 Yl Ye Yg a1c 9 (A0 (B4 a0H 1 (A5 a0y 8 3)) A1))) (A3 (A6 8 a2O.nd (A5 a0M 8 3))))) (A2 (B3 (B1 (a1t hr.units) 4 B0 (a0p _)) (A3 (A9 (C5 (A0 4 (A0 B0 (A0 6 (A0 (C5 A1) A1))))))) B6) (A3 (A9 (C5 (A0 4 (A0 5 (A0 6 (A0 (E9 a2G T.z_tuple a2q (A0 9 A1)) A1)))))))))))))))›,?_⟩
  rw [show start c0v [V.int m,V.ref P,V.ref L]=[some (V.int m),some (V.ref P),some (V.ref L),none,none,none,none,none,none,none,none] from rfl]
  have hpo':∀z∈pl,OkP pl z:=fun z hz=>⟨hpo z hz,hz⟩
  have m8:=a1n (i:=m) (j:=8) (by decide)
  obtain ⟨z12,e12,o12⟩:=a9X hl12 hlo (m / 8)
  obtain ⟨z0,e0,o0⟩:=a2U hp2 hpo' (m / 96)
  have m5:=a1n (i:=m / 96 / (pl.length:Int)) (j:=5) (by decide)
  have h5:(m / 96 / (pl.length:Int) % 5).toNat≤4:=by
   generalize m / 96 / (pl.length:Int)=N at m5 ⊢
   omega
  try simp only [a1q,a1S,tCB,a0j,a0k,Qb,Qa,a0r,a0l,tOp,a3n,tC,Qg,Qh,a0D,a5M,a0e,a0T,a7F]
  refine a2c (SqL.of hP) ?_
  try simp only [a0T,a7F]
  rw [Qe]
  refine ⟨by simp only [Qr,Xl];decide,fun p3 hp3=>?_⟩
  obtain ⟨H3,e3,s3,h3⟩:=a1f hp3 (.lst [V.str "most",V.str "most",V.str "most",V.str "block",V.str "most",V.str "fact",V.str "sure",V.str "most"]);rw [e3]
  obtain ⟨v8,e8,hv8,_⟩:=a3w (xs:=[V.str "most",V.str "most",V.str "most",V.str "block",V.str "most",V.str "fact",V.str "sure",V.str "most"]) m8.1 m8.2
  obtain ⟨so,rfl,hso⟩:∃so:Nat,v8=.str (a2b so)∧so < 4:=by
   simp only [Qy,Zu,or_false] at hv8
   rcases hv8 with rfl | rfl | rfl | rfl | rfl | rfl | rfl | rfl
   all_goals first | exact ⟨2,rfl,by decide⟩ | exact ⟨3,rfl,by decide⟩ | exact ⟨1,rfl,by decide⟩ | exact ⟨0,rfl,by decide⟩
  refine ⟨by decide,a0E (SqL.of h3) e8 ?_⟩
  have hL3:=s3 _ _ hL
  have hP3:=s3 _ _ hP
  try skip
  refine ⟨⟨by decide,by decide⟩,by decide,a0E (SqL.of hL3) e12 ?_⟩
  refine ⟨⟨by decide,by decide⟩,by omega,a0E (SqL.of hP3) e0 ?_⟩
  refine ⟨⟨by decide,by decide⟩,⟨by omega,by omega⟩,by decide,⟨by decide,by decide⟩,⟨by omega,by omega⟩,by decide,fun B hB=>?_⟩
  have hPB:P≠B:=fun z=>by rw [z,hB] at hP3;cases hP3
  have hLB:L≠B:=fun z=>by rw [z,hB] at hL3;cases hL3
  refine ⟨_,rfl,by omega,by omega,?_⟩
  refine a2j (n:=(m / 96 / (pl.length:Int) % 5).toNat) (lo:=0) (fun i σ H'=>∃(zs:List Str) (rs:Int) (j:Option V),σ=[some (V.int m),some (V.ref P),some (V.ref L),some (V.int pl.length),some (V.str (a2b so)),some (V.str z12),some (V.str z0),some (V.int (m / 96 / (pl.length:Int) % 5)),some (V.int rs),some (V.ref B),j]∧a0h H3 H'∧H' B=some (.lst (zs.map V.str))∧zs.length=i∧∀z∈zs,OkP pl z) ⟨[],_,_,rfl,a0h.upd hB,a0d,rfl,by simp⟩ ?_ ?_
  ·rintro i σ H' hi ⟨zs,rs,j,rfl,s,hB',hzl,hzo⟩
   obtain ⟨z,e,o⟩:=a2U hp2 hpo' rs
   try simp only [a0l,a1q,a4r,tBM,a0k,Qg,Qh,Qb,Qa,a0j,tOp,a0r,a1S,a0e,a0T,a7F]
   refine ⟨.inl ⟨rfl,_,SqL.of hB'⟩,by omega,a0E (SqL.of (s _ _ hP3)) e ?_⟩
   refine ⟨B,_,_,rfl,rfl,hB',Xm (show _≤1000 by rw [Qe];omega) (by decide),⟨by omega,by omega⟩,zs++[z],_,_,rfl,?_,?_,by simp [hzl],fun x hx=>?_⟩
   ·intro b u e;rw [a0a (a0c e hB)];exact s _ _ e
   ·rw [a0d];simp
   ·rcases Qq.mp hx with h | h
    ·exact hzo x h
    ·rw [Xa.mp h];exact o
  rintro σ H' ⟨zs,rs,j,rfl,s,hB',hzl,hzo⟩
  have s0':=s3.trans s
  try simp only [a1q,a3m,a1l,tOp,a0k,Qb,Qa,tC,a1e,a7o,a0j,a0r,a0e,a1r,tCB,a3H,a1p,decide_eq_true_eq]
  refine a1K (fun c1=>?_) (fun c1=>?_)
  ·have hz:so=0:=by
    match so,hso with
    | 0,_=>rfl
    | 1,_=>exact absurd c1 (by decide+kernel)
    | 2,_=>exact absurd c1 (by decide+kernel)
    | 3,_=>exact absurd c1 (by decide+kernel)
   refine ⟨Xe _,fun t ht=>⟨by simp only [Qr,Xl];decide,fun p hp=>?_⟩⟩
   have hpt:t≠p:=fun z=>by rw [←z,a0d] at hp;cases hp
   have hp':H' p=none:=by rw [a0a hpt.symm] at hp;exact hp
   refine q p t (so,"",z0,[]) _ (s0'.trans (fun b o e=>?_)) (none_of s0' hp') (none_of s0' ht) ⟨⟨hso,fun _=>⟨rfl,rfl⟩,OkS.of (l:=[]) (by simp) (by simp),o0.1,by simp,by simp⟩,o0.2,by simp⟩ a0d (by rw [a0a hpt,a0d];rfl)
   rw [a0a (a0c e hp'),a0a (a0c e ht)];exact e
  ·refine ⟨B,_,rfl,.inl ⟨SqL.of hB',fun t ht=>?_⟩⟩
   refine ⟨by simp only [Qr,Xl];decide,fun p hp=>?_⟩
   have hpt:t≠p:=fun z=>by rw [←z,a0d] at hp;cases hp
   have hp':H' p=none:=by rw [a0a hpt.symm] at hp;exact hp
   refine q p t (so,z12,z0,zs) _ (s0'.trans (fun b o e=>?_)) (none_of s0' hp') (none_of s0' ht) ⟨⟨hso,fun z=>absurd (show a2b so="fact" by rw [show so=0 from z];rfl) c1,o12,o0.1,fun z hz=>(hzo z hz).1,by show zs.length≤4;rw [hzl];exact h5⟩,o0.2,fun z hz=>(hzo z hz).2⟩ a0d (by rw [a0a hpt,a0d])
   rw [a0a (a0c e hp'),a0a (a0c e ht)];exact e
theorem c0D (T:Txt K mg t):a0V P w K mg base CX0 3 t.f_z1v t.fd_z1v ["_law_script","_law_start"] (b8z K):=by
 refine T.F_z1v.ok a6h (fun vs H Q E h=>?_) (fun cdv A outer s H vs Q E hr h=>?_)
 ·obtain ⟨a,ns,st,rfl,hS,hl,hst,q⟩:=h;rfl
 ·obtain ⟨a,ns,st,rfl,hS,hl,hst,q⟩:=h
  refine ⟨_,‹A2 (A6 2 a6h.nd (A7 (b4F T) T.g_z1t T.F_z1t.kp T.b_z1t .nil (A0 (A7 (a3a T) T.g_z1d T.F_z1d.kp T.b_z1d .nil (A0 0 (A0 A4 A1))) A1))) (A2 (A6 3 a6h.nd (A7 (b1C T) T.g_z1j T.F_z1j.kp T.b_z1j .nil (A0 (A7 (a3a T) T.g_z1d T.F_z1d.kp T.b_z1d .nil (A0 0 (A0 A4 A1))) A1))) (A2 (A6 4 a6h.nd (A5 a0y (A7 (a3a T) T.g_z1d T.F_z1d.kp T.b_z1d .nil (A0 0 (A0 A4 A1))) A4)) (A2 (A6 5 a6h.nd (G4 0 (F7 1) (F7 A4))) (A2 (B3 (B1 b6Q 4 A4 (a0p _)) (A3 (A9 (B9 (B2 (a0b a7g) b2V ["_law_cell","_law_pool_here","_law_labels_here"] [none,some 2,some 3]) (B5 5) (A8 0 (show Xk (["_law_cell","_law_pool_here","_law_labels_here"]:List Str) by decide+kernel)) C9 (A7 (b7N T) T.g_z06 T.F_z06.kp T.b_z06 .nil (A0 0 (A0 1 (A0 2 A1))))))) B6) (A3 (A9 (B9 (B2 (a0b a7g) b2V ["_law_k","_law_cell","_law_pool_here","_law_labels_here","_law_style"] [none,none,some 2,some 3,some 4]) (H0 (A0 5 A1)) (H1 (D6 (A8 0 (show Xk (["_law_k","_law_cell","_law_pool_here","_law_labels_here","_law_style"]:List Str) by decide+kernel)) (D6 (A8 1 (show Xk (["_law_k","_law_cell","_law_pool_here","_law_labels_here","_law_style"]:List Str) by decide+kernel)) G2))) C9 (A7 (b7U T) T.g_z20 T.F_z20.kp T.b_z20 .nil (A0 (A7 (a6s T) T.g_z1z T.F_z1z.kp T.b_z1z .nil (A0 1 (A0 0 A1))) (A0 0 (A0 2 (A0 3 (A0 4 A1)))))))))))))›,?_⟩
  rw [show start b2V [V.ref a,V.int st]=[some (V.ref a),some (V.int st),none,none,none,none] from rfl]
  try simp only [a1q,a1S,a0x,a0j,a0k,Qa,tC,a0r,Qj,a0l,Qg,Qh,tOp,tSl,b3J,Qb,a3m,a1l,a1e,a0n,a1E,a0e,a1r,b6G,b7b]
  refine ⟨a,ns,0,rfl,hS,hl,by decide,by decide,fun c0 hc0=>?_⟩
  refine ⟨c0,rfl,fun Pa pl H1 s1 hPn hP hp2 hp18 hpo _ _ hpe=>?_⟩
  have hS1:SqL K H1 a (ns.map V.int):=s1.seq hS
  try simp only []
  refine ⟨a,ns,0,rfl,hS1,hl,by decide,by decide,fun c1 hc1=>?_⟩
  refine ⟨c1,rfl,fun La ls H2 s2 hLn hL hl12 hlo=>?_⟩
  have hS2:SqL K H2 a (ns.map V.int):=s2.seq hS1
  try simp only []
  refine ⟨a,ns,1,rfl,hS2,hl,by decide,by decide,fun c2 hc2=>?_⟩
  try simp only [a0T,a5b,a1p,decide_eq_true_eq]
  refine ⟨by decide,.inr (.inl ⟨a,_,rfl,hS2,fun C hCn=>?_⟩)⟩
  have hc:∀v∈b0z (ns.map V.int) (some st) (some 63),∃i,v=V.int i:=fun v hv=>by
   have:=List.mem_of_mem_drop (Zo hv)
   obtain ⟨i,_,e⟩:=Qf.mp this
   exact ⟨i,e.symm⟩
  have hcl:(b0z (ns.map V.int) (some st) (some 63)).length+st.toNat≤63:=by
   have h1:(b0z (ns.map V.int) (some st) (some 63)).length≤ns.length - min st.toNat ns.length:=by
    unfold b0z
    refine Qi (Wx _ _) ?_
    rw [Jt,Qe]
    unfold HT.sIx
    dsimp only
    rw [if_neg (by omega)]
    exact Qk _
   have:=Nat.min_def (n:=st.toNat) (m:=ns.length)
   split at this<;>omega
  generalize b0z (ns.map V.int) (some st) (some 63)=ws at hc hcl
  obtain ⟨H3,e3,s3,h3⟩:=a1f hCn (.lst ws);rw [e3]
  have s03:=(s1.trans s2).trans s3
  have hP3:=s3 _ _ (s2 _ _ hP)
  have hL3:=s3 _ _ hL
  have mono:∀(D:Addr) (i:Nat) (v:V) (Ha Hb:Hp),(∀b o,b≠D→Ha b=some o→Hb b=some o)→RwD pl D v Ha→RwD pl D v Hb:=fun D i v Ha Hb up h=>by
   obtain ⟨p,t,r,e,n1,n2,ho,g1,g2⟩:=h
   exact ⟨p,t,r,e,n1,n2,ho,up _ _ n1 g1,up _ _ n2 g2⟩
  have fin:∀(D:Addr) (H':Hp) (ys:List V),H3 D=none→a0h H3 H'→H' D=some (.lst ys)→ys.length=ws.length→(∀(i:Nat) v,ys[i]?=some v→RwD pl D v H')→Q (.ref D) H':=fun D H' ys hDn s hD hl' hv=>by
   obtain ⟨rs,hA,hO⟩:=a7v hv
   exact q D ys rs H' (s03.trans s) (none_of s03 hDn) hD hA (by rw [←hA.len,hl'];exact hcl) (fun r hr=>by have:=hO r hr;rw [hpe,hc0] at this;exact this)
  try simp only [a0t]
  refine a1K (fun c1=>?_) (fun c1=>?_)
  ·refine ⟨⟨_,SqL.of h3⟩,?_⟩
   refine a9G (a3j (xs:=ws)) (Qi (show ws.length≤1000 by omega) (by decide)) [some (V.ref Pa),some (V.ref La)] rfl (fun D i v H'=>RwD pl D v H') mono (fun H' s=>SqL.of (s _ _ h3)) (fun D i H' R hi hDn s hD hR=>?_) fin
   obtain ⟨c,ec⟩:=hc ws[i] (Xd hi)
   rw [Qc hi,Xi,ec]
   obtain ⟨ys,hD⟩:=hD
   try simp only [a0x,a0j,a0k,Qa,Qb,a0r,Qj,a0e]
   refine ⟨c,Pa,La,pl,ls,rfl,s _ _ hP3,hp2,hp18,hpo,s _ _ hL3,hl12,hlo,fun p t r H'' s' hp ht ho g1 g2=>?_⟩
   exact hR _ _ s' ⟨p,t,r,rfl,fun z=>a0c hD hp z.symm,fun z=>a0c hD ht z.symm,ho,g1,g2⟩
  ·refine ⟨C,rfl,⟨_,SqL.of h3⟩,?_⟩
   refine b5i (xs:=ws) (Qi (show ws.length≤1000 by omega) (by decide)) [some (V.ref Pa),some (V.ref La),some (V.int (c2 % 4))] rfl (fun D i v H'=>RwD pl D v H') mono (SqL.of h3) (fun D i H' R hi hDn s hD hR=>?_) fin
   obtain ⟨c,ec⟩:=hc ws[i] (Xd hi)
   rw [ec]
   obtain ⟨ys,hD⟩:=hD
   try simp only [a0x,a0j,a0k,Qb,Qa,a0r,Qj,a0e,a3k]
   intro r0 hr0
   refine ⟨r0,(i:Int),c2 % 4,Pa,La,pl,ls,rfl,s _ _ hP3,hp2,hp18,hpo,s _ _ hL3,hl12,hlo,fun p t r H'' s' hp ht ho g1 g2=>?_⟩
   exact hR _ _ s' ⟨p,t,r,rfl,fun z=>a0c hD hp z.symm,fun z=>a0c hD ht z.symm,ho,g1,g2⟩
theorem b3I (T:Txt K mg t):a0V P w K mg base CX0 10 t.f_d_law t.fd_d_law ["_law_script"] (b7e t.TB_z0v K):=by
 refine T.F_d_law.ok a1j (fun vs H Q E h=>?_) (fun cdv A outer s H vs Q E hr h=>?_)
 ·obtain ⟨a,ns,rfl,hS,hl,lt,q⟩:=h;rfl
 ·obtain ⟨a,ns,rfl,hS,hl,lt,q⟩:=h
  refine ⟨_,‹A2 (A6 1 a1j.nd (A7 (c0D T) T.g_z1v T.F_z1v.kp T.b_z1v .nil (A0 0 (A0 A4 A1)))) (A2 (A6 2 a1j.nd (A7 (b4F T) T.g_z1t T.F_z1t.kp T.b_z1t .nil (A0 (A7 (a3a T) T.g_z1d T.F_z1d.kp T.b_z1d .nil (A0 0 (A0 A4 A1))) A1))) (A2 (A6 3 a1j.nd (A7 (b9p T) T.g_z02 T.F_z02.kp T.b_z02 .nil (A0 0 A1))) (A2 (A6 4 a1j.nd (A7 (a3a T) T.g_z1d T.F_z1d.kp T.b_z1d .nil (A0 0 (A0 A4 A1)))) (A2 (A6 5 a1j.nd (A7 (c0b T) T.g_z0a T.F_z0a.kp T.b_z0a .nil (A0 1 (A0 3 (A0 (A7 (b4Q T) T.g_z1r T.F_z1r.kp T.b_z1r .nil (A0 4 (A0 2 A1))) A1))))) (A2 (A6 6 a1j.nd (A7 (b4Q T) T.g_z1r T.F_z1r.kp T.b_z1r .nil (A0 (A5 a0q 4 A4) (A0 1 A1)))) (A2 (A6 7 a1j.nd (D9 T.mk_Answers (b0w T) T.g_Answers T.b_z0d (A0 (D9 T.mk_Ground (b2A T) T.g_Ground T.b_z0t (A0 (B9 (B2 (a0b a2x) a4q ["_law_row_here"] [none]) (B5 1) (A8 0 (show Xk (["_law_row_here"]:List Str) by decide+kernel)) C9 (A7 (b1P T) T.g_z1u T.F_z1u.kp T.b_z1u .nil (A0 0 A1))) (A0 3 A1))) A1))) (A2 (A6 8 a1j.nd (D9 T.mk_Answers (b0w T) T.g_Answers T.b_z0d (A0 (D9 T.mk_Ground (b2A T) T.g_Ground T.b_z0t (A0 (B9 (B2 (a0b a2x) a4q ["_law_row_here"] [none]) (B5 6) (A8 0 (show Xk (["_law_row_here"]:List Str) by decide+kernel)) C9 (A7 (b1P T) T.g_z1u T.F_z1u.kp T.b_z1u .nil (A0 0 A1))) (A0 (J3 rfl rfl T.z_list rfl T.z_reversed 3) A1))) A1))) (A2 (A6 9 a1j.nd (D9 T.mk_Answers (b0w T) T.g_Answers T.b_z0d (A0 (D9 T.mk_Ground (b2A T) T.g_Ground T.b_z0t (A0 (B9 (B2 (a0b a2x) a4q ["_law_row_here"] [none]) (B5 (A5 a0q 6 1)) (A8 0 (show Xk (["_law_row_here"]:List Str) by decide+kernel)) C9 (A7 (b1P T) T.g_z1u T.F_z1u.kp T.b_z1u .nil (A0 0 A1))) (A0 3 A1))) A1))) (A2 (C0 (B5 2) (A8 10 a1j.nd) (E3 (B3 (D5 (F1 (B1 (a2v hr.units) (C7 7 T.cl_Answers T.me_Answers_answer (a9L T) T.b_z07 (A0 10 A1)) (E4 5 10) (a0p _)) (F1 (B1 (a2v hr.units) (C7 8 T.cl_Answers T.me_Answers_answer (a9L T) T.b_z07 (A0 10 A1)) (E4 5 10) (a0p _)) (F3 (B1 (a2v hr.units) (C7 9 T.cl_Answers T.me_Answers_answer (a9L T) T.b_z07 (A0 10 A1)) (E4 5 10) (a0p _)))))) (A3 (A9 B7)) B6) (A3 (B3 (D5 (F1 (B1 (a2v hr.units) (C7 7 T.cl_Answers T.me_Answers_rank (a7W T) T.b_z0g (A0 10 A1)) (C7 8 T.cl_Answers T.me_Answers_rank (a7W T) T.b_z0g (A0 10 A1)) (a0p _)) (F3 (B1 (a2v hr.units) (C7 7 T.cl_Answers T.me_Answers_rank (a7W T) T.b_z0g (A0 10 A1)) (C7 9 T.cl_Answers T.me_Answers_rank (a7W T) T.b_z0g (A0 10 A1)) (a0p _))))) (A3 (A9 B7)) B6)))) (A3 (A9 B7)))))))))))›,?_⟩
  rw [show start a4q [V.ref a]=[some (V.ref a),none,none,none,none,none,none,none,none,none,none] from rfl]
  try simp only [a1q,a1S,a0x,a0j,a0k,Qa,tC,a0r,Qj,a0l,Qg,Qh,Qb,tOp,b6L,a8h,a0D,a1E,a0e,a0n]
  refine ⟨a,ns,4,rfl,hS,hl,⟨by decide,by decide⟩,fun R0 xs rs H1 s1 hBn hB1 hA1 hrl hO2=>?_⟩
  have hO:∀r∈rs,a1w r:=fun r hr=>(hO2 r hr).1
  have hrl':rs.length≤59:=by have:rs.length+(4:Int).toNat≤63:=hrl;simp at this;omega
  have hS1:SqL K H1 a (ns.map V.int):=s1.seq hS
  try simp only [a0t]
  refine ⟨a,ns,0,rfl,hS1,hl,by decide,by decide,fun c0 hc0=>?_⟩
  refine ⟨c0,rfl,fun Pa po H2 s2 hPn hP hp2 hp18 hpo hpn hop hpe=>?_⟩
  have hIn:∀r∈rs,c0Y po r:=fun r hr=>by rw [hpe,hc0];exact (hO2 r hr).2
  have hpopp:∀x∈po,a0v x∈po:=fun x hx=>by rw [hpe] at hx ⊢;exact b3P hx
  have hsts:∀x∈sts rs,x∈po:=fun x hx=>by
   obtain ⟨r,hr,q,hq,z⟩:=a1a.mp hx
   have hq':q∈po:=by
    rcases Qy.mp hq with w | w
    ·rw [w];exact (hIn r hr).1
    ·exact (hIn r hr).2 q w
   rcases z with z | z
   ·rw [z];exact hq'
   ·rw [z];exact hpopp q hq'
  have hqs:∀q∈po,q.length≤100∧a0v (a0v q)=q:=fun q hq=>⟨by have:=(hpo q hq).2;omega,hop q hq⟩
  clear hpe hc0
  have hS2:SqL K H2 a (ns.map V.int):=s2.seq hS1
  try simp only [a0t]
  refine ⟨a,ns,rfl,hS2,hl,fun Pr ps pl H3 s3 hPrn hPr3 hPs3 hprl hpro=>?_⟩
  have s13:=s2.trans s3
  have hB3:=s13 _ _ hB1
  have hA3:=hA1.same s13
  have hP3:=s3 _ _ hP
  have hS3:SqL K H3 a (ns.map V.int):=s3.seq hS2
  have lt3:=lt.mono (s1.trans s13)
  clear hS1 hS2 hP hB1 hA1 hS lt
  try simp only []
  refine ⟨a,ns,3,rfl,hS3,hl,by decide,by decide,fun c3 _=>?_⟩
  refine ⟨c3,Pa,po.map V.str,rfl,hP3,by rw [Qe];omega,fun x hx=>by obtain ⟨z,_,e⟩:=Qf.mp hx;exact .inl ⟨z,e.symm⟩,fun Od zs H4 s4 hOn hO4 hzp=>?_⟩
  obtain ⟨od,rfl,hod⟩:=a9D hzp
  have hom:∀x,x∈od↔x∈po:=fun x=>hod.mem_iff
  refine ⟨R0,Pr,Od,xs,ps,rs,pl,od,rfl,s4 _ _ hB3,hA3.same s4,hO,by omega,s4 _ _ hPr3,a0R.same s4 hPs3,hpro,hO4,by rw [hod.length_eq];omega,fun q hq=>(hqs q ((hom q).mp hq)).1,fun W U D H5 s5 hWn hg hz hW5=>?_⟩
  have s35:=s4.trans s5
  try simp only [a0O]
  refine ⟨c3+1,R0,xs,rfl,s35 _ _ hB3,by rw [hA3.len];omega,fun x hx=>.inr (c1j hA3 x hx),fun M ys H6 s6 hMn hM6 hyp=>?_⟩
  have s36:=s35.trans s6
  obtain ⟨ms,hN6,hms⟩:=b6Y (hA3.same s36) hyp
  have hmm:∀r,r∈rs↔r∈ms:=fun r=>hms.mem_iff.symm
  have hm3:∀r,r∈rs↔r∈ms++rs:=fun r=>⟨fun z=>Xc _ z,fun z=>(Qq.mp z).elim (hmm r).mpr id⟩
  have hmO:∀r∈ms,a1w r:=fun r hr=>hO r ((hmm r).mpr hr)
  have hml:ms.length=rs.length:=hms.length_eq
  have lx6:Lx t H6 R0 M Pa Pr W xs ys ps rs ms pl po (a3e ((FIN (rs.map srW) []).map (·.1)) U D):=⟨s36 _ _ hB3,hA3.same s36,hM6,hN6,s36 _ _ hP3,s36 _ _ hPr3,a0R.same s36 hPs3,let ⟨kv,e1,e2⟩:=hW5.same s6;⟨kv,e1,fun q hq=>e2 q ((hom q).mpr hq)⟩⟩
  have lt6:=lt3.mono s36
  clear hS3 hB3 hA3 hP3 hPr3 hPs3 hM6 hN6 hW5 lt3 hzp hO4
  refine ⟨⟨_,SqL.of lx6.B⟩,?_⟩
  refine a5m lx6.B lx6.A hO (by omega) rfl fun Ru H7 us s7 hR7 hU7=>?_
  have lx7:=lx6.same s7
  refine a6O hR7 hU7 hO (by omega) lx7.R lx7.Q hprl fun g H8 s8 ng hG8=>?_
  have lx8:=lx7.same s8
  have lt8:=lt6.mono (s7.trans s8)
  refine a5c hG8 hO (by omega) hsts hp18 hqs lt8 fun x1 H9 ss1 T1 k9 lt9 hd1 hT1 hx1=>?_
  have lx9:=lx8.on lt8 k9
  clear lx6 lx7 lx8 lt6 lt8 hR7 hU7 hG8 k9
  try simp only [a0t]
  refine ⟨⟨_,SqL.of lx9.M⟩,?_⟩
  refine a5m lx9.M lx9.N hmO (by omega) rfl fun Ru H10 us s10 hR10 hU10=>?_
  have lx10:=lx9.same s10
  refine ⟨Pr,ps,rfl,SqL.of lx10.R,fun Pv hPv=>?_⟩
  obtain ⟨H11,e11,s11,h11⟩:=a1f hPv (.lst ps.reverse);rw [e11]
  have lx11:=lx10.same s11
  refine a6O (pl:=pl.reverse) (s11 _ _ hR10) (hU10.same s11) hmO (by omega) h11 (b7t lx11.Q) (by rw [Ji];exact hprl) fun g H12 s12 ng hG12=>?_
  have lx12:=lx11.same s12
  have s912:=(s10.trans s11).trans s12
  have lt12:=lt9.mono s912
  refine a5c hG12 hmO (by omega) (fun z hz=>hsts z ((a8v hmm z).mpr hz)) hp18 hqs lt12 fun x2 H13 ss2 T2 k13 lt13 hd2 hT2 hx2=>?_
  have lx13:=lx12.on lt12 k13
  have hx1':=(hx1.same s912).on lt12 k13
  clear lx9 lx10 lx11 lx12 lt9 lt12 hR10 hU10 hG12 h11 k13 hx1
  try skip
  refine .inr (.inr (.inl ⟨M,R0,ys,xs,rfl,rfl,lx13.M,lx13.B,?_,fun C hCn=>?_⟩))
  ·rw [lx13.A.len,lx13.N.len];exact Qi (show ms.length+rs.length≤1000 by omega) (by decide)
  obtain ⟨H14,e14,s14,h14⟩:=a1f hCn (.lst (ys++xs));rw [e14]
  have lx14:=lx13.same s14
  have hl3:(ms++rs).length≤126:=by rw [Xq];omega
  have hO3:∀r∈ms++rs,a1w r:=fun r hr=>hO r ((hm3 r).mpr hr)
  try simp only [a0t]
  refine ⟨⟨_,SqL.of h14⟩,?_⟩
  refine a5m h14 (b9n lx14.N lx14.A) hO3 hl3 rfl fun Ru H15 us s15 hR15 hU15=>?_
  have lx15:=lx14.same s15
  refine a6O hR15 hU15 hO3 hl3 lx15.R lx15.Q hprl fun g H16 s16 ng hG16=>?_
  have lx16:=lx15.same s16
  have s1316:=(s14.trans s15).trans s16
  have lt16:=lt13.mono s1316
  refine a5c hG16 hO3 hl3 (fun z hz=>hsts z ((a8v hm3 z).mpr hz)) hp18 hqs lt16 fun x3 H17 ss3 T3 k17 lt17 hd3 hT3 hx3=>?_
  have lx17:=lx16.on lt16 k17
  have h1:=(hx1'.same s1316).on lt16 k17
  have h2:=(hx2.same s1316).on lt16 k17
  clear lx13 lx14 lx15 lx16 lt13 lt16 lt17 hR15 hU15 hG16 h14 k17 hx1' hx2
  have hoo:∀q∈sts rs,a0v (a0v q)=q:=fun q hq=>(hqs q (hsts q hq)).2
  have a2:=fun q=>a8f (q:=q) hmm (fun z=>List.mem_reverse.symm) hoo hd1 hd2 hT1 hT2
  have a3:=fun q=>a8f (q:=q) hm3 (fun z=>Iff.rfl) hoo hd1 hd3 hT1 hT3
  have a1:∀q∈po,b5c (decide (q∈ss1)) (wr rs T1 q).1=a3e ((FIN (rs.map srW) []).map (·.1)) U D q:=fun q hq=>b0t hg hz (fun x hx=>(hom x).mpr (hsts x hx)) (fun q hq=>(hqs q ((hom q).mp hq)).2) (b6o hd1) (a7f hd1) hT1 ((hom q).mpr hq)
  obtain ⟨d1,t1,k1,m1,z1,hc1,_⟩:=id h1
  obtain ⟨d2,t2,k2,m2,z2,hc2,_⟩:=id h2
  obtain ⟨d3,t3,k3,m3,z3,hc3,_⟩:=id hx3
  generalize a3e ((FIN (rs.map srW) []).map (·.1)) U D=fw at a1 lx17
  try skip
  refine ⟨⟨_,SqL.of lx17.P⟩,?_⟩
  refine a1d (K:=K) (a:=Pa) (xs:=po.map V.str) (fun i σ H'=>∃(x10:Option V),σ=[some (V.ref a),some (V.ref R0),some (V.ref Pa),some (V.ref Pr),some (V.int c3),some (V.ref W),some (V.ref M),some (V.ref x1),some (V.ref x2),some (V.ref x3),x10]∧a0h H17 H')
   ⟨_,rfl,a0h.refl _⟩ (fun i σ H' _ ⟨_,_,s⟩=>SqL.of (s _ _ lx17.P)) ?_ ?_
  ·rintro i v σ H18 hi ⟨x10,rfl,s18⟩
   have hil:i < po.length:=by simpa using (Qn.mp hi).1
   have ev:v=V.str po[i]:=by
    rw [Qm,Qc hil] at hi
    exact (Option.some.inj hi).symm
   subst ev
   clear hi
   have hq0:po[i]∈po:=Xd hil
   generalize po[i]=q0 at hq0
   obtain ⟨e2,w2⟩:=a2 q0
   obtain ⟨e3,w3⟩:=a3 q0
   have ea1:=a1 q0 hq0
   have ea2:b5c (decide (q0∈ss2)) (wr ms T2 q0).1=fw q0:=by rw [←e2,←w2];exact ea1
   have ea3:b5c (decide (q0∈ss3)) (wr (ms++rs) T3 q0).1=fw q0:=by rw [←e3,←w3];exact ea1
   have gw:∀{H':Hp},a0h H17 H'→a2K H' W (.str q0) (some (.str (fw q0))):=fun s=>(lx17.W.same s).get hq0
   refine ⟨fun σ' H'=>σ'=[some (V.ref a),some (V.ref R0),some (V.ref Pa),some (V.ref Pr),some (V.int c3),some (V.ref W),some (V.ref M),some (V.ref x1),some (V.ref x2),some (V.ref x3),some (V.str q0)]∧a0h H17 H',?_,?_⟩
   ·try simp only [a3m,tOr,a1l,tOp,a2g,a0k,Qg,Qh,Qb,Qa,a0j,a0r,Qj,b2f,a1e,tC,a1r,if_true,a0e]
    refine ⟨x1,d1,_,rfl,s18 _ _ hc1,a2N _ _ _ (by decide+kernel) (by decide+kernel) (by decide+kernel),x1,q0,rs,ss1,T1,rfl,h1.same s18,hT1.1,fun H19 s19=>?_⟩
    have s9:=s18.trans s19
    have no:∀{u w:Str} {H':Hp} {Qx:VK},u=w→Qx (.bl false) H'→b4X K (.str u) (.str w) H' Qx:=fun e h=>a5s.mpr (by rw [decide_eq_true e];exact h)
    try simp only []
    refine ⟨W,_,rfl,gw s9,no ea1 ⟨_,rfl,?_⟩⟩
    rw [if_neg Qo]
    refine ⟨x2,d2,_,rfl,s9 _ _ hc2,a2N _ _ _ (by decide+kernel) (by decide+kernel) (by decide+kernel),x2,q0,ms,ss2,T2,rfl,h2.same s9,hT2.1,fun H20 s20=>?_⟩
    have s10:=s9.trans s20
    refine ⟨W,_,rfl,gw s10,no ea2 ⟨_,rfl,?_⟩⟩
    rw [if_neg Qo]
    refine ⟨x3,d3,_,rfl,s10 _ _ hc3,a2N _ _ _ (by decide+kernel) (by decide+kernel) (by decide+kernel),x3,q0,ms++rs,ss3,T3,rfl,hx3.same s10,hT3.1,fun H21 s21=>?_⟩
    have s11:=s10.trans s21
    refine ⟨W,_,rfl,gw s11,no ea3 ⟨_,rfl,?_⟩⟩
    rw [if_neg Qo]
    exact ⟨trivial,s11⟩
   ·rintro σ' H19 ⟨rfl,s19⟩
    have no:∀{u w:Nat} {H':Hp} {Qx:VK},u=w→Qx (.bl false) H'→b4X K (.int u) (.int w) H' Qx:=fun e h=>a7t.mpr (by rw [e,decide_eq_true rfl];exact h)
    try simp only [a3m,tOr,a1l,tOp,a2g,a0k,Qb,Qa,a0j,a0r,Qj,a1e,tC,a1r,if_true,a0e]
    refine ⟨x1,d1,_,rfl,s19 _ _ hc1,a2N _ _ _ (by decide+kernel) (by decide+kernel) (by decide+kernel),x1,q0,rs,ss1,T1,rfl,h1.same s19,hT1.1,fun H20 s20=>?_⟩
    have s9:=s19.trans s20
    refine ⟨x2,d2,_,rfl,s9 _ _ hc2,a2N _ _ _ (by decide+kernel) (by decide+kernel) (by decide+kernel),x2,q0,ms,ss2,T2,rfl,h2.same s9,hT2.1,fun H21 s21=>no (congrArg (·.2) w2) ⟨_,rfl,?_⟩⟩
    have s10:=s9.trans s21
    rw [if_neg Qo]
    refine ⟨x1,d1,_,rfl,s10 _ _ hc1,a2N _ _ _ (by decide+kernel) (by decide+kernel) (by decide+kernel),x1,q0,rs,ss1,T1,rfl,h1.same s10,hT1.1,fun H22 s22=>?_⟩
    have s11:=s10.trans s22
    refine ⟨x3,d3,_,rfl,s11 _ _ hc3,a2N _ _ _ (by decide+kernel) (by decide+kernel) (by decide+kernel),x3,q0,ms++rs,ss3,T3,rfl,hx3.same s11,hT3.1,fun H23 s23=>no (congrArg (·.2) w3) ⟨_,rfl,?_⟩⟩
    rw [if_neg Qo]
    exact ⟨_,rfl,s11.trans s23⟩
  ·rintro σ H18 ⟨x10,rfl,s18⟩
   try simp only [a1e,tC]
   exact q H18
end
end K44
open PySem PySem.W PyProof.Rows
namespace K44
open PySem PySem.W L2
def adr:Adr:=⟨28,kG "keyed" "keyed" b1h m1 27,33,kG "all_among" "all_among" a8Q m1 32,38,kG "any_among" "any_among" a8L m1 37,45,kG "opposite" "opposite" b1w m2 44,52,kG "heads_by_premise" "heads_by_premise" b2g m3 51,58,Yy "sure_rounds" "sure_rounds" (a1M a2M) (a1m a2M) (a0b a2M) (.ref 53) .none .none m4 none (.ref 57) .none,53,65,kG "sure_steps" "sure_steps" a8G m4 64,70,kG "is_beaten" "is_beaten" a8O m5 69,75,kG "holds_by" "holds_by" a7b m5 74,80,kG "refused_by" "refused_by" a7r m5 79,87,kG "words_now" "words_now" b0U m5 86,94,kG "touched" "touched" b1W m5 93,99,kG "most_rounds" "most_rounds" a4v m5 98,106,kG "answer_by" "answer_by" a9y m5 105,120,kG "__init__" "Answers.__init__" b0R m5 119,127,kG "word_and_rank" "Answers.word_and_rank" b0L m5 126,134,kG "sure" "Answers.sure" b0d m5 133,141,kG "held" "Answers.held" b2W m5 140,148,kG "refused" "Answers.refused" b2Z m5 147,155,kG "answer" "Answers.answer" b2h m5 154,162,kG "rank" "Answers.rank" b0q m5 161,176,kG "sures" "Answers.sures" b3N m5 175,197,kG "__init__" "Rule.__init__" a9N m6 196,211,kG "speaks" "Rule.speaks" b1H m6 210,218,kG "is_sure" "Rule.is_sure" b0G m6 217,267,kG "__init__" "Fact.__init__" b0b m6 266,281,kG "is_sure" "Fact.is_sure" b2t m6 280,321,kG "is_sure" "Sure.is_sure" b1M m6 320,380,kG "speaks" "Block.speaks" b1d m6 379,406,kG "__init__" "Ground.__init__" a9R m7 405,413,kG "rules" "Ground.rules" a9I m7 412,420,kG "ruling" "Ground.ruling" b0l m7 419,425,kG "speaking" "Ground.speaking" a8I m7 424,432,kG "against" "Ground.against" b0Y m7 431,439,kG "beats" "Ground.beats" a9K m7 438,446,kG "statements" "Ground.statements" a9V m7 445,467,kG "_law_cell_at" "_law_cell_at" b0I m8 466,474,kG "_law_mix" "_law_mix" b0a m8 473,481,kG "_law_word" "_law_word" b0A m8 480,486,kG "_law_pool" "_law_pool" a8C m8 485,491,kG "_law_row" "_law_row" a7k m8 490,498,kG "_law_made" "_law_made" b0y m8 497,503,kG "_law_labels" "_law_labels" a8w m8 502,510,kG "_law_row_by_digits" "_law_row_by_digits" b1r m8 509,515,kG "_law_rows" "_law_rows" a7g m8 514,520,kG "_law_rounds" "_law_rounds" a8M m8 519,527,kG "_law_other" "_law_other" b0e m8 526,534,kG "_law_by" "_law_by" b1U m8 533,539,kG "_law_stands" "_law_stands" a8y m8 538,544,kG "_law_falls" "_law_falls" a9g m8 543,549,kG "_law_beaten" "_law_beaten" a9e m8 548,554,kG "_law_held" "_law_held" a6f m8 553,559,kG "_law_refused" "_law_refused" a6d m8 558,566,kG "_law_pairs" "_law_pairs" a9M m8 565,573,kG "_law_pairs_by_digits" "_law_pairs_by_digits" b1G m8 572,580,kG "_law_gone_through" "_law_gone_through" a9H m8 579,585,kG "_law_mixed" "_law_mixed" a7i m8 584,590,kG "law" "law" a2x m8 589,179,249,298,331,357,390,456,60⟩
theorem b9T {K:Qd} {n q:String} {s:Stmt} {m:Value} {f c:Nat} (l:K.lookup f=some (kF n q s m c)) (e:Jp K (.ref c) q=true) (k:Zk K (.ref f)=true):Fun K n q s f (kG n q s m c):=b8D l e k
theorem txt (P:Params) {h:Heap} {mg:Str→Option Value} (X:(b3S P).In h) (G:h.Ns mainGlobals mg):Txt (b3S P) mg adr:=by
 constructor
 case F_z0o=>exact (a6S (f:=58) (st:=a2M) (ds:=[Value.none]) (oc:=.type "function") (od:=none) (osl:=#[]) (oT:=⟨.type "tuple",none,.seq #[.none] 0,#[]⟩) (nT:=0) (by kernel_rfl) (by kernel_rfl) (by kernel_rfl) (by kernel_rfl) rfl)
 case b_z0o=>exact b4u.binds (x:="sure_rounds") (qual:="sure_rounds") (ps:=["rules","known"]) [] (a6S (f:=58) (st:=a2M) (ds:=[Value.none]) (oc:=.type "function") (od:=none) (osl:=#[]) (oT:=⟨.type "tuple",none,.seq #[.none] 0,#[]⟩) (nT:=0) (by kernel_rfl) (by kernel_rfl) (by kernel_rfl) (by kernel_rfl) rfl) fun _ _ _ _ _ _ us hl=>match us,hl with | [_,_],_=>⟨_,rfl,rfl⟩
 case bd_z0o=>exact b4u.binds (x:="sure_rounds") (qual:="sure_rounds") (ps:=["rules","known"]) [Value.none] (a6S (f:=58) (st:=a2M) (ds:=[Value.none]) (oc:=.type "function") (od:=none) (osl:=#[]) (oT:=⟨.type "tuple",none,.seq #[.none] 0,#[]⟩) (nT:=0) (by kernel_rfl) (by kernel_rfl) (by kernel_rfl) (by kernel_rfl) rfl) fun _ _ _ _ _ _ us hl=>match us,(show us.length=1 from by rw [Xq] at hl;exact Nat.succ.inj hl) with | [_],_=>⟨_,rfl,rfl⟩
 case k_HELD=>exact ⟨256,Vj X G (by kernel_rfl)⟩
 case k_REFUSED=>exact ⟨258,Vj X G (by kernel_rfl)⟩
 all_goals first
  | exact b9T (by kernel_rfl) (by kernel_rfl) (by kernel_rfl)
  | exact .all fun us hl=>match us,hl with | [_],_=>rfl
  | exact .all fun us hl=>match us,hl with | [_,_],_=>rfl
  | exact .all fun us hl=>match us,hl with | [_,_,_],_=>rfl
  | exact .all fun us hl=>match us,hl with | [_,_,_,_],_=>rfl
  | exact .all fun us hl=>match us,hl with | [_,_,_,_,_],_=>rfl
  | exact .all fun us hl=>match us,hl with | [_,_,_,_,_,_],_=>rfl
  | exact Vj X G (by kernel_rfl)
  | exact PySem.W.mg_none_of X G (by kernel_rfl)
  | kernel_rfl
  | exact ⟨by kernel_rfl,by kernel_rfl,by kernel_rfl⟩
  | exact ⟨by kernel_rfl,by kernel_rfl,by kernel_rfl,by kernel_rfl⟩
  | exact (by kernel_rfl:Yt _ _ _=_)
  | exact b9X (by k_is) (by kernel_rfl) (by kernel_rfl) (by kernel_rfl)
  | exact b5E (bm:=4) (Vj X G (by kernel_rfl)) (by kernel_rfl)
end K44
theorem K44.said0:PySem.Challenge.rw_mostwise_k44_whole_any_order.wellSaid=true:=by kernel_rfl
set_option maxRecDepth 100000 in
set_option maxHeartbeats 0 in
theorem PySem.Challenge.cw_mostwise_k44_whole_any_order_holds : PySem.Challenge.rw_mostwise_k44_whole_any_order.Holds := by
 w_on;refine PySem.W.holds_law K44.said0 fun said=>?_
 refine PySem.W.holds_open (q:=K44.b6z) (loose:=[("sure_rounds":PySem.Str)]) (Xt:=fun s=>PySem.W.xlAt K44.b6z [] s && PySem.W.recOk (PySem.W.RowW.records (PySem.W.OpenRow.toRowW PySem.Challenge.rw_mostwise_k44_whole_any_order.row)) s) (XP:=PySem.W.XL K44.b6z []) (Yf:=Uw.obs (Ul K44.a4H K44.a4C K44.a6u)) (Ya:=Uw.val (Ul K44.a4H K44.a4C K44.a6u)) (YP:=Uw.says (Ul K44.a4H K44.a4C K44.a6u)) (N:=7734) ?hl (Uw.of (Ul K44.a4H K44.a4C K44.a6u)) (Uw.keeps (Ul K44.a4H K44.a4C K44.a6u)) (fun s e=>PySem.W.xl_of s (Wy.mp e).1) PySem.W.XL.keeps (by rfl) (by rfl) (by rfl) (fun s e=>PySem.W.recFacts_of (Wy.mp e).2) (by rfl) (by first | assumption | decide+kernel) (by decide+kernel) ⟨rfl,rfl,rfl,rfl,rfl,by decide+kernel⟩ ?hw ?hc
 (case hl=>refine PySem.W.LeftO.of_pieces (H₀:=K44.H0) (H₁:=K44.H1) (gs₀:=#[]) (gs₁:=#[]) (d₀:={}) (d₁:={}) (k₀:=181) (k₁:=943) (m₀:=11) (ann:=(some (.ref 6))) (M:=3822) K44.c0j ?_ K44.c1J rfl ?_<;>(intro w;kernel_rfl))
 (case hw=>w_witness2)
 refine L2.b1f (l:=PySem.Challenge.rw_mostwise_k44_whole_any_order) (n:=63) (k:=10) (x:="_law_script") (CX:=L2.CX0) (K:=K44.b3S) (sp:=K44.b7e 60) 60 64 rfl (by decide) rfl ⟨rfl,by decide,by decide⟩ (fun w h Y=>L2.b6H (PySem.W.kIn_of Y) (by kernel_rfl)) (fun w=>by kernel_rfl) (fun w=>by kernel_rfl) ?F (fun K H a ns hl hO hS=>K44.b3Q hl hO hS) (fun _ _ _ _ z=>z)
 case F=>
  intro w mg fa h KX G hmg
  have T:K44.Txt (L2.KOf KX) mg K44.adr:=K44.txt w.params KX G
  obtain ⟨_,_,_,_,_,_,_,_,_,e2,_,_⟩:=T.F_d_law.ex
  have e0:=hmg.symm.trans T.g_d_law
  cases e0
  exact ⟨K44.adr.fd_d_law,fun s u=>by rw [e2];exact .of_eq rfl,fun base kb nb=>K44.b3I T⟩
