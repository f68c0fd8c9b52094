import PyProof.Rows.All
import Wide.All
import OpenK.AllK
import Wide.FinOn
import Lean
import PyProof.EqAt
import PyProof.EqKinds
import PyProof.TupleCall
import PyProof.StrLawsChain
import PyProof.StrLawsIn
import PyProof.Rows.StrNews2
import PyProof.StrBlockL
import PyProof.Rows.StrClose3
import PyProof.Rows.StrClose5
import PyProof.Rows.StrFirst
import PyProof.WalkInts
import PyProof.StrOps
import PyProof.WalksEnum
import PyProof.EnumMake
import PyProof.NeKinds
import KE.KEqDict
import KE.KRevIter
import PyProof.DictWalks
import PyProof.DictValues
import PyProof.ListRange
import PyProof.CollectIter
import PyProof.ZipIter
import PyProof.Rows.ZipGen
import PyProof.FString5
import KE.KDictLaws
import KE.KDictSum
import KE.KSortTup
import PyProof.Rows.SortStr
import PyProof.DictItems
import KE.KPairComp
import KE.KUnpack
import PyProof.P3Eq
import PyProof.Rows.SetFrom
import PySem.Challenge.RW_mostwise_k43_answers
set_option compiler.extract_closed false
set_option bootstrap.genMatcherCode false
set_option Elab.async false
set_option linter.all false
set_option maxRecDepth 100000
set_option maxHeartbeats 4000000
open List renaming getElem?_cons_zero → Qa, getElem?_cons_succ → Qb, getElem?_eq_getElem → Qc, length_map → Qd, set_cons_succ → Qf, set_cons_zero → Qg, append_nil → Qh, mem_map → Qk, getElem?_map → Ql, length_cons → Qm, getElem?_eq_some_iff → Qn, take_succ_eq_append_getElem → Qp, mem_cons_self → Qq, length_nil → Qr, mem_filter → Qs, mem_cons_of_mem → Qt, size_toArray → Qu, mem_append → Qv, mem_cons → Qw, length_filter_le → Qy, getElem_mem → Xa, mem_append_right → Xc, map_append → Xe, map_map → Xf, Nodup → Xg, map_cons → Xk, mem_singleton → Xo, take_length → Xr, getD_eq_getElem?_getD → Xs, length_append → Xx, range → Xz, length_take → Yb, getElem_map → Yd, getElem?_append_right → Yg, toArray → Yh, getElem?_append_left → Yi, lookup_cons → Yl, foldl_append → Ym, mem_of_mem_take → Yo, length → Yp, filter_cons → Yq, getElem?_eq_none → Yr, append_assoc → Yu, any_eq_true → Yx, getElem_of_mem → Yz, nodup_cons → Za, filter_append → Zd, mem_flatMap → Ze, mem_append_left → Zf, nodup_nil → Zg, find?_cons → Zi, filterMap_cons → Zk, all_eq_true → Zm, not_mem_nil → Zn, filter_map → Zs, length_range → Zv, nodup_append → Zw, length_eq_zero_iff → Zz, ext_getElem → Jc, take_zero → Jd, filter_eq_nil_iff → Jf, map_nil → Jg, filter_filter → Jh, pairwise_cons → Ji, filter_congr → Jk, lookup → Jl, mem_range → Jm, getElem_inj → Jn, any_map → Jo, flatMap_append → Jp, any_cons → Jq, pairwise_map → Jt, length_drop → Jw, cons_append → Jx, getElem?_range → Ub, range_succ → Uc, mem_of_find?_eq_some → Ud, foldl_cons → Ue, mem_filterMap → Uf, find?_eq_none → Ui, nil_append → Uv, eq_nil_iff_forall_not_mem → Uw, map_congr_left → Uz, filter_eq_self → Va, all_cons → Vh, ext_getElem? → Vm, getElem_take → Vn, pairwise_iff_getElem → Vo, exists_mem_of_ne_nil → Vp, all_map → Wb, of_mem_zip → Wh, find?_some → Wi, getElem?_set_self → Wj, length_pos_of_mem → Wo, find?_cons_of_pos → Wp, find?_cons_of_neg → Wq, length_singleton → Wt, filterMap_append → Wv, getElem?_set_ne → Ww, mem_of_getElem? → Wx, getElem?_append → Wy, length_take_le' → Ga, Pairwise → Gb, map_eq_nil_iff → Ge, getElem_range → Gj, getElem?_take → Gk, map → Gs
open PySem.W renaming Frag → Qe, kitOne → Yc, findIn → Yv, kia_one → Yw, emptyDict → Yy, fnOf → Zb, keepIn → Zo, instObj → Zq, codeIn → Ju, callWith_K → Ug, kHook → Ul, plainGet → Um, methodCall_KW → Uo, Hook → Ux, plainGet_of → Uy, lookIn → Vb, mg_of → Vi, methodObj → Vj, hasDictIn → Vk, specialIn → Vl, takerIn → Wg, cellsFrom_some → Wk, typeIn → Ws, subIn → Gc, isFn → Gg, plainOver → Gm, kitx_list → Gn, kitx_dict → Go, handedIn → Gq, makesIn → Gu, takesIn → Gv
open Nat renaming le_trans → Qi, le_refl → Qj, zero_le → Xb, lt_of_lt_of_le → Xi, lt_of_le_of_lt → Xj, ne_of_lt → Xl, lt_succ_of_lt → Zu, lt_irrefl → Zx, le_succ → Je, ne_of_gt → Us, sub_self → Uu, le_of_lt → Vq, le_of_eq → Vs, lt_succ_self → Vt, add_comm → Gi
open PySem.Heap renaming get?_push_of_some → Qo, lt_size → Qz, get?_push_size → Xd, get?_update_ne → Ja, get?_push_ne → Jj, size_push → Vc, SameBut → Vr, size_update → Vx
open Bool renaming false_ne_true → Qx, eq_iff_iff → Xn, and_eq_true → Xq, not_eq_true' → Ye, false_eq_true → Zp, false_and → Jb, and_eq_true_iff → Jy, true_and → Ua, and_comm → Uk, and_false → Wu, and_true → Gd
open Option renaming getD_some → Xh, map_some → Zr, map_eq_some_iff → Js, isSome_map → Uj, isSome_iff_exists → Vu, map_eq_none_iff → Wn, isSome_some → Gh, getD_none → Gr
open PySem.PyData renaming canLay0 → Xm, strOk → Xp, eqv → Xu, str → Yj, keyHash → Yk, depth → Yt, canLayAll0 → Zh, depthAll → Zt, eqvAll → Jr, tuple → Vz
open PySem.F renaming slot_list_append → Xv, type_list_append → Xw, plainAttrs_list → Xy, plainAttrs_dict → Zy, slot_dict_update → Uh, slot_dict_get → Uq, slot_dict_setdefault → Vd, slot_str_startswith → Vf, type_str_startswith → Vg, args_tuple_add_2 → Vv, type_dict_update → Wc, entry_tuple_add → Wd, args_dict_get_3 → We, slot_dict_items → Wf, slot_tuple_add → Wl, entry_dict_get → Wm, plainAttrs_str → Wr
open PySem.SeqAt renaming EqAt → Yn, shaped → Ys
open Int renaming emod_lt_of_pos → Zc, emod_nonneg → Zj
open Array renaming length_toList → Zl, getD → Jz, getElem?_toList → Ur, toList_inj → Vy, Perm → Wz, append_assoc → Gf
open PySem.Txt renaming startswith → Jv, slice → Ve, slice_le → Vw
open PySem.Str renaming ofString → Ut
open Classical renaming not_not → Gp
local macro_rules
 | `(‹sk›)=>`(⟨rfl,rfl,rfl,by decide+kernel,rfl,by decide+kernel,by decide+kernel⟩)
 | `(‹dk›)=>`(by decide+kernel)
 | `(‹iz›)=>`(by intro z;cases z)
 | `(‹nz›)=>`(fun _ z=>nomatch z)
 | `(‹dc›)=>`(by decide)
 | `(‹om›)=>`(by omega)
noncomputable section
namespace L2
open PySem PySem.Spec PyProof.Rows
def a0c (s:Stmt):Scope:=match s with
 | .FunctionDef _ _ _ _ _ _ sc _ _ _=>sc
 | _=>{kind:=.function,names:=[],isGenerator:=false,isCoroutine:=false}
def a0j (s:Stmt) (j:Nat):Stmt:=match s with
 | .ClassDef _ _ _ body _ _ _ _ _ _ _=>body.getD j (.Pass ⟨0,0,0,0⟩)
 | _=>.Pass ⟨0,0,0,0⟩
def a2c (s:Stmt):Arguments:=match s with
 | .FunctionDef _ a _ _ _ _ _ _ _ _=>a
 | _=>{posonlyargs:=[],args:=[],vararg:=none,kwonlyargs:=[],kw_defaults:=[],kwarg:=none,defaults:=[]}
def a1w (s:Stmt):List Stmt:=match s with
 | .FunctionDef _ _ b _ _ _ _ _ _ _=>b
 | _=>[]
end L2
namespace Tx
end Tx
namespace K43
open PySem L2 Tx
noncomputable def top (i:Nat):Stmt:=PySem.Challenge.pw_mostwise_k43_answers.main.body.getD i (.Pass ⟨0,0,0,0⟩)
abbrev b2B:Stmt:=top 2
abbrev a9u:Stmt:=top 3
abbrev a9D:Stmt:=top 4
abbrev b2Z:Stmt:=top 6
abbrev b0d:Stmt:=top 8
abbrev a2L:Stmt:=top 10
abbrev a8K:Stmt:=top 11
abbrev a8P:Stmt:=top 15
abbrev a7v:Stmt:=top 16
abbrev a6Q:Stmt:=top 17
abbrev a9Y:Stmt:=top 18
abbrev b2e:Stmt:=top 19
abbrev a4G:Stmt:=top 20
abbrev b1V:Stmt:=top 21
abbrev b1k:Stmt:=a0j (top 22) 0
abbrev b2l:Stmt:=a0j (top 22) 1
abbrev b1M:Stmt:=a0j (top 22) 2
abbrev a9L:Stmt:=a0j (top 22) 3
abbrev b2K:Stmt:=a0j (top 22) 4
abbrev b0D:Stmt:=a0j (top 22) 5
abbrev a9P:Stmt:=a0j (top 22) 6
abbrev a9o:Stmt:=a0j (top 22) 7
abbrev b0v:Stmt:=a0j (top 22) 8
abbrev b2x:Stmt:=a0j (top 24) 0
abbrev b1U:Stmt:=a0j (top 24) 2
abbrev b0E:Stmt:=a0j (top 24) 3
abbrev b1E:Stmt:=a0j (top 25) 0
abbrev b2Q:Stmt:=a0j (top 25) 2
abbrev b2V:Stmt:=a0j (top 26) 1
abbrev b0R:Stmt:=a0j (top 28) 1
abbrev b2J:Stmt:=a0j (top 30) 0
abbrev b2c:Stmt:=a0j (top 30) 1
abbrev a9S:Stmt:=a0j (top 30) 2
abbrev a9x:Stmt:=a0j (top 30) 3
abbrev b2u:Stmt:=a0j (top 30) 4
abbrev b1w:Stmt:=a0j (top 30) 5
abbrev b1t:Stmt:=a0j (top 30) 6
abbrev b2M:Stmt:=top 32
abbrev b0A:Stmt:=top 33
abbrev b2f:Stmt:=top 34
abbrev b1G:Stmt:=top 35
abbrev a9w:Stmt:=top 36
abbrev a6Z:Stmt:=top 37
abbrev b1i:Stmt:=top 38
abbrev a8T:Stmt:=top 39
abbrev b2t:Stmt:=top 40
abbrev a7p:Stmt:=top 41
abbrev a8X:Stmt:=top 42
abbrev b2R:Stmt:=top 43
abbrev b2a:Stmt:=top 44
abbrev b2g:Stmt:=top 45
abbrev b0k:Stmt:=top 46
abbrev a9i:Stmt:=top 47
abbrev a9a:Stmt:=top 48
abbrev a9m:Stmt:=top 49
abbrev a6c:Stmt:=top 50
abbrev a5W:Stmt:=top 51
abbrev b2q:Stmt:=top 52
abbrev b1P:Stmt:=top 53
abbrev b0u:Stmt:=top 54
abbrev b1F:Stmt:=top 55
abbrev a9t:Stmt:=top 56
abbrev a6i:Stmt:=top 57
abbrev a2T:Stmt:=top 58
end K43
namespace K43
open PySem PySem.W L2
noncomputable section
noncomputable abbrev kE (P:Params) (x:String) (t:Nat) (v:Value):DictEntry:=⟨Yk P x,.str x t,v⟩
noncomputable abbrev kC (n q:String) (s:Stmt):Obj:=⟨.none,none,(.func ⟨n,q,a2c s,.stmts (a1w s),a0c s,0,[],.none,.none,.none,.none,none,.none,.none,0⟩),#[]⟩
noncomputable abbrev kD1 (n q:String) (t l a r u:Nat):Obj:=⟨.type "code",none,.fields #[.str n t,.str q (t+1),.str "/claim/cut.py" (t+2),.int l 0,.int a 0,.int 0 0,.int 0 0,.int 3 0,.ref r,.bool true,.int 181 0,.ref (r+1),.none,.ref (r+2),.ref (r+3),.ref (r+4),.int u 0,.int l 0,.str "/claim/cut.py" (u+1)],#[]⟩
noncomputable abbrev kD2 (n q:String) (t l a r u:Nat):Obj:=⟨.type "code",none,.fields #[.str n t,.str q (t+1),.str "/claim/cut.py" (t+2),.int l 0,.int a 0,.int 0 0,.int 0 0,.int 3 0,.ref r,.bool true,.int 181 0,.ref (r+1),.none,.none,.none,.ref (r+2),.int u 0,.int l 0,.str "/claim/cut.py" (u+1)],#[]⟩
noncomputable abbrev kG (n q:String) (s:Stmt) (m:Value) (c:Nat):FuncData:=Zb n q (a2c s) (a1w s) (a0c s) .none .none .none m none (.ref c) .none
noncomputable abbrev kF (n q:String) (s:Stmt) (m:Value) (c:Nat):Obj:=⟨.type "function",none,.func (kG n q s m c),#[]⟩
noncomputable abbrev kTs:Nat→List String→List Value
 | _,[]=>[]
 | t,x::l=>.str x t::kTs (t+1) l
noncomputable abbrev kT (t:Nat) (l:List String):Obj:=⟨.type "tuple",none,.seq ⟨kTs t l⟩ 0,#[]⟩
noncomputable abbrev kBs (f:String→Value) (P:Params):Nat→List String→List DictEntry
 | _,[]=>[]
 | t,x::l=>kE P x t (f x)::kBs f P (t+1) l
noncomputable abbrev kLs:List (Nat×Nat×Nat)→List Value
 | []=>[]
 | (a,b,c)::l=>.int a 0::.int b 0::.ref c::kLs l
noncomputable abbrev kL (l:List (Nat×Nat×Nat)):Obj:=⟨.none,none,.fields ⟨kLs l⟩,#[]⟩
noncomputable abbrev kQ (l:List DictEntry) (n:Nat):Obj:=⟨.type "dict",none,.dict ⟨l⟩ n,#[]⟩
noncomputable def kU:Obj:=⟨.type "tuple",none,.seq #[] 0,#[]⟩
noncomputable def kN:Obj:=⟨.none,none,.fields #[],#[]⟩
noncomputable abbrev m0:Value:=.str "__main__" 164
noncomputable abbrev m1:Value:=.str "mostwise.among" 194
noncomputable abbrev m2:Value:=.str "mostwise.words" 217
noncomputable abbrev m3:Value:=.str "mostwise.leaning" 226
noncomputable abbrev m4:Value:=.str "mostwise.sure" 238
noncomputable abbrev m5:Value:=.str "mostwise.mostly" 254
noncomputable abbrev m6:Value:=.str "mostwise.rules" 408
noncomputable abbrev m7:Value:=.str "mostwise.ground" 659
noncomputable abbrev m8:Value:=.str "law_mostwise_k43_answers" 751
def o0 (P:Params):Obj:=kQ ([kE P "__name__" 1 (.str "builtins" 160),kE P "__doc__" 2 (.builtin "builtins.__doc__:str#opaque"),kE P "__package__" 3 (.builtin "builtins.__package__:str#opaque"),kE P "__loader__" 4 (.builtin "builtins.__loader__:shared#opaque"),kE P "__spec__" 5 (.builtin "builtins.__spec__#opaque")]++kBs .builtin P 6 ["__build_class__","__import__","abs","all","any","ascii","bin","breakpoint","callable","chr","compile","delattr","dir","divmod","eval","exec","format","getattr","globals","hasattr","hash","hex","id","input","isinstance","issubclass","iter","aiter","len","locals","max","min","next","anext","oct","ord","pow","print","repr","round","setattr","sorted","sum","vars"]++[kE P "None" 50 .none,kE P "Ellipsis" 51 .ellipsis,kE P "NotImplemented" 52 .notImplemented,kE P "False" 53 (.bool false),kE P "True" 54 (.bool true)]++kBs .type P 55 ["bool","memoryview","bytearray","bytes","classmethod","complex","dict","enumerate","filter","float","frozenset","property","int","list","map","object","range","reversed","set","slice","staticmethod","str","super","tuple","type","zip"]++[kE P "__debug__" 81 (.bool true)]++kBs .type P 82 ["BaseException","BaseExceptionGroup","Exception","GeneratorExit","KeyboardInterrupt","SystemExit","ArithmeticError","AssertionError","AttributeError","BufferError","EOFError","ImportError","LookupError","MemoryError","NameError","OSError","ReferenceError","RuntimeError","StopAsyncIteration","StopIteration","SyntaxError","SystemError","TypeError","ValueError","Warning","FloatingPointError","OverflowError","ZeroDivisionError","BytesWarning","DeprecationWarning","EncodingWarning","FutureWarning","ImportWarning","PendingDeprecationWarning","ResourceWarning","RuntimeWarning","SyntaxWarning","UnicodeWarning","UserWarning","BlockingIOError","ChildProcessError","ConnectionError","FileExistsError","FileNotFoundError","InterruptedError","IsADirectoryError","NotADirectoryError","PermissionError","ProcessLookupError","TimeoutError"]++kBs .type P 132 ["IndentationError","_IncompleteInputError","IndexError","KeyError","ModuleNotFoundError","NotImplementedError","PythonFinalizationError","RecursionError","UnboundLocalError","UnicodeError","BrokenPipeError","ConnectionAbortedError","ConnectionRefusedError","ConnectionResetError","TabError","UnicodeDecodeError","UnicodeEncodeError","UnicodeTranslateError","ExceptionGroup"]++[kE P "EnvironmentError" 151 (.type "OSError"),kE P "IOError" 152 (.type "OSError"),kE P "open" 153 (.builtin "open"),kE P "quit" 154 (.builtin "builtins.quit#opaque"),kE P "exit" 155 (.builtin "builtins.exit#opaque"),kE P "copyright" 156 (.builtin "builtins.copyright#opaque"),kE P "credits" 157 (.builtin "builtins.credits#opaque"),kE P "license" 158 (.builtin "builtins.license#opaque"),kE P "help" 159 (.builtin "builtins.help#opaque")]) 159
def o1 (P:Params):Obj:=kQ [kE P "builtins" 162 (.ref 4),kE P "__main__" 163 (.ref 5)] 2
noncomputable def o2:Obj:=⟨.none,none,(.dict #[] 0),#[]⟩
def o3 (P:Params):Obj:=kQ ([kE P "__name__" 165 (.str "law_mostwise_k43_answers" 751),kE P "__doc__" 166 .none,kE P "__package__" 167 .none,kE P "__loader__" 168 (.builtin "__main__.__loader__#opaque"),kE P "__spec__" 169 .none,kE P "__annotations__" 170 (.ref 6),kE P "__builtins__" 171 (.ref 4),kE P "__file__" 173 (.str "/claim/cut.py" 172),kE P "__cached__" 174 .none,kE P "_wall" 193 (.ref 21),kE P "keyed" 204 (.ref 28),kE P "all_among" 210 (.ref 33),kE P "any_among" 216 (.ref 38),kE P "opposite" 225 (.ref 45),kE P "heads_by_premise" 237 (.ref 52),kE P "sure_rounds" 245 (.ref 58),kE P "sure_steps" 253 (.ref 65),kE P "HELD" 257 (.str "held" 256),kE P "REFUSED" 259 (.str "refused" 258),kE P "is_beaten" 265 (.ref 70),kE P "holds_by" 271 (.ref 75),kE P "refused_by" 277 (.ref 80),kE P "words_now" 290 (.ref 87),kE P "touched" 301 (.ref 94),kE P "most_rounds" 307 (.ref 99),kE P "answer_by" 315 (.ref 106),kE P "Answers" 407 (.ref 177),kE P "Rule" 494 (.ref 247),kE P "Fact" 548 (.ref 296),kE P "Sure" 587 (.ref 329),kE P "Most" 619 (.ref 355),kE P "Block" 658 (.ref 388),kE P "Ground" 750 (.ref 454),kE P "_law_cell_at" 760 (.ref 465),kE P "_law_whole" 767 (.ref 472),kE P "_law_mix" 776 (.ref 479),kE P "_law_word" 790 (.ref 486),kE P "_law_pool" 796 (.ref 491),kE P "_law_row" 802 (.ref 496),kE P "_law_made" 813 (.ref 503),kE P "_law_labels" 819 (.ref 508),kE P "_law_row_by_digits" 836 (.ref 515),kE P "_law_rows" 842 (.ref 520),kE P "_law_rounds" 848 (.ref 525),kE P "_law_pairs" 862 (.ref 532),kE P "_law_pairs_by_digits" 874 (.ref 539),kE P "_law_other" 881 (.ref 546),kE P "_law_by" 890 (.ref 553),kE P "_law_stands" 896 (.ref 558),kE P "_law_falls" 902 (.ref 563)]++[kE P "_law_beaten" 908 (.ref 568),kE P "_law_held" 914 (.ref 573),kE P "_law_refused" 920 (.ref 578),kE P "_law_fixed" 939 (.ref 585),kE P "_law_there" 952 (.ref 592),kE P "_law_answer" 961 (.ref 599),kE P "_law_due" 973 (.ref 606),kE P "_law_one" 979 (.ref 611),kE P "_law_right" 985 (.ref 616),kE P "law" 991 (.ref 621)]) 60
noncomputable def o4:Obj:=⟨(.type "module"),(some 0),.plain,#[]⟩
noncomputable def o5:Obj:=⟨(.type "module"),(some 3),.plain,#[]⟩
noncomputable def o6:Obj:=⟨(.type "dict"),none,(.dict #[] 0),#[]⟩
noncomputable def o9:Obj:=⟨(.type "code"),none,(.fields #[(.str "<module>" 176),(.str "<module>" 177),(.str "/claim/cut.py" 178),(.int (1) 0),(.int (0) 0),(.int (0) 0),(.int (0) 0),(.int (0) 0),(.ref 7),(.bool false),(.int (175) 0),(.ref 8),.none,.none,.none,.none,(.int (179) 0),(.int (1) 0),(.str "/claim/cut.py" 180)]),#[]⟩
noncomputable def o10:Obj:=⟨(.type "frame"),none,.plain,#[(some (.ref 9)),(some (.ref 3)),(some (.ref 3)),none,(some (.str "__main__" 164)),none,(some (.ref 0))]⟩
def o12:Obj:=kL [(1,0,20),(5,0,27),(10,0,32),(12,0,37),(15,0,44),(18,0,51),(25,0,57),(39,0,64),(45,0,69),(47,0,74),(54,0,79),(61,0,86),(69,0,93),(76,0,98),(94,0,105),(100,0,112),(133,0,187),(160,0,257),(176,0,304),(186,0,337),(193,0,363),(204,0,396),(241,0,464),(245,0,471),(247,0,478),(251,0,485),(261,0,490),(269,0,495),(281,0,502),(290,0,507),(292,0,514),(306,0,519),(314,0,524),(331,0,531),(341,0,538),(353,0,545),(357,0,552),(362,0,557),(364,0,562),(366,0,567),(368,0,572),(376,0,577),(384,0,584),(411,0,591),(418,0,598),(422,0,605),(429,0,610),(440,0,615),(455,0,620)]
noncomputable def o13:Obj:=⟨(.type "code"),none,(.fields #[(.str "<module>" 182),(.str "<module>" 183),(.str "/claim/cut.py" 184),(.int (1) 0),(.int (0) 0),(.int (0) 0),(.int (0) 0),(.int (0) 0),(.ref 11),(.bool false),(.int (181) 0),(.ref 12),.none,.none,.none,.none,(.int (185) 0),(.int (1) 0),(.str "/claim/cut.py" 186)]),#[]⟩
noncomputable def o14:Obj:=⟨(.type "frame"),none,.plain,#[(some (.ref 13)),(some (.ref 3)),(some (.ref 3)),none,(some (.str "__main__" 164)),none,(some (.ref 0))]⟩
def o17:Obj:=kT 190 ["k"]
def o19:Obj:=kC "_wall" "_wall" (top 0)
def o20:Obj:=kD1 "_wall" "_wall" 187 1 1 15 191
def o21:Obj:=kF "_wall" "_wall" (top 0) m0 20
def o24:Obj:=kT 199 ["some","told","statement"]
def o26:Obj:=kC "keyed" "keyed" b2B
def o27:Obj:=kD1 "keyed" "keyed" 196 5 1 22 202
def o28:Obj:=kF "keyed" "keyed" b2B m1 27
def o31:Obj:=kC "all_among" "all_among" a9u
def o32:Obj:=kD2 "all_among" "all_among" 205 10 2 29 208
def o33:Obj:=kF "all_among" "all_among" a9u m1 32
def o36:Obj:=kC "any_among" "any_among" a9D
def o37:Obj:=kD2 "any_among" "any_among" 211 12 2 34 214
def o38:Obj:=kF "any_among" "any_among" a9D m1 37
def o41:Obj:=kT 222 ["statement"]
def o43:Obj:=kC "opposite" "opposite" b2Z
def o44:Obj:=kD1 "opposite" "opposite" 219 15 1 39 223
def o45:Obj:=kF "opposite" "opposite" b2Z m2 44
def o48:Obj:=kT 231 ["ground","heads","rule","premise"]
def o50:Obj:=kC "heads_by_premise" "heads_by_premise" b0d
def o51:Obj:=kD1 "heads_by_premise" "heads_by_premise" 228 18 1 46 235
def o52:Obj:=kF "heads_by_premise" "heads_by_premise" b0d m3 51
noncomputable def o53:Obj:=⟨(.type "tuple"),none,(.seq #[.none] 0),#[]⟩
def o56:Obj:=kC "sure_rounds" "sure_rounds" a2L
def o57:Obj:=kD2 "sure_rounds" "sure_rounds" 240 25 2 54 243
noncomputable def o58:Obj:=⟨(.type "function"),none,(.func (Zb "sure_rounds" "sure_rounds" (a2c a2L) (a1w a2L) (a0c a2L) (.ref 53) .none .none (.str "mostwise.sure" 238) none (.ref 57) .none)),#[]⟩
def o61:Obj:=kT 249 ["ground"]
def o62:Obj:=kT 250 ["ranks"]
def o63:Obj:=kC "sure_steps" "sure_steps" a8K
def o64:Obj:=kD1 "sure_steps" "sure_steps" 246 39 1 59 251
def o65:Obj:=kF "sure_steps" "sure_steps" a8K m4 64
def o68:Obj:=kC "is_beaten" "is_beaten" a8P
def o69:Obj:=kD2 "is_beaten" "is_beaten" 260 45 3 66 263
def o70:Obj:=kF "is_beaten" "is_beaten" a8P m5 69
def o73:Obj:=kC "holds_by" "holds_by" a7v
def o74:Obj:=kD2 "holds_by" "holds_by" 266 47 5 71 269
def o75:Obj:=kF "holds_by" "holds_by" a7v m5 74
def o78:Obj:=kC "refused_by" "refused_by" a6Q
def o79:Obj:=kD2 "refused_by" "refused_by" 272 54 5 76 275
def o80:Obj:=kF "refused_by" "refused_by" a6Q m5 79
def o83:Obj:=kT 281 ["ground","sures","held","refused","asked","words","q"]
def o85:Obj:=kC "words_now" "words_now" a9Y
def o86:Obj:=kD1 "words_now" "words_now" 278 61 5 81 288
def o87:Obj:=kF "words_now" "words_now" a9Y m5 86
def o90:Obj:=kT 294 ["heads","came","told","premise","head"]
def o92:Obj:=kC "touched" "touched" b2e
def o93:Obj:=kD1 "touched" "touched" 291 69 2 88 299
def o94:Obj:=kF "touched" "touched" b2e m5 93
def o97:Obj:=kC "most_rounds" "most_rounds" a4G
def o98:Obj:=kD2 "most_rounds" "most_rounds" 302 76 4 95 305
def o99:Obj:=kF "most_rounds" "most_rounds" a4G m5 98
def c4t:Obj:=kT 311 ["is_sure","word"]
def c8O:Obj:=kC "answer_by" "answer_by" b1V
def c6I:Obj:=kD1 "answer_by" "answer_by" 308 94 2 100 313
def c4m:Obj:=kF "answer_by" "answer_by" b1V m5 105
noncomputable def c8V:Obj:=⟨(.type "builtin_function_or_method"),none,(.fields #[(.builtin "type.__prepare__"),(.type "type")]),#[]⟩
def c9n (P:Params):Obj:=kQ [kE P "__module__" 323 (.str "mostwise.mostly" 254),kE P "__qualname__" 325 (.str "Answers" 324),⟨Yk P "__firstlineno__",(.str "__firstlineno__" 327),(.int (100) 326)⟩,kE P "__init__" 335 (.ref 120),kE P "word_and_rank" 343 (.ref 127),kE P "sure" 351 (.ref 134),kE P "held" 359 (.ref 141),kE P "refused" 367 (.ref 148),kE P "answer" 375 (.ref 155),kE P "rank" 383 (.ref 162),kE P "listed" 389 (.ref 167),kE P "sures" 396 (.ref 174),kE P "__static_attributes__" 400 (.ref 175)] 13
def c9y:Obj:=kL [(102,4,119),(107,4,126),(112,4,133),(115,4,140),(118,4,147),(121,4,154),(124,4,161),(127,4,166),(130,4,173)]
noncomputable def c8C:Obj:=⟨(.type "code"),none,(.fields #[(.str "Answers" 318),(.str "Answers" 319),(.str "/claim/cut.py" 320),(.int (100) 0),(.int (0) 0),(.int (0) 0),(.int (0) 0),(.int (0) 0),(.ref 110),(.bool false),(.int (181) 0),(.ref 111),.none,.none,.none,.none,(.int (321) 0),(.int (100) 0),(.str "/claim/cut.py" 322)]),#[]⟩
noncomputable def c9H:Obj:=⟨(.type "frame"),none,.plain,#[(some (.ref 112)),(some (.ref 3)),(some (.ref 109)),none,(some (.str "mostwise.mostly" 254)),none,(some (.ref 0))]⟩
def c3X:Obj:=kT 331 ["self","ground"]
def c8v:Obj:=kC "__init__" "Answers.__init__" b1k
def c5z:Obj:=kD1 "__init__" "Answers.__init__" 328 102 2 114 333
def c4S:Obj:=kF "__init__" "Answers.__init__" b1k m5 119
def c3D:Obj:=kT 339 ["self","q"]
def c7M:Obj:=kC "word_and_rank" "Answers.word_and_rank" b2l
def c6b:Obj:=kD1 "word_and_rank" "Answers.word_and_rank" 336 107 2 121 341
def c6r:Obj:=kF "word_and_rank" "Answers.word_and_rank" b2l m5 126
def c6n:Obj:=kT 347 ["self","q"]
def d0m:Obj:=kC "sure" "Answers.sure" b1M
def c7e:Obj:=kD1 "sure" "Answers.sure" 344 112 2 128 349
def c6F:Obj:=kF "sure" "Answers.sure" b1M m5 133
def c5A:Obj:=kT 355 ["self","q"]
def c7I:Obj:=kC "held" "Answers.held" a9L
def c4R:Obj:=kD1 "held" "Answers.held" 352 115 2 135 357
def c3H:Obj:=kF "held" "Answers.held" a9L m5 140
def c3t:Obj:=kT 363 ["self","q"]
def c9r:Obj:=kC "refused" "Answers.refused" b2K
def c5c:Obj:=kD1 "refused" "Answers.refused" 360 118 2 142 365
def c5K:Obj:=kF "refused" "Answers.refused" b2K m5 147
def c7c:Obj:=kT 371 ["self","q"]
def c9L:Obj:=kC "answer" "Answers.answer" b0D
def c5a:Obj:=kD1 "answer" "Answers.answer" 368 121 2 149 373
def c4w:Obj:=kF "answer" "Answers.answer" b0D m5 154
def c6a:Obj:=kT 379 ["self","q"]
def c9O:Obj:=kC "rank" "Answers.rank" a9P
def c7q:Obj:=kD1 "rank" "Answers.rank" 376 124 2 156 381
def c6Y:Obj:=kF "rank" "Answers.rank" a9P m5 161
def c7T:Obj:=kC "listed" "Answers.listed" a9o
def c5W:Obj:=kD2 "listed" "Answers.listed" 384 127 1 163 387
def c6L:Obj:=kF "listed" "Answers.listed" a9o m5 166
def c4C:Obj:=kT 393 ["self"]
def c9c:Obj:=kC "sures" "Answers.sures" b0v
def c6U:Obj:=kD1 "sures" "Answers.sures" 390 130 1 168 394
def c3s:Obj:=kF "sures" "Answers.sures" b0v m5 173
def c6s:Obj:=kT 397 ["came","standing","sure_keys"]
def c7A (P:Params):Obj:=kQ [kE P "__module__" 323 (.str "mostwise.mostly" 254),⟨Yk P "__firstlineno__",(.str "__firstlineno__" 327),(.int (100) 326)⟩,kE P "__init__" 335 (.ref 120),kE P "word_and_rank" 343 (.ref 127),kE P "sure" 351 (.ref 134),kE P "held" 359 (.ref 141),kE P "refused" 367 (.ref 148),kE P "answer" 375 (.ref 155),kE P "rank" 383 (.ref 162),kE P "listed" 389 (.ref 167),kE P "sures" 396 (.ref 174),kE P "__static_attributes__" 400 (.ref 175),kE P "__dict__" 402 (.ref 178),kE P "__weakref__" 404 (.ref 179),kE P "__doc__" 405 .none] 4
noncomputable def c4z:Obj:=⟨(.type "type"),none,(.cls ⟨"Answers",[(.type "object")],[(.ref 177),(.type "object")],176,"Answers",true,[],[],false,none,false⟩),#[none,none,(some (.str "Answers" 316)),(some (.str "Answers" 324)),(some (.builtin "object.__new__")),(some (.bool true))]⟩
noncomputable def c4l:Obj:=⟨(.type "getset_descriptor"),none,(.fields #[(.str "__dict__" 401),(.ref 177),(.builtin "function.__dict__"),(.builtin "function.__dict__#set")]),#[]⟩
noncomputable def c4c:Obj:=⟨(.type "getset_descriptor"),none,(.fields #[(.str "__weakref__" 403),(.ref 177),(.builtin "ExceptionGroup.__weakref__"),.none]),#[]⟩
noncomputable def c8r:Obj:=⟨(.type "super"),none,(.fields #[(.ref 177),(.ref 177),(.ref 177)]),#[]⟩
noncomputable def c9M:Obj:=⟨(.type "builtin_function_or_method"),none,(.fields #[(.builtin "object.__init_subclass__"),(.ref 177)]),#[]⟩
noncomputable def d0g:Obj:=⟨(.type "builtin_function_or_method"),none,(.fields #[(.builtin "type.__prepare__"),(.type "type")]),#[]⟩
def c9z (P:Params):Obj:=kQ [kE P "__module__" 417 (.str "mostwise.rules" 408),kE P "__qualname__" 419 (.str "Rule" 418),⟨Yk P "__firstlineno__",(.str "__firstlineno__" 421),(.int (133) 420)⟩,kE P "__init__" 431 (.ref 195),kE P "word" 438 (.ref 202),kE P "speaks" 445 (.ref 209),kE P "is_sure" 452 (.ref 216),kE P "letters" 459 (.ref 223),kE P "again" 468 (.ref 230),kE P "filled" 476 (.ref 237),kE P "row" 483 (.ref 244),kE P "__static_attributes__" 487 (.ref 245)] 12
def d0h:Obj:=kL [(135,4,194),(140,4,201),(143,4,208),(146,4,215),(149,4,222),(152,4,229),(155,4,236),(158,4,243)]
noncomputable def c8w:Obj:=⟨(.type "code"),none,(.fields #[(.str "Rule" 412),(.str "Rule" 413),(.str "/claim/cut.py" 414),(.int (133) 0),(.int (0) 0),(.int (0) 0),(.int (0) 0),(.int (0) 0),(.ref 185),(.bool false),(.int (181) 0),(.ref 186),.none,.none,.none,.none,(.int (415) 0),(.int (133) 0),(.str "/claim/cut.py" 416)]),#[]⟩
noncomputable def c9I:Obj:=⟨(.type "frame"),none,.plain,#[(some (.ref 187)),(some (.ref 3)),(some (.ref 184)),none,(some (.str "mostwise.rules" 408)),none,(some (.ref 0))]⟩
def c6t:Obj:=kT 425 ["self","label","head","body"]
def c9q:Obj:=kC "__init__" "Rule.__init__" b2x
def c4h:Obj:=kD1 "__init__" "Rule.__init__" 422 135 4 189 429
def c4i:Obj:=kF "__init__" "Rule.__init__" b2x m6 194
def c3G:Obj:=kT 435 ["self"]
def d0u:Obj:=kC "word" "Rule.word" (a0j (top 24) 1)
def c5p:Obj:=kD1 "word" "Rule.word" 432 140 1 196 436
def c8f:Obj:=kF "word" "Rule.word" (a0j (top 24) 1) m6 201
def c4v:Obj:=kT 442 ["self"]
def c9g:Obj:=kC "speaks" "Rule.speaks" b1U
def c5l:Obj:=kD1 "speaks" "Rule.speaks" 439 143 1 203 443
def c5C:Obj:=kF "speaks" "Rule.speaks" b1U m6 208
def c4p:Obj:=kT 449 ["self"]
def d0d:Obj:=kC "is_sure" "Rule.is_sure" b0E
def c6v:Obj:=kD1 "is_sure" "Rule.is_sure" 446 146 1 210 450
def c4B:Obj:=kF "is_sure" "Rule.is_sure" b0E m6 215
def c5o:Obj:=kT 456 ["self"]
def c8q:Obj:=kC "letters" "Rule.letters" (a0j (top 24) 4)
def c5T:Obj:=kD1 "letters" "Rule.letters" 453 149 1 217 457
def c8g:Obj:=kF "letters" "Rule.letters" (a0j (top 24) 4) m6 222
def c4T:Obj:=kT 463 ["self","head","body"]
def c8N:Obj:=kC "again" "Rule.again" (a0j (top 24) 5)
def c4f:Obj:=kD1 "again" "Rule.again" 460 152 3 224 466
def c8F:Obj:=kF "again" "Rule.again" (a0j (top 24) 5) m6 229
def c7u:Obj:=kT 472 ["self","given"]
def c9x:Obj:=kC "filled" "Rule.filled" (a0j (top 24) 6)
def c4U:Obj:=kD1 "filled" "Rule.filled" 469 155 2 231 474
def c7Q:Obj:=kF "filled" "Rule.filled" (a0j (top 24) 6) m6 236
def c3A:Obj:=kT 480 ["self"]
def c8J:Obj:=kC "row" "Rule.row" (a0j (top 24) 7)
def c7t:Obj:=kD1 "row" "Rule.row" 477 158 1 238 481
def c7H:Obj:=kF "row" "Rule.row" (a0j (top 24) 7) m6 243
def c7b:Obj:=kT 484 ["body","head","label"]
def c7f (P:Params):Obj:=kQ [kE P "__module__" 417 (.str "mostwise.rules" 408),⟨Yk P "__firstlineno__",(.str "__firstlineno__" 421),(.int (133) 420)⟩,kE P "__init__" 431 (.ref 195),kE P "word" 438 (.ref 202),kE P "speaks" 445 (.ref 209),kE P "is_sure" 452 (.ref 216),kE P "letters" 459 (.ref 223),kE P "again" 468 (.ref 230),kE P "filled" 476 (.ref 237),kE P "row" 483 (.ref 244),kE P "__static_attributes__" 487 (.ref 245),kE P "__dict__" 489 (.ref 248),kE P "__weakref__" 491 (.ref 249),kE P "__doc__" 492 .none] 4
noncomputable def c3j:Obj:=⟨(.type "type"),none,(.cls ⟨"Rule",[(.type "object")],[(.ref 247),(.type "object")],246,"Rule",true,[],[(.ref 296),(.ref 329),(.ref 355),(.ref 388)],false,none,false⟩),#[none,none,(some (.str "Rule" 410)),(some (.str "Rule" 418)),(some (.builtin "object.__new__")),(some (.bool true))]⟩
noncomputable def c2C:Obj:=⟨(.type "getset_descriptor"),none,(.fields #[(.str "__dict__" 488),(.ref 247),(.builtin "function.__dict__"),(.builtin "function.__dict__#set")]),#[]⟩
noncomputable def c2E:Obj:=⟨(.type "getset_descriptor"),none,(.fields #[(.str "__weakref__" 490),(.ref 247),(.builtin "ExceptionGroup.__weakref__"),.none]),#[]⟩
noncomputable def c3c:Obj:=⟨(.type "super"),none,(.fields #[(.ref 247),(.ref 247),(.ref 247)]),#[]⟩
noncomputable def c3a:Obj:=⟨(.type "builtin_function_or_method"),none,(.fields #[(.builtin "object.__init_subclass__"),(.ref 247)]),#[]⟩
noncomputable def c4K:Obj:=⟨(.type "tuple"),none,(.seq #[(.ref 247)] 0),#[]⟩
noncomputable def c7Y:Obj:=⟨(.type "builtin_function_or_method"),none,(.fields #[(.builtin "type.__prepare__"),(.type "type")]),#[]⟩
def c7K (P:Params):Obj:=kQ [kE P "__module__" 502 (.str "mostwise.rules" 408),kE P "__qualname__" 504 (.str "Fact" 503),⟨Yk P "__firstlineno__",(.str "__firstlineno__" 506),(.int (160) 505)⟩,kE P "__init__" 514 (.ref 265),kE P "word" 521 (.ref 272),kE P "is_sure" 528 (.ref 279),kE P "again" 537 (.ref 286),kE P "row" 544 (.ref 293),kE P "__static_attributes__" 545 (.ref 294)] 9
def c9t:Obj:=kL [(162,4,264),(165,4,271),(168,4,278),(171,4,285),(174,4,292)]
noncomputable def c9T:Obj:=⟨(.type "code"),none,(.fields #[(.str "Fact" 497),(.str "Fact" 498),(.str "/claim/cut.py" 499),(.int (160) 0),(.int (0) 0),(.int (0) 0),(.int (0) 0),(.int (0) 0),(.ref 255),(.bool false),(.int (181) 0),(.ref 256),.none,.none,.none,.none,(.int (500) 0),(.int (160) 0),(.str "/claim/cut.py" 501)]),#[]⟩
noncomputable def c9P:Obj:=⟨(.type "frame"),none,.plain,#[(some (.ref 257)),(some (.ref 3)),(some (.ref 254)),none,(some (.str "mostwise.rules" 408)),none,(some (.ref 0))]⟩
def c5F:Obj:=kT 510 ["self","head"]
def c8n:Obj:=kC "__init__" "Fact.__init__" b1E
def c7C:Obj:=kD1 "__init__" "Fact.__init__" 507 162 2 259 512
def c6d:Obj:=kF "__init__" "Fact.__init__" b1E m6 264
def c3K:Obj:=kT 518 ["self"]
def c7X:Obj:=kC "word" "Fact.word" (a0j (top 25) 1)
def c4W:Obj:=kD1 "word" "Fact.word" 515 165 1 266 519
def d0r:Obj:=kF "word" "Fact.word" (a0j (top 25) 1) m6 271
def c7v:Obj:=kT 525 ["self"]
def c9E:Obj:=kC "is_sure" "Fact.is_sure" b2Q
def c7E:Obj:=kD1 "is_sure" "Fact.is_sure" 522 168 1 273 526
def c6S:Obj:=kF "is_sure" "Fact.is_sure" b2Q m6 278
def c5y:Obj:=kT 532 ["self","head","body"]
def c9j:Obj:=kC "again" "Fact.again" (a0j (top 25) 3)
def c6E:Obj:=kD1 "again" "Fact.again" 529 171 3 280 535
def c8a:Obj:=kF "again" "Fact.again" (a0j (top 25) 3) m6 285
def c6c:Obj:=kT 541 ["self"]
def c7P:Obj:=kC "row" "Fact.row" (a0j (top 25) 4)
def c3L:Obj:=kD1 "row" "Fact.row" 538 174 1 287 542
def c9Q:Obj:=kF "row" "Fact.row" (a0j (top 25) 4) m6 292
def c3W (P:Params):Obj:=kQ [kE P "__module__" 502 (.str "mostwise.rules" 408),⟨Yk P "__firstlineno__",(.str "__firstlineno__" 506),(.int (160) 505)⟩,kE P "__init__" 514 (.ref 265),kE P "word" 521 (.ref 272),kE P "is_sure" 528 (.ref 279),kE P "again" 537 (.ref 286),kE P "row" 544 (.ref 293),kE P "__static_attributes__" 545 (.ref 294),kE P "__doc__" 546 .none] 2
noncomputable def c3w:Obj:=⟨(.type "type"),none,(.cls ⟨"Fact",[(.ref 247)],[(.ref 296),(.ref 247),(.type "object")],295,"Fact",true,[],[],false,none,false⟩),#[(some (.ref 252)),none,(some (.str "Fact" 495)),(some (.str "Fact" 503)),(some (.builtin "object.__new__")),(some (.bool true))]⟩
noncomputable def d0y:Obj:=⟨(.type "super"),none,(.fields #[(.ref 296),(.ref 296),(.ref 296)]),#[]⟩
noncomputable def c7G:Obj:=⟨(.type "builtin_function_or_method"),none,(.fields #[(.builtin "object.__init_subclass__"),(.ref 296)]),#[]⟩
noncomputable def c5N:Obj:=⟨(.type "tuple"),none,(.seq #[(.ref 247)] 0),#[]⟩
noncomputable def c9B:Obj:=⟨(.type "builtin_function_or_method"),none,(.fields #[(.builtin "type.__prepare__"),(.type "type")]),#[]⟩
def c8s (P:Params):Obj:=kQ [kE P "__module__" 556 (.str "mostwise.rules" 408),kE P "__qualname__" 558 (.str "Sure" 557),⟨Yk P "__firstlineno__",(.str "__firstlineno__" 560),(.int (176) 559)⟩,kE P "word" 567 (.ref 312),kE P "is_sure" 574 (.ref 319),kE P "again" 583 (.ref 326),kE P "__static_attributes__" 584 (.ref 327)] 7
def c9X:Obj:=kL [(178,4,311),(181,4,318),(184,4,325)]
noncomputable def c9S:Obj:=⟨(.type "code"),none,(.fields #[(.str "Sure" 551),(.str "Sure" 552),(.str "/claim/cut.py" 553),(.int (176) 0),(.int (0) 0),(.int (0) 0),(.int (0) 0),(.int (0) 0),(.ref 302),(.bool false),(.int (181) 0),(.ref 303),.none,.none,.none,.none,(.int (554) 0),(.int (176) 0),(.str "/claim/cut.py" 555)]),#[]⟩
noncomputable def d0q:Obj:=⟨(.type "frame"),none,.plain,#[(some (.ref 304)),(some (.ref 3)),(some (.ref 301)),none,(some (.str "mostwise.rules" 408)),none,(some (.ref 0))]⟩
def c4r:Obj:=kT 564 ["self"]
def c8x:Obj:=kC "word" "Sure.word" (a0j (top 26) 0)
def c5w:Obj:=kD1 "word" "Sure.word" 561 178 1 306 565
def d0c:Obj:=kF "word" "Sure.word" (a0j (top 26) 0) m6 311
def c6w:Obj:=kT 571 ["self"]
def c9J:Obj:=kC "is_sure" "Sure.is_sure" b2V
def c4P:Obj:=kD1 "is_sure" "Sure.is_sure" 568 181 1 313 572
def c4D:Obj:=kF "is_sure" "Sure.is_sure" b2V m6 318
def c5g:Obj:=kT 578 ["self","head","body"]
def d0w:Obj:=kC "again" "Sure.again" (a0j (top 26) 2)
def c7z:Obj:=kD1 "again" "Sure.again" 575 184 3 320 581
def c8u:Obj:=kF "again" "Sure.again" (a0j (top 26) 2) m6 325
def c7D (P:Params):Obj:=kQ [kE P "__module__" 556 (.str "mostwise.rules" 408),⟨Yk P "__firstlineno__",(.str "__firstlineno__" 560),(.int (176) 559)⟩,kE P "word" 567 (.ref 312),kE P "is_sure" 574 (.ref 319),kE P "again" 583 (.ref 326),kE P "__static_attributes__" 584 (.ref 327),kE P "__doc__" 585 .none] 2
noncomputable def c3v:Obj:=⟨(.type "type"),none,(.cls ⟨"Sure",[(.ref 247)],[(.ref 329),(.ref 247),(.type "object")],328,"Sure",true,[],[],false,none,false⟩),#[(some (.ref 299)),none,(some (.str "Sure" 549)),(some (.str "Sure" 557)),(some (.builtin "object.__new__")),(some (.bool true))]⟩
noncomputable def c9D:Obj:=⟨(.type "super"),none,(.fields #[(.ref 329),(.ref 329),(.ref 329)]),#[]⟩
noncomputable def c8z:Obj:=⟨(.type "builtin_function_or_method"),none,(.fields #[(.builtin "object.__init_subclass__"),(.ref 329)]),#[]⟩
noncomputable def c5m:Obj:=⟨(.type "tuple"),none,(.seq #[(.ref 247)] 0),#[]⟩
noncomputable def c7V:Obj:=⟨(.type "builtin_function_or_method"),none,(.fields #[(.builtin "type.__prepare__"),(.type "type")]),#[]⟩
def d0e (P:Params):Obj:=kQ [kE P "__module__" 595 (.str "mostwise.rules" 408),kE P "__qualname__" 597 (.str "Most" 596),⟨Yk P "__firstlineno__",(.str "__firstlineno__" 599),(.int (186) 598)⟩,kE P "word" 606 (.ref 345),kE P "again" 615 (.ref 352),kE P "__static_attributes__" 616 (.ref 353)] 6
def c9A:Obj:=kL [(188,4,344),(191,4,351)]
noncomputable def d0a:Obj:=⟨(.type "code"),none,(.fields #[(.str "Most" 590),(.str "Most" 591),(.str "/claim/cut.py" 592),(.int (186) 0),(.int (0) 0),(.int (0) 0),(.int (0) 0),(.int (0) 0),(.ref 335),(.bool false),(.int (181) 0),(.ref 336),.none,.none,.none,.none,(.int (593) 0),(.int (186) 0),(.str "/claim/cut.py" 594)]),#[]⟩
noncomputable def c8K:Obj:=⟨(.type "frame"),none,.plain,#[(some (.ref 337)),(some (.ref 3)),(some (.ref 334)),none,(some (.str "mostwise.rules" 408)),none,(some (.ref 0))]⟩
def c7o:Obj:=kT 603 ["self"]
def c9U:Obj:=kC "word" "Most.word" (a0j (top 27) 0)
def c3Z:Obj:=kD1 "word" "Most.word" 600 188 1 339 604
def c8M:Obj:=kF "word" "Most.word" (a0j (top 27) 0) m6 344
def c4a:Obj:=kT 610 ["self","head","body"]
def d0o:Obj:=kC "again" "Most.again" (a0j (top 27) 1)
def c4u:Obj:=kD1 "again" "Most.again" 607 191 3 346 613
def c8y:Obj:=kF "again" "Most.again" (a0j (top 27) 1) m6 351
def c6M (P:Params):Obj:=kQ [kE P "__module__" 595 (.str "mostwise.rules" 408),⟨Yk P "__firstlineno__",(.str "__firstlineno__" 599),(.int (186) 598)⟩,kE P "word" 606 (.ref 345),kE P "again" 615 (.ref 352),kE P "__static_attributes__" 616 (.ref 353),kE P "__doc__" 617 .none] 2
noncomputable def c6Q:Obj:=⟨(.type "type"),none,(.cls ⟨"Most",[(.ref 247)],[(.ref 355),(.ref 247),(.type "object")],354,"Most",true,[],[],false,none,false⟩),#[(some (.ref 332)),none,(some (.str "Most" 588)),(some (.str "Most" 596)),(some (.builtin "object.__new__")),(some (.bool true))]⟩
noncomputable def c8j:Obj:=⟨(.type "super"),none,(.fields #[(.ref 355),(.ref 355),(.ref 355)]),#[]⟩
noncomputable def c7F:Obj:=⟨(.type "builtin_function_or_method"),none,(.fields #[(.builtin "object.__init_subclass__"),(.ref 355)]),#[]⟩
noncomputable def c6f:Obj:=⟨(.type "tuple"),none,(.seq #[(.ref 247)] 0),#[]⟩
noncomputable def c8e:Obj:=⟨(.type "builtin_function_or_method"),none,(.fields #[(.builtin "type.__prepare__"),(.type "type")]),#[]⟩
def c9V (P:Params):Obj:=kQ [kE P "__module__" 627 (.str "mostwise.rules" 408),kE P "__qualname__" 629 (.str "Block" 628),⟨Yk P "__firstlineno__",(.str "__firstlineno__" 631),(.int (193) 630)⟩,kE P "word" 638 (.ref 371),kE P "speaks" 645 (.ref 378),kE P "again" 654 (.ref 385),kE P "__static_attributes__" 655 (.ref 386)] 7
def c9Y:Obj:=kL [(195,4,370),(198,4,377),(201,4,384)]
noncomputable def d0p:Obj:=⟨(.type "code"),none,(.fields #[(.str "Block" 622),(.str "Block" 623),(.str "/claim/cut.py" 624),(.int (193) 0),(.int (0) 0),(.int (0) 0),(.int (0) 0),(.int (0) 0),(.ref 361),(.bool false),(.int (181) 0),(.ref 362),.none,.none,.none,.none,(.int (625) 0),(.int (193) 0),(.str "/claim/cut.py" 626)]),#[]⟩
noncomputable def c9w:Obj:=⟨(.type "frame"),none,.plain,#[(some (.ref 363)),(some (.ref 3)),(some (.ref 360)),none,(some (.str "mostwise.rules" 408)),none,(some (.ref 0))]⟩
def c4o:Obj:=kT 635 ["self"]
def c8T:Obj:=kC "word" "Block.word" (a0j (top 28) 0)
def c5v:Obj:=kD1 "word" "Block.word" 632 195 1 365 636
def c8t:Obj:=kF "word" "Block.word" (a0j (top 28) 0) m6 370
def c6l:Obj:=kT 642 ["self"]
def c8G:Obj:=kC "speaks" "Block.speaks" b0R
def c4Z:Obj:=kD1 "speaks" "Block.speaks" 639 198 1 372 643
def c5O:Obj:=kF "speaks" "Block.speaks" b0R m6 377
def c4q:Obj:=kT 649 ["self","head","body"]
def d0b:Obj:=kC "again" "Block.again" (a0j (top 28) 2)
def c6j:Obj:=kD1 "again" "Block.again" 646 201 3 379 652
def c9p:Obj:=kF "again" "Block.again" (a0j (top 28) 2) m6 384
def c3C (P:Params):Obj:=kQ [kE P "__module__" 627 (.str "mostwise.rules" 408),⟨Yk P "__firstlineno__",(.str "__firstlineno__" 631),(.int (193) 630)⟩,kE P "word" 638 (.ref 371),kE P "speaks" 645 (.ref 378),kE P "again" 654 (.ref 385),kE P "__static_attributes__" 655 (.ref 386),kE P "__doc__" 656 .none] 2
noncomputable def c5j:Obj:=⟨(.type "type"),none,(.cls ⟨"Block",[(.ref 247)],[(.ref 388),(.ref 247),(.type "object")],387,"Block",true,[],[],false,none,false⟩),#[(some (.ref 358)),none,(some (.str "Block" 620)),(some (.str "Block" 628)),(some (.builtin "object.__new__")),(some (.bool true))]⟩
noncomputable def c9a:Obj:=⟨(.type "super"),none,(.fields #[(.ref 388),(.ref 388),(.ref 388)]),#[]⟩
noncomputable def c9G:Obj:=⟨(.type "builtin_function_or_method"),none,(.fields #[(.builtin "object.__init_subclass__"),(.ref 388)]),#[]⟩
noncomputable def c9F:Obj:=⟨(.type "builtin_function_or_method"),none,(.fields #[(.builtin "type.__prepare__"),(.type "type")]),#[]⟩
def c9o (P:Params):Obj:=kQ [kE P "__module__" 668 (.str "mostwise.ground" 659),kE P "__qualname__" 670 (.str "Ground" 669),⟨Yk P "__firstlineno__",(.str "__firstlineno__" 672),(.int (204) 671)⟩,kE P "__init__" 683 (.ref 404),kE P "rules" 690 (.ref 411),kE P "ruling" 698 (.ref 418),kE P "speaking" 704 (.ref 423),kE P "against" 712 (.ref 430),kE P "beats" 721 (.ref 437),kE P "statements" 731 (.ref 444),kE P "part" 739 (.ref 451),kE P "__static_attributes__" 743 (.ref 452)] 12
def d0i:Obj:=kL [(206,4,403),(215,4,410),(218,4,417),(221,4,422),(224,4,429),(227,4,436),(230,4,443),(238,4,450)]
noncomputable def c7U:Obj:=⟨(.type "code"),none,(.fields #[(.str "Ground" 663),(.str "Ground" 664),(.str "/claim/cut.py" 665),(.int (204) 0),(.int (0) 0),(.int (0) 0),(.int (0) 0),(.int (0) 0),(.ref 394),(.bool false),(.int (181) 0),(.ref 395),.none,.none,.none,.none,(.int (666) 0),(.int (204) 0),(.str "/claim/cut.py" 667)]),#[]⟩
noncomputable def c7S:Obj:=⟨(.type "frame"),none,.plain,#[(some (.ref 396)),(some (.ref 3)),(some (.ref 393)),none,(some (.str "mostwise.ground" 659)),none,(some (.ref 0))]⟩
def c5B:Obj:=kT 676 ["self","rules","pairs","rule","pair"]
def c9b:Obj:=kC "__init__" "Ground.__init__" b2J
def c6N:Obj:=kD1 "__init__" "Ground.__init__" 673 206 3 398 681
def c5U:Obj:=kF "__init__" "Ground.__init__" b2J m7 403
def c4j:Obj:=kT 687 ["self"]
def c9v:Obj:=kC "rules" "Ground.rules" b2c
def c6X:Obj:=kD1 "rules" "Ground.rules" 684 215 1 405 688
def c6u:Obj:=kF "rules" "Ground.rules" b2c m7 410
def c6T:Obj:=kT 694 ["self","statement"]
def c8D:Obj:=kC "ruling" "Ground.ruling" a9S
def c4L:Obj:=kD1 "ruling" "Ground.ruling" 691 218 2 412 696
def c4g:Obj:=kF "ruling" "Ground.ruling" a9S m7 417
def c7N:Obj:=kC "speaking" "Ground.speaking" a9x
def c6x:Obj:=kD2 "speaking" "Ground.speaking" 699 221 2 419 702
def c5S:Obj:=kF "speaking" "Ground.speaking" a9x m7 422
def c5Q:Obj:=kT 708 ["self","statement"]
def c8k:Obj:=kC "against" "Ground.against" b2u
def c4E:Obj:=kD1 "against" "Ground.against" 705 224 2 424 710
def c5L:Obj:=kF "against" "Ground.against" b2u m7 429
def c6o:Obj:=kT 716 ["self","one","other"]
def c8U:Obj:=kC "beats" "Ground.beats" b1w
def c4n:Obj:=kD1 "beats" "Ground.beats" 713 227 3 431 719
def c6D:Obj:=kF "beats" "Ground.beats" b1w m7 436
def c3T:Obj:=kT 725 ["self","told","rule","statement"]
def c8h:Obj:=kC "statements" "Ground.statements" b1t
def c4I:Obj:=kD1 "statements" "Ground.statements" 722 230 1 438 729
def c6O:Obj:=kF "statements" "Ground.statements" b1t m7 443
def c4M:Obj:=kT 735 ["self","some"]
def c8P:Obj:=kC "part" "Ground.part" (a0j (top 30) 7)
def c3u:Obj:=kD1 "part" "Ground.part" 732 238 2 445 737
def c8B:Obj:=kF "part" "Ground.part" (a0j (top 30) 7) m7 450
def c7p:Obj:=kT 740 ["by_head","in_order","pairs"]
def c3B (P:Params):Obj:=kQ [kE P "__module__" 668 (.str "mostwise.ground" 659),⟨Yk P "__firstlineno__",(.str "__firstlineno__" 672),(.int (204) 671)⟩,kE P "__init__" 683 (.ref 404),kE P "rules" 690 (.ref 411),kE P "ruling" 698 (.ref 418),kE P "speaking" 704 (.ref 423),kE P "against" 712 (.ref 430),kE P "beats" 721 (.ref 437),kE P "statements" 731 (.ref 444),kE P "part" 739 (.ref 451),kE P "__static_attributes__" 743 (.ref 452),kE P "__dict__" 745 (.ref 455),kE P "__weakref__" 747 (.ref 456),kE P "__doc__" 748 .none] 4
noncomputable def c4J:Obj:=⟨(.type "type"),none,(.cls ⟨"Ground",[(.type "object")],[(.ref 454),(.type "object")],453,"Ground",true,[],[],false,none,false⟩),#[none,none,(some (.str "Ground" 661)),(some (.str "Ground" 669)),(some (.builtin "object.__new__")),(some (.bool true))]⟩
noncomputable def c3N:Obj:=⟨(.type "getset_descriptor"),none,(.fields #[(.str "__dict__" 744),(.ref 454),(.builtin "function.__dict__"),(.builtin "function.__dict__#set")]),#[]⟩
noncomputable def c6R:Obj:=⟨(.type "getset_descriptor"),none,(.fields #[(.str "__weakref__" 746),(.ref 454),(.builtin "ExceptionGroup.__weakref__"),.none]),#[]⟩
noncomputable def c9l:Obj:=⟨(.type "super"),none,(.fields #[(.ref 454),(.ref 454),(.ref 454)]),#[]⟩
noncomputable def c8i:Obj:=⟨(.type "builtin_function_or_method"),none,(.fields #[(.builtin "object.__init_subclass__"),(.ref 454)]),#[]⟩
def c6k:Obj:=kT 756 ["_law_script","_law_k"]
def d0n:Obj:=kC "_law_cell_at" "_law_cell_at" b2M
def c4O:Obj:=kD1 "_law_cell_at" "_law_cell_at" 753 241 2 459 758
def c6g:Obj:=kF "_law_cell_at" "_law_cell_at" b2M m8 464
def c7k:Obj:=kT 764 ["_law_found"]
def c9W:Obj:=kC "_law_whole" "_law_whole" b0A
def c3E:Obj:=kD1 "_law_whole" "_law_whole" 761 245 1 466 765
def c6i:Obj:=kF "_law_whole" "_law_whole" b0A m8 471
def c5D:Obj:=kT 771 ["_law_cell","_law_k","_law_number"]
def c8E:Obj:=kC "_law_mix" "_law_mix" b2f
def c5k:Obj:=kD1 "_law_mix" "_law_mix" 768 247 2 473 774
def c5I:Obj:=kF "_law_mix" "_law_mix" b2f m8 478
def c4H:Obj:=kT 780 ["_law_cell","_law_k","_law_signs","_law_size","_law_at","_law_word_here","_law_j","_law_step"]
def c9K:Obj:=kC "_law_word" "_law_word" b1G
def c5Z:Obj:=kD1 "_law_word" "_law_word" 777 251 3 480 788
def c5R:Obj:=kF "_law_word" "_law_word" b1G m8 485
def c8X:Obj:=kC "_law_pool" "_law_pool" a9w
def c3M:Obj:=kD2 "_law_pool" "_law_pool" 791 261 1 487 794
def c3P:Obj:=kF "_law_pool" "_law_pool" a9w m8 490
def c7W:Obj:=kC "_law_row" "_law_row" a6Z
def c5e:Obj:=kD2 "_law_row" "_law_row" 797 269 5 492 800
def c3F:Obj:=kF "_law_row" "_law_row" a6Z m8 495
def c4A:Obj:=kT 806 ["_law_row_here","_law_sort","_law_label","_law_head","_law_body"]
def c7J:Obj:=kC "_law_made" "_law_made" b1i
def c5x:Obj:=kD1 "_law_made" "_law_made" 803 281 1 497 811
def c4V:Obj:=kF "_law_made" "_law_made" b1i m8 502
def c9u:Obj:=kC "_law_labels" "_law_labels" a8T
def c3R:Obj:=kD2 "_law_labels" "_law_labels" 814 290 1 504 817
def c7s:Obj:=kF "_law_labels" "_law_labels" a8T m8 507
def c3J:Obj:=kT 823 ["_law_cell","_law_pool_here","_law_labels_here","_law_size","_law_sort","_law_label","_law_head","_law_many","_law_rest","_law_body","_law_j"]
def c9k:Obj:=kC "_law_row_by_digits" "_law_row_by_digits" b2t
def c6Z:Obj:=kD1 "_law_row_by_digits" "_law_row_by_digits" 820 292 3 509 834
def c5t:Obj:=kF "_law_row_by_digits" "_law_row_by_digits" b2t m8 514
def d0f:Obj:=kC "_law_rows" "_law_rows" a7p
def c6W:Obj:=kD2 "_law_rows" "_law_rows" 837 306 2 516 840
def c3O:Obj:=kF "_law_rows" "_law_rows" a7p m8 519
def d0v:Obj:=kC "_law_rounds" "_law_rounds" a8X
def c3y:Obj:=kD2 "_law_rounds" "_law_rounds" 843 314 2 521 846
def c3Y:Obj:=kF "_law_rounds" "_law_rounds" a8X m8 524
def c6m:Obj:=kT 852 ["_law_cell","_law_many","_law_labels_here","_law_pairs_here","_law_k","_law_number","_law_one_here","_law_other_here"]
def c8Q:Obj:=kC "_law_pairs" "_law_pairs" b2R
def c5X:Obj:=kD1 "_law_pairs" "_law_pairs" 849 331 2 526 860
def c5H:Obj:=kF "_law_pairs" "_law_pairs" b2R m8 531
def c7r:Obj:=kT 866 ["_law_script","_law_labels_here","_law_cell","_law_pairs_here","_law_one_here","_law_other_here"]
def c9N:Obj:=kC "_law_pairs_by_digits" "_law_pairs_by_digits" b2a
def c4F:Obj:=kD1 "_law_pairs_by_digits" "_law_pairs_by_digits" 863 341 1 533 872
def c6J:Obj:=kF "_law_pairs_by_digits" "_law_pairs_by_digits" b2a m8 538
def c7i:Obj:=kT 878 ["_law_q"]
def c8W:Obj:=kC "_law_other" "_law_other" b2g
def c7a:Obj:=kD1 "_law_other" "_law_other" 875 353 1 540 879
def c6p:Obj:=kF "_law_other" "_law_other" b2g m8 545
def c4d:Obj:=kT 885 ["_law_rows_here","_law_by_here","_law_row_here"]
def c8c:Obj:=kC "_law_by" "_law_by" b0k
def c4e:Obj:=kD1 "_law_by" "_law_by" 882 357 1 547 888
def c6H:Obj:=kF "_law_by" "_law_by" b0k m8 552
def d0j:Obj:=kC "_law_stands" "_law_stands" a9i
def c6P:Obj:=kD2 "_law_stands" "_law_stands" 891 362 2 554 894
def c7h:Obj:=kF "_law_stands" "_law_stands" a9i m8 557
def c8I:Obj:=kC "_law_falls" "_law_falls" a9a
def c4b:Obj:=kD2 "_law_falls" "_law_falls" 897 364 2 559 900
def c7l:Obj:=kF "_law_falls" "_law_falls" a9a m8 562
def c8Z:Obj:=kC "_law_beaten" "_law_beaten" a9m
def c5V:Obj:=kD2 "_law_beaten" "_law_beaten" 903 366 3 564 906
def c4Y:Obj:=kF "_law_beaten" "_law_beaten" a9m m8 567
def c8R:Obj:=kC "_law_held" "_law_held" a6c
def c3I:Obj:=kD2 "_law_held" "_law_held" 909 368 6 569 912
def c3V:Obj:=kF "_law_held" "_law_held" a6c m8 572
def d0t:Obj:=kC "_law_refused" "_law_refused" a5W
def c3r:Obj:=kD2 "_law_refused" "_law_refused" 915 376 6 574 918
def c5J:Obj:=kF "_law_refused" "_law_refused" a5W m8 577
def c5n:Obj:=kT 924 ["_law_rows_here","_law_pairs_here","_law_firm","_law_some","_law_known","_law_by_here","_law_up","_law_down","_law_q","_law_word_here","_law_ranks","_law_rank","_law_fresh"]
def c9f:Obj:=kC "_law_fixed" "_law_fixed" b2q
def c7w:Obj:=kD1 "_law_fixed" "_law_fixed" 921 384 5 579 937
def c5Y:Obj:=kF "_law_fixed" "_law_fixed" b2q m8 584
def c6A:Obj:=kT 943 ["_law_rows_here","_law_found","_law_sort","_law_label","_law_head","_law_body","_law_q"]
def c9s:Obj:=kC "_law_there" "_law_there" b1P
def c6G:Obj:=kD1 "_law_there" "_law_there" 940 411 1 586 950
def c7d:Obj:=kF "_law_there" "_law_there" b1P m8 591
def c5b:Obj:=kT 956 ["_law_firm","_law_ranks","_law_q"]
def c8p:Obj:=kC "_law_answer" "_law_answer" b0u
def c4X:Obj:=kD1 "_law_answer" "_law_answer" 953 418 3 593 959
def c6h:Obj:=kF "_law_answer" "_law_answer" b0u m8 598
def c6e:Obj:=kT 965 ["_law_rows_here","_law_pairs_here","_law_firm","_law_there_here","_law_ranks","_law_q"]
def c7Z:Obj:=kC "_law_due" "_law_due" b1F
def c3z:Obj:=kD1 "_law_due" "_law_due" 962 422 2 600 971
def c6C:Obj:=kF "_law_due" "_law_due" b1F m8 605
def c8o:Obj:=kC "_law_one" "_law_one" a9t
def c3Q:Obj:=kD2 "_law_one" "_law_one" 974 429 3 607 977
def c4N:Obj:=kF "_law_one" "_law_one" a9t m8 610
def c9e:Obj:=kC "_law_right" "_law_right" a6i
def c6V:Obj:=kD2 "_law_right" "_law_right" 980 440 3 612 983
def c5E:Obj:=kF "_law_right" "_law_right" a6i m8 615
def c9m:Obj:=kC "law" "law" a2T
def c6q:Obj:=kD2 "law" "law" 986 455 1 617 989
def c5h:Obj:=kF "law" "law" a2T m8 620
def p3 (P:Params):Obj:=kQ [kE P "__name__" 165 (.str "__main__" 164),kE P "__doc__" 166 .none,kE P "__package__" 167 .none,kE P "__loader__" 168 (.builtin "__main__.__loader__#opaque"),kE P "__spec__" 169 .none,kE P "__annotations__" 170 (.ref 6),kE P "__builtins__" 171 (.ref 4),kE P "__file__" 173 (.str "/claim/cut.py" 172),kE P "__cached__" 174 .none] 9
noncomputable def H0 (P:Params):Heap:=⟨⟨o0 P::o1 P::o2::p3 P::o4::o5::o6::kU::kN::o9::o10::[]⟩,{}⟩
noncomputable abbrev S0 (P:Params):List Obj:=o4::o5::o6::kU::kN::o9::o10::kU::[]
noncomputable abbrev S1 (P:Params):List Obj:=o13::o14::kU::kN::o17::kU::o19::o20::o21::kU::kN::o24::kU::o26::o27::o28::kU::kN::o31::o32::o33::kU::kN::o36::o37::o38::kU::kN::o41::kU::o43::o44::o45::kU::kN::o48::kU::o50::o51::o52::o53::kU::kN::o56::o57::o58::kU::kN::o61::o62::o63::o64::o65::kU::kN::o68::o69::o70::kU::kN::o73::o74::o75::kU::kN::o78::o79::o80::kU::kN::o83::kU::o85::o86::o87::kU::kN::o90::kU::o92::o93::o94::kU::kN::o97::o98::o99::kU::kN::c4t::kU::c8O::c6I::c4m::kU::c8V::c9n P::kU::c9y::c8C::c9H::kU::kN::c3X::kU::c8v::c5z::c4S::kU::kN::c3D::kU::c7M::c6b::c6r::kU::kN::c6n::kU::d0m::c7e::c6F::kU::kN::c5A::kU::c7I::c4R::c3H::kU::kN::c3t::kU::c9r::c5c::c5K::kU::kN::c7c::kU::c9L::c5a::c4w::kU::kN::c6a::kU::c9O::c7q::c6Y::kU::kN::c7T::c5W::c6L::kU::kN::c4C::kU::c9c::c6U::c3s::c6s::c7A P::c4z::c4l::c4c::c8r::c9M::kU::d0g::c9z P::kU::d0h::c8w::c9I::kU::kN::c6t::kU::c9q::c4h::c4i::kU::kN::c3G::kU::d0u::c5p::c8f::kU::kN::c4v::kU::c9g::c5l::c5C::kU::kN::c4p::kU::d0d::c6v::c4B::kU::kN::c5o::kU::c8q::c5T::c8g::kU::kN::c4T::kU::c8N::c4f::c8F::kU::kN::c7u::kU::c9x::c4U::c7Q::kU::kN::c3A::kU::c8J::c7t::c7H::c7b::c7f P::[]
noncomputable abbrev S2 (P:Params):List Obj:=c4K::c7Y::c7K P::kU::c9t::c9T::c9P::kU::kN::c5F::kU::c8n::c7C::c6d::kU::kN::c3K::kU::c7X::c4W::d0r::kU::kN::c7v::kU::c9E::c7E::c6S::kU::kN::c5y::kU::c9j::c6E::c8a::kU::kN::c6c::kU::c7P::c3L::c9Q::kU::c3W P::c3w::d0y::c7G::c5N::c9B::c8s P::kU::c9X::c9S::d0q::kU::kN::c4r::kU::c8x::c5w::d0c::kU::kN::c6w::kU::c9J::c4P::c4D::kU::kN::c5g::kU::d0w::c7z::c8u::kU::c7D P::c3v::c9D::c8z::c5m::c7V::d0e P::kU::c9A::d0a::c8K::kU::kN::c7o::kU::c9U::c3Z::c8M::kU::kN::c4a::kU::d0o::c4u::c8y::kU::c6M P::c6Q::c8j::c7F::c6f::c8e::c9V P::kU::c9Y::d0p::c9w::kU::kN::c4o::kU::c8T::c5v::c8t::kU::kN::c6l::kU::c8G::c4Z::c5O::kU::kN::c4q::kU::d0b::c6j::c9p::kU::c3C P::c5j::c9a::c9G::kU::c9F::c9o P::kU::d0i::c7U::c7S::kU::kN::c5B::kU::c9b::c6N::c5U::kU::kN::c4j::kU::c9v::c6X::c6u::kU::kN::c6T::kU::c8D::c4L::c4g::kU::kN::c7N::c6x::c5S::kU::kN::c5Q::kU::c8k::c4E::c5L::kU::kN::c6o::kU::c8U::c4n::c6D::kU::kN::c3T::kU::c8h::c4I::c6O::kU::kN::c4M::kU::c8P::c3u::c8B::c7p::c3B P::c4J::c3N::c6R::c9l::c8i::[]
noncomputable abbrev S3 (P:Params):List Obj:=kU::kN::c6k::kU::d0n::c4O::c6g::kU::kN::c7k::kU::c9W::c3E::c6i::kU::kN::c5D::kU::c8E::c5k::c5I::kU::kN::c4H::kU::c9K::c5Z::c5R::kU::kN::c8X::c3M::c3P::kU::kN::c7W::c5e::c3F::kU::kN::c4A::kU::c7J::c5x::c4V::kU::kN::c9u::c3R::c7s::kU::kN::c3J::kU::c9k::c6Z::c5t::kU::kN::d0f::c6W::c3O::kU::kN::d0v::c3y::c3Y::kU::kN::c6m::kU::c8Q::c5X::c5H::kU::kN::c7r::kU::c9N::c4F::c6J::kU::kN::c7i::kU::c8W::c7a::c6p::kU::kN::c4d::kU::c8c::c4e::c6H::kU::kN::d0j::c6P::c7h::kU::kN::c8I::c4b::c7l::kU::kN::c8Z::c5V::c4Y::kU::kN::c8R::c3I::c3V::kU::kN::d0t::c3r::c5J::kU::kN::c5n::kU::c9f::c7w::c5Y::kU::kN::c6A::kU::c9s::c6G::c7d::kU::kN::c5b::kU::c8p::c4X::c6h::kU::kN::c6e::kU::c7Z::c3z::c6C::kU::kN::c8o::c3Q::c4N::kU::kN::c9e::c6V::c5E::kU::kN::c9m::c6q::c5h::[]
noncomputable def H1 (P:Params):Heap:=⟨⟨[o0 P,o1 P,o2,o3 P]++S0 P++[o12]++S1 P++[c3j,c2C,c2E,c3c,c3a]++S2 P++S3 P⟩,{}⟩
noncomputable def b3Y:Params→Qe:=fun P=>
(nat_lit 2,o2)::(nat_lit 3,o3 P)::(nat_lit 4,o4)::(nat_lit 15,kU)::(nat_lit 17,o17)::(nat_lit 18,kU)::(nat_lit 20,o20)::(nat_lit 22,kU)::(nat_lit 24,o24)::(nat_lit 25,kU)::(nat_lit 27,o27)::(nat_lit 28,o28)::(nat_lit 29,kU)::(nat_lit 32,o32)::(nat_lit 33,o33)::(nat_lit 34,kU)::(nat_lit 37,o37)::(nat_lit 38,o38)::(nat_lit 39,kU)::(nat_lit 41,o41)::(nat_lit 42,kU)::(nat_lit 44,o44)::(nat_lit 45,o45)::(nat_lit 46,kU)::(nat_lit 48,o48)::(nat_lit 49,kU)::(nat_lit 51,o51)::(nat_lit 52,o52)::(nat_lit 53,o53)::(nat_lit 54,kU)::(nat_lit 57,o57)::(nat_lit 58,o58)::(nat_lit 59,kU)::(nat_lit 61,o61)::(nat_lit 62,o62)::(nat_lit 64,o64)::(nat_lit 65,o65)::(nat_lit 66,kU)::(nat_lit 69,o69)::(nat_lit 70,o70)::(nat_lit 71,kU)::(nat_lit 74,o74)::(nat_lit 75,o75)::(nat_lit 76,kU)::(nat_lit 79,o79)::(nat_lit 80,o80)::(nat_lit 81,kU)::(nat_lit 83,o83)::(nat_lit 84,kU)::(nat_lit 86,o86)::(nat_lit 87,o87)::(nat_lit 88,kU)::(nat_lit 90,o90)::(nat_lit 91,kU)::(nat_lit 93,o93)::(nat_lit 94,o94)::(nat_lit 95,kU)::(nat_lit 98,o98)::(nat_lit 99,o99)::(nat_lit 100,kU)::(nat_lit 102,c4t)::(nat_lit 103,kU)::(nat_lit 105,c6I)::(nat_lit 106,c4m)::(nat_lit 114,kU)::(nat_lit 116,c3X)::(nat_lit 117,kU)::(nat_lit 119,c5z)::(nat_lit 120,c4S)::(nat_lit 121,kU)::(nat_lit 123,c3D)::(nat_lit 124,kU)::(nat_lit 126,c6b)::(nat_lit 127,c6r)::(nat_lit 128,kU)::(nat_lit 130,c6n)::(nat_lit 131,kU)::(nat_lit 133,c7e)::(nat_lit 134,c6F)::(nat_lit 135,kU)::(nat_lit 137,c5A)::(nat_lit 138,kU)::(nat_lit 140,c4R)::(nat_lit 141,c3H)::(nat_lit 142,kU)::(nat_lit 144,c3t)::(nat_lit 145,kU)::(nat_lit 147,c5c)::(nat_lit 148,c5K)::(nat_lit 149,kU)::(nat_lit 151,c7c)::(nat_lit 152,kU)::(nat_lit 154,c5a)::(nat_lit 155,c4w)::(nat_lit 156,kU)::(nat_lit 158,c6a)::(nat_lit 159,kU)::(nat_lit 161,c7q)::(nat_lit 162,c6Y)::(nat_lit 163,kU)::(nat_lit 166,c5W)::(nat_lit 167,c6L)::(nat_lit 168,kU)::(nat_lit 170,c4C)::(nat_lit 171,kU)::(nat_lit 173,c6U)::(nat_lit 174,c3s)::(nat_lit 175,c6s)::(nat_lit 176,c7A P)::(nat_lit 177,c4z)::(nat_lit 178,c4l)::(nat_lit 179,c4c)::(nat_lit 189,kU)::(nat_lit 191,c6t)::(nat_lit 192,kU)::(nat_lit 194,c4h)::(nat_lit 195,c4i)::(nat_lit 196,kU)::(nat_lit 198,c3G)::(nat_lit 199,kU)::(nat_lit 201,c5p)::(nat_lit 203,kU)::(nat_lit 205,c4v)::(nat_lit 206,kU)::(nat_lit 208,c5l)::(nat_lit 209,c5C)::(nat_lit 210,kU)::(nat_lit 212,c4p)::(nat_lit 213,kU)::(nat_lit 215,c6v)::(nat_lit 216,c4B)::(nat_lit 217,kU)::(nat_lit 219,c5o)::(nat_lit 220,kU)::(nat_lit 222,c5T)::(nat_lit 224,kU)::(nat_lit 226,c4T)::(nat_lit 227,kU)::(nat_lit 229,c4f)::(nat_lit 231,kU)::(nat_lit 233,c7u)::(nat_lit 234,kU)::(nat_lit 236,c4U)::(nat_lit 238,kU)::(nat_lit 240,c3A)::(nat_lit 241,kU)::(nat_lit 243,c7t)::(nat_lit 245,c7b)::(nat_lit 246,c7f P)::(nat_lit 247,c3j)::(nat_lit 248,c2C)::(nat_lit 249,c2E)::(nat_lit 252,c4K)::(nat_lit 259,kU)::(nat_lit 261,c5F)::(nat_lit 262,kU)::(nat_lit 264,c7C)::(nat_lit 265,c6d)::(nat_lit 266,kU)::(nat_lit 268,c3K)::(nat_lit 269,kU)::(nat_lit 271,c4W)::(nat_lit 273,kU)::(nat_lit 275,c7v)::(nat_lit 276,kU)::(nat_lit 278,c7E)::(nat_lit 279,c6S)::(nat_lit 280,kU)::(nat_lit 282,c5y)::(nat_lit 283,kU)::(nat_lit 285,c6E)::(nat_lit 287,kU)::(nat_lit 289,c6c)::(nat_lit 290,kU)::(nat_lit 292,c3L)::(nat_lit 294,kU)::(nat_lit 295,c3W P)::(nat_lit 296,c3w)::(nat_lit 299,c5N)::(nat_lit 306,kU)::(nat_lit 308,c4r)::(nat_lit 309,kU)::(nat_lit 311,c5w)::(nat_lit 313,kU)::(nat_lit 315,c6w)::(nat_lit 316,kU)::(nat_lit 318,c4P)::(nat_lit 319,c4D)::(nat_lit 320,kU)::(nat_lit 322,c5g)::(nat_lit 323,kU)::(nat_lit 325,c7z)::(nat_lit 327,kU)::(nat_lit 328,c7D P)::(nat_lit 329,c3v)::(nat_lit 332,c5m)::(nat_lit 339,kU)::(nat_lit 341,c7o)::(nat_lit 342,kU)::(nat_lit 344,c3Z)::(nat_lit 346,kU)::(nat_lit 348,c4a)::(nat_lit 349,kU)::(nat_lit 351,c4u)::(nat_lit 353,kU)::(nat_lit 354,c6M P)::(nat_lit 355,c6Q)::(nat_lit 358,c6f)::(nat_lit 365,kU)::(nat_lit 367,c4o)::(nat_lit 368,kU)::(nat_lit 370,c5v)::(nat_lit 372,kU)::(nat_lit 374,c6l)::(nat_lit 375,kU)::(nat_lit 377,c4Z)::(nat_lit 378,c5O)::(nat_lit 379,kU)::(nat_lit 381,c4q)::(nat_lit 382,kU)::(nat_lit 384,c6j)::(nat_lit 386,kU)::(nat_lit 387,c3C P)::(nat_lit 388,c5j)::(nat_lit 398,kU)::(nat_lit 400,c5B)::(nat_lit 401,kU)::(nat_lit 403,c6N)::(nat_lit 404,c5U)::(nat_lit 405,kU)::(nat_lit 407,c4j)::(nat_lit 408,kU)::(nat_lit 410,c6X)::(nat_lit 411,c6u)::(nat_lit 412,kU)::(nat_lit 414,c6T)::(nat_lit 415,kU)::(nat_lit 417,c4L)::(nat_lit 418,c4g)::(nat_lit 419,kU)::(nat_lit 422,c6x)::(nat_lit 423,c5S)::(nat_lit 424,kU)::(nat_lit 426,c5Q)::(nat_lit 427,kU)::(nat_lit 429,c4E)::(nat_lit 430,c5L)::(nat_lit 431,kU)::(nat_lit 433,c6o)::(nat_lit 434,kU)::(nat_lit 436,c4n)::(nat_lit 437,c6D)::(nat_lit 438,kU)::(nat_lit 440,c3T)::(nat_lit 441,kU)::(nat_lit 443,c4I)::(nat_lit 444,c6O)::(nat_lit 445,kU)::(nat_lit 447,c4M)::(nat_lit 448,kU)::(nat_lit 450,c3u)::(nat_lit 452,c7p)::(nat_lit 453,c3B P)::(nat_lit 454,c4J)::(nat_lit 455,c3N)::(nat_lit 456,c6R)::(nat_lit 459,kU)::(nat_lit 461,c6k)::(nat_lit 462,kU)::(nat_lit 464,c4O)::(nat_lit 465,c6g)::(nat_lit 466,kU)::(nat_lit 468,c7k)::(nat_lit 469,kU)::(nat_lit 471,c3E)::(nat_lit 472,c6i)::(nat_lit 473,kU)::(nat_lit 475,c5D)::(nat_lit 476,kU)::(nat_lit 478,c5k)::(nat_lit 479,c5I)::(nat_lit 480,kU)::(nat_lit 482,c4H)::(nat_lit 483,kU)::(nat_lit 485,c5Z)::(nat_lit 486,c5R)::(nat_lit 487,kU)::(nat_lit 490,c3M)::(nat_lit 491,c3P)::(nat_lit 492,kU)::(nat_lit 495,c5e)::(nat_lit 496,c3F)::(nat_lit 497,kU)::(nat_lit 499,c4A)::(nat_lit 500,kU)::(nat_lit 502,c5x)::(nat_lit 503,c4V)::(nat_lit 504,kU)::(nat_lit 507,c3R)::(nat_lit 508,c7s)::(nat_lit 509,kU)::(nat_lit 511,c3J)::(nat_lit 512,kU)::(nat_lit 514,c6Z)::(nat_lit 515,c5t)::(nat_lit 516,kU)::(nat_lit 519,c6W)::(nat_lit 520,c3O)::(nat_lit 521,kU)::(nat_lit 524,c3y)::(nat_lit 525,c3Y)::(nat_lit 526,kU)::(nat_lit 528,c6m)::(nat_lit 529,kU)::(nat_lit 531,c5X)::(nat_lit 532,c5H)::(nat_lit 533,kU)::(nat_lit 535,c7r)::(nat_lit 536,kU)::(nat_lit 538,c4F)::(nat_lit 539,c6J)::(nat_lit 540,kU)::(nat_lit 542,c7i)::(nat_lit 543,kU)::(nat_lit 545,c7a)::(nat_lit 546,c6p)::(nat_lit 547,kU)::(nat_lit 549,c4d)::(nat_lit 550,kU)::(nat_lit 552,c4e)::(nat_lit 553,c6H)::(nat_lit 554,kU)::(nat_lit 557,c6P)::(nat_lit 558,c7h)::(nat_lit 559,kU)::(nat_lit 562,c4b)::(nat_lit 563,c7l)::(nat_lit 564,kU)::(nat_lit 567,c5V)::(nat_lit 568,c4Y)::(nat_lit 569,kU)::(nat_lit 572,c3I)::(nat_lit 573,c3V)::(nat_lit 574,kU)::(nat_lit 577,c3r)::(nat_lit 578,c5J)::(nat_lit 579,kU)::(nat_lit 581,c5n)::(nat_lit 582,kU)::(nat_lit 584,c7w)::(nat_lit 585,c5Y)::(nat_lit 586,kU)::(nat_lit 588,c6A)::(nat_lit 589,kU)::(nat_lit 591,c6G)::(nat_lit 592,c7d)::(nat_lit 593,kU)::(nat_lit 595,c5b)::(nat_lit 596,kU)::(nat_lit 598,c4X)::(nat_lit 599,c6h)::(nat_lit 600,kU)::(nat_lit 602,c6e)::(nat_lit 603,kU)::(nat_lit 605,c3z)::(nat_lit 606,c6C)::(nat_lit 607,kU)::(nat_lit 610,c3Q)::(nat_lit 611,c4N)::(nat_lit 612,kU)::(nat_lit 615,c6V)::(nat_lit 616,c5E)::(nat_lit 617,kU)::(nat_lit 620,c6q)::(nat_lit 621,c5h)::[]
noncomputable abbrev c3e:List Addr:=[2,3,4,15,17,18,20,22,24,25,27,28,29,32,33,34,37,38,39,41,42,44,45,46,48,49,51,52,53,54,57,58,59,61,62,64,65,66,69,70,71,74,75,76,79,80,81,83,84,86,87,88,90,91,93,94,95,98,99,100,102,103,105,106,114,116,117,119,120,121,123,124,126,127,128,130,131,133,134,135,137,138,140,141,142,144,145,147,148,149,151,152,154,155,156,158,159,161,162,163,166,167,168,170,171,173,174,175,176,177,178,179,189,191,192,194,195,196,198,199,201,203,205,206,208,209,210,212,213,215,216,217,219,220,222,224,226,227,229,231,233,234,236,238,240,241,243,245,246,247,248,249,252,259,261,262,264,265,266,268,269,271,273,275,276,278,279,280,282,283,285,287,289,290,292,294,295,296,299,306,308,309,311,313,315,316,318,319,320,322,323,325,327,328,329,332,339,341,342,344,346,348,349,351,353,354,355,358,365,367,368,370,372,374,375,377,378,379,381,382,384,386,387,388,398,400,401,403,404,405,407,408,410,411,412,414,415,417,418,419,422,423,424,426,427,429,430,431,433,434,436,437,438,440,441,443,444,445,447,448,450,452,453,454,455,456,459,461,462,464,465,466,468,469,471,472,473,475,476,478,479,480,482,483,485,486,487,490,491,492,495,496,497,499,500,502,503,504,507,508,509,511,512,514,515,516,519,520,521,524,525,526,528,529,531,532,533,535,536,538,539,540,542,543,545,546,547,549,550,552,553,554,557,558,559,562,563,564,567,568,569,572,573,574,577,578,579,581,582,584,585,586,588,589,591,592,593,595,596,598,599,600,602,603,605,606,607,610,611,612,615,616,617,620,621]
noncomputable def a5g:Params→Qe:=fun P=>(nat_lit 60,kN)::b3Y P
noncomputable abbrev a4J:List Addr:=60::c3e
theorem a6b:∀P,a4J=(a5g P).map (·.1):=fun _=>by kernel_rfl
noncomputable def b7Q:Program:=PySem.W.view PySem.Challenge.pw_mostwise_k43_answers [0,2,3,4,6,8,11,13,14,15,16,17,18,19,20,21,22,24,25,26,27,28,30,32,33,34,35,36,37,38,39,40,41,42,43,44,45,46,47,48,49,50,51,52,53,54,55,56,57,58]
theorem c1t:∀w:World,(fencedOpening treeTable PySem.Challenge.pw_mostwise_k43_answers w 8044).map (fun s=>(s.heap,s.gens,s.drawn,s.toks))=some (H0 w.params,#[],{},181):=fun w=>by kernel_rfl
theorem a5d {tb:String→Option Builtin} {p:Program} {w:World} {n₀:Nat} {ann:Option Value} {env:Env} {q:Pos} {n N a l:Nat} {s s' r:Shared} {b:List Stmt} {c:Code} {pos p':Pos} (h:segRun tb p w n₀ ann 1 n s (piecesOf ((b.drop a).take l) env c pos [topFrame q])=some (.next,s',c,p'))
  (k:topRun tb p w n₀ ann N s' (restOf (b.drop (a+l)) env c p' [topFrame q])=some r):topRun tb p w n₀ ann (n+N) s (restOf (b.drop a) env c pos [topFrame q])=some r:=by
 have e:=piece_app h k
 rwa [←List.drop_drop,List.take_append_drop] at e
noncomputable def c0U (P:Params):Heap:=⟨⟨o0 P::o1 P::o2::p3 P::o4::o5::o6::kU::kN::o9::o10::kU::kN::o13::o14::[]⟩,{}⟩
noncomputable def b0e (P:Params):Heap:=⟨⟨o0 P::o1 P::o2::p3 P::o4::o5::o6::kU::kN::o9::o10::kU::kN::o13::o14::[]⟩,{}⟩
noncomputable def b9H:Env:={scope:=PySem.Challenge.pw_mostwise_k43_answers.main.scope,locals:=mainNs,globals:=mainNs,cells:=[],code:=(.ref 13),frame:=some 14}
noncomputable def a5j:Code:=.body (behindTheImports PySem.Challenge.pw_mostwise_k43_answers) b9H
noncomputable abbrev tFr:List Frame:=[topFrame ⟨0,0,0,0⟩]
noncomputable abbrev c3h (i:Nat) (q:Pos):Thread:=restOf ((behindTheImports PySem.Challenge.pw_mostwise_k43_answers).drop i) b9H a5j q tFr
theorem c2L:∀(w:World) (os:OsState),topGo treeTable PySem.Challenge.pw_mostwise_k43_answers w 11 (some (.ref 6)) 12 ⟨H0 w.params,#[],{},181,os⟩ (topStub PySem.Challenge.pw_mostwise_k43_answers)=some (⟨c0U w.params,#[],{},187,os⟩,⟨denote treeTable a5j,a5j,⟨0,0,0,0⟩,tFr⟩):=fun w os=>by kernel_rfl
theorem b6s:∀(w:World) (os:OsState),segRun treeTable PySem.Challenge.pw_mostwise_k43_answers w 11 (some (.ref 6)) 1 1 ⟨c0U w.params,#[],{},187,os⟩ (blockOf (behindTheImports PySem.Challenge.pw_mostwise_k43_answers) b9H a5j ⟨0,0,0,0⟩ tFr)=some (.next,⟨b0e w.params,#[],{},187,os⟩,a5j,⟨0,0,0,0⟩):=fun w os=>by kernel_rfl
def g13 (P:Params):Obj:=kQ [kE P "__name__" 165 (.str "mostwise.rules" 408),kE P "__doc__" 166 .none,kE P "__package__" 167 .none,kE P "__loader__" 168 (.builtin "__main__.__loader__#opaque"),kE P "__spec__" 169 .none,kE P "__annotations__" 170 (.ref 6),kE P "__builtins__" 171 (.ref 4),kE P "__file__" 173 (.str "/claim/cut.py" 172),kE P "__cached__" 174 .none,kE P "_wall" 193 (.ref 21),kE P "keyed" 204 (.ref 28),kE P "all_among" 210 (.ref 33),kE P "any_among" 216 (.ref 38),kE P "opposite" 225 (.ref 45),kE P "heads_by_premise" 237 (.ref 52),kE P "sure_rounds" 245 (.ref 58),kE P "sure_steps" 253 (.ref 65),kE P "HELD" 257 (.str "held" 256),kE P "REFUSED" 259 (.str "refused" 258),kE P "is_beaten" 265 (.ref 70),kE P "holds_by" 271 (.ref 75),kE P "refused_by" 277 (.ref 80),kE P "words_now" 290 (.ref 87),kE P "touched" 301 (.ref 94),kE P "most_rounds" 307 (.ref 99),kE P "answer_by" 315 (.ref 106),kE P "Answers" 407 (.ref 177),kE P "Rule" 494 (.ref 247)] 28
def c8l:Obj:=kL [(1,0,20),(5,0,27),(10,0,32),(12,0,37),(15,0,44),(18,0,51),(25,0,57),(39,0,64),(45,0,69),(47,0,74),(54,0,79),(61,0,86),(69,0,93),(76,0,98),(94,0,105),(100,0,112),(133,0,187)]
noncomputable def c2R:Obj:=⟨(.type "type"),none,(.cls ⟨"Rule",[(.type "object")],[(.ref 247),(.type "object")],246,"Rule",true,[],[],false,none,false⟩),#[none,none,(some (.str "Rule" 410)),(some (.str "Rule" 418)),(some (.builtin "object.__new__")),(some (.bool true))]⟩
noncomputable def c5s (P:Params):Heap:=⟨⟨[o0 P,o1 P,o2,g13 P]++S0 P++[c8l]++S1 P++[c2R,c2C,c2E,c3c,c3a]⟩,{}⟩
theorem c7O:∀(w:World) (os:OsState),segRun treeTable PySem.Challenge.pw_mostwise_k43_answers w 11 (some (.ref 6)) 1 1426 ⟨b0e w.params,#[],{},187,os⟩ (piecesOf (((behindTheImports PySem.Challenge.pw_mostwise_k43_answers).drop 0).take 25) b9H a5j ⟨0,0,0,0⟩ tFr)=some (.next,⟨c5s w.params,#[],{},495,os⟩,a5j,⟨133,0,159,16⟩):=fun w os=>by kernel_rfl
def g23 (P:Params):Obj:=kQ [kE P "__name__" 165 (.str "mostwise.ground" 659),kE P "__doc__" 166 .none,kE P "__package__" 167 .none,kE P "__loader__" 168 (.builtin "__main__.__loader__#opaque"),kE P "__spec__" 169 .none,kE P "__annotations__" 170 (.ref 6),kE P "__builtins__" 171 (.ref 4),kE P "__file__" 173 (.str "/claim/cut.py" 172),kE P "__cached__" 174 .none,kE P "_wall" 193 (.ref 21),kE P "keyed" 204 (.ref 28),kE P "all_among" 210 (.ref 33),kE P "any_among" 216 (.ref 38),kE P "opposite" 225 (.ref 45),kE P "heads_by_premise" 237 (.ref 52),kE P "sure_rounds" 245 (.ref 58),kE P "sure_steps" 253 (.ref 65),kE P "HELD" 257 (.str "held" 256),kE P "REFUSED" 259 (.str "refused" 258),kE P "is_beaten" 265 (.ref 70),kE P "holds_by" 271 (.ref 75),kE P "refused_by" 277 (.ref 80),kE P "words_now" 290 (.ref 87),kE P "touched" 301 (.ref 94),kE P "most_rounds" 307 (.ref 99),kE P "answer_by" 315 (.ref 106),kE P "Answers" 407 (.ref 177),kE P "Rule" 494 (.ref 247),kE P "Fact" 548 (.ref 296),kE P "Sure" 587 (.ref 329),kE P "Most" 619 (.ref 355),kE P "Block" 658 (.ref 388),kE P "Ground" 750 (.ref 454)] 33
def c8L:Obj:=kL [(1,0,20),(5,0,27),(10,0,32),(12,0,37),(15,0,44),(18,0,51),(25,0,57),(39,0,64),(45,0,69),(47,0,74),(54,0,79),(61,0,86),(69,0,93),(76,0,98),(94,0,105),(100,0,112),(133,0,187),(160,0,257),(176,0,304),(186,0,337),(193,0,363),(204,0,396)]
noncomputable def c3U (P:Params):Heap:=⟨⟨[o0 P,o1 P,o2,g23 P]++S0 P++[c8L]++S1 P++[c3j,c2C,c2E,c3c,c3a]++S2 P⟩,{}⟩
theorem c8m:∀(w:World) (os:OsState),segRun treeTable PySem.Challenge.pw_mostwise_k43_answers w 11 (some (.ref 6)) 1 1719 ⟨c5s w.params,#[],{},495,os⟩ (piecesOf (((behindTheImports PySem.Challenge.pw_mostwise_k43_answers).drop 25).take 6) b9H a5j ⟨133,0,159,16⟩ tFr)=some (.next,⟨c3U w.params,#[],{},751,os⟩,a5j,⟨204,0,239,16⟩):=fun w os=>by kernel_rfl
theorem c2T:∀(w:World) (os:OsState),topRun treeTable PySem.Challenge.pw_mostwise_k43_answers w 11 (some (.ref 6)) 819 ⟨c3U w.params,#[],{},751,os⟩ (c3h 31 ⟨204,0,239,16⟩)=some ⟨H1 w.params,#[],{},992,os⟩:=fun w os=>by kernel_rfl
theorem c3d:∀(w:World) (os:OsState),topRun treeTable PySem.Challenge.pw_mostwise_k43_answers w 11 (some (.ref 6)) 3977 ⟨H0 w.params,#[],{},181,os⟩ (topStub PySem.Challenge.pw_mostwise_k43_answers)=some ⟨H1 w.params,#[],{},992,os⟩:=fun w os=>go_top (n:=12) (c2L w os) (piece_block (n:=1) (b6s w os) (a5d (c7O w os) (a5d (c8m w os) (c2T w os))))
end
end K43
namespace L2
open PySem PySem.Spec PyProof.Rows
abbrev Key:=Sum Int Str
def a9b:Key→Value→Bool
 | .inl k,v=>Value.isInt k v
 | .inr x,v=>Value.isStrOf x v
def d0x (w:World):Key→Int
 | .inl k=>hashInt k
 | .inr x=>hashStr w x
theorem a0L:∀{k:Key} {v:Value},a9b k v=true→(∃i t,k=Sum.inl i∧v=Value.int i t)∨(∃x t,k=Sum.inr x∧v=Value.str x t)
 | .inl i,v,h=>by
  obtain ⟨t,e⟩:=Value.isInt_shape (k:=i) (v:=v) h
  exact .inl ⟨i,t,rfl,e⟩
 | .inr x,v,h=>by
  obtain ⟨t,e⟩:=Value.isStrOf_shape (x:=x) (v:=v) h
  exact .inr ⟨x,t,rfl,e⟩
theorem b2o (i:Int) (t:Tok):a9b (.inl i) (.int i t)=true:=by simp [a9b,Value.isInt]
theorem b0L (x:Str) (t:Tok):a9b (.inr x) (.str x t)=true:=by simp [a9b,Value.isStrOf]
theorem b9G (a b:Int):decide ((Sum.inl a:Key)=Sum.inl b)=(a == b):=by
 by_cases e:a=b
 ·subst e;simp
 ·have h:¬(Sum.inl a:Key)=Sum.inl b:=fun q=>e (Sum.inl.inj q)
  rw [decide_eq_false h]
  exact (beq_eq_false_iff_ne.mpr e).symm
theorem c0j (a b:Str):decide ((Sum.inr a:Key)=Sum.inr b)=decide (a=b):=by
 by_cases e:a=b
 ·subst e;simp
 ·have h:¬(Sum.inr a:Key)=Sum.inr b:=fun q=>e (Sum.inr.inj q)
  rw [decide_eq_false h,decide_eq_false e]
theorem c2e (a:Int) (b:Str):decide ((Sum.inl a:Key)=Sum.inr b)=false:=decide_eq_false (fun q=>nomatch q)
theorem b9y (a:Str) (b:Int):decide ((Sum.inr a:Key)=Sum.inl b)=false:=decide_eq_false (fun q=>nomatch q)
def a0m (prog:Program) (w:World):PySem.KeyKind prog w Key where
 is:=a9b
 hash:=d0x w
 inj:=fun v a b ha hb=>by
  rcases a0L ha with ⟨i,t,rfl,rfl⟩ | ⟨x,t,rfl,rfl⟩
  ·rcases a0L hb with ⟨j,u,rfl,e⟩ | ⟨y,u,rfl,e⟩
   ·injection e with e1 _;rw [e1]
   ·exact nomatch e
  ·rcases a0L hb with ⟨j,u,rfl,e⟩ | ⟨y,u,rfl,e⟩
   ·exact nomatch e
   ·injection e with e1 _;rw [e1]
 byValue:=fun k v h=>by
  rcases a0L h with ⟨i,t,rfl,rfl⟩ | ⟨x,t,rfl,rfl⟩<;>rfl
 pyHash:=fun hv h=>by
  rcases a0L hv with ⟨i,t,rfl,rfl⟩ | ⟨x,t,rfl,rfl⟩
  ·exact wpAny_pyHash_int h
  ·exact wpAny_pyHash_str h
 eqBool:=fun hu hv h=>by
  rcases a0L hu with ⟨i,t,rfl,rfl⟩ | ⟨x,t,rfl,rfl⟩
  ·rcases a0L hv with ⟨j,u,rfl,rfl⟩ | ⟨y,u,rfl,rfl⟩
   ·rw [b9G] at h;exact wpAny_eqBool_int h
   ·rw [c2e] at h;exact Yn.int_str i t y u _ _ _ _ h
  ·rcases a0L hv with ⟨j,u,rfl,rfl⟩ | ⟨y,u,rfl,rfl⟩
   ·rw [b9y] at h;exact Yn.str_int x t j u _ _ _ _ h
   ·rw [c0j] at h;exact wpAny_eqBool_str h
 «strs»:=fun k x t v h=>by
  rcases a0L h with ⟨i,u,rfl,e⟩ | ⟨y,u,rfl,e⟩
  ·exact nomatch e
  ·injection e with e1 _
   subst e1
   cases v<;>rfl
theorem a7j (prog:Program) (w:World) (i:Int) (t:Tok):(a0m prog w).is (.inl i) (.int i t)=true:=b2o i t
theorem a6U (prog:Program) (w:World) (x:Str) (t:Tok):(a0m prog w).is (.inr x) (.str x t)=true:=b0L x t
inductive V where
 | non | bl (b:Bool) | int (i:Int) | str (x:Str) | byt (b:Array UInt8) | flt (b:UInt64) | ref (a:Addr) | ty (n:String)
 deriving DecidableEq
def a0Q:V→Value→Prop
 | .non,u=>u=Value.none
 | .bl b,u=>u=Value.bool b
 | .int i,u=>∃t,u=Value.int i t
 | .str x,u=>∃t,u=Value.str x t
 | .byt b,u=>∃t,u=Value.bytes b t
 | .flt b,u=>∃t,u=Value.float b t
 | .ref a,u=>u=Value.ref a
 | .ty n,u=>u=Value.type n
abbrev a0Y:List V→List Value→Prop:=Paired a0Q
theorem a0Y.length {xs:List V} {us:List Value} (r:a0Y xs us):xs.length=us.length:=Paired.length r
theorem a0Y.get:∀{xs:List V} {us:List Value} {i:Nat} {x:V},a0Y xs us→xs[i]?=some x→∃u,us[i]?=some u∧a0Q x u
 | _,_,_,_,.nil,e=>by simp at e
 | _,_,0,_,.cons r _,e=>by simp at e;subst e;exact ⟨_,rfl,r⟩
 | _,_,i+1,x,.cons _ t,e=>by
  obtain ⟨u,h1,h2⟩:=a0Y.get (i:=i) (x:=x) t (by simpa using e)
  exact ⟨u,by simpa using h1,h2⟩
theorem a0Y.append:∀{xs ys:List V} {us ws:List Value},a0Y xs us→a0Y ys ws→a0Y (xs++ys) (us++ws)
 | _,_,_,_,.nil,s=>s
 | _,_,_,_,.cons r t,s=>.cons r (a0Y.append t s)
theorem a0Y.take:∀{xs:List V} {us:List Value} (n:Nat),a0Y xs us→a0Y (xs.take n) (us.take n)
 | _,_,0,_=>.nil
 | _,_,_+1,.nil=>.nil
 | _,_,n+1,.cons r t=>.cons r (a0Y.take n t)
theorem a0Y.drop:∀{xs:List V} {us:List Value} (n:Nat),a0Y xs us→a0Y (xs.drop n) (us.drop n)
 | _,_,0,r=>r
 | _,_,_+1,.nil=>.nil
 | _,_,n+1,.cons _ t=>a0Y.drop n t
def a4F:Option V→Option Value→Prop
 | some v,some u=>a0Q v u
 | none,none=>True
 | _,_=>False
def KV {κ:Type}:List (κ×V)→List (κ×Value)→Prop:=Paired fun (p:κ×V) (q:κ×Value)=>p.1=q.1∧a0Q p.2 q.2
def kV:Key→V
 | .inl i=>.int i
 | .inr x=>.str x
inductive HO where
 | lst (xs:List V)
 | tup (xs:List V)
 | dK (kvs:List (Key×V)) | dT (kvs:List (List Key×V))
 | set (S:Int→Bool) (n:Nat)
 | ins (C dx:Addr) (fs:List (Str×V))
 | own (x:Addr)
 | xd (fs:List (Str×V))
 | met (f x:Addr)
 | rng (lo hi:Int)
 | frz (o:Obj) (u:HO)
 | tbl (ps:Array Value)
 | ext (φ:Heap→Prop)
abbrev Hp:=Addr→Option HO
def upd (H:Hp) (a:Addr) (o:HO):Hp:=fun b=>if b=a then some o else H b
theorem a0d {H:Hp} {a:Addr} {o:HO}:upd H a o a=some o:=by unfold upd;rw [if_pos rfl]
theorem a0a {H:Hp} {a b:Addr} {o:HO} (h:b≠a):upd H a o b=H b:=by unfold upd;rw [if_neg h]
theorem b7G {H:Hp} {a:Addr} {o u:HO}:upd (upd H a o) a u=upd H a u:=by
 funext b;unfold upd;split<;>rfl
theorem a0u {H:Hp} {a b:Addr} {o u:HO} (h:H a=some o) (h':H b=some u) (d:o≠u):a≠b:=by
 intro e;subst e;rw [h] at h';exact d (Option.some.inj h')
theorem a0b {H:Hp} {a b:Addr} {o:HO} (h:H a=some o) (h':H b=none):a≠b:=by
 intro e;subst e;rw [h] at h';cases h'
section
variable (P:Program) (w:World)
def a1c (H:Hp) (h:Heap) (a:Addr):HO→Prop
 | .lst xs=>xs.length≤sizeLine∧∃(its:List Value) (n:Nat),a0Y xs its∧h.get? a=some {cls:=.type "list",data:=.seq its.toArray n}
 | .tup xs=>xs.length≤sizeLine∧∃its:List Value,a0Y xs its∧IsTup h a its.toArray
 | .dK kvs=>kvs.length≤sizeLine∧(a == sysModules)=false∧∃vs,KV kvs vs∧h.DictOf (a0m P w) a vs
 | .dT kvs=>kvs.length≤sizeLine∧(a == sysModules)=false∧∃xs:List (List Key×Addr×Value),
   Paired (fun (p:List Key×V) (q:List Key×Addr×Value)=>p.1=q.1∧H q.2.1=some (.tup (p.1.map kV))∧a0Q p.2 q.2.2) kvs xs∧
   ∃o es ep,h.get? a=some o∧o.ExactDict∧o.data=.dict es ep∧es.toList=xs.map (entryOfKey (tupleKind (a0m P w)))∧(xs.map (·.1)).Nodup
 | .set S n=>h.SetOf (intKind P w) a S n
 | .ins C dx fs=>H dx=some (.own a)∧fs.length≤1000∧dx≠a∧h.get? a=some (Zq C dx)∧
   ∃mA,h.Ns1 dx mA∧(∀f,a4F (fs.lookup f) (mA f))∧PySem.Within mA (fs.map (·.1))
 | .own _=>∃o,h.get? a=some o
 | .xd fs=>∃mA,h.Ns1 a mA∧∀f,a4F (fs.lookup f) (mA f)
 | .rng lo hi=>∃t u v,h.get? a=some {cls:=.type "range",data:=.fields #[.int lo t,.int hi u,.int 1 v]}
 | .frz o u=>h.get? a=some o∧a1c H h a u
 | .tbl ps=>h.get? a=some {cls:=.none,data:=.fields ps}
 | .met f x=>h.get? a=some (Vj (.ref f) (.ref x))
 | .ext φ=>φ h∧(∃o,h.get? a=some o)∧∀h1 h2:Heap,φ h1→(∀o,h1.get? a=some o→h2.get? a=some o)→φ h2
def HOk (H:Hp) (h:Heap):Prop:=∀a o,H a=some o→a1c P w H h a o
end
section
variable {P:Program} {w:World} {H H':Hp} {h h':Heap} {a:Addr} {o:HO}
theorem a1c.lt (x:a1c P w H h a o):a < h.objs.size:=by
 cases o with
 | lst xs=>obtain ⟨_,_,_,_,e⟩:=x;exact Qz e
 | tup xs=>obtain ⟨_,_,_,p⟩:=x;exact p.lt
 | dK kvs=>obtain ⟨_,_,_,_,o,_,_,e,_⟩:=x;exact Qz e
 | dT kvs=>obtain ⟨_,_,_,_,o,_,_,e,_⟩:=x;exact Qz e
 | set S n=>obtain ⟨o,_,_,_,e,_⟩:=x;exact Qz e
 | ins C dx fs=>obtain ⟨_,_,_,e,_⟩:=x;exact Qz e
 | own y=>obtain ⟨_,e⟩:=x;exact Qz e
 | xd fs=>obtain ⟨_,⟨_,_,_,e,_⟩,_⟩:=x;exact Qz e
 | rng lo hi=>obtain ⟨_,_,_,e⟩:=x;exact Qz e
 | frz ob u=>obtain ⟨e,_⟩:=x;exact Qz e
 | tbl ps=>exact Qz (show h.get? a=some _ from x)
 | met f y=>exact Qz (show h.get? a=some _ from x)
 | ext φ=>obtain ⟨_,⟨_,e⟩,_⟩:=x;exact Qz e
theorem Paired.mapP {α β:Type} {F G:α→β→Prop}:∀{l₁:List α} {l₂:List β},Paired F l₁ l₂→(∀a b,F a b→G a b)→Paired G l₁ l₂
 | _,_,.nil,_=>.nil
 | _,_,.cons r t,f=>.cons (f _ _ r) (Paired.mapP t f)
theorem a1c.stay (x:a1c P w H h a o) (k:∀b u,(b=a∨H b=some (.own a))→h.get? b=some u→h'.get? b=some u)
  (ho:∀b,H b=some (.own a)→H' b=some (.own a)) (ht:∀b xs,H b=some (.tup xs)→H' b=some (.tup xs)):a1c P w H' h' a o:=by
 induction o with
 | lst xs=>obtain ⟨z,its,n,r,e⟩:=x;exact ⟨z,its,n,r,k _ _ (.inl rfl) e⟩
 | tup xs=>obtain ⟨z,its,r,ob,e,c⟩:=x;exact ⟨z,its,r,ob,k _ _ (.inl rfl) e,c⟩
 | dK kvs=>obtain ⟨z,y,vs,r,ob,es,ep,e,c⟩:=x;exact ⟨z,y,vs,r,ob,es,ep,k _ _ (.inl rfl) e,c⟩
 | dT kvs=>
  obtain ⟨z,y,xs,r,ob,es,ep,e,c⟩:=x
  exact ⟨z,y,xs,Paired.mapP r fun p q z=>⟨z.1,ht _ _ z.2.1,z.2.2⟩,ob,es,ep,k _ _ (.inl rfl) e,c⟩
 | set S n=>obtain ⟨ob,es,ep,t,e,c⟩:=x;exact ⟨ob,es,ep,t,k _ _ (.inl rfl) e,c⟩
 | ins C dx fs=>
  obtain ⟨d,z,ne,e,mA,⟨od,es,ep,e2,c⟩,r⟩:=x
  exact ⟨ho _ d,z,ne,k _ _ (.inl rfl) e,mA,⟨od,es,ep,k _ _ (.inr d) e2,c⟩,r⟩
 | own y=>obtain ⟨ob,e⟩:=x;exact ⟨ob,k _ _ (.inl rfl) e⟩
 | xd fs=>obtain ⟨mA,⟨od,es,ep,e,c⟩,r⟩:=x;exact ⟨mA,⟨od,es,ep,k _ _ (.inl rfl) e,c⟩,r⟩
 | rng lo hi=>obtain ⟨t,u,v,e⟩:=x;exact ⟨t,u,v,k _ _ (.inl rfl) e⟩
 | frz ob u ih=>obtain ⟨e,q⟩:=x;exact ⟨k _ _ (.inl rfl) e,ih q⟩
 | tbl ps=>
  have e:h.get? a=some {cls:=.none,data:=.fields ps}:=x
  show h'.get? a=some {cls:=.none,data:=.fields ps}
  exact k a _ (.inl rfl) e
 | met f y=>
  have e:h.get? a=some (Vj (.ref f) (.ref y)):=x
  show h'.get? a=some (Vj (.ref f) (.ref y))
  exact k a _ (.inl rfl) e
 | ext φ=>obtain ⟨p,⟨o,e⟩,st⟩:=x;exact ⟨st _ _ p fun o q=>k _ _ (.inl rfl) q,⟨o,k _ _ (.inl rfl) e⟩,st⟩
theorem HOk.lt (x:HOk P w H h) (e:H a=some o):a < h.objs.size:=(x a o e).lt
theorem HOk.fresh (x:HOk P w H h) (e:h.objs.size≤a):H a=none:=by
 cases q:H a with
 | none=>rfl
 | some u=>exact absurd (Xi (x.lt q) e) (Zx _)
theorem HOk.kept (x:HOk P w H h) (k:∀b u,h.get? b=some u→h'.get? b=some u):HOk P w H h':=fun a o e=>
 (x a o e).stay (fun b u _ q=>k b u q) (fun _ q=>q) fun _ _ q=>q
theorem HOk.laid (x:HOk P w H h) (k:∀b u,h.get? b=some u→h'.get? b=some u) (hp:h.objs.size≤a) (new:a1c P w (upd H a o) h' a o):HOk P w (upd H a o) h':=fun b u e=>by
 have hn:=x.fresh hp
 by_cases hb:b=a
 ·subst hb;rw [a0d] at e;cases e;exact new
 ·rw [a0a hb] at e
  exact (x b u e).stay (fun c v _ q=>k c v q) (fun c q=>by rw [a0a (a0b q hn)];exact q) fun c xs q=>by rw [a0a (a0b q hn)];exact q
end
def Rd (H:Hp) (a:Addr) (u:HO):Prop:=H a=some u∨∃o,H a=some (.frz o u)
theorem Rd.of {H:Hp} {a:Addr} {u:HO} (h:H a=some u):Rd H a u:=.inl h
theorem Rd.ok {P:Program} {w:World} {H:Hp} {h:Heap} {a:Addr} {u:HO} (r:Rd H a u) (x:HOk P w H h):a1c P w H h a u:=by
 rcases r with r | ⟨o,r⟩
 ·exact x a u r
 ·obtain ⟨_,q⟩:=x a _ r
  exact q
def Mut:Option HO→Prop
 | some (.lst _)=>True
 | some (.dK _)=>True
 | some (.dT _)=>True
 | some (.set _ _)=>True
 | some (.ins _ _ _)=>True
 | some (.ext _)=>True
 | _=>False
section
variable {P:Program} {w:World} {H:Hp} {h h':Heap} {x e:Addr} {o':HO}
theorem HOk.write (ok:HOk P w H h) (mu:Mut (H x)) (he:e=x∨H e=some (.own x)) (k:∀b u,b≠e→h.get? b=some u→h'.get? b=some u) (heo:∃u,h'.get? e=some u)
  (new:a1c P w (upd H x o') h' x o'):HOk P w (upd H x o') h':=fun b u q=>by
 have nown:∀c y,H c=some (.own y)→c≠x:=fun c y r z=>by subst z;rw [r] at mu;exact mu
 have ntup:∀c xs,H c=some (.tup xs)→c≠x:=fun c xs r z=>by subst z;rw [r] at mu;exact mu
 by_cases hb:b=x
 ·subst hb;rw [a0d] at q;cases q;exact new
 ·rw [a0a hb] at q
  by_cases hbe:b=e
  ·have q':H b=some (.own x):=by
    rcases he with z | z
    ·exact absurd (hbe.trans z) hb
    ·rw [hbe];exact z
   rw [q] at q';cases q'
   obtain ⟨v,hv⟩:=heo
   exact ⟨v,by rw [hbe];exact hv⟩
  ·refine (ok b u q).stay (fun c v hc r=>k c v ?_ r) (fun c r=>by rw [a0a (nown c b r)];exact r) fun c xs r=>by rw [a0a (ntup c xs r)];exact r
   rcases hc with rfl | hc
   ·exact hbe
   ·rintro rfl
    rcases he with z | z
    ·exact nown c b hc z
    ·rw [hc] at z;cases z;exact hb rfl
end
structure Un (fs ex:List Addr) (H H':Hp) (h h':Heap):Prop where
 keep:∀b o,h.get? b=some o→H b=none→b∉fs→b∉ex→h'.get? b=some o
 slot:∀b o,h.get? b=some o→H b=none→b∈fs→b∉ex→∃sl,h'.get? b=some {o with slots:=sl}
 free:∀b o,h.get? b=some o→H b=none→b∉ex→H' b=none
 there:∀b o,h.get? b=some o→b∉ex→∃o',h'.get? b=some o'
 tups:∀b xs,H b=some (.tup xs)→H' b=some (.tup xs)
 frzs:∀b o u,H b=some (.frz o u)→H' b=some (.frz o u)
 tbls:∀b ps,H b=some (.tbl ps)→∃more,H' b=some (.tbl (ps++more))
section
variable {fs fs' ex ex':List Addr} {H H1 H2:Hp} {h h1 h2 h':Heap} {a x e:Addr} {o:HO}
theorem Un.any (u:Un fs ex H H1 h h1) {b:Addr} {ob:Obj} (q:h.get? b=some ob) (n:H b=none) (hx:b∉ex):∃sl,h1.get? b=some {ob with slots:=sl}:=by
 by_cases hb:b∈fs
 ·exact u.slot b ob q n hb hx
 ·exact ⟨ob.slots,u.keep b ob q n hb hx⟩
theorem Un.trans (a:Un fs ex H H1 h h1) (b:Un fs ex H1 H2 h1 h2):Un fs ex H H2 h h2 where
 keep:=fun c ob q n hc hx=>b.keep c ob (a.keep c ob q n hc hx) (a.free c ob q n hx) hc hx
 slot:=fun c ob q n hc hx=>by
  obtain ⟨sl,e1⟩:=a.slot c ob q n hc hx
  obtain ⟨sl',e2⟩:=b.slot c _ e1 (a.free c ob q n hx) hc hx
  exact ⟨sl',e2⟩
 free:=fun c ob q n hx=>by
  obtain ⟨o',e1⟩:=a.there c ob q hx
  exact b.free c o' e1 (a.free c ob q n hx) hx
 there:=fun c ob q hx=>by
  obtain ⟨o',e1⟩:=a.there c ob q hx
  exact b.there c o' e1 hx
 tups:=fun c xs q=>b.tups c xs (a.tups c xs q)
 frzs:=fun c ob xs q=>b.frzs c ob xs (a.frzs c ob xs q)
 tbls:=fun c ps q=>by
  obtain ⟨m1,e1⟩:=a.tbls c ps q
  obtain ⟨m2,e2⟩:=b.tbls c _ e1
  exact ⟨m1++m2,by rw [e2,Gf]⟩
theorem Un.kept (k:∀b u,h.get? b=some u→h'.get? b=some u):Un fs ex H H h h':=
 ⟨fun b ob q _ _ _=>k b ob q,fun b ob q _ _ _=>⟨ob.slots,k b ob q⟩,fun _ _ _ n _=>n,fun b ob q _=>⟨ob,k b ob q⟩,fun _ _ q=>q,fun _ _ _ q=>q,fun _ ps q=>⟨#[],by rw [q];simp⟩⟩
theorem Un.refl:Un fs ex H H h h:=Un.kept fun _ _ q=>q
theorem Un.laid (k:∀b u,h.get? b=some u→h'.get? b=some u) (hp:h.objs.size≤a) (hn:H a=none):Un fs ex H (upd H a o) h h' where
 keep:=fun b u q _ _ _=>k b u q
 slot:=fun b u q _ _ _=>⟨u.slots,k b u q⟩
 free:=fun b u q n _=>by rw [a0a (Xl (Xi (Qz q) hp))];exact n
 there:=fun b u q _=>⟨u,k b u q⟩
 tups:=fun b xs q=>by rw [a0a (a0b q hn)];exact q
 frzs:=fun b u xs q=>by rw [a0a (a0b q hn)];exact q
 tbls:=fun b ps q=>⟨#[],by rw [a0a (a0b q hn),q];simp⟩
theorem Un.write (mu:Mut (H x)) (he:e=x∨H e=some (.own x)) (k:∀b u,b≠e→h.get? b=some u→h'.get? b=some u) (heo:∃u,h'.get? e=some u):Un fs ex H (upd H x o) h h':=by
 have hx:∀b,H b=none→b≠x:=fun b n z=>by subst z;rw [n] at mu;exact mu
 have hb:∀b,H b=none→b≠e:=fun b n z=>by
  subst z
  rcases he with r | r
  ·exact hx b n r
  ·rw [n] at r;cases r
 have hm:∀b u,H b=some u→¬Mut (some u)→b≠x:=fun b u q nm z=>by subst z;rw [q] at mu;exact nm mu
 refine ⟨fun b u q n _ _=>k b u (hb b n) q,fun b u q n _ _=>⟨u.slots,k b u (hb b n) q⟩,fun b u q n _=>by rw [a0a (hx b n)];exact n,fun b u q _=>?_,
  fun b xs q=>by rw [a0a (hm b _ q fun z=>z)];exact q,fun b u xs q=>by rw [a0a (hm b _ q fun z=>z)];exact q,fun b ps q=>⟨#[],by rw [a0a (hm b _ q fun z=>z),q];simp⟩⟩
 by_cases hbe:b=e
 ·subst hbe;exact heo
 ·exact ⟨u,k b u hbe q⟩
end
def trk (h:Heap) (H:Hp):List Addr:=(Xz h.objs.size).filter fun a=>(H a).isSome
def b3K (h:Heap) (H:Hp):Heap:=PySem.W.hideAll h (trk h H)
theorem b1z (h:Heap) (H:Hp):(b3K h H).objs.size=h.objs.size:=PySem.W.hideAll_size _ _
theorem b3G {h:Heap} {H:Hp} {b:Addr} {o:Obj} (e:h.get? b=some o) (n:H b=none):(b3K h H).get? b=some o:=
 PySem.W.hideAll_get _ e fun hm=>by
  have q:(H b).isSome=true:=(Qs.mp hm).2
  rw [n] at q;simp at q
theorem b6i {h:Heap} {H:Hp} {b:Addr} {o:Obj} (e:(b3K h H).get? b=some o):h.get? b=some o∧H b=none:=by
 have e':h.get? b=some o:=PySem.W.of_hideAll (trk h H) e
 refine ⟨e',?_⟩
 cases q:H b with
 | none=>rfl
 | some x=>
  have hm:b∈trk h H:=Qs.mpr ⟨Jm.mpr (Qz e'),by simp [q]⟩
  have z:(b3K h H).get? b=none:=PySem.W.hideAll_none (trk h H) hm
  rw [z] at e;cases e
def b6g (g h:Heap) (L:Addr):List (Addr×Obj):=(Xz h.objs.size).filterMap fun a=>if a=L∨(g.get? a).isSome=true then none else (h.get? a).map fun o=>(a,o)
def a6M (g h:Heap) (L d:Addr):List (Addr×Obj):=(b6g g h L).filter fun p=>decide (p.1≠d)
structure Mod (K:Qe) (mg:Str→Option Value) (base:Heap):Prop where
 kin:K.In base
 glob:base.Ns mainGlobals mg
 blt:∃mb,base.Ns builtinsNs mb∧∀x:Str,x≠"__name__"→mb x=bootBuiltins x
 nolimit:base.NoLimit
structure Cx where
 prog:Program
 w:World
 K:Qe
 mg:Str→Option Value
 base:Heap
 A:Around
 N:List Str
 s₀:Shared
 H₀:Hp
 env:Env
 outer:List Env
 stack:List Env
 ex:List Addr
 fn:Str→Bool
 calm:Bool
 pn:List (Addr×Obj)
 xe:Value→Shared→Prop
def frs (l:List Env):List Addr:=l.filterMap (·.frame)
abbrev Cx.fs (X:Cx):List Addr:=frs X.outer
def Vis (sc:Scope) (x:Str):Prop:=sc.names.lookup x=some .local∨sc.names.lookup x=some .cell∨sc.names.lookup x=some .free
def Loc (sc:Scope) (x:Str):Prop:=sc.names.lookup x=some .local∨sc.names.lookup x=some .cell
def c9C (env:Env) (h:Heap) (m:Str→Option Value) (x:Str) (u:Value):Prop:=
 (env.kindOf x=some .local∧m x=some u)∨((env.kindOf x=some .cell∨env.kindOf x=some .free)∧∃c,env.cells.lookup x=some c∧h.IsCell c (some u))
structure Cx.Ok (X:Cx):Prop where
 mod:Mod X.K X.mg X.base
 kind:X.env.scope.kind=.function
 glob:X.env.globals=mainGlobals
 blt:X.env.builtins=builtinsNs
 above:X.s₀.heap.objs.size≤X.env.locals
 inj:∀x y c,X.env.cells.lookup x=some c→X.env.cells.lookup y=some c→x=y
 has:∀x,(X.env.kindOf x=some .cell∨X.env.kindOf x=some .free)→∃c,X.env.cells.lookup x=some c
 cab:∀x c,X.fn x=true→X.env.cells.lookup x=some c→X.s₀.heap.objs.size≤c
 hd:X.calm=true→X.A.handled=none
 frames:X.A.frames=some X.stack
 stk:X.stack=X.outer∨(X.stack=X.env::X.outer∧X.env.frame=some X.env.locals)
 exf:∀b∈X.ex,b≠X.env.locals∧∀x c,X.env.cells.lookup x=some c→c≠b
 bs:∀b o,X.base.get? b=some o→X.s₀.heap.get? b=some o∧X.H₀ b=none
 bsz:X.base.objs.size≤X.s₀.heap.objs.size
 noex:∀b o,X.base.get? b=some o→b∉X.ex
 exfs:∀b∈X.ex,b∉X.fs
 funs:X.s₀.heap.FunFrames X.base X.outer
 frf:∀b∈X.fs,X.H₀ b=none
structure Inv (X:Cx) (pins:List (Addr×Obj)) (σ:List (Option V)) (H:Hp) (s:Shared):Prop where
 ok:X.Ok
 os:s.os=X.s₀.os
 bare:AllBare s.gens
 base:Un X.fs X.ex X.H₀ H X.s₀.heap s.heap
 loc:∃m,s.heap.Ns X.env.locals m∧∀(i:Nat) (x:Str) (v:V),X.N[i]?=some x→σ[i]?=some (some v)→Vis X.env.scope x→∃u,a0Q v u∧c9C X.env s.heap m x u
 cell:∀x c,X.env.cells.lookup x=some c→∃v,s.heap.IsCell c v
 free:H X.env.locals=none
 freeC:∀x c,X.env.cells.lookup x=some c→H c=none
 pin:∀p∈X.pn++pins,s.heap.get? p.1=some p.2∧H p.1=none∧p.1≠X.env.locals∧p.1∉X.fs∧∀v,p.2.data≠.cell v
 hok:HOk X.prog X.w H s.heap
 len:σ.length=X.N.length
section
variable {X:Cx} {pins:List (Addr×Obj)} {σ:List (Option V)} {H H':Hp} {s:Shared} {h':Heap}
theorem Cx.Ok.nofr (ok:X.Ok) {b:Addr} {o:Obj} (e:X.base.get? b=some o):b∉X.fs:=fun hb=>by
 have:=(ok.funs.mem hb).1
 rw [e] at this;cases this
theorem Inv.bs (I:Inv X pins σ H s):∀b o,X.base.get? b=some o→s.heap.get? b=some o∧H b=none:=fun b o e=>
 ⟨I.base.keep b o (I.ok.bs b o e).1 (I.ok.bs b o e).2 (I.ok.nofr e) (I.ok.noex b o e),I.base.free b o (I.ok.bs b o e).1 (I.ok.bs b o e).2 (I.ok.noex b o e)⟩
theorem Inv.bk (I:Inv X pins σ H s):∀b o,X.base.get? b=some o→s.heap.get? b=some o:=fun b o e=>(I.bs b o e).1
theorem Inv.mod (I:Inv X pins σ H s):Mod X.K X.mg X.base:=I.ok.mod
theorem Inv.kIn (I:Inv X pins σ H s):X.K.In s.heap:=I.ok.mod.kin.keeps I.bk
theorem Inv.nolimit (I:Inv X pins σ H s):s.heap.NoLimit:=I.ok.mod.nolimit.keeps I.bk
theorem Inv.lt (I:Inv X pins σ H s):X.env.locals < s.heap.objs.size:=let ⟨_,hn,_⟩:=I.loc;hn.lt
theorem Inv.sz (I:Inv X pins σ H s):X.s₀.heap.objs.size≤s.heap.objs.size:=Qi I.ok.above (Vq I.lt)
theorem Inv.nofs (I:Inv X pins σ H s) {a:Addr} (h:s.heap.objs.size≤a):a∉X.fs:=fun hb=>by
 obtain ⟨_,o,ho,_⟩:=I.ok.funs.mem hb
 exact absurd (Xi (Qz ho) (Qi I.sz h)) (Zx _)
theorem Inv.cne (I:Inv X pins σ H s):∀x c,X.env.cells.lookup x=some c→c≠X.env.locals:=fun x c e z=>by
 obtain ⟨v,o,ho,hd⟩:=I.cell x c e
 obtain ⟨m,⟨o',es,ep,ho',hd',_⟩,_⟩:=I.loc
 rw [z,ho'] at ho;cases ho;rw [hd'] at hd;cases hd
theorem Inv.funs (I:Inv X pins σ H s):s.heap.FunFrames X.base X.outer:=by
 have all:∀(l:List Env),(∀b∈frs l,b∈X.fs)→X.s₀.heap.FunFrames X.base l→s.heap.FunFrames X.base l:=by
  intro l
  induction l with
  | nil=>intro _ _;trivial
  | cons env r ih=>
   intro hs hl
   obtain ⟨hk,⟨L,o,hf,hn,ho,hd⟩,hr⟩:=hl
   have hL:L∈X.fs:=hs L (by unfold frs;rw [Zk,hf];exact Qq)
   obtain ⟨sl,e⟩:=I.base.slot L o ho (I.ok.frf L hL) hL fun z=>I.ok.exfs L z hL
   exact ⟨hk,⟨L,_,hf,hn,e,hd⟩,ih (fun b hb=>hs b (by unfold frs;rw [Zk,hf];exact Qt _ hb)) hr⟩
 exact all X.outer (fun _ hb=>hb) I.ok.funs
theorem Inv.stack (I:Inv X pins σ H s):s.heap.FunFrames X.base X.stack:=by
 rcases I.ok.stk with e | ⟨e,hf⟩
 ·rw [e];exact I.funs
 ·rw [e]
  obtain ⟨m,hn,_⟩:=I.loc
  refine .cons (by rw [I.ok.kind];decide) hf hn ?_ I.funs
  exact Heap.get?_none_of_le (Qi I.ok.bsz I.ok.above)
theorem Inv.stkSub (I:Inv X pins σ H s):∀b∈frs X.stack,b∈X.env.locals::X.fs:=fun b hb=>by
 rcases I.ok.stk with e | ⟨e,hf⟩
 ·rw [e] at hb;exact Qt _ hb
 ·rw [e] at hb
  unfold frs at hb
  rw [Zk,hf] at hb
  exact hb
theorem Inv.stkFree (I:Inv X pins σ H s):∀b∈frs X.stack,H b=none:=fun b hb=>by
 rcases Qw.mp (I.stkSub b hb) with e | hb
 ·rw [e];exact I.free
 ·obtain ⟨_,o,ho,_⟩:=I.ok.funs.mem hb
  exact I.base.free b o ho (I.ok.frf b hb) fun z=>I.ok.exfs b z hb
theorem Inv.step {g':Array GenState} {t':Nat} {d':Drawn} {ch:List Addr} (I:Inv X pins σ H s)
  (hch:∀b∈ch,(b∈X.ex∨X.s₀.heap.objs.size≤b)∧b≠X.env.locals∧(∀x c,X.env.cells.lookup x=some c→c≠b)∧∀p∈X.pn++pins,p.1≠b)
  (keep:∀b o,b≠X.env.locals→b∉X.fs→b∉ch→s.heap.get? b=some o→H b=none→h'.get? b=some o)
  (slot:∀b o,b≠X.env.locals→b∈X.fs→b∉ch→s.heap.get? b=some o→H b=none→∃sl,h'.get? b=some {o with slots:=sl}) (free:∀b o,b∉ch→s.heap.get? b=some o→H b=none→H' b=none)
  (there:∀b o,b∉ch→s.heap.get? b=some o→∃o',h'.get? b=some o')
  (tups:∀b xs,H b=some (.tup xs)→H' b=some (.tup xs)) (frzs:∀b o u,H b=some (.frz o u)→H' b=some (.frz o u)) (tbls:∀b ps,H b=some (.tbl ps)→∃more,H' b=some (.tbl (ps++more)))
  (ns:∀m,s.heap.Ns X.env.locals m→h'.Ns X.env.locals m) (hok:HOk X.prog X.w H' h') (hg:AllBare g'):
  Inv X pins σ H' {s with heap:=h',gens:=g',drawn:=d',toks:=t'}:=by
 have neL:∀b o,X.s₀.heap.get? b=some o→b≠X.env.locals:=fun b o e=>Xl (Xi (Qz e) I.ok.above)
 have neC:∀b o,X.s₀.heap.get? b=some o→b∉X.ex→b∉ch:=fun b o e hx hb=>by
  rcases (hch b hb).1 with z | z
  ·exact hx z
  ·exact absurd (Xi (Qz e) z) (Zx _)
 have cellK:∀x c,X.env.cells.lookup x=some c→∀v,s.heap.IsCell c v→h'.IsCell c v:=fun x c e v ⟨o,ho,hd⟩=>by
  have nch:c∉ch:=fun z=>(hch c z).2.2.1 x c e rfl
  by_cases hc:c∈X.fs
  ·obtain ⟨sl,q⟩:=slot c o (I.cne x c e) hc nch ho (I.freeC x c e)
   exact ⟨_,q,hd⟩
  ·exact ⟨o,keep c o (I.cne x c e) hc nch ho (I.freeC x c e),hd⟩
 refine ⟨I.ok,I.os,hg,⟨fun b o e n hb hx=>?_,fun b o e n hb hx=>?_,fun b o e n hx=>?_,fun b o e hx=>?_,fun b xs e=>tups b xs (I.base.tups b xs e),fun b o xs e=>frzs b o xs (I.base.frzs b o xs e),fun b ps e=>?_⟩,?_,fun x c e=>?_,?_,fun x c e=>?_,fun p hp=>?_,hok,I.len⟩
 ·exact keep b o (neL b o e) hb (neC b o e hx) (I.base.keep b o e n hb hx) (I.base.free b o e n hx)
 ·obtain ⟨sl,e1⟩:=I.base.slot b o e n hb hx
  obtain ⟨sl',e2⟩:=slot b _ (neL b o e) hb (neC b o e hx) e1 (I.base.free b o e n hx)
  exact ⟨sl',e2⟩
 ·obtain ⟨o',e1⟩:=I.base.there b o e hx
  exact free b o' (neC b o e hx) e1 (I.base.free b o e n hx)
 ·obtain ⟨o',e1⟩:=I.base.there b o e hx
  exact there b o' (neC b o e hx) e1
 ·obtain ⟨m1,e1⟩:=I.base.tbls b ps e
  obtain ⟨m2,e2⟩:=tbls b _ e1
  exact ⟨m1++m2,by rw [e2,Gf]⟩
 ·obtain ⟨m,hn,hl⟩:=I.loc
  refine ⟨m,ns m hn,fun i x v e1 e2 e3=>?_⟩
  obtain ⟨u,r,l⟩:=hl i x v e1 e2 e3
  refine ⟨u,r,?_⟩
  rcases l with l | ⟨k,c,e,z⟩
  ·exact .inl l
  ·exact .inr ⟨k,c,e,cellK x c e _ z⟩
 ·obtain ⟨v,z⟩:=I.cell x c e
  exact ⟨v,cellK x c e v z⟩
 ·obtain ⟨m,⟨o,_,_,ho,_⟩,_⟩:=I.loc
  exact free _ o (fun z=>(hch _ z).2.1 rfl) ho I.free
 ·obtain ⟨v,o,ho,hd⟩:=I.cell x c e
  exact free c o (fun z=>(hch c z).2.2.1 x c e rfl) ho (I.freeC x c e)
 ·obtain ⟨e,n,ne,nf,d⟩:=I.pin p hp
  have nch:p.1∉ch:=fun z=>(hch p.1 z).2.2.2 p hp rfl
  exact ⟨keep p.1 p.2 ne nf nch e n,free p.1 p.2 nch e n,ne,nf,d⟩
theorem Inv.un {t':Nat} (I:Inv X pins σ H s) (u:Un X.fs [] H H' s.heap h') (hok:HOk X.prog X.w H' h'):Inv X pins σ H' {s with heap:=h',toks:=t'}:=by
 obtain ⟨m,⟨o,es,ep,ho,r⟩,_⟩:=id I.loc
 obtain ⟨sl,hL⟩:=u.any ho I.free (by simp)
 exact I.step (g':=s.gens) (d':=s.drawn) (ch:=[]) ‹nz› (fun b o _ hb _ e n=>u.keep b o e n hb (by simp)) (fun b o _ hb _ e n=>u.slot b o e n hb (by simp)) (fun b o _ e n=>u.free b o e n (by simp)) (fun b o _ e=>u.there b o e (by simp)) u.tups u.frzs u.tbls (fun m' hm=>by
  obtain ⟨o',es',ep',ho',r'⟩:=hm
  rw [ho] at ho';cases ho'
  exact ⟨_,es',ep',hL,r'⟩) hok I.bare
theorem Inv.call {g':Array GenState} {t':Nat} {d':Drawn} {ch:List Addr} (I:Inv X pins σ H s) (u:Un (frs X.stack) ch H H' s.heap h') (hok:HOk X.prog X.w H' h') (hg:AllBare g')
  (hch:∀b∈ch,(b∈X.ex∨X.s₀.heap.objs.size≤b)∧b≠X.env.locals∧(∀x c,X.env.cells.lookup x=some c→c≠b)∧∀p∈X.pn++pins,p.1≠b):
  Inv X pins σ H' {s with heap:=h',gens:=g',drawn:=d',toks:=t'}:=by
 obtain ⟨m,⟨o,es,ep,ho,r⟩,_⟩:=id I.loc
 obtain ⟨sl,hL⟩:=u.any ho I.free fun z=>(hch _ z).2.1 rfl
 exact I.step (ch:=ch) hch (fun b o hL hb hc e n=>u.keep b o e n (fun z=>(Qw.mp (I.stkSub b z)).elim hL hb) hc) (fun b o _ _ hc e n=>u.any e n hc) (fun b o hc e n=>u.free b o e n hc) (fun b o hc e=>u.there b o e hc) u.tups u.frzs u.tbls (fun m' hm=>by
  obtain ⟨o',es',ep',ho',r'⟩:=hm
  rw [ho] at ho';cases ho'
  exact ⟨_,es',ep',hL,r'⟩) hok hg
theorem Inv.turned {t':Nat} {it:Addr} (I:Inv X pins σ H s) (k:∀b o,b≠it→s.heap.get? b=some o→h'.get? b=some o) (hn:H it=none) (hL:it≠X.env.locals)
  (h1:it∈X.ex∨X.s₀.heap.objs.size≤it) (h2:∀x c,X.env.cells.lookup x=some c→c≠it) (h3:∀p∈X.pn++pins,p.1≠it):Inv X pins σ H {s with heap:=h',toks:=t'}:=by
 have nit:∀b u,H b=some u→b≠it:=fun b u e z=>by rw [z,hn] at e;cases e
 refine I.step (g':=s.gens) (d':=s.drawn) (ch:=[it]) (fun b hb=>?_) (fun b o _ _ hc e _=>k b o (fun z=>hc (by simp [z])) e) (fun b o _ _ hc e _=>⟨o.slots,k b o (fun z=>hc (by simp [z])) e⟩) (fun _ _ _ _ n=>n)
  (fun b o hc e=>⟨o,k b o (fun z=>hc (by simp [z])) e⟩) (fun _ _ e=>e) (fun _ _ _ e=>e) (fun b ps e=>⟨#[],by rw [e];simp⟩) (fun m hm=>?_) (fun b u e=>?_) I.bare
 ·have e:b=it:=by simpa using hb
  subst e
  exact ⟨h1,hL,h2,h3⟩
 ·obtain ⟨o,es,ep,ho,r⟩:=hm
  exact ⟨o,es,ep,k _ o (Ne.symm hL) ho,r⟩
 ·refine (I.hok b u e).stay (fun c v hc q=>k c v ?_ q) (fun _ q=>q) fun _ _ q=>q
  rcases hc with z | z
  ·rw [z];exact nit b u e
  ·exact nit c _ z
theorem Inv.tok (I:Inv X pins σ H s) (t:Nat):Inv X pins σ H {s with toks:=t}:=I.un (h':=s.heap) (t':=t) Un.refl I.hok
theorem Inv.kept {t':Nat} (I:Inv X pins σ H s) (k:∀b u,s.heap.get? b=some u→h'.get? b=some u):Inv X pins σ H {s with heap:=h',toks:=t'}:=I.un (Un.kept k) (I.hok.kept k)
theorem Inv.laid {a:Addr} {o:HO} {t':Nat} (I:Inv X pins σ H s) (k:∀b u,s.heap.get? b=some u→h'.get? b=some u) (hp:s.heap.objs.size≤a) (new:a1c X.prog X.w (upd H a o) h' a o):
  Inv X pins σ (upd H a o) {s with heap:=h',toks:=t'}:=I.un (Un.laid k hp (I.hok.fresh hp)) (I.hok.laid k hp new)
theorem Inv.write {x e:Addr} {o:HO} {t':Nat} (I:Inv X pins σ H s) (mu:Mut (H x)) (he:e=x∨H e=some (.own x)) (k:∀b u,b≠e→s.heap.get? b=some u→h'.get? b=some u) (heo:∃u,h'.get? e=some u)
  (new:a1c X.prog X.w (upd H x o) h' x o):Inv X pins σ (upd H x o) {s with heap:=h',toks:=t'}:=I.un (Un.write mu he k heo) (I.hok.write mu he k heo new)
theorem Inv.pins_of {pins':List (Addr×Obj)} (I:Inv X pins σ H s) (h:∀p∈pins',s.heap.get? p.1=some p.2∧H p.1=none∧p.1≠X.env.locals∧p.1∉X.fs∧∀v,p.2.data≠.cell v):Inv X pins' σ H s:=
 ⟨I.ok,I.os,I.bare,I.base,I.loc,I.cell,I.free,I.freeC,fun p hp=>(Qv.mp hp).elim (fun z=>I.pin p (Zf _ z)) (h p),I.hok,I.len⟩
theorem a8D {N:List Str} (hN:N.Nodup) {i j:Nat} {x:Str} (a:N[i]?=some x) (b:N[j]?=some x):i=j:=by
 obtain ⟨h1,e1⟩:=Qn.mp a
 obtain ⟨h2,e2⟩:=Qn.mp b
 exact (Jn hN).mp (e1.trans e2.symm)
theorem a5U {M:Model} {A:Around} {E:Value→Shared→Prop} {i:Nat} {x:Str} {v:V} {u:Value} {Q:Unit→Shared→Prop} (I:Inv X pins σ H s) (hN:X.N.Nodup) (hi:X.N[i]?=some x) (hx:Loc X.env.scope x) (r:a0Q v u)
  (h:∀s',Inv X pins (σ.set i (some v)) H s'→(∃a,Vr a s.heap s'.heap∧(a=X.env.locals∨X.env.cells.lookup x=some a))→Q () s') (hf:X.fn x=true∨X.env.scope.names.lookup x=some .local:=by first | exact .inl rfl | exact .inr rfl | assumption):wpAny M A (storeName X.env x u) Q E s:=by
 obtain ⟨m,hn,hl⟩:=id I.loc
 have hcls:(X.env.scope.kind == .class || (X.env.scope.kind == .module && X.env.locals != X.env.globals))=false:=by rw [I.ok.kind];rfl
 have hiσ:i < σ.length:=by rw [I.len];exact (Qn.mp hi).1
 have cne:=I.cne
 have tracked:∀{a:Addr} {h':Heap},(∃o,s.heap.get? a=some o∧H a=none)→Vr a s.heap h'→HOk X.prog X.w H h':=fun {a h'} ha hs b ob e=>by
  obtain ⟨_,_,hfree⟩:=ha
  refine (I.hok b ob e).stay (fun c w' hc q=>(hs.2 c ?_).trans q) (fun _ q=>q) fun _ _ q=>q
  rintro rfl
  rcases hc with rfl | hc
  ·rw [hfree] at e;cases e
  ·rw [hfree] at hc;cases hc
 rcases hx with hk | hk
 ·refine wpAny_storeName_local hk hn (fun h' hn' hs=>?_) hcls
  obtain ⟨oL,_,_,hoL,_⟩:=id hn
  refine h _ ⟨I.ok,I.os,I.bare,⟨fun b o e n hb hx=>?_,fun b o e n hb hx=>?_,I.base.free,fun b o e hx=>?_,I.base.tups,I.base.frzs,I.base.tbls⟩,⟨_,hn',fun j y v' e1 e2 e3=>?_⟩,fun y c e=>?_,I.free,I.freeC,fun p hp=>?_,tracked ⟨oL,hoL,I.free⟩ hs,by simpa using I.len⟩ ⟨_,hs,.inl rfl⟩
  ·exact (hs.2 b (Xl (Xi (Qz e) I.ok.above))).trans (I.base.keep b o e n hb hx)
  ·obtain ⟨sl,e1⟩:=I.base.slot b o e n hb hx
   exact ⟨sl,(hs.2 b (Xl (Xi (Qz e) I.ok.above))).trans e1⟩
  ·obtain ⟨o',e1⟩:=I.base.there b o e hx
   exact ⟨o',(hs.2 b (Xl (Xi (Qz e) I.ok.above))).trans e1⟩
  ·by_cases hj:j=i
   ·subst hj
    rw [hi] at e1;cases e1
    rw [Wj hiσ] at e2
    cases e2
    exact ⟨u,r,.inl ⟨hk,by simp⟩⟩
   ·rw [Ww (Ne.symm hj)] at e2
    obtain ⟨u',r',q⟩:=hl j y v' e1 e2 e3
    refine ⟨u',r',?_⟩
    rcases q with ⟨k,e⟩ | ⟨k,c,e,z⟩
    ·refine .inl ⟨k,?_⟩
     have:y≠x:=fun e=>hj (a8D hN e1 (e ▸ hi))
     simp [this,e]
    ·exact .inr ⟨k,c,e,z.sameBut hs (cne y c e)⟩
  ·obtain ⟨w',z⟩:=I.cell y c e
   exact ⟨w',z.sameBut hs (cne y c e)⟩
  ·obtain ⟨e,n,ne,nf,d⟩:=I.pin p hp
   exact ⟨(hs.2 p.1 ne).trans e,n,ne,nf,d⟩
 ·have hfn:X.fn x=true:=by
   rcases hf with z | z
   ·exact z
   ·rw [z] at hk;cases hk
  obtain ⟨c,hc⟩:=I.ok.has x (.inl hk)
  obtain ⟨w',z⟩:=I.cell x c hc
  refine wpAny_storeName_cell I.ok.kind hk hc z (fun h' hc' hs=>?_)
  obtain ⟨oc,hoc,hocd⟩:=id z
  refine h {s with heap:=h'} ⟨I.ok,I.os,I.bare,⟨fun b o e n hb hx=>?_,fun b o e n hb hx=>?_,I.base.free,fun b o e hx=>?_,I.base.tups,I.base.frzs,I.base.tbls⟩,⟨m,hn.sameBut hs (Ne.symm (cne x c hc)),fun j y v' e1 e2 e3=>?_⟩,fun y c' e=>?_,I.free,I.freeC,fun p hp=>?_,tracked ⟨oc,hoc,I.freeC x c hc⟩ hs,by simpa using I.len⟩ ⟨c,hs,.inr hc⟩
  ·exact (hs.2 b (Xl (Xi (Qz e) (I.ok.cab x c hfn hc)))).trans (I.base.keep b o e n hb hx)
  ·obtain ⟨sl,e1⟩:=I.base.slot b o e n hb hx
   exact ⟨sl,(hs.2 b (Xl (Xi (Qz e) (I.ok.cab x c hfn hc)))).trans e1⟩
  ·obtain ⟨o',e1⟩:=I.base.there b o e hx
   exact ⟨o',(hs.2 b (Xl (Xi (Qz e) (I.ok.cab x c hfn hc)))).trans e1⟩
  ·by_cases hj:j=i
   ·subst hj
    rw [hi] at e1;cases e1
    rw [Wj hiσ] at e2
    cases e2
    exact ⟨u,r,.inr ⟨.inl hk,c,hc,hc'⟩⟩
   ·rw [Ww (Ne.symm hj)] at e2
    obtain ⟨u',r',q⟩:=hl j y v' e1 e2 e3
    refine ⟨u',r',?_⟩
    rcases q with q | ⟨k,c',e,z'⟩
    ·exact .inl q
    ·refine .inr ⟨k,c',e,z'.sameBut hs ?_⟩
     rintro rfl
     exact hj (a8D hN e1 (I.ok.inj _ _ _ e hc ▸ hi))
  ·by_cases hcc:c'=c
   ·subst hcc;exact ⟨_,hc'⟩
   ·obtain ⟨w2,z2⟩:=I.cell y c' e
    exact ⟨w2,z2.sameBut hs hcc⟩
  ·obtain ⟨e,n,ne,nf,d⟩:=I.pin p hp
   refine ⟨(hs.2 p.1 ?_).trans e,n,ne,nf,d⟩
   intro q
   rw [q,hoc] at e
   have q':oc=p.2:=Option.some.inj e
   exact d w' (by rw [←q'];exact hocd)
theorem a5P {M:Model} {A:Around} {E:Value→Shared→Prop} {i:Nat} {x:Str} {v:V} {u:Value} {Q:Unit→Shared→Prop} (I:Inv X pins σ H s) (hN:X.N.Nodup) (hi:X.N[i]?=some x) (hx:Loc X.env.scope x) (r:a0Q v u)
  (h:∀s',Inv X pins (σ.set i (some v)) H s'→Q () s') (hf:X.fn x=true∨X.env.scope.names.lookup x=some .local:=by first | exact .inl rfl | exact .inr rfl | assumption):wpAny M A (storeName X.env x u) Q E s:=
 a5U I hN hi hx r (fun s' I' _=>h s' I') hf
theorem Inv.call' {s':Shared} {ch:List Addr} (I:Inv X pins σ H s) (ho:s'.os=s.os) (u:Un (frs X.stack) ch H H' s.heap s'.heap) (hok:HOk X.prog X.w H' s'.heap) (hg:AllBare s'.gens)
  (hch:∀b∈ch,(b∈X.ex∨X.s₀.heap.objs.size≤b)∧b≠X.env.locals∧(∀x c,X.env.cells.lookup x=some c→c≠b)∧∀p∈X.pn++pins,p.1≠b):Inv X pins σ H' s':=by
 obtain ⟨h',g',d',t',o'⟩:=s'
 have e:o'=s.os:=ho
 subst e
 exact I.call (g':=g') (t':=t') (d':=d') u hok hg hch
end
abbrev XK:=Value→Option Addr→Hp→Prop
abbrev St:=List (Option V)
abbrev VK:=V→Hp→Prop
abbrev TE:=St→Hp→VK→Prop
abbrev TT:=St→Hp→(Bool→Hp→Prop)→Prop
abbrev TA:=St→Hp→(List V→Hp→Prop)→Prop
structure a8c where
 nx:St→Hp→Prop
 rt:VK
 bk:St→Hp→Prop:=fun _ _=>False
 ct:St→Hp→Prop:=fun _ _=>False
abbrev TS:=a8c→St→Hp→Prop
def EP (X:Cx) (pins:List (Addr×Obj)) (σ:St) (Q:VK) (u:Value) (s':Shared):Prop:=∃v H',Inv X pins σ H' s'∧a0Q v u∧Q v H'
def TP (X:Cx) (pins:List (Addr×Obj)) (σ:St) (Q:Bool→Hp→Prop) (b:Bool) (s':Shared):Prop:=∃H',Inv X pins σ H' s'∧Q b H'
def AP (X:Cx) (pins:List (Addr×Obj)) (σ:St) (Q:List V→Hp→Prop) (us:List Value) (s':Shared):Prop:=∃vs H',Inv X pins σ H' s'∧a0Y vs us∧Q vs H'
def SP (X:Cx) (pins:List (Addr×Obj)) (D:a8c) (f:Flow) (s':Shared):Prop:=
 match f with
 | .next=>∃σ' H',Inv X pins σ' H' s'∧D.nx σ' H'
 | .brk=>∃σ' H',Inv X pins σ' H' s'∧D.bk σ' H'
 | .cont=>∃σ' H',Inv X pins σ' H' s'∧D.ct σ' H'
 | .ret u=>∃v σ' H',Inv X pins σ' H' s'∧a0Q v u∧D.rt v H'
def PE (X:Cx) (e:Expr) (t:TE):Prop:=
 ∀(pins:List (Addr×Obj)) (s:Shared) (σ:St) (H:Hp) (Q:VK),Inv X pins σ H s→t σ H Q→wpAny (model X.prog X.w) X.A (eval e X.env) (EP X pins σ Q) X.xe s
def PT (X:Cx) (e:Expr) (t:TT):Prop:=
 ∀(pins:List (Addr×Obj)) (s:Shared) (σ:St) (H:Hp) (Q:Bool→Hp→Prop),Inv X pins σ H s→t σ H Q→wpAny (model X.prog X.w) X.A (isTrue e X.env (eval e X.env)) (TP X pins σ Q) X.xe s
def PW (X:Cx) (e:Expr) (t:TT):Prop:=
 ∀(whole:Sem Value) (pins:List (Addr×Obj)) (s:Shared) (σ:St) (H:Hp) (Q:Bool→Hp→Prop),Inv X pins σ H s→t σ H Q→wpAny (model X.prog X.w) X.A (isTrue e X.env whole) (TP X pins σ Q) X.xe s
theorem PW.pt {X:Cx} {e:Expr} {t:TT} (h:PW X e t):PT X e t:=h _
def PA (X:Cx) (es:List Expr) (t:TA):Prop:=
 ∀(pos:Pos) (pins:List (Addr×Obj)) (s:Shared) (σ:St) (H:Hp) (Q:List V→Hp→Prop),Inv X pins σ H s→t σ H Q→wpAny (model X.prog X.w) X.A (spliced (backTo pos (starEach es X.env))) (AP X pins σ Q) X.xe s
def PS (X:Cx) (st:Stmt) (t:TS):Prop:=
 ∀(pins:List (Addr×Obj)) (s:Shared) (σ:St) (H:Hp) (D:a8c),Inv X pins σ H s→t D σ H→wpAny (model X.prog X.w) X.A (exec st X.env) (SP X pins D) X.xe s
def PSs (X:Cx) (st:List Stmt) (t:TS):Prop:=
 ∀(pins:List (Addr×Obj)) (s:Shared) (σ:St) (H:Hp) (D:a8c),Inv X pins σ H s→t D σ H→wpAny (model X.prog X.w) X.A (execs st X.env) (SP X pins D) X.xe s
theorem thn {α:Type} {t:Sem α} {Q Q':α→Shared→Prop} {M:Model} {A:Around} {E:Value→Shared→Prop} {s:Shared} (h:wpAny M A t Q E s) (hQ:∀a s,Q a s→Q' a s):wpAny M A t Q' E s:=wpAny_mono h hQ fun _ _ x=>x
section
variable {X:Cx}
theorem bin {a b:Expr} {ta tb:TE} (ha:PE X a ta) (hb:PE X b tb) {pins:List (Addr×Obj)} {s:Shared} {σ:St} {H:Hp} {R:V→V→Hp→Prop} (I:Inv X pins σ H s) (h:ta σ H fun x H1=>tb σ H1 fun y H2=>R x y H2)
  {α:Type} {Q:α→Shared→Prop} {f:Value→Value→Sem α}
  (hf:∀v u s2 x y H2,Inv X pins σ H2 s2→a0Q x v→a0Q y u→R x y H2→wpAny (model X.prog X.w) X.A (f v u) Q X.xe s2):
  wpAny (model X.prog X.w) X.A (eval a X.env) (fun v s₁=>wpAny (model X.prog X.w) X.A (eval b X.env) (fun u s₂=>wpAny (model X.prog X.w) X.A (f v u) Q X.xe s₂) X.xe s₁) X.xe s:=by
 refine thn (ha pins s σ H _ I h) fun v s1 ⟨x,H1,I1,r1,q1⟩=>?_
 refine thn (hb pins s1 σ H1 _ I1 q1) fun u s2 ⟨y,H2,I2,r2,q2⟩=>?_
 exact hf v u s2 x y H2 I2 r1 r2 q2
def a0k (i:Nat):TE:=fun σ H Q=>∃v,σ[i]?=some (some v)∧Q v H
def tC (v:V):TE:=fun _ H Q=>Q v H
theorem b9L {i:Nat} {x:Str} {pos:Pos} (hN:X.N[i]?=some x) (hv:Vis X.env.scope x) (hd:(x == ("__debug__":Str))=false:=by decide) (hcd:(x == ("__classdict__":Str))=false:=by decide):PE X (.Name x pos) (a0k i):=by
 intro pins s σ H Q I h
 obtain ⟨v,e,h⟩:=h
 obtain ⟨m,hn,hl⟩:=I.loc
 obtain ⟨u,r,l⟩:=hl i x v hN e hv
 have fin:EP X pins σ Q u s:=⟨v,H,I,r,h⟩
 rcases l with ⟨hk,hm⟩ | ⟨hk,c,hc,hcell⟩
 ·exact wpAny_Name (wpAny_loadName_local I.ok.kind hk hn hm fin) hd
 ·rcases hk with hk | hk
  ·exact wpAny_Name (wpAny_loadName_cell I.ok.kind hk hc hcell fin) hd
  ·exact wpAny_Name (wpAny_loadName_free I.ok.kind hk hc hcell fin hcd) hd
theorem c0R {i j pos}:PE X (.Constant (.int i) j pos) (tC (.int i)):=fun _ _ _ H _ I h=>wpAny_Constant_int ⟨.int i,H,I.tok _,⟨_,rfl⟩,h⟩
theorem c2Y {b j pos}:PE X (.Constant (.bool b) j pos) (tC (.bl b)):=fun _ _ _ H _ I h=>Constant_bool ⟨.bl b,H,I,rfl,h⟩
theorem b8Y {j pos}:PE X (.Constant .none j pos) (tC .non):=fun _ _ _ H _ I h=>Constant_none ⟨.non,H,I,rfl,h⟩
theorem c1Q {x j pos}:PE X (.Constant (.str x) j pos) (tC (.str x)):=fun _ _ _ H _ I h=>Calls.Constant_str ⟨.str x,H,I.tok _,⟨_,rfl⟩,h⟩
def Gl (X:Cx) (x:Str):Prop:=X.env.kindOf x=some .globalImplicit
theorem a7m {E:Value→Shared→Prop} {pins:List (Addr×Obj)} {s:Shared} {σ:St} {H:Hp} {x:Str} {u:Value} {pos:Pos} {Q:Value→Shared→Prop} (I:Inv X pins σ H s) (hg:Gl X x) (hm:X.mg x=some u) (h:Q u s)
  (hd:(x == ("__debug__":Str))=false:=by decide):wpAny (model X.prog X.w) X.A (eval (.Name x pos) X.env) Q E s:=
 Calls.Name_function_global I.ok.kind hg (Calls.loadGlobal_global (by rw [I.ok.glob];exact I.mod.glob.keeps I.bk) hm h) hd
theorem a4i {E:Value→Shared→Prop} {pins:List (Addr×Obj)} {s:Shared} {σ:St} {H:Hp} {x:Str} {u:Value} {pos:Pos} {Q:Value→Shared→Prop} (I:Inv X pins σ H s) (hg:Gl X x) (hm:X.mg x=none) (hv:bootBuiltins x=some u) (h:Q u s)
  (hn:x≠"__name__":=by decide) (hd:(x == ("__debug__":Str))=false:=by decide):wpAny (model X.prog X.w) X.A (eval (.Name x pos) X.env) Q E s:=by
 obtain ⟨mb,h1,h2⟩:=I.mod.blt
 exact Calls.Name_function_global I.ok.kind hg (Calls.loadGlobal_builtin (by rw [I.ok.glob];exact I.mod.glob.keeps I.bk) hm (by rw [I.ok.blt];exact h1.keeps I.bk) ((h2 x hn).trans hv) h) hd
theorem b7Y {x:Str} {v:V} {u:Value} {pos:Pos} (hg:Gl X x) (hm:X.mg x=some u) (r:a0Q v u) (hd:(x == ("__debug__":Str))=false:=by decide):PE X (.Name x pos) (tC v):=
 fun _ _ _ H _ I h=>a7m I hg hm ⟨v,H,I,r,h⟩ hd
theorem b7f {x:Str} {v:V} {u:Value} {pos:Pos} (hg:Gl X x) (hm:X.mg x=none) (hv:bootBuiltins x=some u) (r:a0Q v u) (hn:x≠"__name__":=by decide) (hd:(x == ("__debug__":Str))=false:=by decide):PE X (.Name x pos) (tC v):=
 fun _ _ _ H _ I h=>a4i I hg hm hv ⟨v,H,I,r,h⟩ hn hd
variable {a b:Expr} {ta tb:TE} {pos:Pos}
def PC (X:Cx) (op:CmpOp) (a b:Expr) (t:TE):Prop:=
 ∀(pins:List (Addr×Obj)) (s:Shared) (σ:St) (H:Hp) (Q:VK),Inv X pins σ H s→t σ H Q→
  wpAny (model X.prog X.w) X.A (eval a X.env) (fun v s₁=>wpAny (model X.prog X.w) X.A (eval b X.env) (fun u s₂=>wpAny (model X.prog X.w) X.A (compareOp op v u) (EP X pins σ Q) X.xe s₂) X.xe s₁) X.xe s
theorem a7J (b:Expr) {op:CmpOp} (h:op≠.In) (h2:op≠.NotIn):behindInMarks op b=false:=by
 have e1:(op == CmpOp.In)=false:=by cases op<;>first | rfl | exact absurd rfl h
 have e2:(op == CmpOp.NotIn)=false:=by cases op<;>first | rfl | exact absurd rfl h2
 cases b<;>simp [behindInMarks,e1,e2]
def tB (t:TE):TT:=fun σ H Q=>t σ H fun x H1=>∃c,x=.bl c∧Q c H1
theorem c1u {op:CmpOp} {t:TE} (h:PC X op a b t) (h1:behindInMarks op b=false:=by first | exact a7J _ ‹dc› ‹dc› | rfl):PE X (.Compare a [op] [b] pos) t:=fun pins s σ H Q I hw=>wpAny_Compare1 (h pins s σ H Q I hw) h1
theorem b9A {op:CmpOp} {t:TE} (h:PC X op a b t) (h1:behindInMarks op b=false:=by first | exact a7J _ ‹dc› ‹dc› | rfl):PT X (.Compare a [op] [b] pos) (tB t):=by
 intro pins s σ H Q I hw
 refine wpAny_isTrue_Compare1 (thn (h pins s σ H _ I hw) fun v s1 h1=>thn h1 fun u s2 h2=>thn h2 fun c s3 ⟨x,H1,I1,r1,q1⟩=>?_) h1
 obtain ⟨d,rfl,q⟩:=q1
 cases r1
 exact wpAny_truthy_bool ⟨H1,I1,q⟩
theorem c1f {e:Expr} {t:TE} (h:PE X e t) (he:∀whole,isTrue e X.env whole=(do let v ←whole;standAt e.pos;holding [v] (truthy v)):=by intro _;rfl):PT X e (tB t):=by
 intro pins s σ H Q I hw
 refine isTrue_plain (thn (h pins s σ H _ I hw) fun v s1 ⟨x,H1,I1,r1,q1⟩=>?_) (he _)
 obtain ⟨d,rfl,q⟩:=q1
 cases r1
 exact wpAny_truthy_bool ⟨H1,I1,q⟩
variable {tA tB':TT} {a6M:List Expr}
def b7t (t u:TT):TT:=fun σ H Q=>t σ H fun c H1=>if c=true then u σ H1 Q else Q false H1
def tOr (t u:TT):TT:=fun σ H Q=>t σ H fun c H1=>if c=true then Q true H1 else u σ H1 Q
def b2p (t:TT):TT:=fun σ H Q=>t σ H fun c H1=>Q (!c) H1
theorem b6M (ha:PT X a tA):PW X (.BoolOp .And [a] pos) tA:=by
 intro wh pins s σ H Q I h
 refine isTrue_and (thn (ha pins s σ H Q I h) fun c s1 e=>?_)
 cases c with
 | true=>exact isTrue_and_nil e
 | false=>exact e
theorem c2t (ha:PT X a tA):PW X (.BoolOp .Or [a] pos) tA:=by
 intro wh pins s σ H Q I h
 refine isTrue_or (thn (ha pins s σ H Q I h) fun c s1 e=>?_)
 cases c with
 | false=>exact isTrue_or_nil e
 | true=>exact e
theorem b8M (ha:PT X a tA) (hb:PW X (.BoolOp .And (b::a6M) pos) tB'):PW X (.BoolOp .And (a::b::a6M) pos) (b7t tA tB'):=by
 intro wh pins s σ H Q I h
 refine isTrue_and (thn (ha pins s σ H _ I h) fun c s1 ⟨H1,I1,q1⟩=>?_)
 cases c with
 | true=>exact hb wh pins s1 σ H1 Q I1 q1
 | false=>exact ⟨H1,I1,q1⟩
theorem c2S (ha:PT X a tA) (hb:PW X (.BoolOp .Or (b::a6M) pos) tB'):PW X (.BoolOp .Or (a::b::a6M) pos) (tOr tA tB'):=by
 intro wh pins s σ H Q I h
 refine isTrue_or (thn (ha pins s σ H _ I h) fun c s1 ⟨H1,I1,q1⟩=>?_)
 cases c with
 | true=>exact ⟨H1,I1,q1⟩
 | false=>exact hb wh pins s1 σ H1 Q I1 q1
theorem b9j (ha:PT X a tA):PT X (.UnaryOp .Not a pos) (b2p tA):=by
 intro pins s σ H Q I h
 exact isTrue_not (ha pins s σ H (fun c H1=>Q (!c) H1) I h)
def b6G (ta tb:TE):TE:=fun σ H Q=>ta σ H fun x H1=>∃c,x=.bl c∧if c=true then tb σ H1 Q else Q (.bl false) H1
def c3x (ta tb:TE):TE:=fun σ H Q=>ta σ H fun x H1=>∃c,x=.bl c∧if c=true then Q (.bl true) H1 else tb σ H1 Q
def b6U (ta:TE):TE:=fun σ H Q=>ta σ H fun x H1=>∃c,x=.bl c∧Q (.bl (!c)) H1
theorem b9f {op} {t:TE} (h:PE X a t):PE X (.BoolOp op [a] pos) t:=fun pins s σ H Q I hw=>BoolOp_one (h pins s σ H Q I hw)
theorem c2u (ha:PE X a ta) (hb:PE X (.BoolOp .And (b::a6M) pos) tb):PE X (.BoolOp .And (a::b::a6M) pos) (b6G ta tb):=by
 intro pins s σ H Q I h
 refine BoolOp_and (thn (ha pins s σ H _ I h) fun v s1 ⟨x,H1,I1,r1,q1⟩=>?_)
 obtain ⟨c,rfl,q1⟩:=q1
 cases r1
 refine wpAny_truthy_bool ?_
 cases c with
 | true=>exact hb pins s1 σ H1 Q I1 q1
 | false=>exact ⟨.bl false,H1,I1,rfl,q1⟩
theorem c2X (ha:PE X a ta) (hb:PE X (.BoolOp .Or (b::a6M) pos) tb):PE X (.BoolOp .Or (a::b::a6M) pos) (c3x ta tb):=by
 intro pins s σ H Q I h
 refine BoolOp_or (thn (ha pins s σ H _ I h) fun v s1 ⟨x,H1,I1,r1,q1⟩=>?_)
 obtain ⟨c,rfl,q1⟩:=q1
 cases r1
 refine wpAny_truthy_bool ?_
 cases c with
 | false=>exact hb pins s1 σ H1 Q I1 q1
 | true=>exact ⟨.bl true,H1,I1,rfl,q1⟩
theorem c0u (ha:PE X a ta):PE X (.UnaryOp .Not a pos) (b6U ta):=by
 intro pins s σ H Q I h
 refine UnaryOp_ (thn (ha pins s σ H _ I h) fun v s1 ⟨x,H1,I1,r1,q1⟩=>?_)
 obtain ⟨c,rfl,q1⟩:=q1
 cases r1
 exact not_of (wpAny_truthy_bool ⟨.bl (!c),H1,I1,rfl,q1⟩)
def tIf (t:TT) (ta tb:TE):TE:=fun σ H Q=>t σ H fun c H1=>if c=true then ta σ H1 Q else tb σ H1 Q
theorem b3y {c:Expr} (hc:PT X c tA) (ha:PE X a ta) (hb:PE X b tb):PE X (.IfExp c a b pos) (tIf tA ta tb):=by
 intro pins s σ H Q I h
 refine wpAny_IfExp (thn (hc pins s σ H _ I h) fun d s1 ⟨H1,I1,q1⟩=>?_)
 cases d with
 | true=>exact ha pins s1 σ H1 Q I1 q1
 | false=>exact hb pins s1 σ H1 Q I1 q1
end
def SqL (K:Qe) (H:Hp) (a:Addr) (xs:List V):Prop:=
 Rd H a (.lst xs)∨
  ∃(o:Obj) (its:Array Value) (n:Nat),K.lookup a=some o∧o.cls=.type "list"∧o.dict=none∧o.data=.seq its n∧its.size≤sizeLine∧a0Y xs its.toList
def SqT (K:Qe) (H:Hp) (a:Addr) (xs:List V):Prop:=
 Rd H a (.tup xs)∨
  ∃(o:Obj) (its:Array Value) (n:Nat),K.lookup a=some o∧o.cls=.type "tuple"∧o.data=.seq its n∧its.size≤sizeLine∧a0Y xs its.toList
def c8d:Value→Option V
 | .none=>some .non
 | .bool b=>some (.bl b)
 | .int i _=>some (.int i)
 | .str x _=>some (.str x)
 | .bytes b _=>some (.byt b)
 | .float b _=>some (.flt b)
 | .ref a=>some (.ref a)
 | .type n=>some (.ty n)
 | _=>none
theorem a0Q.abs {x:V} {u:Value} (r:a0Q x u):c8d u=some x:=by
 cases x with
 | non=>cases r;rfl
 | bl _=>cases r;rfl
 | int _=>obtain ⟨t,rfl⟩:=r;rfl
 | str _=>obtain ⟨t,rfl⟩:=r;rfl
 | byt _=>obtain ⟨t,rfl⟩:=r;rfl
 | flt _=>obtain ⟨t,rfl⟩:=r;rfl
 | ref _=>cases r;rfl
 | ty _=>cases r;rfl
theorem a0Q.inj {x y:V} {u:Value} (r:a0Q x u) (q:a0Q y u):x=y:=Option.some.inj (r.abs.symm.trans q.abs)
theorem a0Y.inj:∀{xs ys:List V} {us:List Value},a0Y xs us→a0Y ys us→xs=ys
 | _,_,_,.nil,.nil=>rfl
 | _,_,_,.cons r t,.cons r' t'=>by rw [r.inj r',a0Y.inj t t']
section
variable {X:Cx} {pins:List (Addr×Obj)} {σ:St} {H:Hp} {s:Shared} {a:Addr} {xs ys:List V}
theorem SqL.of {K:Qe} (h:H a=some (.lst xs)):SqL K H a xs:=.inl (.inl h)
theorem SqT.of {K:Qe} (h:H a=some (.tup xs)):SqT K H a xs:=.inl (.inl h)
theorem Inv.list (I:Inv X pins σ H s) (h:SqL X.K H a xs):∃its:List Value,a0Y xs its∧PlainL s.heap a its.toArray∧xs.length≤sizeLine:=by
 rcases h with h | ⟨o,its,n,hk,hc,hd,hs,hz,r⟩
 ·obtain ⟨z,its,n,r,e⟩:=h.ok I.hok
  exact ⟨its,r,⟨_,n,e,rfl,rfl,rfl⟩,z⟩
 ·refine ⟨its.toList,r,⟨o,n,I.kIn a o hk,hc,hd,by simpa using hs⟩,?_⟩
  have e:=r.length
  simp only [Zl] at e
  omega
theorem Inv.tuple (I:Inv X pins σ H s) (h:SqT X.K H a xs):∃its:List Value,a0Y xs its∧IsTup s.heap a its.toArray∧xs.length≤sizeLine:=by
 rcases h with h | ⟨o,its,n,hk,hc,hs,hz,r⟩
 ·obtain ⟨z,its,r,p⟩:=h.ok I.hok
  exact ⟨its,r,p,z⟩
 ·refine ⟨its.toList,r,⟨o,I.kIn a o hk,hc,n,by simpa using hs⟩,?_⟩
  have e:=r.length
  simp only [Zl] at e
  omega
theorem Inv.list_inj (I:Inv X pins σ H s) (h:SqL X.K H a xs) (h':SqL X.K H a ys):xs=ys:=by
 obtain ⟨its,r,⟨o,n,e,_,_,d⟩,_⟩:=I.list h
 obtain ⟨its',r',⟨o',n',e',_,_,d'⟩,_⟩:=I.list h'
 rw [e] at e';cases e'
 rw [d] at d'
 injection d' with d1 _
 have:its=its':=by simpa using congrArg Array.toList d1
 subst this
 exact r.inj r'
theorem Inv.tuple_inj (I:Inv X pins σ H s) (h:SqT X.K H a xs) (h':SqT X.K H a ys):xs=ys:=by
 obtain ⟨its,r,⟨o,e,_,n,d⟩,_⟩:=I.tuple h
 obtain ⟨its',r',⟨o',e',_,n',d'⟩,_⟩:=I.tuple h'
 rw [e] at e';cases e'
 rw [d] at d'
 injection d' with d1 _
 have:its=its':=by simpa using congrArg Array.toList d1
 subst this
 exact r.inj r'
end
abbrev Cx.wish (X:Cx) (E:Value→Shared→Prop):Cx:={X with xe:=E}
abbrev Cx.nox (X:Cx):Cx:=X.wish fun _ _=>False
theorem Cx.Ok.wish {X:Cx} (ok:X.Ok) (E:Value→Shared→Prop):(X.wish E).Ok:=
 ⟨ok.mod,ok.kind,ok.glob,ok.blt,ok.above,ok.inj,ok.has,ok.cab,ok.hd,ok.frames,ok.stk,ok.exf,ok.bs,ok.bsz,ok.noex,ok.exfs,ok.funs,ok.frf⟩
theorem Cx.Ok.unwish {X:Cx} {E:Value→Shared→Prop} (ok:(X.wish E).Ok):X.Ok:=
 ⟨ok.mod,ok.kind,ok.glob,ok.blt,ok.above,ok.inj,ok.has,ok.cab,ok.hd,ok.frames,ok.stk,ok.exf,ok.bs,ok.bsz,ok.noex,ok.exfs,ok.funs,ok.frf⟩
section
variable {X:Cx} {pins:List (Addr×Obj)} {σ:St} {H:Hp} {s:Shared} {E:Value→Shared→Prop}
theorem Inv.wish (I:Inv X pins σ H s) (E:Value→Shared→Prop):Inv (X.wish E) pins σ H s:=⟨I.ok.wish E,I.os,I.bare,I.base,I.loc,I.cell,I.free,I.freeC,I.pin,I.hok,I.len⟩
theorem Inv.unwish (I:Inv (X.wish E) pins σ H s):Inv X pins σ H s:=⟨I.ok.unwish,I.os,I.bare,I.base,I.loc,I.cell,I.free,I.freeC,I.pin,I.hok,I.len⟩
theorem SP.unwish {D:a8c} {f:Flow} {s':Shared} (h:SP (X.wish E) pins D f s'):SP X pins D f s':=by
 cases f with
 | next=>obtain ⟨σ',H',I,q⟩:=h;exact ⟨σ',H',I.unwish,q⟩
 | brk=>obtain ⟨σ',H',I,q⟩:=h;exact ⟨σ',H',I.unwish,q⟩
 | cont=>obtain ⟨σ',H',I,q⟩:=h;exact ⟨σ',H',I.unwish,q⟩
 | ret u=>obtain ⟨v,σ',H',I,r,q⟩:=h;exact ⟨v,σ',H',I.unwish,r,q⟩
theorem PSs.nox {st:List Stmt} {t:TS} (h:PSs X.nox st t):PSs X st t:=fun pins s σ H D I hw=>
 wpAny_mono (h pins s σ H D (I.wish _) hw) (fun _ _ q=>q.unwish) fun _ _ z=>False.elim z
end
section
variable {X:Cx} {st:Stmt} {a6M:List Stmt} {t u:TS} {e:Expr} {te:TE} {pos:Pos}
def a1q:TS:=fun D σ H=>D.nx σ H
def a1l (t u:TS):TS:=fun D σ H=>t {D with nx:=u D} σ H
theorem b7V:PSs X [] a1q:=fun _ _ σ H _ I h=>wpAny_execs_nil ⟨σ,H,I,h⟩
theorem b4I (h1:PS X st t) (h2:PSs X a6M u):PSs X (st::a6M) (a1l t u):=by
 intro pins s σ H D I h
 refine wpAny_execs_cons (thn (h1 pins s σ H {D with nx:=u D} I h) fun f s1 q=>?_)
 cases f with
 | next=>
  obtain ⟨σ',H',I',q⟩:=q
  exact h2 pins s1 σ' H' D I' q
 | ret v=>exact q
 | brk=>exact q
 | cont=>exact q
theorem b7B (h1:PS X st t):PSs X [st] t:=by
 intro pins s σ H D I h
 refine wpAny_execs_cons (thn (h1 pins s σ H D I h) fun f s1 q=>?_)
 cases f with
 | next=>exact wpAny_execs_nil q
 | ret v=>exact q
 | brk=>exact q
 | cont=>exact q
theorem Inv.quiet {pins:List (Addr×Obj)} {σ:St} {H:Hp} {s:Shared} (I:Inv X pins σ H s):interactive X.env=false:=by simp [interactive,I.ok.kind]
def a3n (te:TE):TS:=fun D σ H=>te σ H fun _ H1=>D.nx σ H1
theorem b7O (he:PE X e te) (hs:swapsWith e none pos.line X.env=pure false:=by rfl):PS X (.Expr e pos) (a3n te):=by
 intro pins s σ H D I h
 exact wpAny_Expr_any (thn (he pins s σ H _ I h) fun v s1 ⟨x,H1,I1,r1,q1⟩=>⟨σ,H1,I1,q1⟩) I.quiet hs
def a0X (te:TE):TS:=fun D σ H=>te σ H D.rt
theorem c1B (he:PE X e te):PS X (.Return (some e) pos) (a0X te):=by
 intro pins s σ H D I h
 exact wpAny_Return_some (thn (he pins s σ H _ I h) fun v s1 ⟨x,H1,I1,r1,q1⟩=>⟨x,σ,H1,I1,r1,q1⟩)
def a2I (c:TT) (t u:TS):TS:=fun D σ H=>c σ H fun b H1=>if b=true then t D σ H1 else u D σ H1
theorem c2Z {c:Expr} {a b:List Stmt} {tc:TT} (hc:PT X c tc) (ha:PSs X a t) (hb:PSs X b u):PS X (.If c a b pos) (a2I tc t u):=by
 intro pins s σ H D I h
 refine wpAny_If (thn (hc pins s σ H _ I h) fun d s1 ⟨H1,I1,q1⟩=>?_)
 cases d with
 | true=>exact ha pins s1 σ H1 D I1 q1
 | false=>exact hb pins s1 σ H1 D I1 q1
end
abbrev TG:=V→St→Hp→(St→Hp→Prop)→Prop
abbrev TGs:=List V→St→Hp→(St→Hp→Prop)→Prop
def PG (X:Cx) (target:Expr) (t:TG):Prop:=
 ∀(pins:List (Addr×Obj)) (s:Shared) (σ:St) (H:Hp) (v:V) (u:Value) (Q:St→Hp→Prop),Inv X pins σ H s→a0Q v u→t v σ H Q→
  wpAny (model X.prog X.w) X.A (assign target X.env u) (fun _ s'=>∃σ' H',Inv X pins σ' H' s'∧Q σ' H') X.xe s
def PGs (X:Cx) (ts:List Expr) (t:TGs):Prop:=
 ∀(pins:List (Addr×Obj)) (s:Shared) (σ:St) (H:Hp) (vs:List V) (us:List Value) (Q:St→Hp→Prop),Inv X pins σ H s→a0Y vs us→t vs σ H Q→
  wpAny (model X.prog X.w) X.A (assignInOrder ((assignEach ts X.env).map (·.2)) us) (fun _ s'=>∃σ' H',Inv X pins σ' H' s'∧Q σ' H') X.xe s
abbrev TIp:=V→V→Hp→VK→Prop
def PIp (X:Cx) (op:Operator) (t:TIp):Prop:=
 ∀(pins:List (Addr×Obj)) (s:Shared) (σ:St) (H:Hp) (x y:V) (v u:Value) (Q:VK),Inv X pins σ H s→a0Q x v→a0Q y u→t x y H Q→
  wpAny (model X.prog X.w) X.A (inplaceOp op v u) (EP X pins σ Q) X.xe s
section
variable {X:Cx} {pos:Pos}
def a0l (i:Nat):TG:=fun v σ H Q=>Q (σ.set i (some v)) H
theorem b6O {i:Nat} {x:Str} (hN:X.N.Nodup) (hi:X.N[i]?=some x) (hx:Loc X.env.scope x) (hf:X.fn x=true∨X.env.scope.names.lookup x=some .local:=by first | exact .inl rfl | exact .inr rfl | assumption):PG X (.Name x pos) (a0l i):=by
 intro pins s σ H v u Q I r h
 exact wpAny_assign_Name (a5P I hN hi hx r (fun s' I'=>⟨_,H,I',h⟩) hf)
def b4S:TGs:=fun vs σ H Q=>vs=[]∧Q σ H
def a4E (t:TG) (u:TGs):TGs:=fun vs σ H Q=>∃v r,vs=v::r∧t v σ H fun σ' H'=>u r σ' H' Q
theorem b7x:PGs X [] b4S:=by
 intro pins s σ H vs us Q I r h
 obtain ⟨e,h⟩:=h
 subst e
 cases r
 exact assignInOrder_nil ⟨σ,H,I,h⟩
theorem b4C {e:Expr} {es:List Expr} {t:TG} {u:TGs} (h1:PG X e t) (h2:PGs X es u)
  (hs:(assignEach (e::es) X.env).map (·.2)=assign e X.env::(assignEach es X.env).map (·.2):=by rfl):PGs X (e::es) (a4E t u):=by
 intro pins s σ H vs us Q I r h
 obtain ⟨v,vr,e1,h⟩:=h
 subst e1
 cases r with
 | cons r rr=>
  rw [hs]
  refine assignInOrder_cons (thn (h1 pins s σ H _ _ _ I r h) fun _ s1 ⟨σ1,H1,I1,q1⟩=>?_)
  exact h2 pins s1 σ1 H1 _ _ Q I1 rr q1
def b4a (K:Qe) (n:Nat) (t:TGs):TG:=fun v σ H Q=>∃a xs,v=.ref a∧SqT K H a xs∧xs.length=n∧t xs σ H Q
theorem b5k {es:List Expr} {k:Nat} {t:TGs} {n:Nat} (hc:X.calm=true) (h:PGs X es t)
  (hn:(assignEach es X.env).length=n:=by rfl) (hst:(assignEach es X.env).findIdx? (·.1)=none:=by rfl):PG X (.Tuple es k pos) (b4a X.K n t):=by
 intro pins s σ H v u Q I r hw
 obtain ⟨a,xs,e1,hq,hl,hw⟩:=hw
 subst e1
 cases r
 obtain ⟨its,rv,ht,hz⟩:=I.tuple hq
 refine assign_Tuple_tuple (I.ok.hd hc) ht (by simp [hn,←hl,rv.length]) hst fun h' hx=>?_
 have I1:Inv X pins σ H {s with heap:=h'}:=I.kept (t':=s.toks) fun b o e=>hx b o (Xl (Qz e)) e
 exact h pins _ σ H xs _ Q I1 (by simpa using rv) hw
def a1P (te:TE) (g:TG):TS:=fun D σ H=>te σ H fun x H1=>g x σ H1 D.nx
theorem c0r {tg e:Expr} {te:TE} {g:TG} (he:PE X e te) (hg:PG X tg g) (hs:swapsWithSole [tg] e pos.line X.env=pure false:=by rfl) (hw:swappedStores [tg] e X.env=pure none:=by rfl)
  (h1:(assignEach [tg] X.env).map (·.2)=[assign tg X.env]:=by rfl):PS X (.Assign [tg] e pos) (a1P te g):=by
 intro pins s σ H D I h
 refine wpAny_Assign_stores (thn (he pins s σ H _ I h) fun v s1 ⟨x,H1,I1,r1,q1⟩=>?_) hs hw
 rw [h1]
 exact thn (hg pins s1 σ H1 x v _ I1 r1 q1) fun _ s2 q=>q
theorem c1G {i:Nat} {x:Str} {e:Expr} {te:TE} {pos':Pos} (hN:X.N.Nodup) (hi:X.N[i]?=some x) (hx:Loc X.env.scope x) (he:PE X e te) (hs:swapsWith e (some (.Name x pos')) pos.line X.env=pure false:=by rfl) (hf:X.fn x=true∨X.env.scope.names.lookup x=some .local:=by first | exact .inl rfl | exact .inr rfl | assumption):
  PS X (.Assign [.Name x pos'] e pos) (a1P te (a0l i)):=by
 intro pins s σ H D I h
 refine wpAny_Assign_Name (thn (he pins s σ H _ I h) fun v s1 ⟨y,H1,I1,r1,q1⟩=>?_) hs
 exact a5P I1 hN hi hx r1 (fun s2 I2=>⟨_,H1,I2,q1⟩) hf
def c3g (i:Nat) (te:TE) (ti:TIp):TS:=fun D σ H=>∃x,σ[i]?=some (some x)∧te σ H fun y H1=>ti x y H1 fun z H2=>D.nx (σ.set i (some z)) H2
theorem c1S {i:Nat} {x:Str} {e:Expr} {te:TE} {op:Operator} {ti:TIp} {pos':Pos} (hN:X.N.Nodup) (hi:X.N[i]?=some x) (hx:Loc X.env.scope x) (he:PE X e te) (ho:PIp X op ti) (hf:X.fn x=true∨X.env.scope.names.lookup x=some .local:=by first | exact .inl rfl | exact .inr rfl | assumption):
  PS X (.AugAssign (.Name x pos') op e pos) (c3g i te ti):=by
 intro pins s σ H D I h
 obtain ⟨v,e1,h⟩:=h
 obtain ⟨m,hn,hl⟩:=I.loc
 have vis:Vis X.env.scope x:=by rcases hx with k | k;exact .inl k;exact .inr (.inl k)
 obtain ⟨u,r,l⟩:=hl i x v hi e1 vis
 refine wpAny_AugAssign_Name ?_
 have go:wpAny (model X.prog X.w) X.A (eval e X.env) (fun w s₂=>wpAny (model X.prog X.w) X.A (inplaceOp op u w) (fun r s₃=>wpAny (model X.prog X.w) X.A (storeName X.env x r) (fun _=>SP X pins D .next) X.xe s₃) X.xe s₂) X.xe s:=by
  refine thn (he pins s σ H _ I h) fun w s1 ⟨y,H1,I1,r1,q1⟩=>?_
  refine thn (ho pins s1 σ H1 v y u w _ I1 r r1 q1) fun z s2 ⟨zv,H2,I2,r2,q2⟩=>?_
  exact a5P I2 hN hi hx r2 (fun s3 I3=>⟨_,H2,I3,q2⟩) hf
 rcases l with ⟨hk,hm⟩ | ⟨hk,c,hc,hcell⟩
 ·exact wpAny_loadName_local I.ok.kind hk hn hm go
 ·rcases hk with hk | hk
  ·exact wpAny_loadName_cell I.ok.kind hk hc hcell go
  ·rcases hx with k | k
   ·have:X.env.scope.names.lookup x=some .free:=hk
    rw [k] at this;cases this
   ·have:X.env.scope.names.lookup x=some .free:=hk
    rw [k] at this;cases this
def ipI (f:Int→Int→Int):TIp:=fun x y H Q=>∃i j,x=.int i∧y=.int j∧Q (.int (f i j)) H
theorem c0Q:PIp X .Add (ipI fun i j=>i+j):=by
 intro pins s σ H x y v u Q I r1 r2 h
 obtain ⟨i,j,e1,e2,q⟩:=h
 subst e1;subst e2
 obtain ⟨t,rfl⟩:=r1
 obtain ⟨t',rfl⟩:=r2
 exact iadd_int ⟨.int _,H,I.tok _,⟨_,rfl⟩,q⟩
end
section
variable {X:Cx} {pos:Pos}
def b5S (c:TT) (tb:TS):TS:=fun D σ H=>∃W:Nat→St→Hp→Prop,(∃m,W m σ H)∧∀m σ H,W m σ H→
 c σ H fun b H1=>if b=true then ∃N:St→Hp→Prop,(∀σ' H',N σ' H'→∃m',m' < m∧W m' σ' H')∧tb {D with nx:=N,ct:=N,bk:=D.nx} σ H1 else D.nx σ H1
theorem b4M {c:Expr} {body:List Stmt} {tc:TT} {tb:TS} (hp:PassesOwn (model X.prog X.w) X.A X.env X.xe) (hc:PT X c tc) (hb:PSs X body tb):PS X (.While c body [] pos) (b5S tc tb):=by
 intro pins s σ H D I h
 obtain ⟨W,⟨m0,w0⟩,turn⟩:=h
 refine wpAny_While (codeAny_whileLoop (fun n s'=>∃σ' H',Inv X pins σ' H' s'∧W n σ' H') ?_ m0 ⟨σ,H,I,w0⟩)
 rintro n s1 ⟨σ1,H1,I1,w1⟩
 refine wpAny_passesOwn hp (thn (hc pins s1 σ1 H1 _ I1 (turn n σ1 H1 w1)) fun b s2 ⟨H2,I2,q2⟩=>?_)
 cases b with
 | true=>
  obtain ⟨N,hN,q2⟩:=q2
  rw [if_pos rfl]
  refine wpAny_passesOwn hp (thn (hb pins s2 σ1 H2 _ I2 q2) fun f s3 q3=>?_)
  cases f with
  | next=>
   obtain ⟨σ3,H3,I3,n3⟩:=q3
   obtain ⟨m',hm,w3⟩:=hN σ3 H3 n3
   exact ⟨m',hm,σ3,H3,I3,w3⟩
  | cont=>
   obtain ⟨σ3,H3,I3,n3⟩:=q3
   obtain ⟨m',hm,w3⟩:=hN σ3 H3 n3
   exact ⟨m',hm,σ3,H3,I3,w3⟩
  | brk=>exact q3
  | ret v=>exact q3
 | false=>
  rw [if_neg Qx]
  exact wpAny_execs_nil ⟨σ1,H2,I2,q2⟩
end
structure It where
 go:Nat→Hp→Prop
 yld:Nat→Hp→V→Hp→Prop
 stop:Nat→Hp→Prop
def a7X (X:Cx) (pins:List (Addr×Obj)) (H:Hp) (b:Addr):Prop:=
 H b=none∧b≠X.env.locals∧b∉X.fs∧(b∈X.ex∨X.s₀.heap.objs.size≤b)∧(∀x c,X.env.cells.lookup x=some c→c≠b)∧∀p∈X.pn++pins,p.1≠b
theorem Inv.fpOk {X:Cx} {pins:List (Addr×Obj)} {σ:St} {H H':Hp} {s:Shared} {b:Addr} (I:Inv X pins σ H s) (hb:s.heap.objs.size≤b) (hn:H' b=none):a7X X pins H' b:=by
 refine ⟨hn,Us (Xi I.lt hb),I.nofs hb,.inr (Qi I.sz hb),fun x c e z=>?_,fun p hp z=>?_⟩
 ·obtain ⟨v,q⟩:=I.cell x c e
  exact absurd (Xi q.lt (by rw [z];exact hb)) (Zx _)
 ·exact absurd (Xi (Qz (I.pin p hp).1) (by rw [z];exact hb)) (Zx _)
structure b4W (P:Program) (w:World) (K:Qe) (tg:Expr) (J:It) (fp:List Addr) (it:Addr) (tn:Nat→Heap→Prop):Prop where
 mem:it∈fp
 obj:∀i h,tn i h→∀b∈fp,∃o,h.get? b=some o∧∀v,o.data≠.cell v
 keep:∀i h h',tn i h→(∀b∈fp,∀o,h.get? b=some o→h'.get? b=some o)→tn i h'
 item:∀(X:Cx),X.prog=P→X.w=w→X.K=K→X.calm=true→∀(i:Nat) (pins:List (Addr×Obj)) (s:Shared) (σ:St) (H:Hp) (E:Value→Shared→Prop),Inv X pins σ H s→(∀b∈fp,a7X X pins H b)→tn i s.heap→J.go i H→
  wpAny (model P w) X.A (pyNext (.ref it)) (fun r s1=>∃u,r=some u∧
   wpAny (model P w) X.A (letOwnedTupleGo tg (.ref it) u) (fun _ s2=>∃x H',Inv X pins σ H' s2∧a0Q x u∧J.yld i H x H'∧tn (i+1) s2.heap∧∀b∈fp,H' b=none) E s1) E s
 done:∀(X:Cx),X.prog=P→X.w=w→X.K=K→X.calm=true→∀(i:Nat) (pins:List (Addr×Obj)) (s:Shared) (σ:St) (H:Hp) (E:Value→Shared→Prop),Inv X pins σ H s→(∀b∈fp,a7X X pins H b)→tn i s.heap→J.stop i H→
  wpAny (model P w) X.A (pyNext (.ref it)) (fun r s1=>r=none∧Inv X pins σ H s1) E s
 self:∀(A:Around) (i:Nat) (s:Shared) (Q:Value→Shared→Prop) (E:Value→Shared→Prop),tn i s.heap→Q (.ref it) s→wpAny (model P w) A (pyIter (.ref it)) Q E s
abbrev TI:=St→Hp→(It→Hp→Prop)→Prop
def PIE (X:Cx) (pins:List (Addr×Obj)) (σ:St) (tg:Expr) (R:It→Hp→Prop) (itv:Value) (s2:Shared):Prop:=
 ∃(it:Addr) (fp:List Addr) (tn:Nat→Heap→Prop) (J:It) (H':Hp),itv=.ref it∧Inv X pins σ H' s2∧b4W X.prog X.w X.K tg J fp it tn∧tn 0 s2.heap∧(∀b∈fp,a7X X pins H' b)∧R J H'
def PI (X:Cx) (tg iter:Expr) (wi:TI):Prop:=
 ∀(pins:List (Addr×Obj)) (s:Shared) (σ:St) (H:Hp) (R:It→Hp→Prop),Inv X pins σ H s→wi σ H R→
  wpAny (model X.prog X.w) X.A (eval iter X.env) (fun v s1=>wpAny (model X.prog X.w) X.A (pyIter v) (PIE X pins σ tg R) X.xe s1) X.xe s
theorem b4b {M:Model} {A:Around} {E:Value→Shared→Prop} {s:Shared} {tg:Expr} {it:Addr} {u:Value} {o:Obj} {n:String} {vs:Array Value} {Q:Unit→Shared→Prop} (ho:s.heap.get? it=some o) (hc:o.cls=.type n) (hd:o.data=.fields vs)
  (hn:["enumerate","zip","dict_itemiterator","dict_reverseitemiterator","odict_iterator","itertools.zip_longest","itertools.pairwise"].contains n=false) (hQ:Q () s):wpAny M A (letOwnedTupleGo tg (.ref it) u) Q E s:=by
 unfold letOwnedTupleGo
 cases tg<;>first
  | exact wpAny_pure hQ
  | (cases u<;>first
    | exact wpAny_pure hQ
    | (refine wpAny_bind (wpAny_load ho ?_);rw [hc,hd];show wpAny M A (if (["enumerate","zip","dict_itemiterator","dict_reverseitemiterator","odict_iterator","itertools.zip_longest","itertools.pairwise"].contains n && vs[0]? == some (rawInt _))=true then _ else _) Q E s;rw [if_neg (by intro h;rw [hn,Jb] at h;cases h)];exact wpAny_pure hQ))
def Itl (K:Qe) (a:Addr):It:=
 ⟨fun i H=>∃xs x,SqL K H a xs∧xs[i]?=some x,fun i H x H'=>H'=H∧∀xs,SqL K H a xs→xs[i]?=some x,fun i H=>∃xs,SqL K H a xs∧xs.length≤i⟩
def Itt (K:Qe) (a:Addr):It:=
 ⟨fun i H=>∃xs x,SqT K H a xs∧xs[i]?=some x,fun i H x H'=>H'=H∧∀xs,SqT K H a xs→xs[i]?=some x,fun i H=>∃xs,SqT K H a xs∧xs.length≤i⟩
def Itr (lo:Int) (n:Nat):It:=⟨fun i _=>i < n,fun i H x H'=>H'=H∧x=.int (lo+i),fun i _=>n≤i⟩
theorem b2S {P:Program} {w:World} {K:Qe} {tg:Expr} (a it:Addr):b4W P w K tg (Itl K a) [it] it (fun i h=>h.IsListIter it a i) where
 mem:=by simp
 obj:=fun i h st b hb=>by
  have e:b=it:=by simpa using hb
  subst e
  obtain ⟨o,e,c,d⟩:=st
  exact ⟨o,e,fun v z=>by rw [d] at z;cases z⟩
 keep:=fun i h h' st k=>st.at fun o e=>k it (by simp) o e
 item:=by
  intro X hP hw hK hc i pins s σ H E I hf st hg
  subst hP hw hK
  obtain ⟨xs,x,hq,hx⟩:=hg
  obtain ⟨its,rv,p,hz⟩:=I.list hq
  obtain ⟨u,hu,ru⟩:=rv.get hx
  obtain ⟨f0,f1,f2,f3,f4,f5⟩:=hf it (by simp)
  refine wpAny_pyNext_list_item st p.isList (x:=u) (by simpa using hu) fun h' st' sb=>?_
  have I1:Inv X pins σ H {s with heap:=h'}:=I.turned (t':=s.toks) (fun b o hb e=>(sb.2 b hb).trans e) f0 f1 f3 f4 f5
  obtain ⟨o,e,c,d⟩:=id st'
  exact ⟨u,rfl,b4b (s:={s with heap:=h'}) e c d ‹dc› ⟨x,H,I1,ru,⟨rfl,fun ys hy=>by rw [I.list_inj hy hq];exact hx⟩,st',fun b hb=>(hf b hb).1⟩⟩
 done:=by
  intro X hP hw hK hc i pins s σ H E I hf st hg
  subst hP hw hK
  obtain ⟨xs,hq,hx⟩:=hg
  obtain ⟨its,rv,p,hz⟩:=I.list hq
  obtain ⟨f0,f1,f2,f3,f4,f5⟩:=hf it (by simp)
  have hl:=rv.length
  exact wpAny_pyNext_list_end (I.ok.hd hc) st p.isList (by simp;omega) fun h' eb=>⟨rfl,I.turned (t':=s.toks) (fun b o hb e=>eb b o hb e) f0 f1 f3 f4 f5⟩
 self:=fun _ _ _ _ _ st h=>wpAny_pyIter_listiter st h
theorem a9k {P:Program} {w:World} {K:Qe} {tg:Expr} (a it:Addr):b4W P w K tg (Itt K a) [it] it (fun i h=>h.IsTupleIter it a i) where
 mem:=by simp
 obj:=fun i h st b hb=>by
  have e:b=it:=by simpa using hb
  subst e
  obtain ⟨o,e,c,d⟩:=st
  exact ⟨o,e,fun v z=>by rw [d] at z;cases z⟩
 keep:=fun i h h' st k=>st.at fun o e=>k it (by simp) o e
 item:=by
  intro X hP hw hK hc i pins s σ H E I hf st hg
  subst hP hw hK
  obtain ⟨xs,x,hq,hx⟩:=hg
  obtain ⟨its,rv,p,hz⟩:=I.tuple hq
  obtain ⟨u,hu,ru⟩:=rv.get hx
  obtain ⟨f0,f1,f2,f3,f4,f5⟩:=hf it (by simp)
  refine wpAny_pyNext_tuple_item st (show s.heap.IsTuple a its.toArray from p) (x:=u) (by simpa using hu) fun h' st' sb=>?_
  have I1:Inv X pins σ H {s with heap:=h'}:=I.turned (t':=s.toks) (fun b o hb e=>(sb.2 b hb).trans e) f0 f1 f3 f4 f5
  obtain ⟨o,e,c,d⟩:=id st'
  exact ⟨u,rfl,b4b (s:={s with heap:=h'}) e c d ‹dc› ⟨x,H,I1,ru,⟨rfl,fun ys hy=>by rw [I.tuple_inj hy hq];exact hx⟩,st',fun b hb=>(hf b hb).1⟩⟩
 done:=by
  intro X hP hw hK hc i pins s σ H E I hf st hg
  subst hP hw hK
  obtain ⟨xs,hq,hx⟩:=hg
  obtain ⟨its,rv,p,hz⟩:=I.tuple hq
  obtain ⟨f0,f1,f2,f3,f4,f5⟩:=hf it (by simp)
  have hl:=rv.length
  exact wpAny_pyNext_tuple_end (I.ok.hd hc) st (show s.heap.IsTuple a its.toArray from p) (by simp;omega) fun h' eb=>⟨rfl,I.turned (t':=s.toks) (fun b o hb e=>eb b o hb e) f0 f1 f3 f4 f5⟩
 self:=fun _ _ _ _ _ st h=>wpAny_pyIter_tupleiter st h
theorem a8N {P:Program} {w:World} {K:Qe} {tg:Expr} (it:Addr) (lo:Int) (n:Nat):b4W P w K tg (Itr lo n) [it] it (fun i h=>IsRangeIter h it (lo+(i:Nat) * 1) ((n:Int) - (i:Nat)) 1) where
 mem:=by simp
 obj:=fun i h st b hb=>by
  have e:b=it:=by simpa using hb
  subst e
  exact ⟨_,st,fun v z=>by
   have z':Data.fields _=Data.cell v:=z
   cases z'⟩
 keep:=fun i h h' st k=>k it (by simp) _ st
 item:=by
  intro X hP hw hK hc i pins s σ H E I hf st hg
  subst hP hw hK
  obtain ⟨f0,f1,f2,f3,f4,f5⟩:=hf it (by simp)
  have W:=Walks.range (prog:=X.prog) (w:=X.w) (I.ok.hd hc) it lo 1 n
  refine W.item i s _ _ hg st fun v h' tk hv st' kk=>?_
  obtain ⟨t,rfl⟩:=hv
  have I1:Inv X pins σ H {s with heap:=h',toks:=tk}:=I.turned (fun b o hb e=>kk b o (by simpa using hb) e) f0 f1 f3 f4 f5
  refine ⟨_,rfl,b4b (s:={s with heap:=h',toks:=tk}) (n:="range_iterator") st' rfl rfl ‹dc› ⟨.int (lo+i),H,I1,⟨t,?_⟩,⟨rfl,rfl⟩,st',fun b hb=>(hf b hb).1⟩⟩
  rw [Int.mul_one]
 done:=by
  intro X hP hw hK hc i pins s σ H E I hf st hg
  subst hP hw hK
  obtain ⟨f0,f1,f2,f3,f4,f5⟩:=hf it (by simp)
  exact wpAny_pyNext_range_end (I.ok.hd hc) st (by have:n≤i:=hg;omega) fun h' eb=>⟨rfl,I.turned (t':=s.toks) (fun b o hb e=>eb b o hb e) f0 f1 f3 f4 f5⟩
 self:=fun _ _ _ _ _ st h=>wpAny_pyIter_rangeiter st h
section
variable {X:Cx} {tg:Expr}
def a1p (K:Qe) (tl:TE):TI:=fun σ H R=>tl σ H fun x H1=>∃a,x=.ref a∧(∃xs,SqL K H1 a xs)∧R (Itl K a) H1
def b3f (K:Qe) (tl:TE):TI:=fun σ H R=>tl σ H fun x H1=>∃a,x=.ref a∧(∃xs,SqT K H1 a xs)∧R (Itt K a) H1
theorem b7g {l:Expr} {tl:TE} (hl:PE X l tl):PI X tg l (a1p X.K tl):=by
 intro pins s σ H R I h
 refine thn (hl pins s σ H _ I h) fun v s1 ⟨x,H1,I1,r1,q1⟩=>?_
 obtain ⟨a,e,⟨xs,hq⟩,q⟩:=q1
 subst e
 cases r1
 obtain ⟨its,rv,p,hz⟩:=I1.list hq
 refine wpAny_pyIter_list p.isList ?_
 refine ⟨s1.heap.objs.size,[s1.heap.objs.size],_,_,H1,rfl,I1.kept (t':=s1.toks) fun b o e=>Qo _ e,b2S a _,⟨_,Xd _ rfl,rfl,rfl⟩,fun b hb=>?_,q⟩
 have e:b=s1.heap.objs.size:=by simpa using hb
 subst e
 exact I1.fpOk (Qj _) (I1.hok.fresh (Qj _))
theorem c1J {l:Expr} {tl:TE} (hl:PE X l tl):PI X tg l (b3f X.K tl):=by
 intro pins s σ H R I h
 refine thn (hl pins s σ H _ I h) fun v s1 ⟨x,H1,I1,r1,q1⟩=>?_
 obtain ⟨a,e,⟨xs,hq⟩,q⟩:=q1
 subst e
 cases r1
 obtain ⟨its,rv,p,hz⟩:=I1.tuple hq
 refine wpAny_pyIter_tuple (show s1.heap.IsTuple a its.toArray from p) ?_
 refine ⟨s1.heap.objs.size,[s1.heap.objs.size],_,_,H1,rfl,I1.kept (t':=s1.toks) fun b o e=>Qo _ e,a9k a _,⟨_,Xd _ rfl,rfl,rfl⟩,fun b hb=>?_,q⟩
 have e:b=s1.heap.objs.size:=by simpa using hb
 subst e
 exact I1.fpOk (Qj _) (I1.hok.fresh (Qj _))
theorem a7Z {pins:List (Addr×Obj)} {σ:St} {H:Hp} {s:Shared} {R:It→Hp→Prop} {E:Value→Shared→Prop} {lo hi:Int} {t u v:Tok} {tk:Nat} (I:Inv X pins σ H s) (h1:-(2 ^ 62)≤lo) (h2:lo < 2 ^ 62) (h3:-(2 ^ 62)≤hi) (h4:hi < 2 ^ 62)
  (q:R (Itr lo (hi - lo).toNat) H):wpAny (model X.prog X.w) X.A (pyIter (.ref s.heap.objs.size)) (PIE X pins σ tg R) E {s with heap:=s.heap.push {cls:=.type "range",data:=.fields #[.int lo t,.int hi u,.int 1 v]},toks:=tk}:=by
 refine wpAny_pyIter_range (IsRange.new ..) (small_one h1 h2 h3 h4) ?_
 have I1:Inv X pins σ H {s with heap:=s.heap.push {cls:=.type "range",data:=.fields #[.int lo t,.int hi u,.int 1 v]},toks:=tk}:=I.kept fun b o e=>Qo _ e
 refine ⟨(s.heap.push {cls:=.type "range",data:=.fields #[.int lo t,.int hi u,.int 1 v]}).objs.size,[(s.heap.push {cls:=.type "range",data:=.fields #[.int lo t,.int hi u,.int 1 v]}).objs.size],_,_,H,rfl,
  I1.kept (t':=tk) fun b o e=>Qo _ e,a8N _ lo (hi - lo).toNat,?_,fun b hb=>?_,q⟩
 ·have e1:lo+((0:Nat):Int) * 1=lo:=by simp
  have e2:(((hi - lo).toNat:Nat):Int) - ((0:Nat):Int)=Builtin.Range.rangeSize lo hi 1:=by rw [rangeSize_one];split<;>omega
  show IsRangeIter _ _ (lo+((0:Nat):Int) * 1) ((((hi - lo).toNat:Nat):Int) - ((0:Nat):Int)) 1
  rw [e1,e2]
  exact Xd _ rfl
 ·have e:b=(s.heap.push {cls:=.type "range",data:=.fields #[.int lo t,.int hi u,.int 1 v]}).objs.size:=by simpa using hb
  subst e
  exact I1.fpOk (Qj _) (I1.hok.fresh (Qj _))
def a5L (ta:TA):TI:=fun σ H R=>ta σ H fun vs H1=>∃j:Int,vs=[.int j]∧-(2 ^ 62)≤j∧j < 2 ^ 62∧R (Itr 0 j.toNat) H1
def c0O (ta:TA):TI:=fun σ H R=>ta σ H fun vs H1=>∃i j:Int,vs=[.int i,.int j]∧(-(2 ^ 62)≤i∧i < 2 ^ 62∧-(2 ^ 62)≤j∧j < 2 ^ 62)∧R (Itr i (j - i).toNat) H1
theorem a9X {a:Expr} {ta:TA} {p pos:Pos} (hg:Gl X "range") (hm:X.mg "range"=none) (ha:PA X [a] ta) (hs:starEach [a] X.env=[(false,eval a X.env)]:=by rfl):PI X tg (.Call (.Name "range" p) [a] [] pos) (a5L ta):=by
 intro pins s σ H R I h
 refine Call_ (a4i I hg hm boot_range (PyProof.Rows.callWith_type1 (thn (ha pos pins s σ H _ I h) fun us s1 ⟨vs,H1,I1,r1,q1⟩=>?_) hs rfl))
 obtain ⟨j,e,q1,q2,q⟩:=q1
 subst e
 cases r1 with
 | cons r rr=>
  cases rr
  obtain ⟨t,rfl⟩:=r
  exact call_range_1 (a7Z I1 ‹om› ‹om› q1 q2 (by simpa using q))
theorem b0X {a b:Expr} {ta:TA} {p pos:Pos} (hg:Gl X "range") (hm:X.mg "range"=none) (ha:PA X [a,b] ta) (hs:starEach [a,b] X.env=[(false,eval a X.env),(false,eval b X.env)]:=by rfl) (hs2:starEach [b] X.env=[(false,eval b X.env)]:=by rfl):
  PI X tg (.Call (.Name "range" p) [a,b] [] pos) (c0O ta):=by
 intro pins s σ H R I h
 refine Call_ (a4i I hg hm boot_range (PyProof.Rows.callWith_type1 (thn (ha pos pins s σ H _ I h) fun us s1 ⟨vs,H1,I1,r1,q1⟩=>?_) (by rw [hs,hs2]) (by rw [hs2];rfl)))
 obtain ⟨i,j,e,⟨q1,q2,q3,q4⟩,q⟩:=q1
 subst e
 cases r1 with
 | cons r rr=>
  cases rr with
  | cons r' rr=>
   cases rr
   obtain ⟨t,rfl⟩:=r
   obtain ⟨t',rfl⟩:=r'
   exact call_range_2 (a7Z I1 q1 q2 q3 q4 q)
def b8t (wi:TI) (g:TG) (tb:TS):TS:=fun D σ H=>wi σ H fun J H1=>∃W:Nat→Nat→St→Hp→Prop,(∃m,W 0 m σ H1)∧∀i m σ H,W i m σ H→
 (J.stop i H∧D.nx σ H)∨(J.go i H∧∃N:St→Hp→Prop,(∀σ' H',N σ' H'→∃m',m' < m∧W (i+1) m' σ' H')∧∀x H',J.yld i H x H'→g x σ H' fun σ2 H2=>tb {D with nx:=N,ct:=N,bk:=D.nx} σ2 H2)
def a6A (fp:List Addr) (h:Heap):List (Addr×Obj):=fp.filterMap fun b=>(h.get? b).map fun o=>(b,o)
theorem a2H {fp:List Addr} {h:Heap} {b:Addr} {o:Obj} (hb:b∈fp) (e:h.get? b=some o):(b,o)∈a6A fp h:=Uf.mpr ⟨b,hb,by rw [e];rfl⟩
theorem b1D {fp:List Addr} {h:Heap} {p:Addr×Obj} (hp:p∈a6A fp h):p.1∈fp∧h.get? p.1=some p.2:=by
 obtain ⟨b,hb,e⟩:=Uf.mp hp
 cases q:h.get? b with
 | none=>rw [q] at e;cases e
 | some o=>
  rw [q] at e
  have e':(b,o)=p:=Option.some.inj e
  subst e'
  exact ⟨hb,q⟩
theorem Inv.pinned {pins:List (Addr×Obj)} {σ:St} {H:Hp} {s:Shared} {fp:List Addr} (I:Inv X pins σ H s) (hf:∀b∈fp,a7X X pins H b) (ho:∀b∈fp,∃o,s.heap.get? b=some o∧∀v,o.data≠.cell v):Inv X (pins++a6A fp s.heap) σ H s:=
 I.pins_of fun p hp=>(Qv.mp hp).elim (fun z=>I.pin p (Xc _ z)) fun z=>by
  obtain ⟨hb,e⟩:=b1D z
  obtain ⟨f0,f1,f2,_⟩:=hf p.1 hb
  obtain ⟨o,e',d⟩:=ho p.1 hb
  rw [e] at e';cases e'
  exact ⟨e,f0,f1,f2,d⟩
theorem Inv.unpinned {pins pl:List (Addr×Obj)} {σ:St} {H:Hp} {s:Shared} (I:Inv X (pins++pl) σ H s):Inv X pins σ H s:=I.pins_of fun p hp=>I.pin p (Xc _ (Zf _ hp))
theorem c0P {iter:Expr} {body:List Stmt} {wi:TI} {g:TG} {tb:TS} {pos:Pos} (hp:PassesOwn (model X.prog X.w) X.A X.env X.xe) (hc:X.calm=true) (hi:PI X tg iter wi) (hg:PG X tg g) (hb:PSs X body tb)
  (hs:∀x,foldedSetIterable iter X.env x=pure x:=by intro _;rfl):PS X (.For tg iter body [] pos) (b8t wi g tb):=by
 intro pins s σ H D I h
 refine wpAny_For (thn (hi pins s σ H _ I h) fun v s1 h1=>thn h1 fun itv s2 h2=>?_) hs
 obtain ⟨it,fp,tn,J,H2,e,I2,T,st2,f2,W,⟨m0,w0⟩,turn⟩:=h2
 subst e
 have stat:∀{H':Hp},(∀b∈fp,H' b=none)→∀b∈fp,a7X X pins H' b:=fun hn b hb=>⟨hn b hb,(f2 b hb).2⟩
 refine codeAny_forLoop_any (fun n s'=>∃i σ' H',Inv X pins σ' H' s'∧tn i s'.heap∧(∀b∈fp,H' b=none)∧W i n σ' H') ?_ m0 ⟨0,σ,H2,I2,st2,fun b hb=>(f2 b hb).1,w0⟩
 rintro n s3 ⟨i,σ3,H3,I3,st3,fr3,w3⟩
 rcases turn i n σ3 H3 w3 with ⟨stop,qn⟩ | ⟨go,N,hN,step⟩
 ·refine wpAny_passesOwn hp (thn (T.done X rfl rfl rfl hc i pins s3 σ3 H3 X.xe I3 (stat fr3) st3 stop) fun r s4 ⟨hr,I4⟩=>?_)
  subst hr
  exact wpAny_execs_nil ⟨σ3,H3,I4,qn⟩
 ·refine wpAny_passesOwn hp (thn (T.item X rfl rfl rfl hc i pins s3 σ3 H3 X.xe I3 (stat fr3) st3 go) fun r s4 ⟨u,hr,h4⟩=>?_)
  subst hr
  refine wpAny_passesOwn hp (thn h4 fun _ s5 ⟨x,H5,I5,r5,y5,st5,fr5⟩=>?_)
  have I5':=I5.pinned (stat fr5) (T.obj _ _ st5)
  refine wpAny_passesOwn hp (thn (hg _ s5 σ3 H5 x u _ I5' r5 (step x H5 y5)) fun _ s6 ⟨σ6,H6,I6,q6⟩=>?_)
  refine wpAny_passesOwn hp (thn (hb _ s6 σ6 H6 _ I6 q6) fun f s7 q7=>?_)
  have again:∀{σ7:St} {H7:Hp},Inv X (pins++a6A fp s5.heap) σ7 H7 s7→N σ7 H7→∃m,m < n∧∃i σ' H',Inv X pins σ' H' s7∧tn i s7.heap∧(∀b∈fp,H' b=none)∧W i m σ' H':=fun {σ7 H7} I7 n7=>by
   obtain ⟨m',hm,w7⟩:=hN σ7 H7 n7
   refine ⟨m',hm,i+1,σ7,H7,I7.unpinned,T.keep _ _ _ st5 fun b hb o e=>(I7.pin (b,o) (Xc _ (Xc _ (a2H hb e)))).1,fun b hb=>?_,w7⟩
   obtain ⟨o,e,d⟩:=T.obj _ _ st5 b hb
   exact (I7.pin (b,o) (Xc _ (Xc _ (a2H hb e)))).2.1
  cases f with
  | next=>obtain ⟨σ7,H7,I7,n7⟩:=q7;exact again I7 n7
  | cont=>obtain ⟨σ7,H7,I7,n7⟩:=q7;exact again I7 n7
  | brk=>obtain ⟨σ7,H7,I7,q7⟩:=q7;exact ⟨σ7,H7,I7.unpinned,q7⟩
  | ret v=>obtain ⟨x7,σ7,H7,I7,r7,q7⟩:=q7;exact ⟨x7,σ7,H7,I7.unpinned,r7,q7⟩
end
theorem a0S {K:Qe} {a:Addr} {xs:List V} {g:TG} {tb:TS} {D:a8c} {σ:St} {H:Hp} (Pv:Nat→St→Hp→Prop) (h0:Pv 0 σ H) (hl:∀i σ H,i≤xs.length→Pv i σ H→SqL K H a xs)
  (hs:∀i x σ H,xs[i]?=some x→Pv i σ H→g x σ H fun σ2 H2=>tb {D with nx:=Pv (i+1),ct:=Pv (i+1),bk:=D.nx} σ2 H2) (hd:∀σ H,Pv xs.length σ H→D.nx σ H):
  ∃W:Nat→Nat→St→Hp→Prop,(∃m,W 0 m σ H)∧∀i m σ H,W i m σ H→
   ((Itl K a).stop i H∧D.nx σ H)∨((Itl K a).go i H∧∃N:St→Hp→Prop,(∀σ' H',N σ' H'→∃m',m' < m∧W (i+1) m' σ' H')∧∀x H',(Itl K a).yld i H x H'→g x σ H' fun σ2 H2=>tb {D with nx:=N,ct:=N,bk:=D.nx} σ2 H2):=by
 refine ⟨fun i m σ H=>m=xs.length - i∧i≤xs.length∧Pv i σ H,⟨xs.length,by simp,Xb _,h0⟩,?_⟩
 rintro i m σ H ⟨rfl,hi,p⟩
 have q:=hl i σ H hi p
 by_cases hlt:i < xs.length
 ·refine .inr ⟨⟨xs,xs[i],q,by simp [hlt]⟩,Pv (i+1),fun σ' H' p'=>⟨xs.length - (i+1),by omega,rfl,hlt,p'⟩,fun x H' y=>?_⟩
  obtain ⟨e,y⟩:=y
  subst e
  exact hs i x σ _ (y xs q) p
 ·have e:i=xs.length:=by omega
  subst e
  exact .inl ⟨⟨xs,q,Qj _⟩,hd σ H p⟩
theorem a5q {K:Qe} {a:Addr} {xs:List V} {g:TG} {tb:TS} {D:a8c} {σ:St} {H:Hp} (Pv:Nat→St→Hp→Prop) (h0:Pv 0 σ H) (hl:∀i σ H,i≤xs.length→Pv i σ H→SqT K H a xs)
  (hs:∀i x σ H,xs[i]?=some x→Pv i σ H→g x σ H fun σ2 H2=>tb {D with nx:=Pv (i+1),ct:=Pv (i+1),bk:=D.nx} σ2 H2) (hd:∀σ H,Pv xs.length σ H→D.nx σ H):
  ∃W:Nat→Nat→St→Hp→Prop,(∃m,W 0 m σ H)∧∀i m σ H,W i m σ H→
   ((Itt K a).stop i H∧D.nx σ H)∨((Itt K a).go i H∧∃N:St→Hp→Prop,(∀σ' H',N σ' H'→∃m',m' < m∧W (i+1) m' σ' H')∧∀x H',(Itt K a).yld i H x H'→g x σ H' fun σ2 H2=>tb {D with nx:=N,ct:=N,bk:=D.nx} σ2 H2):=by
 refine ⟨fun i m σ H=>m=xs.length - i∧i≤xs.length∧Pv i σ H,⟨xs.length,by simp,Xb _,h0⟩,?_⟩
 rintro i m σ H ⟨rfl,hi,p⟩
 have q:=hl i σ H hi p
 by_cases hlt:i < xs.length
 ·refine .inr ⟨⟨xs,xs[i],q,by simp [hlt]⟩,Pv (i+1),fun σ' H' p'=>⟨xs.length - (i+1),by omega,rfl,hlt,p'⟩,fun x H' y=>?_⟩
  obtain ⟨e,y⟩:=y
  subst e
  exact hs i x σ _ (y xs q) p
 ·have e:i=xs.length:=by omega
  subst e
  exact .inl ⟨⟨xs,q,Qj _⟩,hd σ H p⟩
theorem a1T {lo:Int} {n:Nat} {g:TG} {tb:TS} {D:a8c} {σ:St} {H:Hp} (Pv:Nat→St→Hp→Prop) (h0:Pv 0 σ H)
  (hs:∀i σ H,i < n→Pv i σ H→g (.int (lo+i)) σ H fun σ2 H2=>tb {D with nx:=Pv (i+1),ct:=Pv (i+1),bk:=D.nx} σ2 H2) (hd:∀σ H,Pv n σ H→D.nx σ H):
  ∃W:Nat→Nat→St→Hp→Prop,(∃m,W 0 m σ H)∧∀i m σ H,W i m σ H→
   ((Itr lo n).stop i H∧D.nx σ H)∨((Itr lo n).go i H∧∃N:St→Hp→Prop,(∀σ' H',N σ' H'→∃m',m' < m∧W (i+1) m' σ' H')∧∀x H',(Itr lo n).yld i H x H'→g x σ H' fun σ2 H2=>tb {D with nx:=N,ct:=N,bk:=D.nx} σ2 H2):=by
 refine ⟨fun i m σ H=>m=n - i∧i≤n∧Pv i σ H,⟨n,by simp,Xb _,h0⟩,?_⟩
 rintro i m σ H ⟨rfl,hi,p⟩
 by_cases hlt:i < n
 ·refine .inr ⟨hlt,Pv (i+1),fun σ' H' p'=>⟨n - (i+1),by omega,rfl,hlt,p'⟩,fun x H' y=>?_⟩
  obtain ⟨e,y⟩:=y
  subst e y
  exact hs i σ _ hlt p
 ·have e:i=n:=by omega
  subst e
  exact .inl ⟨Qj _,hd σ H p⟩
abbrev R2:=V→V→Hp→VK→Prop
def OpR (X:Cx) (f:Value→Value→Sem Value) (r:R2):Prop:=
 ∀(pins:List (Addr×Obj)) (s:Shared) (σ:St) (H:Hp) (x y:V) (v u:Value) (Q:VK),Inv X pins σ H s→a0Q x v→a0Q y u→r x y H Q→
  wpAny (model X.prog X.w) X.A (f v u) (EP X pins σ Q) X.xe s
def a1C (X:Cx) (f:Value) (r:List V→Hp→VK→Prop):Prop:=
 ∀(pins:List (Addr×Obj)) (s:Shared) (σ:St) (H:Hp) (xs:List V) (us:List Value) (Q:VK),Inv X pins σ H s→a0Y xs us→r xs H Q→
  wpAny (model X.prog X.w) X.A (call f us) (EP X pins σ Q) X.xe s
def tOp (r:R2) (ta tb:TE):TE:=fun σ H Q=>ta σ H fun x H1=>tb σ H1 fun y H2=>r x y H2 Q
def rI (C:Int→Int→Prop) (g:Int→Int→V):R2:=fun x y H Q=>∃i j,x=.int i∧y=.int j∧C i j∧Q (g i j) H
def rI0 (g:Int→Int→V):R2:=fun x y H Q=>∃i j,x=.int i∧y=.int j∧Q (g i j) H
section
variable {X:Cx} {a b c:Expr} {ta tb tc:TE} {pos:Pos}
theorem c3i (ha:PE X a ta) (hb:PE X b tb) {pins:List (Addr×Obj)} {s:Shared} {σ:St} {H:Hp} {R:V→V→Hp→Prop} (I:Inv X pins σ H s)
  (h:ta σ H fun x H1=>tb σ H1 fun y H2=>R x y H2) {Q:Value→Shared→Prop} {f:Value→Value→Sem Value}
  (hf:∀v u s2 x y H2,Inv X pins σ H2 s2→a0Q x v→a0Q y u→R x y H2→wpAny (model X.prog X.w) X.A (f v u) Q X.xe s2):
  wpAny (model X.prog X.w) X.A (eval a X.env) (fun v s₁=>wpAny (model X.prog X.w) X.A (eval b X.env) (fun u s₂=>wpAny (model X.prog X.w) X.A (f v u) Q X.xe s₂) X.xe s₁) X.xe s:=by
 refine thn (ha pins s σ H _ I h) fun v s1 ⟨x,H1,I1,r1,q1⟩=>?_
 refine thn (hb pins s1 σ H1 _ I1 q1) fun u s2 ⟨y,H2,I2,r2,q2⟩=>?_
 exact hf v u s2 x y H2 I2 r1 r2 q2
theorem c3b {op:Operator} {r:R2} (ho:OpR X (binaryOp op) r) (ha:PE X a ta) (hb:PE X b tb):PE X (.BinOp a op b pos) (tOp r ta tb):=by
 intro pins s σ H Q I h
 exact wpAny_BinOp (c3i ha hb I h fun v u s2 x y H2 I2 rx ry q=>ho pins s2 σ H2 x y v u Q I2 rx ry q)
theorem opI {f:Value→Value→Sem Value} {C:Int→Int→Prop} {g:Int→Int→Int}
  (rule:∀(i j:Int) (t u:Tok) (s:Shared) (Q:Value→Shared→Prop) (E:Value→Shared→Prop),C i j→Q (.int (g i j) s.toks) {s with toks:=s.toks+1}→wpAny (model X.prog X.w) X.A (f (.int i t) (.int j u)) Q E s):
  OpR X f (rI C fun i j=>.int (g i j)):=by
 intro pins s σ H x y v u Q I rx ry h
 obtain ⟨i,j,rfl,rfl,hc,q⟩:=h
 obtain ⟨t,rfl⟩:=rx
 obtain ⟨t',rfl⟩:=ry
 exact rule i j t t' s _ _ hc ⟨.int (g i j),H,I.tok _,⟨_,rfl⟩,q⟩
theorem c6y {f:Value→Value→Sem Value} {g:Int→Int→Int}
  (rule:∀(i j:Int) (t u:Tok) (s:Shared) (Q:Value→Shared→Prop) (E:Value→Shared→Prop),Q (.int (g i j) s.toks) {s with toks:=s.toks+1}→wpAny (model X.prog X.w) X.A (f (.int i t) (.int j u)) Q E s):
  OpR X f (rI0 fun i j=>.int (g i j)):=by
 intro pins s σ H x y v u Q I rx ry h
 obtain ⟨i,j,rfl,rfl,q⟩:=h
 obtain ⟨t,rfl⟩:=rx
 obtain ⟨t',rfl⟩:=ry
 exact rule i j t t' s _ _ ⟨.int (g i j),H,I.tok _,⟨_,rfl⟩,q⟩
theorem c5G {f:Value→Value→Sem Value} {g:Int→Int→Bool}
  (rule:∀(i j:Int) (t u:Tok) (s:Shared) (Q:Value→Shared→Prop) (E:Value→Shared→Prop),Q (.bool (g i j)) s→wpAny (model X.prog X.w) X.A (f (.int i t) (.int j u)) Q E s):
  OpR X f (rI0 fun i j=>.bl (g i j)):=by
 intro pins s σ H x y v u Q I rx ry h
 obtain ⟨i,j,rfl,rfl,q⟩:=h
 obtain ⟨t,rfl⟩:=rx
 obtain ⟨t',rfl⟩:=ry
 exact rule i j t t' s _ _ ⟨.bl (g i j),H,I,rfl,q⟩
def a6P (i j:Int):Prop:=0 < j∧j < 1073741824
def b7z (i j:Int):Prop:=(-(2 ^ 64) < i∧i < 2 ^ 64)∨(-(2 ^ 64) < j∧j < 2 ^ 64)
theorem b7z.ok {i j:Int} (h:b7z i j):IntMulOk i j:=by
 rcases h with ⟨h1,h2⟩ | ⟨h1,h2⟩
 ·exact .of_left (intBits_le_64 h1 h2)
 ·exact .of_right (intBits_le_64 h1 h2)
theorem b9u:OpR X (binaryOp .Add) (rI0 fun i j=>.int (i+j)):=c6y fun _ _ _ _ _ _ _ q=>add_int q
theorem b5I:OpR X (binaryOp .Sub) (rI0 fun i j=>.int (i - j)):=c6y fun _ _ _ _ _ _ _ q=>sub_int q
theorem a4l:OpR X (binaryOp .Mult) (rI b7z fun i j=>.int (i * j)):=opI fun _ _ _ _ _ _ _ hc q=>mul_int q hc.ok
theorem a0M:OpR X (binaryOp .FloorDiv) (rI a6P fun i j=>.int (i / j)):=opI fun i j _ _ _ _ _ hc q=>by
 have h1:(0:Int) < j:=hc.1
 have h2:j < 1073741824:=hc.2
 exact floordiv_int ‹om› (by rw [Int.fdiv_eq_ediv_of_nonneg i ‹om›];exact q) (.inl (PyProof.noPylong_small ‹om›))
theorem a0B:OpR X (binaryOp .Mod) (rI (fun _ j=>0 < j) fun i j=>.int (i % j)):=opI fun i j _ _ _ _ _ hc q=>by
 have h1:(0:Int) < j:=hc
 exact mod_int' ‹om› (by rw [Int.fmod_eq_emod_of_nonneg i ‹om›];exact q)
end
def c5M:V→V→Bool
 | .non,.non=>true | .non,.int _=>true | .int _,.non=>true | .non,.bl _=>true | .bl _,.non=>true | .non,.str _=>true | .str _,.non=>true
 | .int _,.int _=>true | .bl _,.bl _=>true | .str _,.str _=>true | .byt _,.byt _=>true
 | .int _,.str _=>true | .str _,.int _=>true | .bl _,.str _=>true | .str _,.bl _=>true
 | _,_=>false
def rEq:R2:=fun x y H Q=>c5M x y=true∧Q (.bl (decide (x=y))) H
def rNe:R2:=fun x y H Q=>c5M x y=true∧Q (.bl (!decide (x=y))) H
theorem b1K {i j:Int}:decide (V.int i=V.int j)=(i == j):=by
 rw [Xn]
 simp
theorem b5J {i j:Bool}:decide (V.bl i=V.bl j)=(i == j):=by
 rw [Xn]
 simp
theorem b0b {i j:Str}:decide (V.str i=V.str j)=(i == j):=by
 rw [Xn]
 simp
theorem b2F {i j:Array UInt8}:decide (V.byt i=V.byt j)=(i.toList == j.toList):=by
 rw [Xn]
 cases i
 cases j
 simp
section
variable {X:Cx} {a b c:Expr} {ta tb tc:TE} {pos:Pos}
theorem a0w {pins:List (Addr×Obj)} {σ:St} {H:Hp} {s:Shared} {Q:VK} {k k':Bool} (I:Inv X pins σ H s) (q:Q (.bl k) H) (e:k=k'):EP X pins σ Q (.bool k') s:=by
 subst e
 exact ⟨.bl k,H,I,rfl,q⟩
theorem c2P:OpR X (compareOp .Eq) rEq:=by
 intro pins s σ H x y v u Q I rx ry h
 obtain ⟨hs,q⟩:=h
 cases x with
 | non=>
  cases rx
  cases y with
  | non=>cases ry;exact PySem.EqNone.eq_none_none (a0w I q (by simp))
  | bl j=>cases ry;exact PySem.EqNone.eq_none_bool (a0w I q (by simp))
  | int j=>obtain ⟨t',rfl⟩:=ry;exact PySem.EqNone.eq_none_int (a0w I q (by simp))
  | str j=>obtain ⟨t',rfl⟩:=ry;exact PySem.EqNone.eq_none_str (a0w I q (by simp))
  | _=>exact absurd (show false=true from hs) Qx
 | bl i=>
  cases rx
  cases y with
  | non=>cases ry;exact PySem.EqNone.eq_bool_none (a0w I q (by simp))
  | bl j=>cases ry;exact eq_bool (a0w I q b5J)
  | str j=>obtain ⟨t',rfl⟩:=ry;exact PySem.EqMixed.eq_bool_str (a0w I q (by simp))
  | _=>exact absurd (show false=true from hs) Qx
 | int i=>
  obtain ⟨t,rfl⟩:=rx
  cases y with
  | non=>cases ry;exact PySem.EqNone.eq_int_none (a0w I q (by simp))
  | int j=>obtain ⟨t',rfl⟩:=ry;exact eq_int (a0w I q b1K)
  | str j=>obtain ⟨t',rfl⟩:=ry;exact PySem.EqMixed.eq_int_str (a0w I q (by simp))
  | _=>exact absurd (show false=true from hs) Qx
 | str i=>
  obtain ⟨t,rfl⟩:=rx
  cases y with
  | non=>cases ry;exact PySem.EqNone.eq_str_none (a0w I q (by simp))
  | bl j=>cases ry;exact PySem.EqMixed.eq_str_bool (a0w I q (by simp))
  | int j=>obtain ⟨t',rfl⟩:=ry;exact PySem.EqMixed.eq_str_int (a0w I q (by simp))
  | str j=>obtain ⟨t',rfl⟩:=ry;exact eq_str (a0w I q b0b)
  | _=>exact absurd (show false=true from hs) Qx
 | byt i=>
  obtain ⟨t,rfl⟩:=rx
  cases y with
  | byt j=>obtain ⟨t',rfl⟩:=ry;exact PySem.W.eq_bytes (a0w I q b2F)
  | _=>exact absurd (show false=true from hs) Qx
 | _=>cases y<;>exact absurd (show false=true from hs) Qx
theorem c2J:OpR X (compareOp .NotEq) rNe:=by
 intro pins s σ H x y v u Q I rx ry h
 obtain ⟨hs,q⟩:=h
 cases x with
 | non=>
  cases rx
  cases y with
  | non=>cases ry;exact PySem.EqNone.ne_none_none (a0w I q (by simp))
  | bl j=>cases ry;exact PySem.EqNone.ne_none_bool (a0w I q (by simp))
  | int j=>obtain ⟨t',rfl⟩:=ry;exact PySem.EqNone.ne_none_int (a0w I q (by simp))
  | str j=>obtain ⟨t',rfl⟩:=ry;exact PySem.EqNone.ne_none_str (a0w I q (by simp))
  | _=>exact absurd (show false=true from hs) Qx
 | bl i=>
  cases rx
  cases y with
  | non=>cases ry;exact PySem.EqNone.ne_bool_none (a0w I q (by simp))
  | bl j=>cases ry;exact ne_bool (a0w I q (congrArg not b5J))
  | str j=>obtain ⟨t',rfl⟩:=ry;exact PySem.EqMixed.ne_bool_str (a0w I q (by simp))
  | _=>exact absurd (show false=true from hs) Qx
 | int i=>
  obtain ⟨t,rfl⟩:=rx
  cases y with
  | non=>cases ry;exact PySem.EqNone.ne_int_none (a0w I q (by simp))
  | int j=>obtain ⟨t',rfl⟩:=ry;exact ne_int (a0w I q (congrArg not b1K))
  | str j=>obtain ⟨t',rfl⟩:=ry;exact PySem.EqMixed.ne_int_str (a0w I q (by simp))
  | _=>exact absurd (show false=true from hs) Qx
 | str i=>
  obtain ⟨t,rfl⟩:=rx
  cases y with
  | non=>cases ry;exact PySem.EqNone.ne_str_none (a0w I q (by simp))
  | bl j=>cases ry;exact PySem.EqMixed.ne_str_bool (a0w I q (by simp))
  | int j=>obtain ⟨t',rfl⟩:=ry;exact PySem.EqMixed.ne_str_int (a0w I q (by simp))
  | str j=>obtain ⟨t',rfl⟩:=ry;exact ne_str (a0w I q (congrArg not b0b))
  | _=>exact absurd (show false=true from hs) Qx
 | byt i=>
  obtain ⟨t,rfl⟩:=rx
  cases y with
  | byt j=>obtain ⟨t',rfl⟩:=ry;exact PySem.W.ne_bytes (a0w I q (congrArg not b2F))
  | _=>exact absurd (show false=true from hs) Qx
 | _=>cases y<;>exact absurd (show false=true from hs) Qx
theorem c2N:OpR X (compareOp .Lt) (rI0 fun i j=>.bl (decide (i < j))):=c5G fun _ _ _ _ _ _ _ q=>lt_int q
theorem b7h:OpR X (compareOp .Gt) (rI0 fun i j=>.bl (decide (j < i))):=c5G fun _ _ _ _ _ _ _ q=>gt_int q
theorem b2N:OpR X (compareOp .Lt) (fun x y H Q=>∃i j,x=.str i∧y=.str j∧Q (.bl (decide (i.cps.toList < j.cps.toList))) H):=by
 intro pins s σ H x y v u Q I rx ry h
 obtain ⟨i,j,rfl,rfl,q⟩:=h
 obtain ⟨t,rfl⟩:=rx
 obtain ⟨t',rfl⟩:=ry
 exact lt_str (a0w I q rfl)
theorem a9U:OpR X (compareOp .In) (fun x y H Q=>∃i j,x=.str i∧y=.str j∧Q (.bl (!(Builtin.Str.occurrences j i 0 j.length 1).isEmpty)) H):=by
 intro pins s σ H x y v u Q I rx ry h
 obtain ⟨i,j,rfl,rfl,q⟩:=h
 obtain ⟨t,rfl⟩:=rx
 obtain ⟨t',rfl⟩:=ry
 exact in_str (a0w I q rfl)
theorem c2q:OpR X (compareOp .Is) (fun x y H Q=>y=.non∧Q (.bl (decide (x=.non))) H):=by
 intro pins s σ H x y v u Q I rx ry h
 obtain ⟨rfl,q⟩:=h
 cases ry
 refine is_none_gen (a0w I q ?_)
 cases x<;>first
  | (cases rx;rfl)
  | (obtain ⟨t,rfl⟩:=rx;rfl)
theorem OpR.or {f:Value→Value→Sem Value} {r r':R2} (h:OpR X f r) (h':OpR X f r'):OpR X f (fun x y H Q=>r x y H Q∨r' x y H Q):=by
 intro pins s σ H x y v u Q I rx ry q
 rcases q with q | q
 ·exact h pins s σ H x y v u Q I rx ry q
 ·exact h' pins s σ H x y v u Q I rx ry q
theorem a0p (b:Expr) {op:CmpOp} (h:op≠.In:=by decide) (h2:op≠.NotIn:=by decide):behindInMarks op b=false:=by
 have e1:(op == CmpOp.In)=false:=by cases op<;>first | rfl | exact absurd rfl h
 have e2:(op == CmpOp.NotIn)=false:=by cases op<;>first | rfl | exact absurd rfl h2
 cases b<;>simp [behindInMarks,e1,e2]
theorem b7F {op:CmpOp} {r:R2} (ho:OpR X (compareOp op) r) (ha:PE X a ta) (hb:PE X b tb) (hm:behindInMarks op b=false):PE X (.Compare a [op] [b] pos) (tOp r ta tb):=by
 intro pins s σ H Q I h
 exact wpAny_Compare1 (c3i ha hb I h fun v u s2 x y H2 I2 rx ry q=>ho pins s2 σ H2 x y v u Q I2 rx ry q) hm
def a1h (t:TE):TT:=fun σ H Q=>t σ H fun x H'=>∃k,x=.bl k∧Q k H'
theorem b7d {op:CmpOp} {r:R2} (ho:OpR X (compareOp op) r) (ha:PE X a ta) (hb:PE X b tb) (hm:behindInMarks op b=false):PT X (.Compare a [op] [b] pos) (a1h (tOp r ta tb)):=by
 intro pins s σ H Q I h
 refine wpAny_isTrue_Compare1 (thn (ha pins s σ H _ I h) fun v s1 ⟨x,H1,I1,r1,q1⟩=>thn (hb pins s1 σ H1 _ I1 q1) fun u s2 ⟨y,H2,I2,r2,q2⟩=>
  thn (ho pins s2 σ H2 x y v u _ I2 r1 r2 q2) fun c s3 ⟨z,H3,I3,r3,k,e,q3⟩=>?_) hm
 subst e
 cases r3
 exact wpAny_truthy_bool ⟨H3,I3,q3⟩
theorem a7P:(sizeLine:Nat) < 2 ^ 63:=by rw [sizeLine_eq];decide
theorem a8O:OpR X (binaryOp .Add) (fun x y H Q=>∃i j,x=.str i∧y=.str j∧i.length+j.length≤sizeLine∧Q (.str (i++j)) H):=by
 intro pins s σ H x y v u Q I rx ry h
 obtain ⟨i,j,rfl,rfl,hz,q⟩:=h
 obtain ⟨t,rfl⟩:=rx
 obtain ⟨t',rfl⟩:=ry
 exact add_str (fun t' tk=>⟨.str (i++j),H,I.tok _,⟨_,rfl⟩,q⟩) hz
theorem a3u {x:V} {us:List Value} (r:a0Y [x] us):∃u,us=[u]∧a0Q x u:=by
 cases r with
 | cons r1 r2=>cases r2;exact ⟨_,rfl,r1⟩
theorem b8e {x y:V} {us:List Value} (r:a0Y [x,y] us):∃u w',us=[u,w']∧a0Q x u∧a0Q y w':=by
 cases r with
 | cons r1 r2=>
  cases r2 with
  | cons r3 r4=>cases r4;exact ⟨_,_,rfl,r1,r3⟩
theorem b2y (hc:X.calm=true):a1C X (.builtin "max") (fun xs H Q=>∃i j,xs=[.int i,.int j]∧Q (.int (if j > i then j else i)) H):=by
 intro pins s σ H xs us Q I r h
 obtain ⟨i,j,rfl,q⟩:=h
 obtain ⟨u,w',rfl,⟨t,rfl⟩,⟨t',rfl⟩⟩:=b8e r
 refine max_two_ints (I.ok.hd hc) fun h' tk k=>⟨_,H,I.kept k,?_,q⟩
 by_cases hj:j > i
 ·rw [if_pos hj,if_pos hj];exact ⟨_,rfl⟩
 ·rw [if_neg hj,if_neg hj];exact ⟨_,rfl⟩
theorem b2b (hc:X.calm=true):a1C X (.builtin "min") (fun xs H Q=>∃i j,xs=[.int i,.int j]∧Q (.int (if j < i then j else i)) H):=by
 intro pins s σ H xs us Q I r h
 obtain ⟨i,j,rfl,q⟩:=h
 obtain ⟨u,w',rfl,⟨t,rfl⟩,⟨t',rfl⟩⟩:=b8e r
 refine min_two_ints (I.ok.hd hc) fun h' tk k=>⟨_,H,I.kept k,?_,q⟩
 by_cases hj:j < i
 ·rw [if_pos hj,if_pos hj];exact ⟨_,rfl⟩
 ·rw [if_neg hj,if_neg hj];exact ⟨_,rfl⟩
def c7g (K:Qe) (x:V) (H:Hp) (n:Nat):Prop:=
 match x with
 | .str y=>y.length≤sizeLine∧n=y.length
 | .byt y=>y.size≤sizeLine∧n=y.size
 | .ref p=>(∃xs,SqL K H p xs∧n=xs.length)∨∃xs,SqT K H p xs∧n=xs.length
 | _=>False
theorem b3X:a1C X (.builtin "len") (fun xs H Q=>∃x n,xs=[x]∧c7g X.K x H n∧Q (.int n) H):=by
 intro pins s σ H xs us Q I r h
 obtain ⟨x,n,rfl,e,q⟩:=h
 obtain ⟨u,rfl,rx⟩:=a3u r
 have hl:=a7P
 have hs:sizeLine=16777216:=sizeLine_eq
 cases x with
 | str y=>
  obtain ⟨t,rfl⟩:=rx
  obtain ⟨hy,e'⟩:y.length≤sizeLine∧n=y.length:=e
  subst e'
  exact len_str ‹om› ⟨.int _,H,I.tok _,⟨_,rfl⟩,q⟩
 | byt y=>
  obtain ⟨t,rfl⟩:=rx
  obtain ⟨hy,e'⟩:y.size≤sizeLine∧n=y.size:=e
  subst e'
  exact PySem.W.len_bytes ‹om› ⟨.int _,H,I.tok _,⟨_,rfl⟩,q⟩
 | ref p=>
  cases rx
  have e':(∃xs,SqL X.K H p xs∧n=xs.length)∨∃xs,SqT X.K H p xs∧n=xs.length:=e
  rcases e' with ⟨xs,hx,e'⟩ | ⟨xs,hx,e'⟩
  ·subst e'
   obtain ⟨its,r',pl,hz⟩:=I.list hx
   have hlen:=r'.length
   exact Calls.call_len_list pl.isList (by simp only [Qu];omega) ⟨.int xs.length,H,I.tok _,⟨_,by simp only [Qu];rw [hlen]⟩,q⟩
  ·subst e'
   obtain ⟨its,r',pl,hz⟩:=I.tuple hx
   have hlen:=r'.length
   exact len_tuple pl (by simp only [Qu];omega) ⟨.int xs.length,H,I.tok _,⟨_,by simp only [Qu];rw [hlen]⟩,q⟩
 | _=>exact (show False from e).elim
end
structure b8h (h:Heap) (x dx C:Addr) (mA:Str→Option Value):Prop where
 obj:h.get? x=some (Zq C dx)
 ns:h.Ns1 dx mA
 ne:dx≠x
theorem b1N {h:Heap} {dx:Addr} {mA:Str→Option Value} (n:h.Ns1 dx mA):∃od,h.get? dx=some od∧∀name,Vb name od=some (mA name):=by
 obtain ⟨o,es,ep,ho,hd,hk,_,hm⟩:=n
 refine ⟨o,ho,fun name=>?_⟩
 have e:=hm name
 unfold nsFind findBy at e
 rw [←Array.find?_toList] at e
 unfold Vb
 rw [hd]
 dsimp only
 split
 ·rename_i y q
  rw [q] at e
  exact congrArg some e
 ·rename_i q
  rw [q] at e
  have a:es.toList.any (·.refKey)=false:=by
   rw [List.any_eq_false]
   intro y hy
   obtain ⟨z,t,hkey⟩:=hk y (Array.mem_toList_iff.mp hy)
   simp [DictEntry.refKey,hkey]
  have a':¬es.toList.any (·.refKey)=true:=by rw [a];exact Qx
  rw [if_neg a']
  exact congrArg some e
theorem b8h.look {h:Heap} {x dx C:Addr} {mA:Str→Option Value} (I:b8h h x dx C mA):∃od,PySem.W.InstAt h x (Zq C dx) C (some od)∧∀name,Vb name od=some (mA name):=
 let ⟨od,ho,hl⟩:=b1N I.ns
 ⟨od,⟨I.obj,rfl,rfl,ho⟩,hl⟩
section
variable {prog:Program} {w:World} {A:Around} {E:Value→Shared→Prop} {s:Shared} {K:Qe} {x dx C f:Addr} {mA:Str→Option Value} {name:Str} {v:Value}
theorem b6C {expr:Bool} {Q:Value→Shared→Prop} (X:K.In s.heap) (I:b8h s.heap x dx C mA) (hg:Um K C name=true) (hh:Vk K C=true)
  (ha:Yv K (.ref C) name=some none) (hv:mA name=some v) (hv':Gq v=true) (h:Q v {s with toks:=s.toks+1}):
  wpAny (model prog w) A (getAttr (.ref x) name expr) Q E s:=by
 obtain ⟨od,J,hl⟩:=I.look
 exact PySem.W.get_value X J (Uy hg).1 (PySem.W.findObj_own hh ha rfl (by rw [hl,hv])) hv' h
theorem b3t {pl:Sem Bool} {Q:Value×List Value→Shared→Prop} (X:K.In s.heap) (I:b8h s.heap x dx C mA) (hg:Um K C name=true)
  (hf:Yv K (.ref C) name=some (some (.ref f))) (ht:Gg K (.ref f)=true) (hv:mA name=none) (h:Q (.ref f,[.ref x]) s):
  wpAny (model prog w) A (getMethod (.ref x) name pl) Q E s:=by
 obtain ⟨od,J,hl⟩:=I.look
 exact PySem.W.method_fn X J (Uy hg).1 (Uy hg).2 hf (beq_iff_eq.mp ht) (by show (Vb name od).map (·.isSome)=some false;rw [hl,hv];rfl) h
theorem b7R {ns:List Str} {Q:Unit→Shared→Prop} (X:K.In s.heap) (I:b8h s.heap x dx C mA)
  (hs:Yv K (.ref C) "__setattr__"=some (some (.builtin "object.__setattr__"))) (hp:Gm K C=true) (ht:Wg K C name=some none) (hh:Vk K C=true)
  (hw:PySem.Within mA ns) (hsz:ns.length≤sizeLine)
  (h:∀h',b8h h' x dx C (fun y=>if y=name then some v else mA y)→Vr dx s.heap h'→Q () {s with heap:=h',toks:=s.toks+2}):
  wpAny (model prog w) A (setAttr (.ref x) name v) Q E s:=by
 obtain ⟨od,J,hl⟩:=I.look
 refine PySem.W.set_plain X J hs (PySem.W.osa_open (s:={s with toks:=s.toks+1}) (r:=none) X J hp ht fun b=>?_)
 obtain ⟨cd,hc,hd'⟩:=PySem.W.any_some hh
 have hx:s.heap.get? x=some ⟨.ref C,some dx,.plain,#[]⟩:=I.obj
 refine wpAny_bind (wpAny_pure (wpAny_bind (wpAny_bind (wpAny_loadPart hx (wpAny_bind (PySem.W.Looks.here (s:={s with toks:=s.toks+1}) (PySem.W.looks_clsIn X hc) ?_))))))
 rw [hd']
 refine wpAny_pure (a:=some dx) (wpAny_bind (wpAny_pure (wpAny_bind ?_)))
 refine wpAny_nsSet1 (s:={s with toks:=s.toks+1}) I.ns fun h' hn2 hs2=>?_
 obtain ⟨oD,esD,epD,hoD,hdD,hcD⟩:=hn2.count (PySem.Within.cons name v hw)
 refine wpAny_bind (wpAny_lookBehind hoD (by rw [hdD];exact pastItsLine_dict (Qi hcD (by rw [Qm];omega))) ?_)
 exact wpAny_pure (h _ ⟨(hs2.2 _ (Ne.symm I.ne)).trans I.obj,hn2,I.ne⟩ hs2)
theorem b4l {R:Result→Shared→Prop} {vs:List Value} {kw:List (Str×Value)} (X:K.In s.heap) (hm:Gu K C=true)
  (hi:Yv K (.ref C) "__init__"=some (some (.ref f))) (hf:Ws K (.ref f)=some (.type "function"))
  (h:codeAny (model prog w) (A.under (.builtin "type.__call__" ⟨.ref C::vs,kw⟩)) (.call (.ref f) ⟨.ref (s.heap.objs.size+1)::vs,kw⟩) (PySem.W.InitBack (s.heap.objs.size+1) R)
   {s with heap:=(s.heap.push Yy).push (Zq C s.heap.objs.size)}):
  codeAny (model prog w) A (.call (.ref C) ⟨vs,kw⟩) R s:=by
 obtain ⟨hh,g,d,t,os⟩:=s
 exact PySem.W.make_core (PySem.W.makes_of X hm) (PySem.W.looks_findIn X hi) (fun self=>PySem.W.bind_fn X self hf) (.inl rfl) h
end
def a1B (f:Str) (v:V):List (Str×V)→List (Str×V)
 | []=>[(f,v)]
 | (g,x)::r=>if g=f then (g,v)::r else (g,x)::a1B f v r
theorem a0g (f g:Str) (v:V):∀fs:List (Str×V),(a1B f v fs).lookup g=if g=f then some v else fs.lookup g
 | []=>by
  show Jl g [(f,v)]=_
  by_cases h:g=f
  ·have hb:(g == f)=true:=beq_iff_eq.mpr h
   simp only [Jl,hb,if_pos h]
  ·have hb:(g == f)=false:=beq_eq_false_iff_ne.mpr h
   simp only [Jl,hb,if_neg h]
 | (k,x)::r=>by
  have ih:=a0g f g v r
  rw [show a1B f v ((k,x)::r)=(if k=f then (k,v)::r else (k,x)::a1B f v r) from rfl]
  by_cases hk:k=f
  ·rw [if_pos hk]
   by_cases h:g=k
   ·have hb:(g == k)=true:=beq_iff_eq.mpr h
    simp only [Jl,hb,if_pos (h.trans hk)]
   ·have hb:(g == k)=false:=beq_eq_false_iff_ne.mpr h
    simp only [Jl,hb,if_neg (fun e:g=f=>h (e.trans hk.symm))]
  ·rw [if_neg hk]
   by_cases h:g=k
   ·have hb:(g == k)=true:=beq_iff_eq.mpr h
    simp only [Jl,hb,if_neg (fun e:g=f=>hk (h.symm.trans e))]
   ·have hb:(g == k)=false:=beq_eq_false_iff_ne.mpr h
    simp only [Jl,hb]
    exact ih
theorem a4r (f:Str) (v:V):∀fs:List (Str×V),f∈(a1B f v fs).map (·.1)∧∀g,g∈fs.map (·.1)→g∈(a1B f v fs).map (·.1)
 | []=>⟨by simp [a1B],fun g h=>by simp at h⟩
 | (k,x)::r=>by
  obtain ⟨i1,i2⟩:=a4r f v r
  rw [show a1B f v ((k,x)::r)=(if k=f then (k,v)::r else (k,x)::a1B f v r) from rfl]
  by_cases hk:k=f
  ·rw [if_pos hk]
   subst hk
   exact ⟨by simp,fun g h=>by simpa using h⟩
  ·rw [if_neg hk]
   refine ⟨?_,fun g h=>?_⟩
   ·rw [Xk]
    exact Qt _ i1
   ·rw [Xk] at h ⊢
    rcases Qw.mp h with e | e
    ·exact Qw.mpr (.inl e)
    ·exact Qt _ (i2 g e)
theorem a4e (f:Str) (v:V):∀fs:List (Str×V),(a1B f v fs).length≤fs.length+1
 | []=>by simp [a1B]
 | (k,x)::r=>by
  have ih:=a4e f v r
  rw [show a1B f v ((k,x)::r)=(if k=f then (k,v)::r else (k,x)::a1B f v r) from rfl]
  by_cases hk:k=f
  ·rw [if_pos hk,Qm,Qm];omega
  ·rw [if_neg hk,Qm,Qm];omega
theorem a4F.some_of {v:V} {o:Option Value} (r:a4F (some v) o):∃u,o=some u∧a0Q v u:=by
 cases o with
 | none=>exact (show False from r).elim
 | some u=>exact ⟨u,rfl,r⟩
theorem a4F.none_of {o:Option Value} (r:a4F none o):o=none:=by
 cases o with
 | none=>rfl
 | some u=>exact (show False from r).elim
theorem b1o {v:V} {u:Value} (r:a0Q v u):Gq u=true:=by
 cases v with
 | non=>cases (show u=Value.none from r);rfl
 | bl b=>cases (show u=Value.bool b from r);rfl
 | int i=>obtain ⟨t,e⟩:=(show ∃t,u=Value.int i t from r);cases e;rfl
 | str x=>obtain ⟨t,e⟩:=(show ∃t,u=Value.str x t from r);cases e;rfl
 | byt b=>obtain ⟨t,e⟩:=(show ∃t,u=Value.bytes b t from r);cases e;rfl
 | flt b=>obtain ⟨t,e⟩:=(show ∃t,u=Value.float b t from r);cases e;rfl
 | ref a=>cases (show u=Value.ref a from r);rfl
 | ty n=>cases (show u=Value.type n from r);rfl
section
variable {P:Program} {w:World} {H H':Hp} {h h':Heap} {a C dx:Addr} {fs fs':List (Str×V)}
theorem a5E (hok:HOk P w H h) (e:H a=some (.ins C dx fs)):∃mA,b8h h a dx C mA∧(∀f,a4F (fs.lookup f) (mA f))∧PySem.Within mA (fs.map (·.1))∧fs.length≤1000∧H dx=some (.own a):=by
 obtain ⟨d,z,ne,ob,mA,n,r,q⟩:=(show a1c P w H h a (.ins C dx fs) from hok a _ e)
 exact ⟨mA,⟨ob,n,ne⟩,r,q,z,d⟩
end
structure Cls (K:Qe) (C:Addr):Prop where
 pg:Um K C Str.empty=true
 hd:Vk K C=true
 po:Gm K C=true
 sa:Yv K (.ref C) "__setattr__"=some (some (.builtin "object.__setattr__"))
theorem Cls.get {K:Qe} {C:Addr} (c:Cls K C) (f:Str):Um K C f=true:=c.pg
def a0E (K:Qe) (C:Addr) (f:Str):Prop:=Yv K (.ref C) f=some none
theorem a0E.taker {K:Qe} {C:Addr} {f:Str} (n:a0E K C f):Wg K C f=some none:=by
 unfold Wg
 rw [show Yv K (.ref C) f=some none from n]
 rfl
structure a3I (K:Qe) (C:Addr) (m:Str) (f:Addr):Prop where
 at_:Yv K (.ref C) m=some (some (.ref f))
 fn:Gg K (.ref f)=true
 kp:Zo K (.ref f)=true
section
variable {X:Cx} {pins:List (Addr×Obj)} {σ:St} {H:Hp} {s:Shared} {a C dx:Addr} {fs:List (Str×V)} {f:Str} {v:V} {A:Around} {E:Value→Shared→Prop}
theorem a9z {b:Bool} {Q:Value→Shared→Prop} (I:Inv X pins σ H s) (e:H a=some (.ins C dx fs)) (c:Cls X.K C) (n:a0E X.K C f) (l:fs.lookup f=some v)
  (h:∀u s',Inv X pins σ H s'→a0Q v u→Q u s'):wpAny (model X.prog X.w) A (getAttr (.ref a) f b) Q E s:=by
 obtain ⟨mA,O,r,_,_,_⟩:=a5E I.hok e
 obtain ⟨u,hu,ru⟩:=a4F.some_of (v:=v) (o:=mA f) (by rw [←l];exact r f)
 exact b6C I.kIn O (c.get f) c.hd n hu (b1o ru) (h u _ (I.tok _) ru)
theorem a5h {m:Str} {g:Addr} {pl:Sem Bool} {Q:Value×List Value→Shared→Prop} (I:Inv X pins σ H s) (e:H a=some (.ins C dx fs)) (c:Cls X.K C) (k:a3I X.K C m g) (l:fs.lookup m=none)
  (h:Q (.ref g,[.ref a]) s):wpAny (model X.prog X.w) A (getMethod (.ref a) m pl) Q E s:=by
 obtain ⟨mA,O,r,_,_,_⟩:=a5E I.hok e
 have hn:mA m=none:=a4F.none_of (by rw [←l];exact r m)
 exact b3t I.kIn O (c.get m) k.at_ k.fn hn h
theorem a9f {y:V} {u:Value} {Q:Unit→Shared→Prop} (I:Inv X pins σ H s) (e:H a=some (.ins C dx fs)) (c:Cls X.K C) (n:a0E X.K C f) (hl:fs.length < 1000) (ry:a0Q y u)
  (h:∀s',Inv X pins σ (upd H a (.ins C dx (a1B f y fs))) s'→Q () s'):wpAny (model X.prog X.w) A (setAttr (.ref a) f u) Q E s:=by
 obtain ⟨mA,O,r,wi,_,ho⟩:=a5E I.hok e
 have hz:(fs.map (·.1)).length≤sizeLine:=by rw [Qd,sizeLine_eq];omega
 refine b7R I.kIn O c.sa c.po n.taker c.hd wi hz fun h' O' sb=>h _ ?_
 have hd:∃o,h'.get? dx=some o:=let ⟨o,_,_,e',_⟩:=O'.ns;⟨o,e'⟩
 refine I.write (x:=a) (e:=dx) (by rw [e];exact True.intro) (.inr ho) (fun b q hb z=>(sb.2 b hb).trans z) hd ?_
 refine ⟨by rw [a0a O.ne];exact ho,?_,O.ne,O'.obj,_,O'.ns,fun g=>?_,fun g hg=>?_⟩
 ·have:=a4e f y fs;omega
 ·show a4F ((a1B f y fs).lookup g) (if g=f then some u else mA g)
  rw [a0g]
  by_cases q:g=f
  ·rw [if_pos q,if_pos q];exact ry
  ·rw [if_neg q,if_neg q];exact r g
 ·by_cases q:g=f
  ·rw [q];exact (a4r f y fs).1
  ·refine (a4r f y fs).2 g (wi g fun z=>hg ?_)
   show (if g=f then some u else mA g)=none
   rw [if_neg q];exact z
theorem Inv.made (I:Inv X pins σ H s):Inv X pins σ (upd (upd H s.heap.objs.size (.own (s.heap.objs.size+1))) (s.heap.objs.size+1) (.ins C s.heap.objs.size []))
  {s with heap:=(s.heap.push Yy).push (Zq C s.heap.objs.size)}:=by
 have e1:(s.heap.push Yy).get? s.heap.objs.size=some Yy:=Xd s.heap rfl
 have e2:((s.heap.push Yy).push (Zq C s.heap.objs.size)).get? (s.heap.objs.size+1)=some (Zq C s.heap.objs.size):=by
  have:=Xd (s.heap.push Yy) (o:=Zq C s.heap.objs.size) rfl
  rwa [Vc] at this
 have e3:(s.heap.push Yy).Ns s.heap.objs.size (fun _=>none):=⟨Yy,#[],_,e1,rfl,(fun e he=>absurd he (by simp)),fun _=>rfl⟩
 have I1:=I.laid (a:=s.heap.objs.size) (o:=.own (s.heap.objs.size+1)) (h':=s.heap.push Yy) (t':=s.toks) (fun b u q=>Qo _ q) (Qj _) ⟨_,e1⟩
 refine I1.laid (a:=s.heap.objs.size+1) (o:=.ins C s.heap.objs.size []) (t':=s.toks) (fun b u q=>Qo _ q) (Vs (Vc _ _)) ?_
 have ne:s.heap.objs.size≠s.heap.objs.size+1:=Xl (Vt _)
 refine ⟨by rw [a0a ne,a0d],Xb _,ne,e2,fun _=>none,(Heap.Ns1.of_empty e3).at fun o q=>Qo _ q,fun _=>True.intro,fun y hy=>absurd rfl hy⟩
theorem b6B {prog:Program} {w:World} {env:Env} {e:Expr} {f:Str} {pos:Pos} {s:Shared} {Q:Value→Shared→Prop} (hb:attributeBase e f env (eval e env)=eval e env)
  (h:wpAny (model prog w) A (eval e env) (fun o s₁=>wpAny (model prog w) A (getAttr o f true) Q E s₁) E s):wpAny (model prog w) A (eval (.Attribute e f pos) env) Q E s:=
 Attribute_any_ h (by rw [arm_eval_Attribute,hb])
end
def a3F (K:Qe) (ta:TE) (f:Str):TE:=fun σ H Q=>ta σ H fun x H1=>∃a C dx fs v,x=.ref a∧H1 a=some (.ins C dx fs)∧Cls K C∧a0E K C f∧fs.lookup f=some v∧Q v H1
def c2x (K:Qe) (ta tv:TE) (f:Str):TS:=fun D σ H=>tv σ H fun y H1=>ta σ H1 fun x H2=>∃a C dx fs,x=.ref a∧H2 a=some (.ins C dx fs)∧Cls K C∧a0E K C f∧fs.length < 1000∧
 D.nx σ (upd H2 a (.ins C dx (a1B f y fs)))
section
variable {X:Cx} {o e value:Expr} {f:Str} {pos pos' tpos:Pos} {ta tv:TE}
theorem b5v (he:PE X e ta) (hb:attributeBase e f X.env (eval e X.env)=eval e X.env):PE X (.Attribute e f pos) (a3F X.K ta f):=by
 intro pins s σ H Q I h
 refine b6B hb (thn (he pins s σ H _ I h) fun u s1 ⟨x,H1,I1,rx,a,C,dx,fs,v,ex,ea,c,n,l,q⟩=>?_)
 subst ex
 obtain rfl:u=Value.ref a:=rx
 exact a9z I1 ea c n l fun u' s2 I2 ru=>⟨v,H1,I2,ru,q⟩
theorem c2h (ha:PE X o ta) (hv:PE X value tv) (hs:swapsWith value (some (.Attribute o f pos')) pos.line X.env=pure false):PS X (.Assign [.Attribute o f pos'] value pos) (c2x X.K ta tv f):=by
 intro pins s σ H D I h
 refine plainObj_wpAny_Assign_Attribute (thn (hv pins s σ H _ I h) fun u s1 ⟨y,H1,I1,ry,q⟩=>thn (ha pins s1 σ H1 _ I1 q) fun ov s2 ⟨x,H2,I2,rx,a,C,dx,fs,ex,ea,c,n,l,q2⟩=>?_) hs
 subst ex
 obtain rfl:ov=Value.ref a:=rx
 exact a9f I2 ea c n l ry fun s3 I3=>⟨σ,_,I3,q2⟩
end
section
variable {X:Cx} {pins:List (Addr×Obj)} {σ:St} {H:Hp} {s:Shared} {A:Around} {E:Value→Shared→Prop} {Q:Value→Shared→Prop} {c:Value} {b:Bool}
inductive a9C (K:Qe) (H:Hp):V→Value→Prop where
 | non:a9C K H .non (.type "NoneType")
 | bl (x:Bool):a9C K H (.bl x) (.type "bool")
 | int (i:Int):a9C K H (.int i) (.type "int")
 | str (x:Str):a9C K H (.str x) (.type "str")
 | flt (x:UInt64):a9C K H (.flt x) (.type "float")
 | lst {a:Addr} {xs:List V} (e:H a=some (.lst xs)):a9C K H (.ref a) (.type "list")
 | frz {a:Addr} {o:Obj} {xs:List V} (e:H a=some (.frz o (.lst xs))):a9C K H (.ref a) (.type "list")
 | tup {a:Addr} {xs:List V} (e:H a=some (.tup xs)):a9C K H (.ref a) (.type "tuple")
 | dK {a:Addr} {kvs:List (Key×V)} (e:H a=some (.dK kvs)):a9C K H (.ref a) (.type "dict")
 | dT {a:Addr} {kvs:List (List Key×V)} (e:H a=some (.dT kvs)):a9C K H (.ref a) (.type "dict")
 | ins {a C dx:Addr} {fs:List (Str×V)} (e:H a=some (.ins C dx fs)) (cl:Cls K C) (ha:Yv K (.ref C) "__class__"=some (some (.builtin "object.__class__")))
   (hn:Vl K (.builtin "object.__class__") "__get__"=some (some (.builtin "getset_descriptor.__get__"))) (htk:Gv K (.builtin "object.__class__")=some true)
   (hm:PySem.W.mroIn K C (.type "object")=some true):a9C K H (.ref a) (.ref C)
theorem a9V {x:V} {u t:Value} (I:Inv X pins σ H s) (rx:a0Q x u) (ty:a9C X.K H x t) (e:Yc X.K t c=some b) (h:∀tk,Q (.bool b) {s with toks:=tk}):
  wpAny (model X.prog X.w) A (call (.builtin "isinstance") [u,c]) Q E s:=by
 cases ty with
 | non=>cases (show u=Value.none from rx);exact Yw PySem.W.kitx_none I.kIn True.intro e (fun z=>nomatch z) h
 | bl y=>cases (show u=Value.bool y from rx);exact Yw PySem.W.kitx_bool I.kIn True.intro e (fun z=>nomatch z) h
 | int i=>obtain ⟨t,q⟩:=(show ∃t,u=Value.int i t from rx);cases q;exact Yw PySem.W.kitx_int I.kIn True.intro e (fun z=>nomatch z) h
 | str y=>obtain ⟨t,q⟩:=(show ∃t,u=Value.str y t from rx);cases q;exact Yw PySem.W.kitx_str I.kIn True.intro e (fun z=>nomatch z) h
 | flt y=>obtain ⟨t,q⟩:=(show ∃t,u=Value.float y t from rx);cases q;exact Yw PySem.W.kitx_float I.kIn True.intro e (fun z=>nomatch z) h
 | @lst a xs ea=>
  cases (show u=Value.ref a from rx)
  obtain ⟨_,_,n,_,h1⟩:=(show a1c X.prog X.w H s.heap a (.lst xs) from I.hok a _ ea)
  exact Yw Gn I.kIn ⟨_,h1,rfl⟩ e (fun z=>nomatch z) h
 | @frz a ob xs ea=>
  cases (show u=Value.ref a from rx)
  obtain ⟨_,_,_,n,_,h1⟩:=(show a1c X.prog X.w H s.heap a (.frz ob (.lst xs)) from I.hok a _ ea)
  exact Yw Gn I.kIn ⟨_,h1,rfl⟩ e (fun z=>nomatch z) h
 | @tup a xs ea=>
  cases (show u=Value.ref a from rx)
  obtain ⟨_,_,_,p⟩:=(show a1c X.prog X.w H s.heap a (.tup xs) from I.hok a _ ea)
  obtain ⟨o,h1,h2,_⟩:=p
  exact Yw PySem.W.kitx_tuple I.kIn ⟨o,h1,h2⟩ e (fun z=>nomatch z) h
 | @dK a kvs ea=>
  cases (show u=Value.ref a from rx)
  obtain ⟨_,_,vs,_,p⟩:=(show a1c X.prog X.w H s.heap a (.dK kvs) from I.hok a _ ea)
  obtain ⟨o,es,ep,h1,h2,_⟩:=p
  exact Yw Go I.kIn ⟨o,h1,h2.1⟩ e (fun z=>nomatch z) h
 | @dT a kvs ea=>
  cases (show u=Value.ref a from rx)
  obtain ⟨_,_,xs,_,o,es,ep,h1,h2,_⟩:=(show a1c X.prog X.w H s.heap a (.dT kvs) from I.hok a _ ea)
  exact Yw Go I.kIn ⟨o,h1,h2.1⟩ e (fun z=>nomatch z) h
 | @ins a C dx fs ea cl ha hn htk hm=>
  cases (show u=Value.ref a from rx)
  obtain ⟨mA,O,_⟩:=a5E I.hok ea
  obtain ⟨od,J,_⟩:=O.look
  exact Yw (PySem.W.kitx_own (cl.get _) cl.hd ha hn htk hm) I.kIn J e (fun z=>nomatch z) h
end
structure a2x (k:Nat) (A:Around):Prop where
 hd:A.handled=none
 dp:A.depth+3 * k+5 < recursionLimit
 un:A.units+16 * k+200 < cLine
theorem a2x.mono {j k:Nat} {A:Around} (r:a2x k A) (h:j≤k):a2x j A:=⟨r.hd,by have:=r.dp;omega,by have:=r.un;omega⟩
theorem a2x.deeper {k:Nat} {A:Around} (r:a2x (k+1) A) (env:Env):a2x k (A.deeper env):=
 ⟨r.hd,by have:=r.dp;show A.depth+1+3 * k+5 < _;omega,by have:=r.un;show A.units+3+16 * k+200 < _;omega⟩
theorem a2x.in1 {k:Nat} {A:Around} (r:a2x (k+1) A):a2x k A.in1:=
 ⟨r.hd,by have:=r.dp;show A.depth+3 * k+5 < _;omega,by have:=r.un;show A.units+1+16 * k+200 < _;omega⟩
theorem a9y {A:Around} {C:Addr} {us:List Value} {kw:List (Str×Value)}:(A.under (.builtin "type.__call__" ⟨.ref C::us,kw⟩)).depth=A.depth+1:=by
 first | rfl | simp [Around.under,Code.weight,Code.isCreation,Code.isGuard,Code.isCaller,Code.frames,Code.isFrame,guardIds]
theorem a8W {A:Around} {C:Addr} {us:List Value} {kw:List (Str×Value)}:(A.under (.builtin "type.__call__" ⟨.ref C::us,kw⟩)).units=A.units+1:=by
 first | rfl | simp [Around.under,Code.cUnits,Code.frames,Code.isFrame]
theorem a2x.make {k:Nat} {A:Around} (r:a2x (k+1) A) (C:Addr) (us:List Value) (kw:List (Str×Value)):a2x k (A.under (.builtin "type.__call__" ⟨.ref C::us,kw⟩)):=
 ⟨r.hd,by have:=r.dp;rw [a9y];omega,by have:=r.un;rw [a8W];omega⟩
theorem a2x.depth {k:Nat} {A:Around} (r:a2x k A):A.depth < recursionLimit:=by have:=r.dp;omega
theorem a2x.units {k:Nat} {A:Around} (r:a2x k A):A.units+64 < cLine:=by have:=r.un;omega
def a0q:TA:=fun _ H Q=>Q [] H
def a0i (ta:TE) (tr:TA):TA:=fun σ H Q=>ta σ H fun x H1=>tr σ H1 fun xs H2=>Q (x::xs) H2
section
variable {X:Cx} {e:Expr} {es:List Expr} {te:TE} {t:TA} {pos:Pos}
theorem b5f:PA X [] a0q:=fun _ _ _ _ H Q I h=>Calls.spliced_nil ⟨[],H,I,.nil,h⟩
theorem b0W (ha:PE X e te) (hr:PA X es t) (hs:starEach (e::es) X.env=(false,eval e X.env)::starEach es X.env:=by rfl):PA X (e::es) (a0i te t):=by
 intro pos pins s σ H Q I h
 rw [hs]
 show wpAny _ _ (spliced ((false,eval e X.env)::backTo pos (starEach es X.env))) _ _ s
 refine Calls.spliced_cons (thn (ha pins s σ H _ I h) fun u s1 ⟨x,H1,I1,r1,q1⟩=>?_)
 exact thn (hr pos pins s1 σ H1 _ I1 q1) fun us s2 ⟨xs,H2,I2,r2,q2⟩=>⟨x::xs,H2,I2,.cons r1 r2,q2⟩
def a3J (t:TA):TE:=fun σ H Q=>t σ H fun xs H1=>xs.length≤sizeLine∧∀p,H1 p=none→Q (.ref p) (upd H1 p (.tup xs))
def a2M (t:TA):TE:=fun σ H Q=>t σ H fun xs H1=>xs.length≤sizeLine∧∀p,H1 p=none→Q (.ref p) (upd H1 p (.lst xs))
theorem c1W {x1} (h:PA X es t):PE X (.Tuple es x1 pos) (a3J t):=by
 intro pins s σ H Q I hq
 refine wpAny_Tuple_spliced (thn (h pos pins s σ H _ I hq) fun us s1 ⟨xs,H1,I1,r,z,q⟩=>⟨by rw [←r.length];exact z,?_⟩)
 have hf:H1 s1.heap.objs.size=none:=I1.hok.fresh (Qj _)
 refine ⟨.ref s1.heap.objs.size,upd H1 s1.heap.objs.size (.tup xs),I1.laid (t':=s1.toks) (fun b u e=>Qo _ e) (Qj _) ?_,rfl,q _ hf⟩
 exact ⟨z,us,r,⟨_,Xd _ rfl,rfl,_,rfl⟩⟩
theorem c1R (h:PA X es t):PE X (.List es pos) (a2M t):=by
 intro pins s σ H Q I hq
 refine wpAny_List_spliced (thn (h pos pins s σ H _ I hq) fun us s1 ⟨xs,H1,I1,r,z,q⟩=>⟨by rw [←r.length];exact z,?_⟩)
 have hf:H1 s1.heap.objs.size=none:=I1.hok.fresh (Qj _)
 refine ⟨.ref s1.heap.objs.size,upd H1 s1.heap.objs.size (.lst xs),I1.laid (t':=s1.toks) (fun b u e=>Qo _ e) (Qj _) ?_,rfl,q _ hf⟩
 exact ⟨z,us,0,r,Xd _ rfl⟩
end
abbrev Sp:=List V→Hp→VK→XK→Prop
abbrev CXT:=List Env→Hp→Shared→XK→Value→Shared→Prop
structure b7e (P:Program) (w:World) (K:Qe) (mg:Str→Option Value) (base:Heap) (A:Around) (outer:List Env) (s:Shared) (H:Hp):Prop where
 frames:A.frames=some outer
 mod:Mod K mg base
 bs:∀b o,base.get? b=some o→s.heap.get? b=some o∧H b=none
 bsz:base.objs.size≤s.heap.objs.size
 funs:s.heap.FunFrames base outer
 frf:∀b∈frs outer,H b=none
 hok:HOk P w H s.heap
 bare:AllBare s.gens
def CE (outer:List Env) (P:Program) (w:World) (H:Hp) (s:Shared) (Q:VK) (u:Value) (s':Shared):Prop:=
 ∃v H',s'.os=s.os∧AllBare s'.gens∧Un (frs outer) [] H H' s.heap s'.heap∧HOk P w H' s'.heap∧a0Q v u∧Q v H'
def CR (CX:CXT) (outer:List Env) (P:Program) (w:World) (H:Hp) (s:Shared) (Q:VK) (E:XK) (r:Result) (s':Shared):Prop:=
 match r with
 | .ok (.ret u)=>CE outer P w H s Q u s'
 | .ok _=>False
 | .error e=>CX outer H s E e s'
structure a0R (P:Program) (w:World) (K:Qe) (mg:Str→Option Value) (base:Heap) (CX:CXT) (k:Nat) (f:Addr) (fd:FuncData) (ps:List Str) (sp:Sp):Prop where
 len:∀vs H Q E,sp vs H Q E→vs.length=ps.length
 run:∀(A:Around) (outer:List Env) (s:Shared) (H:Hp) (args:Args) (us:List Value) (vs:List V) (Q:VK) (E:XK),a2x k A→b7e P w K mg base A outer s H→BindsTo s fd args (ps.zip us)→a0Y vs us→sp vs H Q E→
  codeAny (model P w) A (.call (.ref f) args) (CR CX outer P w H s Q E) s
theorem a0R.imp {P:Program} {w:World} {K:Qe} {mg:Str→Option Value} {base:Heap} {CX:CXT} {k:Nat} {f:Addr} {fd:FuncData} {ps:List Str} {sp sp':Sp} (F:a0R P w K mg base CX k f fd ps sp)
  (h:∀vs H Q E,sp' vs H Q E→sp vs H Q E):a0R P w K mg base CX k f fd ps sp':=
 ⟨fun vs H Q E q=>F.len vs H Q E (h _ _ _ _ q),fun A outer s H args us vs Q E hr he hb hv hs=>F.run A outer s H args us vs Q E hr he hb hv (h _ _ _ _ hs)⟩
theorem b7e.make {P:Program} {w:World} {K:Qe} {mg:Str→Option Value} {base:Heap} {A:Around} {outer:List Env} {s:Shared} {H:Hp} (e:b7e P w K mg base A outer s H) (C:Addr) (us:List Value) (kw:List (Str×Value)):
  b7e P w K mg base (A.under (.builtin "type.__call__" ⟨.ref C::us,kw⟩)) outer s H:=⟨by first | exact e.frames | (simpa [Around.under,Code.envs,Code.isFrame,pushEnvs] using e.frames),e.mod,e.bs,e.bsz,e.funs,e.frf,e.hok,e.bare⟩
section
variable {X:Cx} {pins:List (Addr×Obj)} {σ:St} {H:Hp} {s s':Shared}
theorem Inv.env0 (I:Inv X pins σ H s):b7e X.prog X.w X.K X.mg X.base X.A X.stack s H:=
 ⟨I.ok.frames,I.ok.mod,I.bs,Qi I.ok.bsz I.sz,I.stack,I.stkFree,I.hok,I.bare⟩
theorem Inv.after {Q:VK} {u:Value} (I:Inv X pins σ H s) (h:CE X.stack X.prog X.w H s Q u s'):EP X pins σ Q u s':=by
 obtain ⟨v,H',os,bare,un,hok,r,q⟩:=h
 obtain ⟨hh,g,d,t,os'⟩:=s'
 obtain rfl:os'=s.os:=os
 exact ⟨v,H',I.call (h':=hh) (g':=g) (d':=d) (t':=t) (ch:=[]) un hok bare (fun b z=>absurd z (by simp)),r,q⟩
end
def a0v (sp:Sp) (dvs:List V) (E:XK) (t:TA):TE:=fun σ H Q=>t σ H fun vs H1=>sp (vs++dvs) H1 Q E
def a1M (C:Addr) (m:Str) (sp:Sp) (dvs:List V) (E:XK) (ta:TE) (t:TA):TE:=fun σ H Q=>ta σ H fun x H1=>∃a dx fs,x=.ref a∧H1 a=some (.ins C dx fs)∧fs.lookup m=none∧
 t σ H1 fun vs H2=>sp (x::(vs++dvs)) H2 Q E
def b6w (C:Addr) (sp:Sp) (dvs:List V) (E:XK) (t:TA):TE:=fun σ H Q=>t σ H fun vs H1=>∀x dx,H1 x=none→H1 dx=none→dx≠x→
 sp (.ref x::(vs++dvs)) (upd (upd H1 dx (.own x)) x (.ins C dx [])) (fun v H2=>v=.non∧Q (.ref x) H2) E
def a0n (K:Qe) (fd:FuncData) (ps:List Str) (ds:List Value):Prop:=
 ∀(s:Shared) (us:List Value),K.In s.heap→(us++ds).length=ps.length→BindsTo s fd ⟨us,[]⟩ (ps.zip (us++ds))
theorem a0n.all {K:Qe} {fd:FuncData} {ps:List Str} (h:∀us:List Value,us.length=ps.length→bindArgs fd ⟨us,[]⟩=pure (ps.zip us)):a0n K fd ps []:=fun s us _ hl=>by
 rw [Qh] at hl ⊢
 exact .of_eq (h us hl)
def a3z (CX:CXT) (X:Cx) (E:XK):Prop:=∀(pins:List (Addr×Obj)) (σ:St) (H:Hp) (s:Shared) (e:Value) (s':Shared),Inv X pins σ H s→CX X.stack H s E e s'→X.xe e s'
section
variable {X:Cx} {CX:CXT} {k:Nat} {f C:Addr} {fd:FuncData} {ps:List Str} {sp:Sp} {dvs:List V} {ds:List Value} {E:XK} {x m:Str} {p pos apos:Pos} {e o:Expr} {es:List Expr} {ta:TE} {t:TA}
theorem a8l {pins:List (Addr×Obj)} {σ:St} {H:Hp} {s:Shared} {Q:VK} {us:List Value} {vs:List V} (F:a0R X.prog X.w X.K X.mg X.base CX k f fd ps sp) (hr:a2x k X.A) (hb:a0n X.K fd ps ds) (hd:a0Y dvs ds) (hx:a3z CX X E)
  (I:Inv X pins σ H s) (r:a0Y vs us) (h:sp (vs++dvs) H Q E):wpAny (model X.prog X.w) X.A (call (.ref f) us) (EP X pins σ Q) X.xe s:=by
 have r2:a0Y (vs++dvs) (us++ds):=r.append hd
 have hl:(us++ds).length=ps.length:=by rw [←r2.length];exact F.len _ _ _ _ h
 refine wpAny_call (codeAny_mono (F.run X.A X.stack s H ⟨us,[]⟩ (us++ds) (vs++dvs) Q E hr I.env0 (hb s us I.kIn hl) r2 h) fun r s' hq=>?_)
 cases r with
 | error e=>exact hx pins σ H s e s' I hq
 | ok fl=>
  cases fl with
  | ret u=>exact I.after hq
  | next=>exact False.elim hq
  | brk=>exact False.elim hq
  | cont=>exact False.elim hq
theorem b7l (F:a0R X.prog X.w X.K X.mg X.base CX k f fd ps sp) (hr:a2x k X.A) (hg:Gl X x) (hm:X.mg x=some (.ref f)) (hk:Zo X.K (.ref f)=true) (hb:a0n X.K fd ps ds) (hd:a0Y dvs ds) (hx:a3z CX X E)
  (ha:PA X (e::es) t) (hdb:(x == ("__debug__":Str))=false:=by decide) (he:starEach (e::es) X.env=(false,eval e X.env)::starEach es X.env:=by rfl) (hpl:(backTo pos (starEach es X.env)).any (·.1)=false:=by rfl):
  PE X (.Call (.Name x p) (e::es) [] pos) (a0v sp dvs E t):=by
 intro pins s σ H Q I h
 refine wpAny_Call_Name_kw (a7m I hg hm ?_ hdb)
 refine Ug (h₀:=X.base) I.ok.mod.kin hk (thn (ha pos pins s σ H _ I h) fun us s1 ⟨vs,H1,I1,r,q⟩=>⟨I1.kIn,?_⟩) he hpl
 exact a8l F hr hb hd hx I1 r q
theorem b8i {pl:Sem Bool} (he:PE X o ta) (c:Cls X.K C) (hm:a3I X.K C m f) (F:a0R X.prog X.w X.K X.mg X.base CX k f fd ps sp) (hr:a2x k X.A) (hb:a0n X.K fd ps ds) (hd:a0Y dvs ds) (hx:a3z CX X E) (ha:PA X (e::es) t)
  (hst:starEach (e::es) X.env=(false,eval e X.env)::starEach es X.env:=by rfl) (hpl:(backTo pos (starEach es X.env)).any (·.1)=false:=by rfl)
  (ht:eval (.Call (.Attribute o m apos) (e::es) [] pos) X.env=(do
   let ov ←eval o X.env
   standAt apos.atName
   let (f,first) ←holding [ov] (getMethod ov m pl)
   callWith pos f first (backTo pos (starEach (e::es) X.env)) (backToKw pos (keywordEach [] X.env))):=by rfl):
  PE X (.Call (.Attribute o m apos) (e::es) [] pos) (a1M C m sp dvs E ta t):=by
 intro pins s σ H Q I h
 refine Uo (pl:=pl) (thn (he pins s σ H _ I h) fun u s1 ⟨x,H1,I1,rx,a,dx,fs,ex,ea,l,q⟩=>?_) ht
 subst ex
 obtain rfl:u=Value.ref a:=rx
 refine a5h I1 ea c hm l ?_
 refine Ug (first:=[.ref a]) (h₀:=X.base) I.ok.mod.kin hm.kp (thn (ha pos pins s1 σ H1 _ I1 q) fun us s2 ⟨vs,H2,I2,r,q2⟩=>⟨I2.kIn,?_⟩) hst hpl
 exact a8l (us:=.ref a::us) (vs:=.ref a::vs) F hr hb hd hx I2 (.cons rfl r) q2
theorem b3N {pl:Sem Bool} (he:PE X o ta) (c:Cls X.K C) (hm:a3I X.K C m f) (F:a0R X.prog X.w X.K X.mg X.base CX k f fd ps sp) (hr:a2x k X.A) (hb:a0n X.K fd ps ds) (hd:a0Y dvs ds) (hx:a3z CX X E)
  (ht:eval (.Call (.Attribute o m apos) [] [] pos) X.env=(do
   let ov ←eval o X.env
   standAt apos.atName
   let (f,first) ←holding [ov] (getMethod ov m pl)
   callWith pos f first (backTo pos (starEach [] X.env)) (backToKw pos (keywordEach [] X.env))):=by rfl):
  PE X (.Call (.Attribute o m apos) [] [] pos) (a1M C m sp dvs E ta a0q):=by
 intro pins s σ H Q I h
 refine Uo (pl:=pl) (thn (he pins s σ H _ I h) fun u s1 ⟨x,H1,I1,rx,a,dx,fs,ex,ea,l,q⟩=>?_) ht
 subst ex
 obtain rfl:u=Value.ref a:=rx
 refine a5h I1 ea c hm l ?_
 exact PySem.W.callWith_K0 (first:=[.ref a]) I1.kIn hm.kp (a8l (us:=[.ref a]) (vs:=[.ref a]) F hr hb hd hx I1 (.cons rfl .nil) q)
structure Mk (K:Qe) (C f:Addr):Prop where
 makes:Gu K C=true
 init:Yv K (.ref C) "__init__"=some (some (.ref f))
 fn:Gg K (.ref f)=true
 kp:Zo K (.ref C)=true
theorem b3n {pins:List (Addr×Obj)} {σ:St} {H:Hp} {s:Shared} {Q:VK} {us:List Value} {vs:List V} (M:Mk X.K C f) (F:a0R X.prog X.w X.K X.mg X.base CX k f fd ps sp) (hr:a2x (k+1) X.A) (hb:a0n X.K fd ps ds) (hd:a0Y dvs ds)
  (hx:a3z CX X E) (I:Inv X pins σ H s) (r:a0Y vs us)
  (h:∀x dx,H x=none→H dx=none→dx≠x→sp (.ref x::(vs++dvs)) (upd (upd H dx (.own x)) x (.ins C dx [])) (fun v H2=>v=.non∧Q (.ref x) H2) E):
  wpAny (model X.prog X.w) X.A (call (.ref C) us) (EP X pins σ Q) X.xe s:=by
 have hq:=h (s.heap.objs.size+1) s.heap.objs.size (I.hok.fresh (Je _)) (I.hok.fresh (Qj _)) (Xl (Vt _))
 have I2:=Inv.made (C:=C) I
 have r2:a0Y (V.ref (s.heap.objs.size+1)::(vs++dvs)) (Value.ref (s.heap.objs.size+1)::(us++ds)):=.cons rfl (r.append hd)
 have hl:(Value.ref (s.heap.objs.size+1)::us++ds).length=ps.length:=by
  have e:=r2.length
  rw [F.len _ _ _ _ hq] at e
  exact e.symm
 refine wpAny_call (b4l (f:=f) I.kIn M.makes M.init (beq_iff_eq.mp M.fn) (codeAny_mono (F.run _ X.stack _ _ ⟨Value.ref (s.heap.objs.size+1)::us,[]⟩ (Value.ref (s.heap.objs.size+1)::(us++ds)) _ _ E (hr.make C us [])
  (I2.env0.make C us []) (hb _ (Value.ref (s.heap.objs.size+1)::us) I2.kIn hl) r2 hq) fun r s' hq'=>?_))
 cases r with
 | error e=>exact hx pins σ _ _ e s' I2 hq'
 | ok fl=>
  cases fl with
  | ret u=>
   obtain ⟨v,H',I3,rv,ev,q3⟩:=I2.after hq'
   subst ev
   exact ⟨rv,⟨V.ref (s.heap.objs.size+1),H',I3,rfl,q3⟩⟩
  | next=>exact False.elim hq'
  | brk=>exact False.elim hq'
  | cont=>exact False.elim hq'
theorem b7X (M:Mk X.K C f) (F:a0R X.prog X.w X.K X.mg X.base CX k f fd ps sp) (hr:a2x (k+1) X.A) (hg:Gl X x) (hm:X.mg x=some (.ref C)) (hb:a0n X.K fd ps ds) (hd:a0Y dvs ds) (hx:a3z CX X E)
  (ha:PA X (e::es) t) (hdb:(x == ("__debug__":Str))=false:=by decide) (he:starEach (e::es) X.env=(false,eval e X.env)::starEach es X.env:=by rfl) (hpl:(backTo pos (starEach es X.env)).any (·.1)=false:=by rfl):
  PE X (.Call (.Name x p) (e::es) [] pos) (b6w C sp dvs E t):=by
 intro pins s σ H Q I h
 refine wpAny_Call_Name_kw (a7m I hg hm ?_ hdb)
 refine Ug (h₀:=X.base) I.ok.mod.kin M.kp (thn (ha pos pins s σ H _ I h) fun us s1 ⟨vs,H1,I1,r,q⟩=>⟨I1.kIn,?_⟩) he hpl
 exact b3n M F hr hb hd hx I1 r q
end
structure a0f (N P:List Str) (sc:Scope):Prop where
 kind:sc.kind=.function
 co:sc.isCoroutine=false
 gen:sc.isGenerator=false
 nd:N.Nodup
 pre:N.take P.length=P
 par:∀x∈P,sc.names.lookup x=some .local∨sc.names.lookup x=some .cell
 nofree:∀y∈sc.names,y.2≠.free
theorem a6K {kindOf:Str→Option NameKind} {x:Str}:∀{binds:List (Str×Value)} {m:Str→Option Value},(∀v,(x,v)∉binds)→bindL kindOf binds m x=m x
 | [],_,_=>rfl
 | (n,v)::r,m,h=>by
  unfold bindL
  rw [a6K fun w hw=>h w (Qt _ hw)]
  split
  ·have:x≠n:=by rintro rfl;exact h v Qq
   simp [this]
  ·rfl
theorem a6G {kindOf:Str→Option NameKind} {x:Str}:∀{binds:List (Str×Value)} {m:Str→Option Value},(∀v,(x,v)∉binds)→bindC kindOf binds m x=m x
 | [],_,_=>rfl
 | (n,v)::r,m,h=>by
  unfold bindC
  rw [a6G fun w hw=>h w (Qt _ hw)]
  split
  ·rfl
  ·have:x≠n:=by rintro rfl;exact h v Qq
   simp [this]
theorem a6t {kindOf:Str→Option NameKind} {x:Str} {v:Value}:∀{P:List Str} {vs:List Value} {i:Nat} {m:Str→Option Value},P.Nodup→P[i]?=some x→vs[i]?=some v→kindOf x=some .local→
  bindL kindOf (P.zip vs) m x=some v
 | [],_,_,_,_,h,_,_=>by simp at h
 | _::_,[],_,_,_,_,h,_=>by simp at h
 | p::P,w::vs,0,m,nd,h1,h2,hk=>by
  simp at h1 h2;subst h1;subst h2
  show bindL kindOf ((p,w)::P.zip vs) m p=_
  unfold bindL
  rw [a6K fun v hv=>(Za.mp nd).1 (Wh hv).1,if_pos hk]
  simp
 | p::P,w::vs,i+1,m,nd,h1,h2,hk=>by
  show bindL kindOf ((p,w)::P.zip vs) m x=_
  unfold bindL
  exact a6t (i:=i) (Za.mp nd).2 (by simpa using h1) (by simpa using h2) hk
theorem a6x {kindOf:Str→Option NameKind} {x:Str} {v:Value}:∀{P:List Str} {vs:List Value} {i:Nat} {m:Str→Option Value},P.Nodup→P[i]?=some x→vs[i]?=some v→kindOf x≠some .local→
  bindC kindOf (P.zip vs) m x=some v
 | [],_,_,_,_,h,_,_=>by simp at h
 | _::_,[],_,_,_,_,h,_=>by simp at h
 | p::P,w::vs,0,m,nd,h1,h2,hk=>by
  simp at h1 h2;subst h1;subst h2
  show bindC kindOf ((p,w)::P.zip vs) m p=_
  unfold bindC
  rw [a6G fun v hv=>(Za.mp nd).1 (Wh hv).1,if_neg hk]
  simp
 | p::P,w::vs,i+1,m,nd,h1,h2,hk=>by
  show bindC kindOf ((p,w)::P.zip vs) m x=_
  unfold bindC
  exact a6x (i:=i) (Za.mp nd).2 (by simpa using h1) (by simpa using h2) hk
def start (N:List Str) (vs:List V):St:=vs.map some++List.replicate (N.length - vs.length) none
def b5g (CX:CXT) (P:Program) (w:World) (K:Qe) (mg:Str→Option Value) (base:Heap) (N:List Str) (qual:Str) (scope:Scope) (f:Addr) (cd:Value) (A:Around) (outer:List Env) (s:Shared) (H:Hp) (E:XK):Cx where
 prog:=P
 w:=w
 K:=K
 mg:=mg
 base:=base
 A:=A.deeper (envOfC qual scope s.heap.objs.size f cd)
 N:=N
 s₀:=s
 H₀:=H
 env:=envOfC qual scope s.heap.objs.size f cd
 outer:=outer
 stack:=envOfC qual scope s.heap.objs.size f cd::outer
 ex:=[]
 calm:=true
 fn:=fun _=>true
 pn:=[]
 xe:=fun e s'=>wpAny (model P w) (A.deeper (envOfC qual scope s.heap.objs.size f cd)) (leaving (envOfC qual scope s.heap.objs.size f cd) e) (fun _ s''=>CX outer H s E e s'') (fun e' s''=>CX outer H s E e' s'') s'
theorem a7B {sc:Scope} {n:Nat} {x:Str} (h:sc.names.lookup x=some .cell):∃c,(cellsFrom n sc.names []).lookup x=some c:=by
 have q:=Wk sc.names n [] (.inl h)
 exact Vu.mp q
theorem a9J {CX:CXT} {P:Program} {w:World} {K:Qe} {mg:Str→Option Value} {base:Heap} {N ps:List Str} {qual:Str} {scope:Scope} {f:Addr} {cd:Value} {A:Around} {outer:List Env} {s s1:Shared} {H:Hp} {E:XK} {us:List Value} {vs:List V}
  (S:a0f N ps scope) (hd:A.handled=none) (e0:b7e P w K mg base A outer s H) (hl:vs.length=ps.length) (r:a0Y vs us)
  (x:InCallC s s.heap.objs.size (bindL (envOfC qual scope s.heap.objs.size f cd).kindOf (ps.zip us) fun _=>none) (cellsFrom (s.heap.objs.size+1) scope.names []) (bindC (envOfC qual scope s.heap.objs.size f cd).kindOf (ps.zip us) fun _=>none) s1):
  Inv (b5g CX P w K mg base N qual scope f cd A outer s H E) [] (start N vs) H s1:=by
 have hpl:ps.length≤N.length:=by have:=congrArg Yp S.pre;rw [Yb] at this;omega
 obtain ⟨h1,tk,rfl,hk⟩:=x.done
 have noA:∀b:Addr,b∉(b5g CX P w K mg base N qual scope f cd A outer s H E).ex:=fun b z=>absurd (show b∈([]:List Addr) from z) (by simp)
 refine ⟨⟨e0.mod,S.kind,rfl,rfl,Qj _,fun y z c h1 h2=>?_,fun y hy=>?_,fun y c _ h=>?_,fun _=>hd,Around.frames_deeper e0.frames,.inr ⟨rfl,rfl⟩,fun b z=>absurd z (noA b),e0.bs,e0.bsz,fun b _ _=>noA b,fun b z=>absurd z (noA b),e0.funs,e0.frf⟩,
  rfl,e0.bare,Un.kept hk,⟨_,x.toInCall.ns,fun i y v h1 h2 h3=>?_⟩,fun y c h=>⟨_,x.cell y c h⟩,e0.hok.fresh (Qj _),fun y c h=>?_,fun p hp=>absurd (show p∈([]:List (Addr×Obj)) from hp) (by simp),e0.hok.kept hk,?_⟩
 ·exact name_of_addr x.apart (PySem.mem_of_lookup h1) (PySem.mem_of_lookup h2)
 ·have hy:scope.names.lookup y=some .cell∨scope.names.lookup y=some .free:=hy
  rcases hy with hy | hy
  ·exact a7B hy
  ·exact absurd rfl (S.nofree _ (PySem.mem_of_lookup hy))
 ·exact Vq (x.above y c (PySem.mem_of_lookup h))
 ·have hi:i < vs.length:=by
   unfold start at h2
   by_cases hi:i < vs.length
   ·exact hi
   ·rw [Yg (by simpa using hi)] at h2
    rw [List.getElem?_replicate] at h2
    split at h2<;>cases h2
  have ha:vs[i]?=some v:=by
   unfold start at h2
   rw [Yi (by simpa using hi),Ql] at h2
   cases e:vs[i]? with
   | none=>rw [e] at h2;cases h2
   | some a=>rw [e] at h2;cases h2;rfl
  obtain ⟨u,hu,rv⟩:=r.get ha
  have hp:ps[i]?=some y:=by
   rw [←S.pre,List.getElem?_take_of_lt ‹om›];exact h1
  have ndP:ps.Nodup:=by rw [←S.pre];exact S.nd.sublist (List.take_sublist _ _)
  refine ⟨u,rv,?_⟩
  rcases S.par y (Wx hp) with k | k
  ·exact .inl ⟨k,a6t ndP hp hu k⟩
  ·obtain ⟨c,e⟩:=a7B (n:=s.heap.objs.size+1) k
   refine .inr ⟨.inl k,c,e,?_⟩
   have q:=x.cell y c e
   rw [a6x ndP hp hu (by show scope.names.lookup y≠_;rw [k];decide)] at q
   exact q
 ·exact e0.hok.fresh (Vq (x.above y c (PySem.mem_of_lookup h)))
 ·unfold start
  show _=N.length
  rw [Xx,Qd,List.length_replicate]
  omega
theorem b6q {CX:CXT} {P:Program} {w:World} {K:Qe} {mg:Str→Option Value} {base:Heap} {k:Nat} {f:Addr} {name qual:Str} {params:Arguments} {body:List Stmt} {scope:Scope} {dV kV doc pm cdv ct oc:Value} {an od:Option Addr}
  {osl:Array (Option Value)} {N ps:List Str} {sp:Sp} (lk:K.lookup f=some ⟨oc,od,.func (Zb name qual params body scope dV kV doc pm an cdv ct),osl⟩) (hcd:Ju K cdv qual=true) (S:a0f N ps scope)
  (len:∀vs H Q E,sp vs H Q E→vs.length=ps.length)
  (hbody:∀(A:Around) (outer:List Env) (s:Shared) (H:Hp) (vs:List V) (Q:VK) (E:XK),a2x k (A.deeper (envOfC qual scope s.heap.objs.size f cdv))→sp vs H Q E→
   ∃t,PSs (b5g CX P w K mg base N qual scope f cdv A outer s H E) body t∧t {nx:=fun _ H'=>Q .non H',rt:=Q} (start N vs) H):
  a0R P w K mg base CX (k+1) f (Zb name qual params body scope dV kV doc pm an cdv ct) ps sp:=by
 refine ⟨len,fun A outer s H args us vs Q E hr e0 hb r hsp=>?_⟩
 have hl:=len _ _ _ _ hsp
 have KX:K.In s.heap:=e0.mod.kin.keeps fun b o e=>(e0.bs b o e).1
 have lim:s.heap.NoLimit:=e0.mod.nolimit.keeps fun b o e=>(e0.bs b o e).1
 have hkind:∀y∈ps.zip us,scope.names.lookup y.1=some .local∨(scope.names.lookup y.1=some .cell∧((cellsFrom (s.heap.objs.size+1) scope.names []).lookup y.1).isSome=true):=fun ⟨n,v⟩ hy=>by
  rcases S.par n (Wh hy).1 with q | q
  ·exact .inl q
  ·exact .inr ⟨q,Wk _ _ _ (.inl q)⟩
 refine codeAny_call_function hr.depth (KX _ _ lk) rfl S.co S.gen rfl (PySem.W.codeRec_of KX hcd) (hb _ _ _ _ ?_)
 refine wpAny_newFunctionEnv_cells S.kind hkind fun env he s1 x=>?_
 subst he
 refine ⟨lim.keeps x.toInCall.keep,codeAny_func ?_⟩
 obtain ⟨t,ht,hq⟩:=hbody A outer s H vs Q E (hr.deeper _) hsp
 have I:Inv (b5g CX P w K mg base N qual scope f cdv A outer s H E) [] (start N vs) H s1:=a9J S hr.hd e0 hl r x
 refine wpAny_mono (ht [] s1 (start N vs) H _ I hq) (fun fl s' hs=>?_) fun e s' hs=>hs
 have fin:∀{σ':St} {H':Hp} {v:V} {u:Value},Inv (b5g CX P w K mg base N qual scope f cdv A outer s H E) [] σ' H' s'→a0Q v u→Q v H'→CE outer P w H s Q u s':=
  fun {σ' H' v u} J rv q=>⟨v,H',J.os,J.bare,J.base,J.hok,rv,q⟩
 cases fl with
 | ret u=>
  obtain ⟨v,σ',H',J,rv,q⟩:=hs
  exact fin J rv q
 | next=>
  obtain ⟨σ',H',J,q⟩:=hs
  exact fin (v:=V.non) (u:=Value.none) J rfl q
 | brk=>
  obtain ⟨_,_,_,q⟩:=hs
  exact False.elim q
 | cont=>
  obtain ⟨_,_,_,q⟩:=hs
  exact False.elim q
section
variable {X:Cx} {x:Str} {p pos:Pos} {e:Expr} {es:List Expr} {t:TA} {id T:String} {r:List V→Hp→VK→Prop}
def tCB (r:List V→Hp→VK→Prop) (t:TA):TE:=fun σ H Q=>t σ H fun vs H1=>r vs H1 Q
theorem b4B (hc:a1C X (.builtin id) r) (hg:Gl X x) (hm:X.mg x=none) (hv:bootBuiltins x=some (.builtin id)) (ha:PA X (e::es) t) (hn:x≠"__name__":=by decide) (hdb:(x == ("__debug__":Str))=false:=by decide)
  (he:starEach (e::es) X.env=(false,eval e X.env)::starEach es X.env:=by rfl) (hpl:(backTo pos (starEach es X.env)).any (·.1)=false:=by rfl):PE X (.Call (.Name x p) (e::es) [] pos) (tCB r t):=by
 intro pins s σ H Q I h
 refine wpAny_Call_Name_kw (a4i I hg hm hv ?_ hn hdb)
 exact PyProof.Rows.callWith_builtin1 (thn (ha pos pins s σ H _ I h) fun us s1 ⟨vs,H1,I1,r1,q1⟩=>hc pins s1 σ H1 vs us Q I1 r1 q1) he hpl
theorem b2W (hc:a1C X (.type T) r) (hg:Gl X x) (hm:X.mg x=none) (hv:bootBuiltins x=some (.type T)) (ha:PA X (e::es) t) (hn:x≠"__name__":=by decide) (hdb:(x == ("__debug__":Str))=false:=by decide)
  (he:starEach (e::es) X.env=(false,eval e X.env)::starEach es X.env:=by rfl) (hpl:(backTo pos (starEach es X.env)).any (·.1)=false:=by rfl):PE X (.Call (.Name x p) (e::es) [] pos) (tCB r t):=by
 intro pins s σ H Q I h
 refine wpAny_Call_Name_kw (a4i I hg hm hv ?_ hn hdb)
 exact PyProof.Rows.callWith_type1 (thn (ha pos pins s σ H _ I h) fun us s1 ⟨vs,H1,I1,r1,q1⟩=>hc pins s1 σ H1 vs us Q I1 r1 q1) he hpl
end
end L2
namespace HT
open PySem PyProof.Rows
section
variable {prog:Program} {w:World} {A:Around} {E:Value→Shared→Prop} {s:Shared}
theorem cat_tup {t b:Addr} {vs ws:List Value} {Q:Value→Shared→Prop} (ht:IsTup s.heap t vs.toArray) (hb:IsTup s.heap b ws.toArray) (hv:vs≠[])
  (h1:ws=[]→Q (.ref t) s) (h2:ws≠[]→Q (.ref s.heap.objs.size) {s with heap:=s.heap.push {cls:=.type "tuple",data:=.seq (vs++ws).toArray}})
  (hsz:vs.length+ws.length≤sizeLine):wpAny (model prog w) A (binaryOp .Add (.ref t) (.ref b)) Q E s:=by
 obtain ⟨⟨cls,dd,data,sl⟩,ho,hc,n,hd⟩:=id ht
 obtain ⟨⟨cls2,dd2,data2,sl2⟩,ho2,hc2,n2,hd2⟩:=id hb
 simp only at hc hd hc2 hd2
 subst hc hd hc2 hd2
 have e:vs.toArray++ws.toArray=(vs++ws).toArray:=by simp
 by_cases hw:ws=[]
 ·exact concat_meets ⟨_,ho,rfl⟩ ⟨_,ho2,rfl⟩ noFill_tuple_add seq_tuple_add Wl Wd (Vv _ _)
   (tuple_addW1 t b vs.toArray ws.toArray n n2 dd dd2 sl sl2 (by simpa using hv) (by simp [hw])) ⟨ho,ho2,h1 hw⟩
 ·refine concat_meets ⟨_,ho,rfl⟩ ⟨_,ho2,rfl⟩ noFill_tuple_add seq_tuple_add Wl Wd (Vv _ _)
   (tuple_addW2 t b vs.toArray ws.toArray n n2 dd dd2 sl sl2 (by simpa using hv) (by simpa using hw) (by rw [Qu,Qu];exact hsz)) ⟨ho,ho2,?_⟩
  rw [e]
  exact h2 hw
def sIx (n d:Nat):Option Int→Nat
 | none=>d
 | some v=>if v < 0 then (v+(n:Int)).toNat else min v.toNat n
theorem c1e (n d:Nat) (hd:d≤n) (o:Option Int):sIx n d o≤n:=by
 cases o with
 | none=>exact hd
 | some v=>
  show (if v < 0 then (v+(n:Int)).toNat else min v.toNat n)≤n
  by_cases hv:v < 0
  ·rw [if_pos hv];omega
  ·rw [if_neg hv];exact Nat.min_le_right _ _
theorem b0p (v:Int) (n d:Nat):(if v < 0 then max (v+(n:Int)) 0 else min v (n:Int))=((sIx n d (some v):Nat):Int):=by
 show (if v < 0 then max (v+(n:Int)) 0 else min v (n:Int))=(((if v < 0 then (v+(n:Int)).toNat else min v.toNat n):Nat):Int)
 by_cases hv:v < 0
 ·simp only [if_pos hv];omega
 ·simp only [if_neg hv];omega
theorem a9n (lo hi:Option Int) (n:Nat):Builtin.Slice.sliceAdjust lo hi 1 (n:Int)=(((sIx n 0 lo:Nat):Int),((sIx n n hi:Nat):Int)):=by
 have h1:¬((1:Int) < 0):=by omega
 unfold Builtin.Slice.sliceAdjust
 simp only [h1,if_false]
 refine Prod.ext ?_ ?_
 ·cases lo with
  | none=>rfl
  | some v=>exact b0p v n 0
 ·cases hi with
  | none=>rfl
  | some v=>exact b0p v n n
theorem a9F (i j:Nat):Builtin.Slice.slicePlaces (i:Int) (j:Int) 1=j - i:=by
 unfold Builtin.Slice.slicePlaces
 have h1:(1:Int) > 0:=by omega
 simp only [h1,if_true,Int.ediv_one]
 split<;>omega
theorem a4K {v:Value} {o:Option Int} {Q:Option Int→Shared→Prop} (p:IsPart v o) (h:Q o s):wpAny (model prog w) A (Builtin.Slice.slicePartIndex v) Q E s:=by
 cases p with
 | none=>exact slicePart_none h
 | int i t=>exact slicePart_int h
theorem a3K {sl:Addr} {vl vu:Value} {lo hi:Option Int} {n:Nat} {Q:Int×Int×Nat→Shared→Prop} (hs:s.heap.IsSliceOf sl vl vu .none) (pl:IsPart vl lo) (pu:IsPart vu hi)
  (h:Q (((sIx n 0 lo:Nat):Int),1,sIx n n hi - sIx n 0 lo) s):wpAny (model prog w) A (Builtin.Slice.sliceApplied (.ref sl) (pure (n:Int))) Q E s:=by
 obtain ⟨os,hos,hcs,hds⟩:=id hs
 unfold Builtin.Slice.sliceApplied Builtin.Slice.sliceFields
 refine wpAny_bind (wpAny_bind (wpAny_field hos hds (x:=vl) rfl (wpAny_bind (wpAny_field hos hds (x:=vu) rfl (wpAny_bind (wpAny_field hos hds (x:=.none) rfl (wpAny_pure ?_)))))))
 refine wpAny_bind (slicePart_none ?_)
 show wpAny _ _ (if ((1:Int) == 0)=true then _ else _) _ _ s
 rw [if_neg ‹dc›]
 refine wpAny_bind (a4K pl (wpAny_bind (a4K pu (wpAny_bind (wpAny_pure ?_)))))
 show wpAny _ _ (match Builtin.Slice.sliceAdjust lo hi 1 (n:Int) with | (lo,hi)=>pure (lo,(1:Int),Builtin.Slice.slicePlaces lo hi 1)) _ _ s
 rw [a9n lo hi n]
 show wpAny _ _ (pure (((sIx n 0 lo:Nat):Int),(1:Int),Builtin.Slice.slicePlaces ((sIx n 0 lo:Nat):Int) ((sIx n n hi:Nat):Int) 1)) _ _ s
 rw [a9F]
 exact wpAny_pure h
theorem b3S (xs:Array Value) (i k:Nat):((Xz k).filterMap fun (m:Nat)=>xs[((i:Int)+(m:Int) * 1).toNat]?).toArray=((xs.toList.drop i).take k).toArray:=by
 have e:(fun (m:Nat)=>xs[((i:Int)+(m:Int) * 1).toNat]?)=fun m=>xs[i+m]?:=by
  funext m
  have:((i:Int)+(m:Int) * 1).toNat=i+m:=by omega
  rw [this]
 rw [e]
 have:=pick_run xs i k
 rw [List.filterMap_map] at this
 have e2:((fun x=>xs[x]?)∘fun x=>i+x)=fun m=>xs[i+m]?:=rfl
 rw [e2] at this
 rw [this]
theorem getItem_tuple_cut {t sl:Addr} {items:Array Value} {vl vu:Value} {lo hi:Option Int} {Q:Value→Shared→Prop} (ht:IsTup s.heap t items) (hs:s.heap.IsSliceOf sl vl vu .none) (pl:IsPart vl lo) (pu:IsPart vu hi)
  (hw:¬(sIx items.size 0 lo=0∧sIx items.size items.size hi=items.size))
  (h:Q (.ref s.heap.objs.size) {s with heap:=s.heap.push {cls:=.type "tuple",data:=.seq ((items.toList.drop (sIx items.size 0 lo)).take (sIx items.size items.size hi - sIx items.size 0 lo)).toArray}})
  (hsz:items.size≤sizeLine):wpAny (model prog w) A (getItem (.ref t) (.ref sl)) Q E s:=by
 have htake:sizeOk (.seq ((items.toList.drop (sIx items.size 0 lo)).take (sIx items.size items.size hi - sIx items.size 0 lo)).toArray):=by
  show ((items.toList.drop (sIx items.size 0 lo)).take (sIx items.size items.size hi - sIx items.size 0 lo)).toArray.size≤sizeLine
  rw [Qu,Yb,Jw,Zl]
  omega
 have hj:sIx items.size items.size hi≤items.size:=c1e _ _ (Qj _) hi
 obtain ⟨os,hos,hcs,hds⟩:=id hs
 have hTs:s.TypeIs (.ref sl) "slice":=⟨os,hos,hcs⟩
 unfold getItem
 try with_reducible refine wpAny_holding ?_
 first | refine wpAny_bind (wpAny_pure ?_) | skip
 refine wpAny_bind (wpAny_sequenceKey ht.typeIs ‹dc› ?_)
 refine wpAny_bind (wpAny_callSpecial?_slot (name:=Ut "__getitem__") ht.typeIs PyProof.Rows.slot_tuple_getitem
  (wpAny_call_entry PyProof.Rows.slot_tuple_getitem ht.typeIs entry_tuple_getitem ?_ (args_tuple_getitem _ _)))
 show wpAny _ _ (Builtin.Tuple.tupleItemsOf (.ref t) >>= _) _ _ s
 refine wpAny_bind (tupleItemsOf_ ht ?_)
 refine wpAny_bind (wpAny_typeOf hTs ?_)
 rw [if_pos ‹dc›]
 refine wpAny_bind (a3K hs pl pu ?_)
 have hno:¬((((sIx items.size 0 lo:Nat):Int) == 0 && (1:Int) == 1 && (sIx items.size items.size hi - sIx items.size 0 lo) == items.size)=true):=by
  intro q
  rw [Xq,Xq] at q
  have q1:((sIx items.size 0 lo:Nat):Int)=0:=eq_of_beq q.1.1
  have q2:sIx items.size items.size hi - sIx items.size 0 lo=items.size:=eq_of_beq q.2
  exact hw ⟨by omega,by omega⟩
 show wpAny _ _ (if (((sIx items.size 0 lo:Nat):Int) == 0 && (1:Int) == 1 && (sIx items.size items.size hi - sIx items.size 0 lo) == items.size)=true then _ else _) _ _ s
 rw [if_neg hno,b3S]
 first
  | exact wpAny_bind (m:=Builtin.Tuple.tupleExact _) (wpAny_newObj_type (wpAny_pure ⟨_,rfl,wpAny_pure h⟩) htake)
  | exact wpAny_bind (m:=Builtin.Tuple.tupleExact _) (wpAny_newObj_type (wpAny_bind (wpAny_pure (wpAny_pure ⟨_,rfl,wpAny_pure h⟩))) htake)
  | exact wpAny_bind (wpAny_bind (m:=Builtin.Tuple.tupleExact _) (wpAny_newObj_type (wpAny_pure (wpAny_pure ⟨_,rfl,wpAny_pure h⟩)) htake))
  | exact wpAny_bind (wpAny_bind (m:=Builtin.Tuple.tupleExact _) (wpAny_newObj_type (wpAny_pure ⟨_,rfl,wpAny_pure h⟩) htake))
end
end HT
namespace L2
open PySem PySem.Spec PyProof.Rows
abbrev TO:=St→Hp→(Option Int→Hp→Prop)→Prop
def PO (X:Cx) (e:Option Expr) (t:TO):Prop:=
 ∀(pins:List (Addr×Obj)) (s:Shared) (σ:St) (H:Hp) (Q:Option Int→Hp→Prop),Inv X pins σ H s→t σ H Q→
  wpAny (model X.prog X.w) X.A (evalPart e X.env) (fun u s'=>∃o H',Inv X pins σ H' s'∧IsPart u o∧Q o H') X.xe s
def a5A:TO:=fun _ H Q=>Q none H
def b1m (t:TE):TO:=fun σ H Q=>t σ H fun x H1=>∃i,x=.int i∧Q (some i) H1
section
variable {X:Cx} {e:Expr} {te:TE} {lo hi:Option Expr} {tl th:TO} {pos p2:Pos}
theorem b6L:PO X none a5A:=by
 intro pins s σ H Q I h
 rw [evalPart_none]
 exact wpAny_pure ⟨none,H,I,.none,h⟩
theorem b6K (h:PE X e te):PO X (some e) (b1m te):=by
 intro pins s σ H Q I hw
 rw [evalPart_some]
 refine thn (h pins s σ H _ I hw) fun u s1 ⟨x,H1,I1,r1,q1⟩=>?_
 obtain ⟨i,rfl,q⟩:=q1
 obtain ⟨t,rfl⟩:=r1
 exact ⟨some i,H1,I1,.int i t,q⟩
def SlR (X:Cx) (r:V→Option Int→Option Int→Hp→VK→Prop):Prop:=
 ∀(pins:List (Addr×Obj)) (s:Shared) (σ:St) (H:Hp) (x:V) (v vl vu:Value) (lo hi:Option Int) (sl:Addr) (Q:VK),Inv X pins σ H s→a0Q x v→s.heap.IsSliceOf sl vl vu .none→IsPart vl lo→IsPart vu hi→r x lo hi H Q→
  ∃T id,typeLookup (.type T) "__getitem__"=pure (some (.builtin id))∧s.TypeIs v T∧wpAny (model X.prog X.w) X.A (getItem v (.ref sl)) (EP X pins σ Q) X.xe s
theorem SlR.or {r r':V→Option Int→Option Int→Hp→VK→Prop} (h:SlR X r) (h':SlR X r'):SlR X (fun x lo hi H Q=>r x lo hi H Q∨r' x lo hi H Q):=by
 intro pins s σ H x v vl vu lo hi sl Q I rx hs pl pu q
 rcases q with q | q
 ·exact h pins s σ H x v vl vu lo hi sl Q I rx hs pl pu q
 ·exact h' pins s σ H x v vl vu lo hi sl Q I rx hs pl pu q
def tSl (r:V→Option Int→Option Int→Hp→VK→Prop) (te:TE) (tl th:TO):TE:=fun σ H Q=>te σ H fun x H1=>tl σ H1 fun l H2=>th σ H2 fun u H3=>r x l u H3 Q
theorem b4r {r:V→Option Int→Option Int→Hp→VK→Prop} (hr:SlR X r) (he:PE X e te) (hl:PO X lo tl) (hu:PO X hi th):PE X (.Subscript e (.Slice lo hi none p2) pos) (tSl r te tl th):=by
 intro pins s σ H Q I h
 refine Subscript_ (thn (he pins s σ H _ I h) fun v s1 ⟨x,H1,I1,r1,q1⟩=>?_)
 refine wpAny_Slice (thn (hl pins s1 σ H1 _ I1 q1) fun vl s2 ⟨l,H2,I2,pl,q2⟩=>thn (hu pins s2 σ H2 _ I2 q2) fun vu s3 ⟨u,H3,I3,pu,q3⟩=>?_)
 rw [evalPart_none]
 refine wpAny_pure ?_
 have I4:Inv X pins σ H3 {s3 with heap:=s3.heap.push {cls:=.type "slice",data:=.fields #[vl,vu,.none]}}:=I3.kept (t':=s3.toks) fun b ob q=>Qo _ q
 obtain ⟨T,id,hT,ht,hg⟩:=hr pins {s3 with heap:=s3.heap.push {cls:=.type "slice",data:=.fields #[vl,vu,.none]}} σ H3 x v vl vu l u s3.heap.objs.size Q I4 r1 (Heap.IsSliceOf.new ..) pl pu q3
 show wpAny (model X.prog X.w) X.A (subscriptTail e (.Slice lo hi none p2) v (.ref s3.heap.objs.size)) (EP X pins σ Q) X.xe {s3 with heap:=s3.heap.push {cls:=.type "slice",data:=.fields #[vl,vu,.none]}}
 exact tail_any (ops:=[.ref s3.heap.objs.size,v]) ht hT hg (by with_unfolding_all rfl)
def a9I (xs:List V) (lo hi:Option Int):List V:=(xs.drop (HT.sIx xs.length 0 lo)).take (HT.sIx xs.length xs.length hi - HT.sIx xs.length 0 lo)
theorem a4x (xs:List V) (lo hi:Option Int):(a9I xs lo hi).length≤xs.length:=by
 unfold a9I
 rw [Yb,Jw]
 omega
def c5P (K:Qe):V→Option Int→Option Int→Hp→VK→Prop:=fun x lo hi H Q=>∃a xs,x=.ref a∧SqT K H a xs∧
 ¬(HT.sIx xs.length 0 lo=0∧HT.sIx xs.length xs.length hi=xs.length)∧∀p,H p=none→Q (.ref p) (upd H p (.tup (a9I xs lo hi)))
theorem c1s:SlR X (c5P X.K):=by
 intro pins s σ H x v vl vu lo hi sl Q I rx hs pl pu h
 obtain ⟨a,xs,rfl,hx,hw,q⟩:=h
 cases rx
 obtain ⟨its,r,ht,hz⟩:=I.tuple hx
 have hlen:its.toArray.size=xs.length:=by rw [Qu];exact r.length.symm
 refine ⟨"tuple",_,PyProof.Rows.slot_tuple_getitem.lookup,ht.typeIs,?_⟩
 refine HT.getItem_tuple_cut ht hs pl pu (by rw [hlen];exact hw) ?_ (by rw [hlen];exact hz)
 rw [hlen]
 refine ⟨.ref s.heap.objs.size,_,I.laid (t':=s.toks) (o:=.tup (a9I xs lo hi)) (fun b ob q=>Qo _ q) (Qj _) ?_,rfl,q _ (I.hok.fresh (Qj _))⟩
 exact ⟨Qi (a4x xs lo hi) hz,_,(r.drop (HT.sIx xs.length 0 lo)).take (HT.sIx xs.length xs.length hi - HT.sIx xs.length 0 lo),IsTup.new _ _⟩
def c0k (K:Qe):R2:=fun x y H Q=>∃a b xs ys,x=.ref a∧y=.ref b∧SqT K H a xs∧SqT K H b ys∧xs≠[]∧xs.length+ys.length≤sizeLine∧
 (ys=[]→Q (.ref a) H)∧(ys≠[]→∀p,H p=none→Q (.ref p) (upd H p (.tup (xs++ys))))
theorem a0Y.nil_iff {xs:List V} {us:List Value} (r:a0Y xs us):us=[]↔xs=[]:=by
 cases r with
 | nil=>simp
 | cons _ _=>simp
theorem b7M:OpR X (binaryOp .Add) (c0k X.K):=by
 intro pins s σ H x y v u Q I rx ry h
 obtain ⟨a,b,xs,ys,rfl,rfl,ha,hb,hx,hz,q1,q2⟩:=h
 cases rx
 cases ry
 obtain ⟨its,r1,p1,_⟩:=I.tuple ha
 obtain ⟨its2,r2,p2,_⟩:=I.tuple hb
 refine HT.cat_tup p1 p2 (fun z=>hx (r1.nil_iff.mp z)) (fun z=>⟨.ref a,H,I,rfl,q1 (r2.nil_iff.mp z)⟩) (fun z=>?_) (by rw [←r1.length,←r2.length];exact hz)
 refine ⟨.ref s.heap.objs.size,_,I.laid (t':=s.toks) (o:=.tup (xs++ys)) (fun b ob q=>Qo _ q) (Qj _) ?_,rfl,q2 (fun w=>z (r2.nil_iff.mpr w)) _ (I.hok.fresh (Qj _))⟩
 exact ⟨by rw [Xx];exact hz,_,r1.append r2,IsTup.new _ _⟩
end
def ixN (n:Nat) (i:Int):Option Nat:=if 0≤i then (if i < n then some i.toNat else none) else if -(n:Int)≤i then some (i+n).toNat else none
def atI {α:Type} (xs:List α) (i:Int):Option α:=(ixN xs.length i).bind fun j=>xs[j]?
theorem b6n {n:Nat} {i:Int} {j:Nat} (h:ixN n i=some j):seqIndex? i n=some j∧j < n∧-(n:Int)≤i∧i < n:=by
 unfold ixN at h
 by_cases h0:0≤i
 ·rw [if_pos h0] at h
  by_cases h1:i < n
  ·rw [if_pos h1] at h
   have e:i.toNat=j:=Option.some.inj h
   exact ⟨by rw [seqIndex_of h0 h1,e],by omega,by omega,h1⟩
  ·rw [if_neg h1] at h;cases h
 ·rw [if_neg h0] at h
  by_cases h1:-(n:Int)≤i
  ·rw [if_pos h1] at h
   have e:(i+n).toNat=j:=Option.some.inj h
   exact ⟨by rw [seqIndex_neg ‹om› h1,e],by omega,h1,by omega⟩
  ·rw [if_neg h1] at h;cases h
theorem a7w {α:Type} {xs:List α} {i:Int} {v:α} (h:atI xs i=some v):∃j,seqIndex? i xs.length=some j∧xs[j]?=some v∧j < xs.length∧-(xs.length:Int)≤i∧i < xs.length:=by
 unfold atI at h
 cases e:ixN xs.length i with
 | none=>rw [e] at h;cases h
 | some j=>
  rw [e] at h
  obtain ⟨h1,h2,h3,h4⟩:=b6n e
  exact ⟨j,h1,h,h2,h3,h4⟩
def b6Z (b:Expr):Prop:=∀o i,subscripted b false o i=operate [o,i] (getItem o i)
def IxR (X:Cx) (r:R2):Prop:=
 ∀(value slice:Expr) (pins:List (Addr×Obj)) (s:Shared) (σ:St) (H:Hp) (x y:V) (v u:Value) (Q:VK),Inv X pins σ H s→a0Q x v→a0Q y u→r x y H Q→
  subscripted slice false v u=operate [v,u] (getItem v u)→wpAny (model X.prog X.w) X.A (subscriptTail value slice v u) (EP X pins σ Q) X.xe s
def MtR (X:Cx) (id:String) (r:V→List V→Hp→VK→Prop):Prop:=
 ∀(pins:List (Addr×Obj)) (s:Shared) (σ:St) (H:Hp) (x:V) (xs:List V) (v:Value) (us:List Value) (Q:VK),Inv X pins σ H s→a0Q x v→a0Y xs us→r x xs H Q→
  wpAny (model X.prog X.w) X.A (call (.builtin id) (v::us)) (EP X pins σ Q) X.xe s
section
variable {X:Cx} {a b:Expr} {ta tb:TE} {pos:Pos}
theorem IxR.or {r r':R2} (h:IxR X r) (h':IxR X r'):IxR X (fun x y H Q=>r x y H Q∨r' x y H Q):=by
 intro value slice pins s σ H x y v u Q I rx ry q hs
 rcases q with q | q
 ·exact h value slice pins s σ H x y v u Q I rx ry q hs
 ·exact h' value slice pins s σ H x y v u Q I rx ry q hs
theorem c3m {r:R2} (hr:IxR X r) (ha:PE X a ta) (hb:PE X b tb) (hs:b6Z b):PE X (.Subscript a b pos) (tOp r ta tb):=by
 intro pins s σ H Q I h
 exact Subscript_ (c3i ha hb I h fun v u s2 x y H2 I2 rx ry q=>hr a b pins s2 σ H2 x y v u Q I2 rx ry q (hs _ _))
def c7m (K:Qe):R2:=fun x y H Q=>∃p xs i v,x=.ref p∧y=.int i∧SqL K H p xs∧atI xs i=some v∧Q v H
def c6z (K:Qe):R2:=fun x y H Q=>∃p xs i v,x=.ref p∧y=.int i∧SqT K H p xs∧atI xs i=some v∧Q v H
def c6B:R2:=fun x y H Q=>∃z i c,x=.str z∧y=.int i∧z.length≤sizeLine∧atI z.cps.toList i=some c∧Q (.str ⟨#[c]⟩) H
theorem b6P:IxR X (c7m X.K):=by
 intro value slice pins s σ H x y v u Q I rx ry h hs
 obtain ⟨p,xs,i,z,rfl,rfl,hq,he,q⟩:=h
 cases rx
 obtain ⟨t,rfl⟩:=ry
 obtain ⟨its,r,pl,hz⟩:=I.list hq
 obtain ⟨j,h1,h2,h3,h4,h5⟩:=a7w he
 obtain ⟨w,ew,rw'⟩:=r.get h2
 have hl:=r.length
 have hn:=a7P
 have fin:EP X pins σ Q w s:=⟨z,H,I,rw',q⟩
 by_cases h0:0≤i
 ·have hj:i.toNat=j:=by
   rw [seqIndex_of h0 h5] at h1
   exact Option.some.inj h1
  exact item_listR pl.isList h0 ‹om› (by rw [hj];simpa using ew) fin hs
 ·have hj:(i+(its.toArray.size:Int)).toNat=j:=by
   rw [seqIndex_neg ‹om› h4] at h1
   rw [Qu,←hl]
   exact Option.some.inj h1
  exact subscriptTail_builtinR (x:=w) pl.isList.typeIs slot_list_getitem.lookup
   (wpAny_getItem_list_neg (Q:=fun r s'=>r=w∧EP X pins σ Q r s') pl.isList ‹om› (by rw [Qu]<;>omega) ‹om› (by rw [hj];simpa using ew) ⟨rfl,fin⟩) hs
theorem c1U:IxR X (c6z X.K):=by
 intro value slice pins s σ H x y v u Q I rx ry h hs
 obtain ⟨p,xs,i,z,rfl,rfl,hq,he,q⟩:=h
 cases rx
 obtain ⟨t,rfl⟩:=ry
 obtain ⟨its,r,pl,hz⟩:=I.tuple hq
 obtain ⟨j,h1,h2,h3,h4,h5⟩:=a7w he
 obtain ⟨w,ew,rw'⟩:=r.get h2
 have hl:=r.length
 have hn:=a7P
 have fin:EP X pins σ Q w s:=⟨z,H,I,rw',q⟩
 exact subscriptTail_builtinR (x:=w) pl.typeIs slot_tuple_getitem.lookup
  (getItem_tuple (j:=j) (Q:=fun r s'=>r=w∧EP X pins σ Q r s') pl ‹om› ‹om› (by rw [Qu,←hl];exact h1) (by simpa using ew) ⟨rfl,fin⟩) hs
theorem c0p:IxR X c6B:=by
 intro value slice pins s σ H x y v u Q I rx ry h hs
 obtain ⟨z,i,c,rfl,rfl,hz,he,q⟩:=h
 obtain ⟨t,rfl⟩:=rx
 obtain ⟨t',rfl⟩:=ry
 obtain ⟨j,h1,h2,h3,h4,h5⟩:=a7w he
 have hl:z.cps.toList.length=z.length:=by simp [Str.length]
 rw [hl] at h1 h4 h5
 have hn:=a7P
 exact tail_any (typeIs_str s z t) slot_str_getitem.lookup (getItem_str (c:=c) (by
  have e1:decide (i < -(2 ^ 63:Int))=false:=decide_eq_false ‹om›
  have e2:decide (i≥2 ^ 63)=false:=decide_eq_false ‹om›
  rw [e1,e2,Bool.or_false]) (by rw [h1];simpa using h2) ⟨.str ⟨#[c]⟩,H,I.tok _,⟨_,rfl⟩,q⟩) hs
def rIx (K:Qe):R2:=fun x y H Q=>c7m K x y H Q∨c6z K x y H Q∨c6B x y H Q
theorem a0z:IxR X (rIx X.K):=b6P.or (c1U.or c0p)
theorem Inv.lst {pins:List (Addr×Obj)} {σ:St} {H:Hp} {s:Shared} {p:Addr} {xs:List V} (I:Inv X pins σ H s) (h:H p=some (.lst xs)):
  ∃(its:List Value) (n:Nat),a0Y xs its∧s.heap.get? p=some {cls:=.type "list",data:=.seq its.toArray n}∧xs.length≤sizeLine:=by
 obtain ⟨z,its,n,r,e⟩:=I.hok p _ h
 exact ⟨its,n,r,e,z⟩
theorem a5Y (lo hi:Option Int) (n:Nat):(sliceBounds lo hi none n).1=((HT.sIx n 0 lo:Nat):Int)∧(sliceBounds lo hi none n).2.1=((HT.sIx n n hi:Nat):Int)∧(sliceBounds lo hi none n).2.2=1:=by
 refine ⟨?_,?_,rfl⟩
 ·cases lo with
  | none=>simp [sliceBounds,HT.sIx]
  | some i=>
   simp only [sliceBounds,HT.sIx,Gr,show (1:Int) > 0 by decide,if_true]
   by_cases h:i < 0
   ·simp only [h,if_true]<;>omega
   ·simp only [h,if_false]<;>omega
 ·cases hi with
  | none=>simp [sliceBounds,HT.sIx]
  | some i=>
   simp only [sliceBounds,HT.sIx,Gr,show (1:Int) > 0 by decide,if_true]
   by_cases h:i < 0
   ·simp only [h,if_true]<;>omega
   ·simp only [h,if_false]<;>omega
theorem a5H (its:List Value) (lo hi:Option Int):slicePick its.toArray lo hi none=((its.drop (HT.sIx its.length 0 lo)).take (HT.sIx its.length its.length hi - HT.sIx its.length 0 lo)).toArray:=by
 obtain ⟨h1,h2,h3⟩:=a5Y lo hi its.toArray.size
 unfold slicePick
 rw [h1,h2,h3]
 simp only [sliceRange_one,pick_run,Qu]<;>rfl
def c4y (K:Qe):V→Option Int→Option Int→Hp→VK→Prop:=fun x lo hi H Q=>∃a xs,x=.ref a∧SqL K H a xs∧∀p,H p=none→Q (.ref p) (upd H p (.lst (a9I xs lo hi)))
theorem b8j:SlR X (c4y X.K):=by
 intro pins s σ H x v vl vu lo hi sl Q I rx hs pl pu h
 obtain ⟨a,xs,rfl,hx,q⟩:=h
 cases rx
 obtain ⟨its,r,ht,hz⟩:=I.list hx
 have hlen:=r.length
 refine ⟨"list",_,slot_list_getitem.lookup,ht.isList.typeIs,?_⟩
 refine wpAny_getItem_list_slice ht.isList hs pl pu .none (by simp) ?_ (by rw [Qu]<;>omega)
 rw [a5H,←hlen]
 refine ⟨.ref s.heap.objs.size,_,I.laid (t':=s.toks) (o:=.lst (a9I xs lo hi)) (fun b ob q=>Qo _ q) (Qj _) ?_,rfl,q _ (I.hok.fresh (Qj _))⟩
 exact ⟨Qi (a4x xs lo hi) hz,_,0,(r.drop (HT.sIx xs.length 0 lo)).take (HT.sIx xs.length xs.length hi - HT.sIx xs.length 0 lo),Xd _ rfl⟩
def a5D:V→Bool
 | .non=>true
 | .bl _=>true
 | .int _=>true
 | .str _=>true
 | _=>false
def eqV:V→V→Bool
 | .non,.non=>true
 | .bl a,.bl b=>a == b
 | .bl a,.int b=>(if a then 1 else 0) == b
 | .int a,.bl b=>a == (if b then 1 else 0)
 | .int a,.int b=>a == b
 | .str a,.str b=>a == b
 | _,_=>false
theorem b8U {A:Around} {s:Shared} {y x:V} {u v:Value} (ry:a0Q y u) (rx:a0Q x v) (fy:a5D y=true) (fx:a5D x=true):Yn A s u v (eqV y x):=by
 cases y with
 | non=>
  cases ry
  cases x with
  | non=>cases rx;exact Yn.same _
  | bl b=>cases rx;exact Yn.none_bool b
  | int b=>obtain ⟨t,rfl⟩:=rx;exact Yn.none_int b t
  | str b=>obtain ⟨t,rfl⟩:=rx;exact Yn.none_str b t
  | _=>exact absurd (show false=true from fx) Qx
 | bl a=>
  cases ry
  cases x with
  | non=>cases rx;exact Yn.bool_none a
  | bl b=>cases rx;exact Yn.bool_bool a b
  | int b=>obtain ⟨t,rfl⟩:=rx;exact Yn.bool_int a b t
  | str b=>obtain ⟨t,rfl⟩:=rx;exact Yn.bool_str a b t
  | _=>exact absurd (show false=true from fx) Qx
 | int a=>
  obtain ⟨t',rfl⟩:=ry
  cases x with
  | non=>cases rx;exact Yn.int_none a t'
  | bl b=>cases rx;exact Yn.int_bool a t' b
  | int b=>obtain ⟨t,rfl⟩:=rx;exact Yn.int_int a t' b t
  | str b=>obtain ⟨t,rfl⟩:=rx;exact Yn.int_str a t' b t
  | _=>exact absurd (show false=true from fx) Qx
 | str a=>
  obtain ⟨t',rfl⟩:=ry
  cases x with
  | non=>cases rx;exact Yn.str_none a t'
  | bl b=>cases rx;exact Yn.str_bool a t' b
  | int b=>obtain ⟨t,rfl⟩:=rx;exact Yn.str_int a t' b t
  | str b=>obtain ⟨t,rfl⟩:=rx;exact Yn.str_str a t' b t
  | _=>exact absurd (show false=true from fx) Qx
 | _=>exact absurd (show false=true from fy) Qx
def eqU (x:V) (u:Value):Bool:=match u with
 | .none=>eqV .non x
 | .bool b=>eqV (.bl b) x
 | .int i _=>eqV (.int i) x
 | .str z _=>eqV (.str z) x
 | _=>false
theorem b5U {x y:V} {u:Value} (r:a0Q y u) (f:a5D y=true):eqU x u=eqV y x:=by
 cases y with
 | non=>cases r;rfl
 | bl b=>cases r;rfl
 | int i=>obtain ⟨t,rfl⟩:=r;rfl
 | str z=>obtain ⟨t,rfl⟩:=r;rfl
 | _=>exact absurd (show false=true from f) Qx
theorem a7q {x:V}:∀{xs:List V} {us:List Value},a0Y xs us→xs.all a5D=true→us.any (eqU x)=xs.any fun y=>eqV y x
 | _,_,.nil,_=>rfl
 | y::xs,u::us,.cons r t,f=>by
  rw [Vh,Xq] at f
  rw [Jq,Jq,b5U r f.1,a7q t f.2]
theorem a5r {A:Around} {s:Shared} {x:V} {v:Value} (rx:a0Q x v) (fx:a5D x=true):∀{xs:List V} {us:List Value},a0Y xs us→xs.all a5D=true→∀u∈us,Yn A s u v (eqU x u)
 | _,_,.nil,_=>fun u hu=>by cases hu
 | y::xs,u::us,.cons r t,f=>fun u' hu=>by
  rw [Vh,Xq] at f
  rcases Qw.mp hu with rfl | hu
  ·rw [b5U r f.1];exact b8U r rx f.1 fx
  ·exact a5r rx fx t f.2 u' hu
def inV (x:V) (xs:List V):Bool:=xs.any fun y=>eqV y x
def rIn (K:Qe) (neg:Bool):R2:=fun x y H Q=>∃p xs,y=.ref p∧(SqL K H p xs∨SqT K H p xs)∧a5D x=true∧xs.all a5D=true∧Q (.bl (if neg then !inV x xs else inV x xs)) H
theorem b0C:OpR X (compareOp .In) (rIn X.K false):=by
 intro pins s σ H x y v u Q I rx ry h
 obtain ⟨p,xs,rfl,hq,fx,fs,q⟩:=h
 cases ry
 rcases hq with hq | hq
 ·obtain ⟨its,r,pl,hz⟩:=I.list hq
  refine SeqAt.in_listAt (eqU x) pl.isList (fun w hw=>a5r rx fx r fs w (by simpa using hw)) ⟨.bl _,H,I,rfl,?_⟩
  rw [show its.toArray.any (eqU x)=its.any (eqU x) by simp,a7q r fs]
  exact q
 ·obtain ⟨its,r,pl,hz⟩:=I.tuple hq
  refine SeqAt.in_tupleAt (eqU x) pl (fun w hw=>a5r rx fx r fs w (by simpa using hw)) ⟨.bl _,H,I,rfl,?_⟩
  rw [show its.toArray.any (eqU x)=its.any (eqU x) by simp,a7q r fs]
  exact q
theorem a1C.or {f:Value} {r r':List V→Hp→VK→Prop} (h:a1C X f r) (h':a1C X f r'):a1C X f (fun xs H Q=>r xs H Q∨r' xs H Q):=by
 intro pins s σ H xs us Q I rs q
 rcases q with q | q
 ·exact h pins s σ H xs us Q I rs q
 ·exact h' pins s σ H xs us Q I rs q
theorem a6w:a1C X (.type "list") (fun xs H Q=>∃p ys,xs=[.ref p]∧(SqL X.K H p ys∨SqT X.K H p ys)∧∀l,H l=none→Q (.ref l) (upd H l (.lst ys))):=by
 intro pins s σ H xs us Q I r h
 obtain ⟨p,ys,rfl,hq,q⟩:=h
 obtain ⟨u,rfl,rx⟩:=a3u r
 cases rx
 have fin:∀(its:List Value),a0Y ys its→ys.length≤sizeLine→∀(h':Heap) (c':Nat),(∀b o',s.heap.get? b=some o'→h'.get? b=some o')→
   h'.get? s.heap.objs.size=some {cls:=.type "list",dict:=none,data:=.seq its.toArray c',slots:=#[]}→EP X pins σ Q (.ref s.heap.objs.size) {s with heap:=h'}:=fun its r' hz h' c' kp e=>
  ⟨.ref s.heap.objs.size,_,I.laid (t':=s.toks) kp (Qj _) (show a1c X.prog X.w _ h' _ (.lst ys) from ⟨hz,its,c',r',e⟩),rfl,q _ (I.hok.fresh (Qj _))⟩
 rcases hq with hq | hq
 ·obtain ⟨its,r',pl,hz⟩:=I.list hq
  have hlen:=r'.length
  obtain ⟨o,ho,hc,n,hd⟩:=pl.isList
  exact call_list_seq p (.inl rfl) ho hc hd (fun h' c' kp e=>fin its r' hz h' c' kp e) (by simp only [Qu]<;>omega)
 ·obtain ⟨its,r',pl,hz⟩:=I.tuple hq
  have hlen:=r'.length
  obtain ⟨o,ho,hc,n,hd⟩:=pl
  exact call_list_seq p (.inr rfl) ho hc hd (fun h' c' kp e=>fin its r' hz h' c' kp e) (by simp only [Qu]<;>omega)
theorem a5k:a1C X (.type "tuple") (fun xs H Q=>∃p ys,xs=[.ref p]∧((SqL X.K H p ys∧∀l,H l=none→Q (.ref l) (upd H l (.tup ys)))∨(SqT X.K H p ys∧Q (.ref p) H))):=by
 intro pins s σ H xs us Q I r h
 obtain ⟨p,ys,rfl,h⟩:=h
 obtain ⟨u,rfl,rx⟩:=a3u r
 cases rx
 rcases h with ⟨hq,q⟩ | ⟨hq,q⟩
 ·obtain ⟨its,r',pl,hz⟩:=I.list hq
  have hlen:=r'.length
  refine call_tuple_list pl.isList (fun h' kp=>?_) (by simp only [Qu]<;>omega)
  have I1:Inv X pins σ H {s with heap:=h'}:=I.kept (t':=s.toks) kp
  have I2:Inv X pins σ (upd H h'.objs.size (.tup ys)) {s with heap:=h'.push {cls:=.type "tuple",data:=.seq its.toArray}}:=
   I1.laid (t':=s.toks) (fun b o e=>Qo _ e) (Qj _) (show a1c X.prog X.w _ _ _ (.tup ys) from ⟨hz,its,r',IsTup.new _ _⟩)
  exact ⟨.ref h'.objs.size,_,I2,rfl,q _ (I1.hok.fresh (Qj _))⟩
 ·obtain ⟨its,r',pl,hz⟩:=I.tuple hq
  exact call_tuple_same pl ⟨.ref p,H,I,rfl,q⟩
def tyV (K:Qe) (T:String) (x:V) (H:Hp):Prop:=match x with
 | .str _=>T="str"
 | .int _=>T="int"
 | .ref p=>(T="list"∧∃xs,SqL K H p xs)∨(T="tuple"∧∃o,K.lookup p=some o∧o.cls=.type "tuple"∧o.dict=none)∨
   (T="dict"∧((∃kvs,H p=some (.dK kvs))∨∃kvs,H p=some (.dT kvs)))∨(T="set"∧∃S n,H p=some (.set S n))
 | _=>False
theorem c0S {pins:List (Addr×Obj)} {σ:St} {H:Hp} {s:Shared} {T:String} {x:V} {v:Value} (I:Inv X pins σ H s) (r:a0Q x v) (ty:tyV X.K T x H):
  s.TypeIs v T∧∀a,v=.ref a→∃ob,s.heap.get? a=some ob∧ob.dict=none:=by
 cases x with
 | str z=>
  obtain ⟨t,rfl⟩:=r
  cases (show T="str" from ty)
  exact ⟨typeIs_str s z t,fun _ e=>nomatch e⟩
 | int i=>
  obtain ⟨t,rfl⟩:=r
  cases (show T="int" from ty)
  exact ⟨typeIs_int s i t,fun _ e=>nomatch e⟩
 | ref p=>
  cases r
  rcases ty with ⟨rfl,xs,hq⟩ | ⟨rfl,o,hk,hc,hd⟩ | ⟨rfl,hk⟩ | ⟨rfl,S,n,hk⟩
  ·obtain ⟨its,_,pl,_⟩:=I.list hq
   refine ⟨pl.isList.typeIs,fun a e=>?_⟩
   cases e
   obtain ⟨o,n,e,c,hd,_⟩:=pl
   exact ⟨o,e,hd⟩
  ·refine ⟨⟨o,I.kIn p o hk,hc⟩,fun a e=>?_⟩
   cases e
   exact ⟨o,I.kIn _ o hk,hd⟩
  ·have z:∃o,s.heap.get? p=some o∧o.ExactDict:=by
    rcases hk with ⟨kvs,hk⟩ | ⟨kvs,hk⟩
    ·obtain ⟨_,_,_,_,o,_,_,e,ex,_⟩:=I.hok p _ hk
     exact ⟨o,e,ex⟩
    ·obtain ⟨_,_,_,_,o,_,_,e,ex,_⟩:=I.hok p _ hk
     exact ⟨o,e,ex⟩
   obtain ⟨o,e,ex⟩:=z
   refine ⟨⟨o,e,ex.1⟩,fun a e2=>?_⟩
   cases e2
   exact ⟨o,e,ex.2.1⟩
  ·obtain ⟨o,_,_,_,e,ex,_⟩:=I.hok p _ hk
   refine ⟨⟨o,e,ex.1⟩,fun a e2=>?_⟩
   cases e2
   exact ⟨o,e,ex.2.1⟩
 | _=>exact False.elim ty
def tBM (K:Qe) (T:String) (r:V→List V→Hp→VK→Prop) (to:TE) (t:TA):TE:=fun σ H Q=>to σ H fun x H1=>tyV K T x H1∧t σ H1 fun xs H2=>r x xs H2 Q
variable {o e:Expr} {es:List Expr} {to:TE} {t:TA} {name:Str} {apos cpos:Pos} {T id:String} {r:V→List V→Hp→VK→Prop}
theorem c2O (pa:PlainAttrs T) (slot:Slot T name id) (hty:typeOf (.builtin id)=pure (.type "method_descriptor")) (hm:MtR X id r) (ho:PE X o to) (ha:PA X (e::es) t)
  (hbase:attributeBase o name X.env (eval o X.env)=eval o X.env:=by rfl)
  (hfew:((backTo cpos (starEach (e::es) X.env)).all (fun x=>!x.1) && (backToKw cpos (keywordEach [] X.env)).all (fun x=>x.1.isSome)
   && decide ((e::es).length+([]:List Keyword).length+(if ([]:List Keyword).isEmpty then 0 else 1) < 30))=true:=by rfl)
  (hline:(apos.endLine == cpos.line)=true:=by rfl) (hs:starEach (e::es) X.env=(false,eval e X.env)::starEach es X.env:=by rfl) (hplain:(backTo cpos (starEach es X.env)).any (·.1)=false:=by rfl):
  PE X (.Call (.Attribute o name apos) (e::es) [] cpos) (tBM X.K T r to t):=by
 intro pins s σ H Q I h
 refine wpAny_Call_method_late hbase hfew hline rfl (thn (ho pins s σ H _ I h) fun v s1 ⟨x,H1,I1,r1,ty,q1⟩=>?_)
 obtain ⟨h1,h2⟩:=c0S I1 r1 ty
 refine ⟨T,id,pa,slot,hty,h1,h2,?_⟩
 have hA:=ha cpos pins s1 σ H1 _ I1 q1
 rw [hs] at hA ⊢
 refine Calls.callWith_builtin (by show (false || (backTo cpos (starEach es X.env)).any (·.1))=false;rw [hplain]<;>rfl) (Calls.evalArgs_plain ?_)
 exact thn hA fun us s2 ⟨vs,H2,I2,r2,q2⟩=>hm pins s2 σ H2 x vs v us Q I2 r1 r2 q2
end
def MtM (X:Cx) (id:String) (r:V→List V→Hp→VK→Prop):Prop:=
 ∀(pins:List (Addr×Obj)) (s:Shared) (σ:St) (H:Hp) (x:V) (xs:List V) (v:Value) (us:List Value) (Q:VK),Inv X pins σ H s→a0Q x v→a0Y xs us→r x xs H Q→
  wpAny (model X.prog X.w) X.A (call (.builtin id) (v::us)) (EP X pins σ Q) X.xe s
theorem a0Y.one:∀{x:V} {us:List Value},a0Y [x] us→∃u,us=[u]∧a0Q x u
 | _,_,.cons r .nil=>⟨_,rfl,r⟩
section
variable {X:Cx} {pins:List (Addr×Obj)} {σ:St} {H:Hp} {s:Shared} {l b:Addr} {xs ys zs:List V}
theorem Inv.lset {its its':List Value} {n:Nat} {f:Array Value→Array Value} {t':Nat} (I:Inv X pins σ H s) (hH:H l=some (.lst xs))
  (e:s.heap.get? l=some {cls:=.type "list",data:=.seq its.toArray n}) (hf:f its.toArray=its'.toArray) (hv:a0Y ys its') (hz:ys.length≤sizeLine):
  Inv X pins σ (upd H l (.lst ys)) {s with heap:=s.heap.update l (Obj.mapSeq f),toks:=t'}:=by
 have q:=PySem.IsL.update e f
 rw [hf] at q
 refine I.write (x:=l) (e:=l) (by rw [hH];exact trivial) (.inl rfl) (fun b' u hb hu=>(Heap.get?_update_other s.heap (Obj.mapSeq f) (Ne.symm hb)).trans hu) ⟨_,q⟩ ?_
 exact ⟨hz,its',_,hv,q⟩
theorem Inv.lnew {its:List Value} {t':Nat} (I:Inv X pins σ H s) (hv:a0Y ys its) (hz:ys.length≤sizeLine):
  Inv X pins σ (upd H s.heap.objs.size (.lst ys)) {s with heap:=s.heap.push {cls:=.type "list",data:=.seq its.toArray},toks:=t'}:=
 I.laid (fun _ _ q=>Qo _ q) (Qj _) ⟨hz,its,0,hv,Xd _ rfl⟩
theorem Inv.fresh (I:Inv X pins σ H s):H s.heap.objs.size=none:=I.hok.fresh (Qj _)
theorem Inv.lstM (I:Inv X pins σ H s) (hH:H l=some (.lst xs)):xs.length≤sizeLine∧∃(its:List Value) (n:Nat),a0Y xs its∧xs.length=its.length∧s.heap.get? l=some {cls:=.type "list",data:=.seq its.toArray n}:=by
 obtain ⟨z,its,n,r,e⟩:=I.hok l _ hH
 exact ⟨z,its,n,r,r.length,e⟩
end
section
variable {X:Cx}
def b2k:V→List V→Hp→VK→Prop:=fun x vs H Q=>∃l xs y,x=.ref l∧vs=[y]∧H l=some (.lst xs)∧xs.length < sizeLine∧Q .non (upd H l (.lst (xs++[y])))
theorem a0H:MtM X "list.append" b2k:=by
 intro pins s σ H x vs v us Q I rx rv h
 obtain ⟨l,xs,y,rfl,rfl,hH,hz,q⟩:=h
 cases rx
 obtain ⟨u,rfl,ru⟩:=rv.one
 obtain ⟨z,its,n,r,hl,e⟩:=I.lstM hH
 refine call_meets F.slot_list_append ⟨_,e,rfl⟩ F.entry_list_append (F.args_list_append_2 _ _) (PySem.list_append l its.toArray n u (by rw [Qu];omega)) ⟨e,?_⟩
 refine ⟨.non,_,I.lset (its':=its++[u]) hH e (by simp) (r.append (.cons ru .nil)) ?_,rfl,q⟩
 rw [Xx,Wt]
 omega
def c7B:R2:=fun x y H Q=>∃l b xs zs,x=.ref l∧y=.ref b∧H l=some (.lst xs)∧H b=some (.lst zs)∧xs.length+zs.length≤sizeLine∧∀p,H p=none→Q (.ref p) (upd H p (.lst (xs++zs)))
theorem c1v:OpR X (binaryOp .Add) c7B:=by
 intro pins s σ H x y v u Q I rx ry h
 obtain ⟨l,b,xs,zs,rfl,rfl,hH,hB,hz,q⟩:=h
 cases rx
 cases ry
 obtain ⟨z,its,n,r,hl,e⟩:=I.lstM hH
 obtain ⟨z2,its2,n2,r2,hl2,e2⟩:=I.lstM hB
 refine PySem.P.add_list e e2 ?_ (by rw [Qu,Qu];omega)
 have ea:its.toArray++its2.toArray=(its++its2).toArray:=by simp
 rw [ea]
 exact ⟨.ref _,_,I.lnew (t':=s.toks) (r.append r2) (by rw [Xx];omega),rfl,q _ I.fresh⟩
end
section
variable {prog:Program} {w:World} {A:Around} {E:Value→Shared→Prop} {s:Shared}
set_option maxRecDepth 100000 in
end
section
variable {κ:Type} [DecidableEq κ]
def a0T (kvs:List (κ×V)) (k:κ):Option V:=(kvs.find? fun kv=>decide (kv.1=k)).map (·.2)
def a2F (kvs:List (κ×V)) (k:κ) (v:V):List (κ×V):=
 if (kvs.any fun kv=>decide (kv.1=k))=true then kvs.map (fun kv=>if kv.1=k then (kv.1,v) else kv) else kvs++[(k,v)]
def c0a (kvs:List (κ×V)) (k:κ):List (κ×V):=kvs.filter fun kv=>decide (kv.1≠k)
theorem a0I {p:κ×V} {r:List (κ×V)} {k:κ} (e:p.1=k):a0T (p::r) k=some p.2:=by simp [a0T,Zi,e]
theorem a0x {p:κ×V} {r:List (κ×V)} {k:κ} (e:¬p.1=k):a0T (p::r) k=a0T r k:=by simp [a0T,Zi,e]
theorem a2d (k:κ):∀kvs:List (κ×V),(kvs.any fun kv=>decide (kv.1=k))=(a0T kvs k).isSome
 | []=>rfl
 | p::r=>by
  rw [Jq]
  by_cases e:p.1=k
  ·simp only [a0I e,decide_eq_true e,Bool.true_or,Gh]
  ·rw [a0x e,decide_eq_false e,Bool.false_or];exact a2d k r
theorem a7C (k j:κ) (y:V):∀kvs:List (κ×V),a0T (kvs.map fun kv=>if kv.1=k then (kv.1,y) else kv) j=(a0T kvs j).map fun x=>if j=k then y else x
 | []=>rfl
 | p::r=>by
  have ih:=a7C k j y r
  rw [Xk]
  by_cases h:p.1=k
  ·rw [if_pos h]
   by_cases e:p.1=j
   ·rw [a0I (p:=(p.1,y)) e,a0I e,Zr,if_pos (e.symm.trans h)]
   ·rw [a0x (p:=(p.1,y)) e,a0x e,ih]
  ·rw [if_neg h]
   by_cases e:p.1=j
   ·rw [a0I (p:=p) e,a0I e,Zr,if_neg (fun z=>h (e.trans z))]
   ·rw [a0x (p:=p) e,a0x e,ih]
theorem a6p (k j:κ) (y:V):∀kvs:List (κ×V),a0T kvs k=none→a0T (kvs++[(k,y)]) j=if j=k then some y else a0T kvs j
 | [],_=>by
  by_cases e:k=j
  ·rw [if_pos e.symm];exact a0I (p:=(k,y)) e
  ·rw [if_neg (fun z=>e z.symm)];exact a0x (p:=(k,y)) e
 | p::r,hn=>by
  rw [Jx]
  have hk:¬p.1=k:=fun z=>by rw [a0I z] at hn;cases hn
  rw [a0x hk] at hn
  have ih:=a6p k j y r hn
  by_cases e:p.1=j
  ·rw [a0I e,a0I e,if_neg (fun z=>hk (e.trans z))]
  ·rw [a0x e,a0x e,ih]
theorem a1I (kvs:List (κ×V)) (k j:κ) (y:V):a0T (a2F kvs k y) j=if j=k then some y else a0T kvs j:=by
 unfold a2F
 by_cases a:(kvs.any fun kv=>decide (kv.1=k))=true
 ·rw [if_pos a,a7C]
  rw [a2d] at a
  by_cases e:j=k
  ·obtain ⟨x,hx⟩:=Vu.mp a
   rw [if_pos e,e,hx,Zr,if_pos rfl]
  ·rw [if_neg e]
   cases a0T kvs j with
   | none=>rfl
   | some x=>rw [Zr,if_neg e]
 ·rw [if_neg a]
  refine a6p k j y kvs ?_
  rw [a2d] at a
  cases q:a0T kvs k with
  | none=>rfl
  | some x=>rw [q] at a;exact (a rfl).elim
theorem a0K (kvs:List (κ×V)) (k:κ) (v:V):(a2F kvs k v).length≤kvs.length+1:=by
 unfold a2F
 split
 ·rw [Qd];omega
 ·rw [Xx,Qm,Qr];omega
theorem a5v {kvs:List (κ×V)} {k:κ} (v:V) (h:a0T kvs k=none):a2F kvs k v=kvs++[(k,v)]:=by
 unfold a2F
 rw [a2d,h]
 exact if_neg ‹dc›
theorem a4F.isSome_eq {o:Option V} {u:Option Value} (r:a4F o u):o.isSome=u.isSome:=by
 cases o with
 | none=>cases u with
  | none=>rfl
  | some _=>exact (show False from r).elim
 | some _=>cases u with
  | none=>exact (show False from r).elim
  | some _=>rfl
theorem a4F.getD {o:Option V} {u:Option Value} {d:V} {d':Value} (r:a4F o u) (rd:a0Q d d'):a0Q (o.getD d) (u.getD d'):=by
 cases o with
 | none=>cases u with
  | none=>exact rd
  | some _=>exact (show False from r).elim
 | some _=>cases u with
  | none=>exact (show False from r).elim
  | some _=>exact r
theorem KV.val {kvs:List (κ×V)} {vs:List (κ×Value)} (r:KV kvs vs) (k:κ):a4F (a0T kvs k) (valueAt vs k):=by
 unfold KV at r
 induction r with
 | nil=>exact True.intro
 | @cons p q ps qs h t ih=>
  obtain ⟨h1,h2⟩:=h
  by_cases e:p.1=k
  ·have e':q.1=k:=h1.symm.trans e
   have b:valueAt (q::qs) k=some q.2:=by simp [valueAt,Zi,e']
   rw [a0I e,b];exact h2
  ·have e':¬q.1=k:=fun z=>e (h1.trans z)
   have b:valueAt (q::qs) k=valueAt qs k:=by simp [valueAt,Zi,e']
   rw [a0x e,b];exact ih
theorem KV.any {kvs:List (κ×V)} {vs:List (κ×Value)} (r:KV kvs vs) (k:κ):(kvs.any fun kv=>decide (kv.1=k))=vs.any fun kv=>decide (kv.1=k):=by
 unfold KV at r
 induction r with
 | nil=>rfl
 | cons h t ih=>rw [Jq,Jq,ih,h.1]
theorem KV.repl {kvs:List (κ×V)} {vs:List (κ×Value)} (r:KV kvs vs) (k:κ) {y:V} {u:Value} (ry:a0Q y u):
  KV (kvs.map fun kv=>if kv.1=k then (kv.1,y) else kv) (vs.map fun kv=>if kv.1=k then (kv.1,u) else kv):=by
 unfold KV at r ⊢
 induction r with
 | nil=>exact .nil
 | @cons p q ps qs h t ih=>
  rw [Xk,Xk]
  refine .cons ?_ ih
  obtain ⟨h1,h2⟩:=h
  by_cases e:p.1=k
  ·rw [if_pos e,if_pos (h1.symm.trans e)];exact ⟨h1,ry⟩
  ·rw [if_neg e,if_neg (fun z=>e (h1.trans z))];exact ⟨h1,h2⟩
theorem KV.put {kvs:List (κ×V)} {vs:List (κ×Value)} (r:KV kvs vs) (k:κ) {y:V} {u:Value} (ry:a0Q y u):KV (a2F kvs k y) (stored vs k u):=by
 unfold a2F stored
 rw [r.any k]
 by_cases e:(vs.any fun kv=>decide (kv.1=k))=true
 ·rw [if_pos e,if_pos e];exact r.repl k ry
 ·rw [if_neg e,if_neg e];exact Paired.snoc r ⟨rfl,ry⟩
theorem KV.drop {kvs:List (κ×V)} {vs:List (κ×Value)} (r:KV kvs vs) (k:κ):KV (c0a kvs k) (without vs k):=by
 unfold KV at r ⊢
 unfold c0a without
 induction r with
 | nil=>exact .nil
 | @cons p q ps qs h t ih=>
  obtain ⟨h1,h2⟩:=h
  rw [Yq,Yq]
  by_cases e:p.1=k
  ·have a:¬decide (p.1≠k)=true:=by simp [e]
   have b:¬decide (q.1≠k)=true:=by simp [h1.symm.trans e]
   rw [if_neg a,if_neg b];exact ih
  ·have e':¬q.1=k:=fun z=>e (h1.trans z)
   have a:decide (p.1≠k)=true:=by simp [e]
   have b:decide (q.1≠k)=true:=by simp [e']
   rw [if_pos a,if_pos b];exact .cons ⟨h1,h2⟩ ih
theorem KV.length {kvs:List (κ×V)} {vs:List (κ×Value)} (r:KV kvs vs):kvs.length=vs.length:=Paired.length r
end
theorem a6z {P:Program} {w:World} {k:Key} {u:Value} (r:a0Q (kV k) u):(a0m P w).is k u=true:=by
 cases k with
 | inl i=>obtain ⟨t,e⟩:=(show ∃t,u=Value.int i t from r);subst e;exact a7j P w i t
 | inr x=>obtain ⟨t,e⟩:=(show ∃t,u=Value.str x t from r);subst e;exact a6U P w x t
theorem a5X {P:Program} {w:World}:∀{ks:List Key} {us:List Value},a0Y (ks.map kV) us→ItemsAre (a0m P w) ks us
 | [],_,r=>by rw [Jg] at r;cases r;exact .nil
 | k::ks,_,r=>by
  rw [Xk] at r
  cases r with
  | cons h t=>exact .cons (a6z h) (a5X t)
abbrev KT (H:Hp):List (List Key×V)→List (List Key×Addr×Value)→Prop:=Paired fun p q=>p.1=q.1∧H q.2.1=some (.tup (p.1.map kV))∧a0Q p.2 q.2.2
theorem KT.val {H:Hp} {kvs:List (List Key×V)} {xs:List (List Key×Addr×Value)} (r:KT H kvs xs) (k:List Key):a4F (a0T kvs k) ((atKey xs k).map (·.2)):=by
 induction r with
 | nil=>exact True.intro
 | @cons p q ps qs h t ih=>
  obtain ⟨h1,_,h2⟩:=h
  by_cases e:p.1=k
  ·have e':q.1=k:=h1.symm.trans e
   have b:atKey (q::qs) k=some q.2:=by simp [atKey,Zi,e']
   rw [a0I e,b];exact h2
  ·have e':¬q.1=k:=fun z=>e (h1.trans z)
   have b:atKey (q::qs) k=atKey qs k:=by simp [atKey,Zi,e']
   rw [a0x e,b];exact ih
theorem KT.repl {H:Hp} {kvs:List (List Key×V)} {xs:List (List Key×Addr×Value)} (r:KT H kvs xs) (k:List Key) {y:V} {u:Value} (ry:a0Q y u):
  KT H (kvs.map fun kv=>if kv.1=k then (kv.1,y) else kv) (xs.map (putAt k u)):=by
 induction r with
 | nil=>exact .nil
 | @cons p q ps qs h t ih=>
  rw [Xk,Xk]
  refine .cons ?_ ih
  obtain ⟨h1,h2,h3⟩:=h
  unfold putAt
  by_cases e:p.1=k
  ·rw [if_pos e,if_pos (h1.symm.trans e)];exact ⟨h1,h2,ry⟩
  ·rw [if_neg e,if_neg (fun z=>e (h1.trans z))];exact ⟨h1,h2,h3⟩
theorem KT.put {H:Hp} {kvs:List (List Key×V)} {xs:List (List Key×Addr×Value)} (r:KT H kvs xs) (k:List Key) {b:Addr} {y:V} {u:Value} (hb:H b=some (.tup (k.map kV))) (ry:a0Q y u):
  KT H (a2F kvs k y) (storedH xs k b u):=by
 have e:(kvs.any fun kv=>decide (kv.1=k))=(atKey xs k).isSome:=by
  rw [a2d,(r.val k).isSome_eq,Uj]
 unfold a2F storedH
 rw [e]
 by_cases q:(atKey xs k).isSome=true
 ·rw [if_pos q,if_pos q];exact r.repl k ry
 ·rw [if_neg q,if_neg q];exact Paired.snoc r ⟨rfl,hb,ry⟩
theorem KT.keeps {H H':Hp} {kvs:List (List Key×V)} {xs:List (List Key×Addr×Value)} (r:KT H kvs xs) (ht:∀b ys,H b=some (.tup ys)→H' b=some (.tup ys)):KT H' kvs xs:=
 Paired.mapP r fun _ _ z=>⟨z.1,ht _ _ z.2.1,z.2.2⟩
section
variable {P:Program} {w:World} {H:Hp} {h:Heap} {a:Addr}
theorem c1F {u:HO} (ok:HOk P w H h) (e:Rd H a u):a1c P w H h a u:=e.ok ok
theorem a4t {kvs:List (Key×V)} (ok:HOk P w H h) (e:Rd H a (.dK kvs)):kvs.length≤sizeLine∧(a == sysModules)=false∧∃vs,KV kvs vs∧h.DictOf (a0m P w) a vs:=
 show a1c P w H h a (.dK kvs) from c1F ok e
theorem a6n {kvs:List (Key×V)} (ok:HOk P w H h) (e:H a=some (.dK kvs)):kvs.length≤sizeLine∧(a == sysModules)=false∧∃vs,KV kvs vs∧h.DictOf (a0m P w) a vs:=a4t ok (.inl e)
theorem a4I {ks:List Key} (ok:HOk P w H h) (e:H a=some (.tup (ks.map kV))):(tupleKind (a0m P w)).is h ks a:=by
 obtain ⟨_,its,r,o,h1,h2,n,h3⟩:=(show a1c P w H h a (.tup (ks.map kV)) from ok a _ e)
 exact ⟨o,its.toArray,n,h1,h2,h3,by simpa using a5X r⟩
theorem a6W {kvs:List (List Key×V)} (ok:HOk P w H h) (e:Rd H a (.dT kvs)):kvs.length≤sizeLine∧(a == sysModules)=false∧
  ∃xs,KT H kvs xs∧h.DictOfH (tupleKind (a0m P w)) a xs:=by
 obtain ⟨z,y,xs,r,o,es,ep,h1,h2,h3,h4,h5⟩:=(show a1c P w H h a (.dT kvs) from c1F ok e)
 refine ⟨z,y,xs,r,o,es,ep,h1,h2,h3,h4,fun x hx=>?_,h5⟩
 have all:∀{l:List (List Key×V)} {m:List (List Key×Addr×Value)},KT H l m→∀x∈m,(tupleKind (a0m P w)).is h x.1 x.2.1:=by
  intro l m q
  induction q with
  | nil=>intro x hx;exact nomatch hx
  | @cons p q ps qs hq t ih=>
   intro x hx
   rcases Qw.mp hx with e | hx
   ·subst e
    exact a4I ok (by rw [←hq.1];exact hq.2.1)
   ·exact ih x hx
 exact all r x hx
theorem c2U {kvs:List (List Key×V)} (ok:HOk P w H h) (e:H a=some (.dT kvs)):kvs.length≤sizeLine∧(a == sysModules)=false∧
  ∃xs,KT H kvs xs∧h.DictOfH (tupleKind (a0m P w)) a xs:=a6W ok (.inl e)
end
def a2w (H:Hp) (a:Addr) (y:V) (r:Option V):Prop:=
 (∃kvs k,Rd H a (.dK kvs)∧y=kV k∧r=a0T kvs k)∨∃kvs k b,Rd H a (.dT kvs)∧y=.ref b∧H b=some (.tup (k.map kV))∧r=a0T kvs k
def a5Q (H:Hp) (a:Addr) (y v:V) (H':Hp):Prop:=
 (∃kvs k,H a=some (.dK kvs)∧y=kV k∧kvs.length < sizeLine∧H'=upd H a (.dK (a2F kvs k v)))∨
 ∃kvs k b,H a=some (.dT kvs)∧y=.ref b∧H b=some (.tup (k.map kV))∧kvs.length < sizeLine∧H'=upd H a (.dT (a2F kvs k v))
theorem a2w.k {H:Hp} {a:Addr} {kvs:List (Key×V)} {k:Key} (e:H a=some (.dK kvs)):a2w H a (kV k) (a0T kvs k):=.inl ⟨kvs,k,.inl e,rfl,rfl⟩
theorem a2w.t {H:Hp} {a b:Addr} {kvs:List (List Key×V)} {k:List Key} (e:H a=some (.dT kvs)) (eb:H b=some (.tup (k.map kV))):a2w H a (.ref b) (a0T kvs k):=.inr ⟨kvs,k,b,.inl e,rfl,eb,rfl⟩
theorem a5Q.k {H:Hp} {a:Addr} {kvs:List (Key×V)} {k:Key} {v:V} (e:H a=some (.dK kvs)) (hl:kvs.length < sizeLine):a5Q H a (kV k) v (upd H a (.dK (a2F kvs k v))):=.inl ⟨kvs,k,e,rfl,hl,rfl⟩
theorem a5Q.t {H:Hp} {a b:Addr} {kvs:List (List Key×V)} {k:List Key} {v:V} (e:H a=some (.dT kvs)) (eb:H b=some (.tup (k.map kV))) (hl:kvs.length < sizeLine):
  a5Q H a (.ref b) v (upd H a (.dT (a2F kvs k v))):=.inr ⟨kvs,k,b,e,rfl,eb,hl,rfl⟩
section
variable {X:Cx} {pins:List (Addr×Obj)} {σ:St} {H:Hp} {s:Shared} {a:Addr} {y v:V} {u r:Value} {o:Option V} {A:Around} {E:Value→Shared→Prop}
theorem Inv.big (I:Inv X pins σ H s):sysModules < s.heap.objs.size:=by
 have h:mainGlobals < s.heap.objs.size:=(I.mod.glob.keeps I.bk).lt
 exact Nat.lt_trans ‹dc› h
theorem b0z {Q:Value→Shared→Prop} (hu:A.units+1 < cLine) (I:Inv X pins σ H s) (g:a2w H a y (some v)) (ry:a0Q y u) (h:∀w' s',Inv X pins σ H s'→a0Q v w'→Q w' s'):
  wpAny (model X.prog X.w) A (getItem (.ref a) u) Q E s:=by
 rcases g with ⟨kvs,k,e,ey,l⟩ | ⟨kvs,k,b,e,ey,eb,l⟩
 ·subst ey
  obtain ⟨z,hd,vs,rel,dd⟩:=a4t I.hok e
  obtain ⟨w',hw,rw'⟩:=a4F.some_of (v:=v) (o:=valueAt vs k) (by rw [l];exact rel.val k)
  exact wpAny_getItem_of (a6z ry) dd.mapOf hw (h w' _ (I.tok _) rw')
 ·subst ey
  cases (show u=Value.ref b from ry)
  obtain ⟨z,hd,xs,rel,dd⟩:=a6W I.hok e
  obtain ⟨w',hw,rw'⟩:=a4F.some_of (v:=v) (o:=(atKey xs k).map (·.2)) (by rw [l];exact rel.val k)
  obtain ⟨p,hp,hp2⟩:=Js.mp hw
  refine wpAny_getItem_heap (tupleKind_room_in1 hu) (a4I I.hok eb) dd hp ?_
  rw [hp2]
  exact h w' _ (I.tok _) rw'
theorem c8S {Q:Value→Shared→Prop} (hu:A.units+1 < cLine) (I:Inv X pins σ H s) (g:a2w H a y o) (ry:a0Q y u) (h:∀s',Inv X pins σ H s'→Q (.bool o.isSome) s'):
  wpAny (model X.prog X.w) A (compareOp .In u (.ref a)) Q E s:=by
 rcases g with ⟨kvs,k,e,ey,l⟩ | ⟨kvs,k,b,e,ey,eb,l⟩
 ·subst ey
  obtain ⟨z,hd,vs,rel,dd⟩:=a4t I.hok e
  refine wpAny_in_of (a6z ry) hd dd.mapOf ?_
  rw [←(rel.val k).isSome_eq,←l]
  exact h _ (I.tok _)
 ·subst ey
  cases (show u=Value.ref b from ry)
  obtain ⟨z,hd,xs,rel,dd⟩:=a6W I.hok e
  refine wpAny_in_heap (tupleKind_room_in1 hu) (a4I I.hok eb) hd dd ?_
  have q:=(rel.val k).isSome_eq
  rw [Uj] at q
  rw [←q,←l]
  exact h _ (I.tok _)
theorem b8l {Q:Value→Shared→Prop} (hu:A.units+1 < cLine) (I:Inv X pins σ H s) (g:a2w H a y o) (ry:a0Q y u) (h:∀s',Inv X pins σ H s'→Q (.bool (!o.isSome)) s'):
  wpAny (model X.prog X.w) A (compareOp .NotIn u (.ref a)) Q E s:=by
 rcases g with ⟨kvs,k,e,ey,l⟩ | ⟨kvs,k,b,e,ey,eb,l⟩
 ·subst ey
  obtain ⟨z,hd,vs,rel,dd⟩:=a4t I.hok e
  refine wpAny_notIn_of (a6z ry) hd dd.mapOf ?_
  rw [←(rel.val k).isSome_eq,←l]
  exact h _ (I.tok _)
 ·subst ey
  cases (show u=Value.ref b from ry)
  obtain ⟨z,hd,xs,rel,dd⟩:=a6W I.hok e
  refine wpAny_notIn_heap (tupleKind_room_in1 hu) (a4I I.hok eb) hd dd ?_
  have q:=(rel.val k).isSome_eq
  rw [Uj] at q
  rw [←q,←l]
  exact h _ (I.tok _)
theorem a4z {h':Heap} {t':Nat} {ob:HO} (I:Inv X pins σ H s) (mu:Mut (H a)) (hs:Vr a s.heap h') (he:∃q,h'.get? a=some q) (new:a1c X.prog X.w (upd H a ob) h' a ob):
  Inv X pins σ (upd H a ob) {s with heap:=h',toks:=t'}:=
 I.write (x:=a) (e:=a) mu (.inl rfl) (fun b q hb z=>(hs.2 b hb).trans z) he new
theorem a8i {P:Program} {w:World} {H':Hp} {h':Heap} {kvs:List (Key×V)} {vs:List (Key×Value)} (z:kvs.length≤sizeLine) (hd:(a == sysModules)=false) (rel:KV kvs vs) (dd:h'.DictOf (a0m P w) a vs):
  a1c P w H' h' a (.dK kvs):=⟨z,hd,vs,rel,dd⟩
theorem b2h {H':Hp} {Q:Unit→Shared→Prop} (hu:A.units+1 < cLine) (I:Inv X pins σ H s) (g:a5Q H a y v H') (ry:a0Q y u) (rv:a0Q v r) (h:∀s',Inv X pins σ H' s'→Q () s'):
  wpAny (model X.prog X.w) A (setItem (.ref a) u r) Q E s:=by
 rcases g with ⟨kvs,k,e,ey,l,eH⟩ | ⟨kvs,k,b,e,ey,eb,l,eH⟩
 ·subst ey eH
  obtain ⟨z,hd,vs,rel,dd⟩:=a6n I.hok e
  have hz:vs.length≤sizeLine:=by rw [←rel.length];exact z
  have hl:(a2F kvs k v).length≤sizeLine:=by have:=a0K kvs k v;omega
  refine wpAny_setItem_pairs (hsz:=hz) (a6z ry) dd fun h' dd' hs=>h _ ?_
  have he:∃q,h'.get? a=some q:=let ⟨q,_,_,hq,_⟩:=dd';⟨q,hq⟩
  exact a4z I (by rw [e];exact True.intro) hs he (a8i hl hd (rel.put k rv) dd')
 ·subst ey eH
  cases (show u=Value.ref b from ry)
  obtain ⟨z,hd,xs,rel,dd⟩:=c2U I.hok e
  have hz:xs.length≤sizeLine:=by rw [←Paired.length rel];exact z
  have hl:(a2F kvs k v).length≤sizeLine:=by have:=a0K kvs k v;omega
  refine wpAny_setItem_heap (hsz:=hz) (tupleKind_room_in1 hu) (a4I I.hok eb) dd fun h' dd' hs=>h _ ?_
  obtain ⟨q,es,ep,hq,h2,h3,h4,_,h5⟩:=dd'
  refine a4z I (by rw [e];exact True.intro) hs ⟨q,hq⟩ ⟨hl,hd,_,(rel.put k eb rv).keeps fun c ys ec=>?_,q,es,ep,hq,h2,h3,h4,h5⟩
  rw [a0a (a0u ec e (fun z=>nomatch z))]
  exact ec
end
section
variable {X:Cx} {pins:List (Addr×Obj)} {σ:St} {H:Hp} {s:Shared} {a:Addr} {kvs:List (Key×V)} {k:Key} {u:Value} {A:Around} {E:Value→Shared→Prop}
theorem c3l {Q:Value→Shared→Prop} (I:Inv X pins σ H s) (e:Rd H a (.dK kvs)) (h:∀t s',Inv X pins σ H s'→Q (.int kvs.length t) s'):wpAny (model X.prog X.w) A (call (.builtin "len") [.ref a]) Q E s:=by
 obtain ⟨z,hd,vs,rel,dd⟩:=a4t I.hok e
 refine call_len_dict hd dd (by rw [←rel.length];rw [sizeLine_eq] at z;omega) ?_
 rw [←rel.length]
 exact h _ _ (I.tok _)
end
def c4k (i:Expr):Prop:=∀ov iv,subscripted i false ov iv=operate [ov,iv] (getItem ov iv)
theorem b7Z {prog:Program} {w:World} {A:Around} {E:Value→Shared→Prop} {s:Shared} {env:Env} {value slice:Expr} {pos:Pos} {T id:String} {Q:Value→Shared→Prop}
  (hl:typeLookup (.type T) "__getitem__"=pure (some (.builtin id))) (hs:c4k slice)
  (h:wpAny (model prog w) A (eval value env) (fun o s₁=>wpAny (model prog w) A (eval slice env) (fun i s₂=>s₂.TypeIs o T∧wpAny (model prog w) A (getItem o i) Q E s₂) E s₁) E s):
  wpAny (model prog w) A (eval (.Subscript value slice pos) env) Q E s:=by
 refine Subscript_ (wpAny_mono h (fun o s₁ h₁=>wpAny_mono h₁ (fun i s₂ h₂=>?_) fun _ _ x=>x) fun _ _ x=>x)
 obtain ⟨hT,h₂⟩:=h₂
 unfold subscriptTail
 refine wpAny_bind ?_
 rw [getitemInPython_of_ne hT.not_modules]
 refine wpAny_bind (wpAny_specialOf hT hl ?_)
 have fin:wpAny (model prog w) A (subscripted slice false o i) (fun r s₃=>wpAny (model prog w) A (letTemporaryGo value o r >>= fun _=>pure r) Q E s₃) E s₂:=by
  rw [hs o i]
  exact wpAny_operating (wpAny_mono h₂ (fun r s₃ h₃=>wpAny_bind (wpAny_letTemporaryGo (wpAny_pure h₃))) fun _ _ x=>x)
 first
  | exact wpAny_pure (wpAny_bind fin)
  | exact wpAny_bind (wpAny_pure (wpAny_bind fin))
  | exact wpAny_bind fin
theorem a7g {X:Cx} {pins:List (Addr×Obj)} {σ:St} {H:Hp} {s:Shared} {a:Addr} {y:V} {o:Option V} (I:Inv X pins σ H s) (g:a2w H a y o):s.TypeIs (.ref a) "dict":=by
 rcases g with ⟨kvs,k,e,_,_⟩ | ⟨kvs,k,b,e,_,_,_⟩
 ·obtain ⟨_,_,vs,_,dd⟩:=a4t I.hok e
  exact dd.typeIs
 ·obtain ⟨_,_,xs,_,dd⟩:=a6W I.hok e
  exact dd.typeIs
def b1O (td ty:TE):TE:=fun σ H Q=>td σ H fun x H1=>ty σ H1 fun y H2=>∃a v,x=.ref a∧a2w H2 a y (some v)∧Q v H2
def a8V (ty td:TE):TE:=fun σ H Q=>ty σ H fun y H1=>td σ H1 fun x H2=>∃a o,x=.ref a∧a2w H2 a y o∧Q (.bl o.isSome) H2
def a2t (ty td:TE):TE:=fun σ H Q=>ty σ H fun y H1=>td σ H1 fun x H2=>∃a o,x=.ref a∧a2w H2 a y o∧Q (.bl (!o.isSome)) H2
def a2U (td ty tv:TE):TS:=fun D σ H=>tv σ H fun v H1=>td σ H1 fun x H2=>ty σ H2 fun y H3=>∃a H4,x=.ref a∧a5Q H3 a y v H4∧D.nx σ H4
section
variable {X:Cx} {o i e value:Expr} {pos pos' tpos:Pos} {td ty tv:TE}
theorem b6r (hu:X.A.units+1 < cLine) (ho:PE X o td) (hi:PE X i ty) (hs:c4k i):PE X (.Subscript o i pos) (b1O td ty):=by
 intro pins s σ H Q I h
 refine b7Z PySem.F.slot_dict_getitem.lookup hs (thn (ho pins s σ H _ I h) fun u s1 ⟨x,H1,I1,rx,q1⟩=>thn (hi pins s1 σ H1 _ I1 q1) fun iv s2 ⟨y,H2,I2,ry,a,v,ex,g,q2⟩=>?_)
 subst ex
 obtain rfl:u=Value.ref a:=rx
 exact ⟨a7g I2 g,b0z hu I2 g ry fun w' s3 I3 rw'=>⟨v,H2,I3,rw',q2⟩⟩
theorem a1R (hu:X.A.units+1 < cLine) (hi:PE X i ty) (ho:PE X o td):PC X .In i o (a8V ty td):=by
 intro pins s σ H Q I h
 refine thn (hi pins s σ H _ I h) fun iv s1 ⟨y,H1,I1,ry,q1⟩=>thn (ho pins s1 σ H1 _ I1 q1) fun u s2 ⟨x,H2,I2,rx,a,ov,ex,g,q2⟩=>?_
 subst ex
 obtain rfl:u=Value.ref a:=rx
 exact c8S hu I2 g ry fun s3 I3=>⟨.bl ov.isSome,H2,I3,rfl,q2⟩
theorem b0m (hu:X.A.units+1 < cLine) (hi:PE X i ty) (ho:PE X o td):PC X .NotIn i o (a2t ty td):=by
 intro pins s σ H Q I h
 refine thn (hi pins s σ H _ I h) fun iv s1 ⟨y,H1,I1,ry,q1⟩=>thn (ho pins s1 σ H1 _ I1 q1) fun u s2 ⟨x,H2,I2,rx,a,ov,ex,g,q2⟩=>?_
 subst ex
 obtain rfl:u=Value.ref a:=rx
 exact b8l hu I2 g ry fun s3 I3=>⟨.bl (!ov.isSome),H2,I3,rfl,q2⟩
theorem b6d (hu:X.A.units+1 < cLine) (ho:PE X o td) (hi:PE X i ty) (hv:PE X value tv) (hs:swapsWith value (some (.Subscript o i pos')) pos.line X.env=pure false):
  PS X (.Assign [.Subscript o i pos'] value pos) (a2U td ty tv):=by
 intro pins s σ H D I h
 refine wpAny_Assign_Subscript (thn (hv pins s σ H _ I h) fun r s1 ⟨v,H1,I1,rv,q1⟩=>thn (ho pins s1 σ H1 _ I1 q1) fun u s2 ⟨x,H2,I2,rx,q2⟩=>thn (hi pins s2 σ H2 _ I2 q2) fun iv s3 ⟨y,H3,I3,ry,a,H4,ex,g,q3⟩=>?_) hs
 subst ex
 obtain rfl:u=Value.ref a:=rx
 exact b2h hu I3 g ry rv fun s4 I4=>⟨σ,H4,I4,q3⟩
end
theorem a8w {P:Program} {w:World} {H:Hp} (h:Heap) (hb:sysModules < h.objs.size):a1c P w H (h.push {cls:=.type "dict",data:=.dict #[]}) h.objs.size (.dK []):=
 ⟨Xb _,beq_eq_false_iff_ne.mpr (Ne.symm (Xl hb)),[],.nil,Heap.DictOf.new h⟩
theorem b4m {P:Program} {w:World} {H:Hp} (h:Heap) (hb:sysModules < h.objs.size):a1c P w H (h.push {cls:=.type "dict",data:=.dict #[]}) h.objs.size (.dT []):=
 ⟨Xb _,beq_eq_false_iff_ne.mpr (Ne.symm (Xl hb)),[],.nil,_,#[],0,Xd _ rfl,⟨rfl,rfl,rfl⟩,rfl,rfl,Zg⟩
def a1O:TE:=fun _ H Q=>∀p,H p=none→Q (.ref p) (upd H p (.dK []))
def b8C:TE:=fun _ H Q=>∀p,H p=none→Q (.ref p) (upd H p (.dT []))
section
variable {X:Cx} {pos:Pos}
theorem b3o:PE X (.Dict [] [] pos) a1O:=fun pins s σ H Q I h=>
 wpAny_Dict_empty ⟨.ref s.heap.objs.size,_,I.laid (a:=s.heap.objs.size) (o:=.dK []) (t':=s.toks) (fun _ _ q=>Qo _ q) (Qj _) (a8w s.heap I.big),rfl,h _ (I.hok.fresh (Qj _))⟩
theorem b3B:PE X (.Dict [] [] pos) b8C:=fun pins s σ H Q I h=>
 wpAny_Dict_empty ⟨.ref s.heap.objs.size,_,I.laid (a:=s.heap.objs.size) (o:=.dT []) (t':=s.toks) (fun _ _ q=>Qo _ q) (Qj _) (b4m s.heap I.big),rfl,h _ (I.hok.fresh (Qj _))⟩
end
def a7Q:List (TE×TE)→St→Hp→(List (V×V)→Hp→Prop)→Prop
 | [],_,H,Q=>Q [] H
 | (tk,tv)::r,σ,H,Q=>tk σ H fun x H1=>tv σ H1 fun y H2=>a7Q r σ H2 fun ps H3=>Q ((x,y)::ps) H3
abbrev VV:List (V×V)→List (Value×Value)→Prop:=Paired fun p q=>a0Q p.1 q.1∧a0Q p.2 q.2
def PPs (X:Cx) (pos:Pos) (keys:List (Option Expr)) (values:List Expr) (trs:List (TE×TE)):Prop:=
 ∀(pins:List (Addr×Obj)) (s:Shared) (σ:St) (H:Hp) (Q:List (V×V)→Hp→Prop),Inv X pins σ H s→a7Q trs σ H Q→
  wpAny (model X.prog X.w) X.A (evalPairs (pairTrees keys values X.env pos)) (fun vs s'=>∃ps H',Inv X pins σ H' s'∧VV ps vs∧Q ps H') X.xe s
theorem b7A {X:Cx} {pos:Pos}:PPs X pos [] [] []:=fun pins s σ H Q I h=>pairTrees_nil_walk ⟨[],H,I,.nil,h⟩
theorem b4d {X:Cx} {pos:Pos} {k v:Expr} {ks:List (Option Expr)} {vs:List Expr} {tk tv:TE} {trs:List (TE×TE)} (hk:PE X k tk) (hv:PE X v tv) (hr:PPs X pos ks vs trs):
  PPs X pos (some k::ks) (v::vs) ((tk,tv)::trs):=fun pins s σ H Q I h=>
 pairTrees_cons_walk (thn (hk pins s σ H _ I h) fun u s1 ⟨x,H1,I1,rx,q1⟩=>thn (hv pins s1 σ H1 _ I1 q1) fun w2 s2 ⟨y,H2,I2,ry,q2⟩=>
  thn (hr pins s2 σ H2 _ I2 q2) fun ws s3 ⟨ps,H3,I3,rel,q3⟩=>⟨(x,y)::ps,H3,I3,.cons ⟨rx,ry⟩ rel,q3⟩)
def a1u (kvs more:List (Key×V)):List (Key×V):=more.foldl (fun acc kv=>a2F acc kv.1 kv.2) kvs
theorem KV.merge:∀{more:List (Key×V)} {rs:List (Key×Value)} {kvs:List (Key×V)} {vs:List (Key×Value)},KV more rs→KV kvs vs→KV (a1u kvs more) (merged vs rs):=by
 intro more rs kvs vs r
 unfold KV at r
 induction r generalizing kvs vs with
 | nil=>intro q;exact q
 | @cons p q ps qs h t ih=>
  intro r0
  have e:KV (a2F kvs p.1 p.2) (stored vs q.1 q.2):=by
   have:=r0.put p.1 h.2
   rw [←h.1];exact this
  exact ih e
theorem a1z:∀(more kvs:List (Key×V)),(a1u kvs more).length≤kvs.length+more.length
 | [],kvs=>by show kvs.length≤kvs.length+0;omega
 | p::r,kvs=>by
  have h1:=a1z r (a2F kvs p.1 p.2)
  have h2:=a0K kvs p.1 p.2
  show (a1u (a2F kvs p.1 p.2) r).length≤_
  rw [Qm];omega
theorem a4N {P:Program} {w:World}:∀{kvs:List (Key×V)} {ws:List (Value×Value)},VV (kvs.map fun kv=>(kV kv.1,kv.2)) ws→∃rs,Carries (a0m P w) ws rs∧KV kvs rs
 | [],_,r=>by rw [Jg] at r;cases r;exact ⟨[],True.intro,.nil⟩
 | p::kvs,_,r=>by
  rw [Xk] at r
  cases r with
  | @cons a b as bs h t=>
   obtain ⟨rs,c,q⟩:=a4N (P:=P) (w:=w) t
   obtain ⟨b1,b2⟩:=b
   exact ⟨(p.1,b2)::rs,⟨a6z h.1,rfl,c⟩,.cons ⟨rfl,h.2⟩ q⟩
def c0K (trs:List (TE×TE)):TE:=fun σ H Q=>∀p,H p=none→a7Q trs σ (upd H p (.dK [])) fun ps H2=>H2 p=some (.dK [])∧∃kvs:List (Key×V),ps=kvs.map (fun kv=>(kV kv.1,kv.2))∧kvs.length≤15∧Q (.ref p) (upd H2 p (.dK (a1u [] kvs)))
theorem b6R {X:Cx} {pos:Pos} {keys:List (Option Expr)} {values:List Expr} {trs:List (TE×TE)} (h:PPs X pos keys values trs) (hall:keys.all (·.isSome)=true) (hl:keys.length=values.length) (h0:keys≠[])
  (h15:keys.length≤15):PE X (.Dict keys values pos) (c0K trs):=by
 intro pins s σ H Q I q
 have hn:=I.hok.fresh (Qj s.heap.objs.size)
 have I1:=I.laid (a:=s.heap.objs.size) (o:=.dK []) (h':=s.heap.push {cls:=.type "dict",data:=.dict #[]}) (t':=s.toks) (fun _ _ q=>Qo _ q) (Qj _) (a8w s.heap I.big)
 refine wpAny_Dict_walk (knd:=a0m X.prog X.w) hall hl h0 h15 (thn (h pins _ σ _ _ I1 (q _ hn)) fun ws s2 ⟨ps,H2,I2,rel,e,kvs,ep,lk,q2⟩=>?_)
 subst ep
 obtain ⟨rs,c,rk⟩:=a4N (P:=X.prog) (w:=X.w) rel
 obtain ⟨z,hd,vs0,r0,dd⟩:=a6n I2.hok e
 cases r0
 refine ⟨rs,c,dd,fun h' dd' hs=>⟨.ref s.heap.objs.size,_,?_,rfl,q2⟩⟩
 have hz:(a1u [] kvs).length≤sizeLine:=by
  have h1:=a1z kvs []
  rw [Qr] at h1
  rw [sizeLine_eq];omega
 have he:∃q,h'.get? s.heap.objs.size=some q:=let ⟨q,_,_,hq,_⟩:=dd';⟨q,hq⟩
 exact a4z I2 (by rw [e];exact True.intro) hs he (a8i hz hd (rk.merge .nil) dd')
structure M2 (X:Cx) (o:Expr) (m:Str) (apos:Pos) (e f:Expr) (cpos:Pos):Prop where
 base:attributeBase o m X.env (eval o X.env)=eval o X.env
 few:((backTo cpos (starEach [e,f] X.env)).all (fun x=>!x.1) && (backToKw cpos (keywordEach [] X.env)).all (fun x=>x.1.isSome)
  && decide (([e,f]:List Expr).length+([]:List Keyword).length+(if ([]:List Keyword).isEmpty then 0 else 1) < 30))=true
 line:(apos.endLine == cpos.line)=true
 trees:backTo cpos (starEach [e,f] X.env)=[(false,eval e X.env),(false,eval f X.env)]
def IsD (H:Hp) (a:Addr):Prop:=(∃kvs,Rd H a (.dK kvs))∨∃kvs,Rd H a (.dT kvs)
theorem b0g {X:Cx} {pins:List (Addr×Obj)} {σ:St} {H:Hp} {s:Shared} {a:Addr} (I:Inv X pins σ H s) (d:IsD H a):
  s.TypeIs (.ref a) "dict"∧(∀b,Value.ref a=.ref b→∃ob,s.heap.get? b=some ob∧ob.dict=none)∧(a == sysModules)=false:=by
 rcases d with ⟨kvs,e⟩ | ⟨kvs,e⟩
 ·obtain ⟨_,hd,vs,_,dd⟩:=a4t I.hok e
  refine ⟨dd.typeIs,fun b q=>?_,hd⟩
  cases q
  obtain ⟨ob,_,_,h1,h2,_⟩:=dd
  exact ⟨ob,h1,h2.2.1⟩
 ·obtain ⟨_,hd,xs,_,dd⟩:=a6W I.hok e
  refine ⟨dd.typeIs,fun b q=>?_,hd⟩
  cases q
  obtain ⟨ob,_,_,h1,h2,_⟩:=dd
  exact ⟨ob,h1,h2.2.1⟩
section
variable {X:Cx} {pins:List (Addr×Obj)} {σ:St} {H:Hp} {s:Shared} {a:Addr} {y d:V} {u r:Value} {o:Option V} {A:Around} {E:Value→Shared→Prop}
theorem b8Z {Q:Value→Shared→Prop} (hu:A.units+1 < cLine) (I:Inv X pins σ H s) (g:a2w H a y o) (ry:a0Q y u) (rd:a0Q d r) (h:∀w' s',Inv X pins σ H s'→a0Q (o.getD d) w'→Q w' s'):
  wpAny (model X.prog X.w) A (call (.builtin "dict.get") [.ref a,u,r]) Q E s:=by
 rcases g with ⟨kvs,k,e,ey,l⟩ | ⟨kvs,k,b,e,ey,eb,l⟩
 ·subst ey
  obtain ⟨z,hd,vs,rel,dd⟩:=a4t I.hok e
  refine call_meetsIn Uq dd.typeIs Wm (We _ _ _) (meets_dict_get_default (a0m X.prog X.w) a (a6z ry) hd r) ⟨_,dd.mapOf,h _ _ (I.tok _) ?_⟩
  rw [l]
  exact (rel.val k).getD rd
 ·subst ey
  cases (show u=Value.ref b from ry)
  obtain ⟨z,hd,xs,rel,dd⟩:=a6W I.hok e
  refine call_meetsIn Uq dd.typeIs Wm (We _ _ _) (meetsH_dict_get_default (tupleKind (a0m X.prog X.w)) a b hd r) ⟨tupleKind_room_in1 hu,k,xs,a4I I.hok eb,dd,h _ _ (I.tok _) ?_⟩
  rw [l]
  exact (rel.val k).getD rd
end
def a3C (td ty tx:TE):TE:=fun σ H Q=>td σ H fun x H1=>∃a,x=.ref a∧IsD H1 a∧ty σ H1 fun y H2=>tx σ H2 fun z H3=>∃o,a2w H3 a y o∧Q (o.getD z) H3
section
variable {X:Cx} {o e f:Expr} {apos cpos:Pos} {td ty tx:TE}
theorem b3l (hu:X.A.units+1 < cLine) (ho:PE X o td) (he:PE X e ty) (hf:PE X f tx) (m:M2 X o "get" apos e f cpos):PE X (.Call (.Attribute o "get" apos) [e,f] [] cpos) (a3C td ty tx):=by
 intro pins s σ H Q I h
 refine wpAny_Call_method m.base m.few m.line Zy Uq PySem.F.type_dict_get (thn (ho pins s σ H _ I h) fun u s1 ⟨x,H1,I1,rx,a,ex,d,q1⟩=>?_)
 subst ex
 obtain rfl:u=Value.ref a:=rx
 obtain ⟨t1,t2,_⟩:=b0g I1 d
 refine ⟨t1,t2,?_⟩
 rw [m.trees]
 refine Calls.callWith_builtin rfl (Calls.evalArgs_plain (Calls.spliced_cons (thn (he pins s1 σ H1 _ I1 q1) fun iv s2 ⟨y,H2,I2,ry,q2⟩=>
  Calls.spliced_cons (thn (hf pins s2 σ H2 _ I2 q2) fun fv s3 ⟨z,H3,I3,rz,ov,g,q3⟩=>Calls.spliced_nil ?_))))
 exact b8Z hu I3 g ry rz fun w' s4 I4 rw'=>⟨_,H3,I4,rw',q3⟩
end
end L2
namespace Att
open PySem PySem.W PySem.Calls PyProof.Rows
theorem a4a {P:Params} {h:Heap}:∀(ns:List Int) (vs:List Value),WellAll P h vs (ns.map WData.int)→IntsAre vs ns:=by
 intro ns
 induction ns with
 | nil=>
  intro vs w
  rw [Jg] at w
  cases w
  exact .nil
 | cons n ns ih=>
  intro vs w
  rw [Xk] at w
  cases w with
  | cons a b=>
   cases a
   exact .cons _ _ (ih _ b)
theorem b2L {l:OpenLaw} {n:Nat} (hn:l.most=some n) {P:Params} {h:Heap} {args:List WData} {vals:List Value}
  (hpre:l.row.toRowW.claim.pre args=true) (hwl:WellAll P h vals args):
  ∃a vs ns,vals=[Value.ref a]∧args=[WData.list (ns.map WData.int)]∧h.get? a=some {cls:=.type "list",data:=.seq vs.toArray}∧IntsAre vs ns∧ns.length≤n:=by
 have hsh:WShape.hasAll [] args [.list .int]=true:=(pre_splitW hpre).1
 have hc:l.pre.holds [] {args:=args}=true:=(pre_splitW hpre).2
 obtain ⟨d,r,rfl,h1,h2⟩:=hasAllW_cons hsh
 obtain rfl:=hasAllW_nil h2
 obtain ⟨xs,rfl,h3⟩:=hasW_list h1
 obtain ⟨ns,rfl⟩:=items_int h3
 have hlen:ns.length≤n:=by
  unfold OpenLaw.pre at hc
  have h4:(WTm.not (.lt (.lit (.int (n:Int))) (.len (.arg 0)))).holds [] {args:=[.list (ns.map .int)]}=true:=by
   have h4:=(holds_andW hc).1
   rw [hn] at h4
   exact h4
  have h5:=condW_of h4 (w_not (w_lt w_lit (w_len_list (w_arg rfl))))
  rw [Qd] at h5
  refine Nat.le_of_not_lt fun q=>?_
  have q':(n:Int) < ((ns.length:Nat):Int):=by omega
  first
   | (rw [decide_eq_true q'] at h5;exact absurd h5 ‹dc›)
   | (simp at h5;omega)
 cases hwl with
 | cons w1 w2=>
  cases w2
  cases w1 with
  | list ho hall=>exact ⟨_,_,ns,rfl,rfl,ho,a4a ns _ hall,hlen⟩
theorem b1q (l:OpenLaw) (args:List WData):l.row.toRowW.claim.post args (.bool true) args=true:=
 postW_of (r:=l.row.toRowW) (X:=(true == true))
  (show WShape.has [] (.bool true) .bool=true by first | rfl | decide | simp [WShape.has,WShape.arms,WShape.armsAll])
  (show (WTm.eq .res (.lit (.bool true))).value [] {args:=args,res:=some (.bool true),after:=args}=some (.bool (true == true)) from w_eq_bool (w_res rfl) w_lit) rfl
theorem attach_call {l:OpenLaw} {n:Nat} {q:Program} {loose:List Str} {XP:(Str→Option Value)→Heap→Prop} {YP:World→Heap→Prop} {d:DefRec}
  (hn:l.most=some n) (hdf:d.params.defaults=[])
  (call:∀(w:World) (s₀ s₁:Shared) (mg mb:Str→Option Value) (fa:Addr) (o:Obj) (pm cd doc:Value) (a:Addr) (vs:List Value) (ns:List Int),
   Ground q loose [] XP w s₀ mg mb s₁.heap→YP w s₁.heap→
   s₁.heap.get? fa=some o→o.data=.func (docDef d.name d.params d.body d.scope pm cd doc)→s₁.heap.CodeRec cd d.name→mg d.name=some (.ref fa)→
   s₁.heap.get? a=some {cls:=.type "list",data:=.seq vs.toArray}→IntsAre vs ns→ns.length≤n→s₁.gens=#[]→
   codeAny (model l.prog w) callerA (.call (.ref fa) ⟨[.ref a],[]⟩) (fun r s'=>r=.ok (.ret (.bool true))∧OldK s₁.heap s'.heap∧s'.os=s₁.os∧AllBare s'.gens) s₁):
  WalkO q loose XP YP l.row.toRowW d [] (fun f vs=>PySem.call f vs):=by
 intro w s₀ s₁ mg mb G Y fa o pm cd doc dV kV ho hd hcd hD hmg hg args vals as hpre hlay hrd hwl hlo
 obtain rfl:dV=.none:=Dflts.none hD hdf
 obtain rfl:kV=.none:=Dflts.noKw hD
 obtain ⟨a,vs,ns,rfl,rfl,hobj,hints,hlen⟩:=b2L hn hpre hwl
 refine enter_call (codeAny_mono (call w s₀ s₁ mg mb fa o pm cd doc a vs ns G Y ho (fd_plain hd) hcd hmg hobj hints hlen hg) fun r s' hq=>?_)
 obtain ⟨rfl,h2,h3,h4⟩:=hq
 exact ⟨.inl ⟨.bool true,.bool true,[],rfl,fun _=>rfl,.bool true,b1q l _,fun _=>⟨Gb.nil,fun _ hm=>(nomatch hm)⟩⟩,h2,h3,h4⟩
end Att
namespace L2
open PySem PySem.Spec PyProof.Rows
theorem a6k:∀{vs:List Value} {ns:List Int},IntsAre vs ns→a0Y (ns.map V.int) vs
 | _,_,.nil=>.nil
 | _,_,.cons n t h=>.cons ⟨t,rfl⟩ (a6k h)
abbrev KOf {K:Qe} {h:Heap} (_:K.In h):Qe:=K












abbrev CX0:CXT:=fun _ _ _ _ _ _=>False
abbrev E0:XK:=fun _ _ _=>False
theorem a9Z {X:Cx}:a3z CX0 X E0:=fun _ _ _ _ _ _ _ h=>h.elim
structure Fun (K:Qe) (x qual:Str) (st:Stmt) (f:Addr) (fd:FuncData):Prop where
 ex:∃(oc:Value) (od:Option Addr) (kV doc pm:Value) (an:Option Addr) (cdv ct:Value) (osl:Array (Option Value)),
  fd=Zb x qual (a2c st) (a1w st) (a0c st) .none kV doc pm an cdv ct∧K.lookup f=some ⟨oc,od,.func fd,osl⟩∧Ju K cdv qual=true
 kp:Zo K (.ref f)=true
section
variable {P:Program} {w:World} {K:Qe} {mg:Str→Option Value} {base:Heap}
theorem Fun.ok {x qual:Str} {st:Stmt} {f:Addr} {fd:FuncData} {N ps:List Str} {k:Nat} {sp:Sp} (F:Fun K x qual st f fd) (S:a0f N ps (a0c st)) (len:∀vs H Q E,sp vs H Q E→vs.length=ps.length)
  (hbody:∀(cdv:Value) (A:Around) (outer:List Env) (s:Shared) (H:Hp) (vs:List V) (Q:VK) (E:XK),a2x k (A.deeper (envOfC qual (a0c st) s.heap.objs.size f cdv))→sp vs H Q E→
   ∃t,PSs (b5g CX0 P w K mg base N qual (a0c st) f cdv A outer s H E).nox (a1w st) t∧t {nx:=fun _ H'=>Q .non H',rt:=Q} (start N vs) H):a0R P w K mg base CX0 (k+1) f fd ps sp:=by
 obtain ⟨oc,od,kV,doc,pm,an,cdv,ct,osl,rfl,lk,hcd⟩:=F.ex
 refine b6q lk hcd S len fun A outer s H vs Q E hr hsp=>?_
 obtain ⟨t,h,q⟩:=hbody cdv A outer s H vs Q E hr hsp
 exact ⟨t,h.nox,q⟩
theorem c1E {x qual:Str} {st:Stmt} {f:Addr} {oc:Value} {od an:Option Addr} {osl:Array (Option Value)} {kV doc pm cdv ct:Value} (l:K.lookup f=some ⟨oc,od,.func (Zb x qual (a2c st) (a1w st) (a0c st) .none kV doc pm an cdv ct),osl⟩)
  (c:Ju K cdv qual=true) (k:Zo K (.ref f)=true):Fun K x qual st f (Zb x qual (a2c st) (a1w st) (a0c st) .none kV doc pm an cdv ct):=⟨⟨oc,od,kV,doc,pm,an,cdv,ct,osl,rfl,l,c⟩,k⟩
end
theorem a2k {A:Around} {k:Nat} (hr:a2x k A):A.units+1 < cLine:=Xj (Nat.add_le_add_left (by decide:1≤64) _) hr.units
section
variable {X:Cx}
theorem pv (i:Nat) {x:Str} {pos:Pos} (hN:X.N[i]?=some x:=by rfl) (hv:Vis X.env.scope x:=by first | exact Or.inl rfl | exact Or.inr (Or.inl rfl) | exact Or.inr (Or.inr rfl)) (hd:(x == ("__debug__":Str))=false:=by decide)
  (hcd:(x == ("__classdict__":Str))=false:=by decide):PE X (.Name x pos) (a0k i):=b9L hN hv hd hcd
end
theorem a1Q {c A B:Prop} [Decidable c] (h1:c→A) (h2:¬c→B):if c then A else B:=by
 by_cases h:c
 ·rw [if_pos h]
  exact h1 h
 ·rw [if_neg h]
  exact h2 h
def a0h (H H':Hp):Prop:=∀b o,H b=some o→H' b=some o
theorem a0h.refl (H:Hp):a0h H H:=fun _ _ h=>h
theorem a0h.trans {H H1 H2:Hp} (a:a0h H H1) (b:a0h H1 H2):a0h H H2:=fun c o h=>b c o (a c o h)
theorem a0h.free {H H':Hp} (e:a0h H H') {l:Addr} (h:H' l=Option.none):H l=Option.none:=by
 cases q:H l with
 | none=>rfl
 | some o=>
  rw [e l o q] at h
  cases h
theorem a0h.seq {K:Qe} {H H':Hp} {a:Addr} {xs:List V} (e:a0h H H') (h:SqL K H a xs):SqL K H' a xs:=by
 rcases h with (h | ⟨o,h⟩) | h
 ·exact .inl (.inl (e _ _ h))
 ·exact .inl (.inr ⟨o,e _ _ h⟩)
 ·exact .inr h
section
variable {X:Cx}
theorem b0i:a1C X (.builtin "len") (fun xs H Q=>∃a kvs,xs=[V.ref a]∧H a=some (.dK kvs)∧Q (.int kvs.length) H):=by
 intro pins s σ H xs us Q I r h
 obtain ⟨a,kvs,rfl,ha,q⟩:=h
 obtain ⟨u,rfl,ru⟩:=a3u r
 cases ru
 exact c3l I (.inl ha) fun t s' I'=>⟨.int kvs.length,H,I',⟨t,rfl⟩,q⟩
end
end L2
namespace Tx
open PySem PySem.Builtin PySem.Builtin.Str PySem.StrLaws PyProof.Rows
abbrev mk (l:List Nat):Str:=⟨l.toArray⟩
theorem b9q (x:Str):mk x.cps.toList=x:=by obtain ⟨⟨l⟩⟩:=x;rfl
theorem a0A (l:List Nat):(mk l).length=l.length:=by show l.toArray.size=_;simp
theorem a2E (a b:List Nat):mk a++mk b=mk (a++b):=by
 show (⟨a.toArray++b.toArray⟩:Str)=_
 simp
theorem a5V {a b:List Nat} (h:mk a=mk b):a=b:=by simpa [mk] using h
theorem b0S (l:List Nat) (c i:Nat):subAt (mk l) (mk [c]) i=decide (l[i]?=some c):=by
 rw [subAt_eq]
 show ((l.drop i).take 1 == [c])=_
 cases e:l[i]? with
 | none=>
  have:l.drop i=[]:=List.drop_eq_nil_of_le (by simpa using e)
  rw [this];simp
 | some d=>
  have hi:=(Qn.mp e)
  obtain ⟨h1,h2⟩:=hi
  rw [List.drop_eq_getElem_cons h1,h2]
  show (d == c && true)=decide (some d=some c)
  by_cases z:d=c
  ·subst z;simp
  ·simp [z]
theorem c0W (l:List Nat) (i j:Nat):strSub (mk l) i j=mk ((l.drop i).take (j - i)):=by
 rw [←b9q (strSub (mk l) i j),strSub_toList]
theorem a9h (c:Nat) (l:List Nat):Jv (mk l) (mk [c])=decide (l[0]?=some c):=by
 unfold Jv
 rw [b0S,a0A,a0A]
 cases l with
 | nil=>rfl
 | cons d r=>simp
theorem a9E (l:List Nat) {i:Int} (h0:0≤i) (h1:i≤l.length):Ve (mk l) (some i) none=mk (l.drop i.toNat):=by
 have:=slice_closes_fromL (x:=mk l) (b:=l.length) h0 (by rw [a0A];exact h1) (by rw [a0A])
 have e:=eq_of_beq this
 rw [e]
 simp
 rw [List.take_of_length_le]
 rw [Jw];omega
end Tx
namespace L2
open PySem PySem.Spec PyProof.Rows
abbrev NoE:Value→Shared→Prop:=fun _ _=>False
section
variable {prog:Program} {w:World} {A:Around} {R:Result→Shared→Prop} {s:Shared}
theorem a6j {elt target iter:Expr} {ifs:List Expr} {scope:Scope} {pos:Pos} {it acc:Value} {env:Env} (I:Nat→Shared→Prop)
  (turn:∀n s,I n s→wpAny (model prog w) A (pyNext it) (fun r s₁=>match r with
   | none=>R (.ok .next) s₁
   | some v=>wpAny (model prog w) A (letOwnedTupleGo target it v) (fun _ s₂=>wpAny (model prog w) A (assign target env v) (fun _ s₃=>
     wpAny (model prog w) A (forIn ifs true fun c r=>if r=true then do let ok ←isTrue c env (eval c env);pure (ForInStep.yield ok) else pure (ForInStep.yield r)) (fun ok s₄=>
      if ok=true then wpAny (model prog w) A (eval elt env) (fun x s₅=>wpAny (model prog w) A (call (.builtin "list.append") [acc,x]) (fun _ s₆=>∃m,m < n∧I m s₆) NoE s₅) NoE s₄
      else ∃m,m < n∧I m s₄) NoE s₃) NoE s₂) NoE s₁) NoE s)
  (n:Nat) (h:I n s):codeAny (model prog w) A (.compLoop (.ListComp elt [⟨target,iter,ifs,0⟩] scope pos) 0 it acc env) R s:=by
 refine codeAny_loop rfl I (fun n s hI=>?_) n h
 show wpAny _ A ((compTurn (.ListComp elt [⟨target,iter,ifs,0⟩] scope pos) 0 it acc env).onRaise (fun x=>do noteFrame x env;theTreesLotGoes x)) _ _ s
 refine wpAny_noted ?_
 rw [compTurn_list]
 refine wpAny_noRaise ?_
 refine wpAny_bind (wpAny_standAt (wpAny_bind (wpAny_mono (turn n s hI) (fun r s₁ h₁=>?_) fun _ _ h'=>h')))
 cases r with
 | none=>exact wpAny_pure h₁
 | some v=>
  refine wpAny_bind (wpAny_mono h₁ (fun _ s₂ h₂=>wpAny_bind (wpAny_mono h₂ (fun _ s₃ h₃=>wpAny_bind (wpAny_mono h₃ (fun ok s₄ h₄=>?_) fun _ _ h'=>h')) fun _ _ h'=>h')) fun _ _ h'=>h')
  cases ok with
  | false=>exact wpAny_pure ⟨rfl,h₄⟩
  | true=>exact wpAny_bind (wpAny_bind (wpAny_mono h₄ (fun x s₅ h₅=>wpAny_bind (wpAny_mono h₅ (fun _ s₆ h₆=>wpAny_pure (wpAny_pure ⟨rfl,h₆⟩)) fun _ _ h'=>h')) fun _ _ h'=>h'))
end
def a2u (env:Env):List (Str×NameKind)→List (Str×Addr)→List (Str×Addr)
 | [],cs=>cs
 | (n,k)::r,cs=>a2u env r (if (k == NameKind.free)=true then (n,(env.cells.lookup n).getD 0)::cs else cs)
theorem a1X {scope:Scope} {env:Env} (h:∀y∈scope.names,y.2=NameKind.free→∃c,env.cells.lookup y.1=some c):closureFor scope env=pure (a2u env scope.names []):=by
 have all:∀(l:List (Str×NameKind)) (cs:List (Str×Addr)),(∀y∈l,y.2=NameKind.free→∃c,env.cells.lookup y.1=some c)→
   (forIn l cs fun (x:Str×NameKind) (cs:List (Str×Addr))=>(if (x.2 == NameKind.free)=true then do let a ←cellOf env x.1;pure (ForInStep.yield ((x.1,a)::cs)) else pure (ForInStep.yield cs):Sem (ForInStep (List (Str×Addr)))))=pure (a2u env l cs):=by
  intro l
  induction l with
  | nil=>intro cs _;rfl
  | cons y l ih=>
   intro cs hy
   obtain ⟨n,k⟩:=y
   rw [List.forIn_cons]
   by_cases hk:(k == NameKind.free)=true
   ·obtain ⟨c,hc⟩:=hy (n,k) Qq (by simpa using hk)
    have e1:cellOf env n=pure c:=by unfold cellOf;rw [hc]
    have e2:a2u env ((n,k)::l) cs=a2u env l ((n,c)::cs):=by
     show a2u env l (if (k == NameKind.free)=true then (n,(env.cells.lookup n).getD 0)::cs else cs)=_
     rw [if_pos hk,hc];rfl
    rw [e2,←ih ((n,c)::cs) fun z hz=>hy z (Qt _ hz)]
    simp only [hk,if_true,e1,pure_bind]
   ·have e2:a2u env ((n,k)::l) cs=a2u env l cs:=by
     show a2u env l (if (k == NameKind.free)=true then (n,(env.cells.lookup n).getD 0)::cs else cs)=_
     rw [if_neg hk]
    rw [e2,←ih cs fun z hz=>hy z (Qt _ hz)]
    have hk':(k == NameKind.free)=false:=by simpa using hk
    simp only [hk',Zp,if_false,pure_bind]
 have e:=all scope.names [] h
 unfold closureFor
 first
  | (rw [show (pure (a2u env scope.names []):Sem (List (Str×Addr)))=(pure (a2u env scope.names []) >>= fun cs=>pure cs) from rfl,←e];rfl)
  | (simp only [bind_pure];exact e)
  | (simpa using e)
theorem a4y {env:Env} {x:Str} {c:Addr}:∀{l:List (Str×NameKind)} {cs:List (Str×Addr)},(∀y∈l,y.2=NameKind.free→∃c,env.cells.lookup y.1=some c)→
  (∀y d,cs.lookup y=some d→env.cells.lookup y=some d)→(a2u env l cs).lookup x=some c→env.cells.lookup x=some c
 | [],_,_,hc,h=>hc x c h
 | (n,k)::r,cs,hy,hc,h=>by
  refine a4y (l:=r) (cs:=if (k == NameKind.free)=true then (n,(env.cells.lookup n).getD 0)::cs else cs) (fun z hz=>hy z (Qt _ hz)) (fun y d q=>?_) h
  by_cases hk:(k == NameKind.free)=true
  ·rw [if_pos hk] at q
   obtain ⟨c',hc'⟩:=hy (n,k) Qq (by simpa using hk)
   rw [hc',Yl] at q
   by_cases e:(y == n)=true
   ·rw [e] at q
    have e':y=n:=by simpa using e
    rw [e',hc'];exact q
   ·have e':(y == n)=false:=by simpa using e
    rw [e'] at q
    exact hc y d q
  ·rw [if_neg hk] at q
   exact hc y d q
theorem a3m {env:Env} {x:Str}:∀{l:List (Str×NameKind)} {cs:List (Str×Addr)},((x,NameKind.free)∈l∨∃c,cs.lookup x=some c)→∃c,(a2u env l cs).lookup x=some c
 | [],_,h=>by
  rcases h with h | h
  ·cases h
  ·exact h
 | (n,k)::r,cs,h=>by
  refine a3m (l:=r) (cs:=if (k == NameKind.free)=true then (n,(env.cells.lookup n).getD 0)::cs else cs) ?_
  rcases h with h | ⟨c,h⟩
  ·rcases Qw.mp h with e | e
   ·cases e
    refine .inr ?_
    rw [if_pos (by rfl),Yl,beq_self_eq_true]
    exact ⟨_,rfl⟩
   ·exact .inl e
  ·refine .inr ?_
   by_cases hk:(k == NameKind.free)=true
   ·rw [if_pos hk,Yl]
    by_cases e:(x == n)=true
    ·rw [e];exact ⟨_,rfl⟩
    ·have e':(x == n)=false:=by simpa using e
     rw [e'];exact ⟨c,h⟩
   ·rw [if_neg hk];exact ⟨c,h⟩
theorem a2b {env:Env}:∀{names:List (Str×NameKind)} {x:Str},names.lookup x=some .free→
  (names.map fun (n,k)=>if (k == NameKind.free && env.scope.kind == .function && env.kindOf n == some .cell) then (n,NameKind.cell) else (n,k)).lookup x=some .cell∨
  (names.map fun (n,k)=>if (k == NameKind.free && env.scope.kind == .function && env.kindOf n == some .cell) then (n,NameKind.cell) else (n,k)).lookup x=some .free
 | [],_,h=>by simp at h
 | (n,k)::r,x,h=>by
  have ih:=@a2b env r x
  rw [Xk]
  show Jl x ((if (k == NameKind.free && env.scope.kind == .function && env.kindOf n == some .cell)=true then (n,NameKind.cell) else (n,k))::_)=_∨Jl x ((if (k == NameKind.free && env.scope.kind == .function && env.kindOf n == some .cell)=true then (n,NameKind.cell) else (n,k))::_)=_
  cases hx:x == n with
  | true=>
   simp only [Yl,hx] at h
   cases h
   by_cases hc:(NameKind.free == NameKind.free && env.scope.kind == .function && env.kindOf n == some .cell)=true
   ·rw [if_pos hc];exact .inl (by simp only [Yl,hx])
   ·rw [if_neg hc];exact .inr (by simp only [Yl,hx])
  | false=>
   simp only [Yl,hx] at h
   by_cases hc:(k == NameKind.free && env.scope.kind == .function && env.kindOf n == some .cell)=true
   ·rw [if_pos hc];simp only [Yl,hx];exact ih h
   ·rw [if_neg hc];simp only [Yl,hx];exact ih h
theorem a4L {env:Env}:∀{names:List (Str×NameKind)} {x:Str},(∀y∈names,y.2≠NameKind.cell)→
  ((names.map fun (n,k)=>if (k == NameKind.free && env.scope.kind == .function && env.kindOf n == some .cell) then (n,NameKind.cell) else (n,k)).lookup x=some .cell∨
  (names.map fun (n,k)=>if (k == NameKind.free && env.scope.kind == .function && env.kindOf n == some .cell) then (n,NameKind.cell) else (n,k)).lookup x=some .free)→(x,NameKind.free)∈names
 | [],_,_,h=>by rcases h with h | h<;>simp at h
 | (n,k)::r,x,hn,h=>by
  have ih:=@a4L env r x fun y hy=>hn y (Qt _ hy)
  have hk:=hn (n,k) Qq
  rw [Xk] at h
  by_cases hc:(k == NameKind.free && env.scope.kind == .function && env.kindOf n == some .cell)=true
  ·have hk1:k=NameKind.free:=by
    rw [Xq,Xq] at hc
    simpa using hc.1.1
   simp only [hc,if_true,Yl] at h
   cases hx:x == n with
   | true=>have e:x=n:=(by simpa using hx);rw [e,hk1];exact Qq
   | false=>rw [hx] at h;exact Qt _ (ih h)
  ·have hc':(k == NameKind.free && env.scope.kind == .function && env.kindOf n == some .cell)=false:=by simpa using hc
   simp only [hc',Zp,if_false,Yl] at h
   cases hx:x == n with
   | true=>
    rw [hx] at h
    have e:x=n:=by simpa using hx
    rcases h with h | h
    ·exact absurd (Option.some.inj h) hk
    ·rw [e,Option.some.inj h];exact Qq
   | false=>rw [hx] at h;exact Qt _ (ih h)
def a1D (X:Cx) (Nc:List Str) (scope:Scope) (cl:List (Str×Addr)) (C:Addr) (s:Shared) (H:Hp) (ex:List Addr):Cx where
 prog:=X.prog
 w:=X.w
 K:=X.K
 mg:=X.mg
 base:=X.base
 A:=X.A
 N:=Nc
 s₀:=s
 H₀:=H
 env:=compEnvC scope cl C X.env
 outer:=X.stack
 stack:=X.stack
 ex:=ex
 fn:=fun _=>false
 calm:=X.calm
 pn:=[]
 xe:=NoE
def a1H (js:List (Option Nat)) (σ:St):St:=js.map fun o=>match o with
 | none=>none
 | some j=>(σ[j]?).getD none
structure a3D (X:Cx) (Nc:List Str) (js:List (Option Nat)) (scope:Scope):Prop where
 kind:scope.kind=.function
 nocell:∀y∈scope.names,y.2≠NameKind.cell
 names:∀y∈scope.names,y.2=NameKind.local→scope.names.lookup y.1=some NameKind.local
 free:∀y∈scope.names,y.2=NameKind.free→X.env.kindOf y.1=some NameKind.cell∨X.env.kindOf y.1=some NameKind.free
 len:js.length=Nc.length
 map:∀(i:Nat) (y:Str) (j:Nat),Nc[i]?=some y→js[i]?=some (some j)→X.N[j]?=some y∧scope.names.lookup y=some NameKind.free
def b8P (sc:Scope) (N Nc:List Str) (js:List (Option Nat)) (scope:Scope):Bool:=
 scope.kind == .function && scope.names.all (fun y=>y.2 != NameKind.cell) && scope.names.all (fun y=>y.2 != NameKind.local || scope.names.lookup y.1 == some NameKind.local) &&
 scope.names.all (fun y=>y.2 != NameKind.free || sc.names.lookup y.1 == some NameKind.cell || sc.names.lookup y.1 == some NameKind.free) && js.length == Nc.length &&
 (Nc.zip js).all (fun p=>match p.2 with | none=>true | some j=>N[j]? == some p.1 && scope.names.lookup p.1 == some NameKind.free)
theorem b0t {X:Cx} {sc:Scope} {N Nc:List Str} {js:List (Option Nat)} {scope:Scope} (hsc:X.env.scope=sc) (hN:X.N=N) (h:b8P sc N Nc js scope=true):a3D X Nc js scope:=by
 unfold b8P at h
 rw [Xq,Xq,Xq,Xq,Xq] at h
 obtain ⟨⟨⟨⟨⟨h1,h2⟩,h3⟩,h4⟩,h5⟩,h6⟩:=h
 rw [Zm] at h2 h3 h4 h6
 have h5':js.length=Nc.length:=by simpa using h5
 refine ⟨by simpa using h1,fun y hy=>by simpa using h2 y hy,fun y hy e=>?_,fun y hy e=>?_,h5',fun i y j e1 e2=>?_⟩
 ·have q:=h3 y hy
  rw [e] at q
  simpa using q
 ·have q:=h4 y hy
  rw [e] at q
  show X.env.scope.names.lookup y.1=_∨X.env.scope.names.lookup y.1=_
  rw [hsc]
  simpa using q
 ·have hm:(y,some j)∈Nc.zip js:=by
   refine Wx (i:=i) ?_
   rw [List.getElem?_zip_eq_some]
   exact ⟨e1,e2⟩
  have q:=h6 _ hm
  simp only [Xq,beq_iff_eq] at q
  rw [hN]
  exact q
def PTs (X:Cx) (ifs:List Expr) (t:TT):Prop:=
 ∀(pins:List (Addr×Obj)) (s:Shared) (σ:St) (H:Hp) (Q:Bool→Hp→Prop),Inv X pins σ H s→t σ H Q→
  wpAny (model X.prog X.w) X.A (forIn ifs true fun c r=>if r=true then do let ok ←isTrue c X.env (eval c X.env);pure (ForInStep.yield ok) else pure (ForInStep.yield r)) (TP X pins σ Q) X.xe s
def b4z:TT:=fun _ H Q=>Q true H
theorem b6I {X:Cx}:PTs X [] b4z:=fun pins s σ H Q I h=>wpAny_tests_nil ⟨H,I,h⟩
theorem b7p {X:Cx} {c:Expr} {t:TT} (hc:PT X c t):PTs X [c] t:=fun pins s σ H Q I h=>wpAny_tests_one (hc pins s σ H Q I h)
def b2C (js:List (Option Nat)) (wi:TI) (g:TG) (tt:TT) (te:TE):TE:=fun σ H Q=>wi σ H fun J H1=>∀D,H1 D=none→∃W:Nat→Nat→St→Hp→List V→Prop,(∃m,W 0 m (a1H js σ) (upd H1 D (.lst [])) [])∧
 ∀i m σ' H' ys,W i m σ' H' ys→H' D=some (.lst ys)∧((J.stop i H'∧Q (.ref D) H')∨(J.go i H'∧ys.length < sizeLine∧∀x H2,J.yld i H' x H2→g x σ' H2 fun σ2 H3=>tt σ2 H3 fun b H4=>
  if b=true then te σ2 H4 fun v H5=>H5 D=some (.lst ys)∧∃m',m' < m∧W (i+1) m' σ2 (upd H5 D (.lst (ys++[v]))) (ys++[v]) else ∃m',m' < m∧W (i+1) m' σ2 H4 ys))
section
variable {X:Cx} {elt target iter:Expr} {ifs:List Expr} {scope:Scope} {pos:Pos} {Nc:List Str} {js:List (Option Nat)} {wi:TI} {g:TG} {tt:TT} {te:TE}
theorem a4S {pins:List (Addr×Obj)} {σ:St} {H2:Hp} {s₂:Shared} {E:Value→Shared→Prop} {it:Addr} {fp:List Addr} {tn:Nat→Heap→Prop} {J:It} {Q:VK} {RR:Value→Addr→Result→Shared→Prop} (ok:a3D X Nc js scope) (hc:X.calm=true)
  (hg:∀C cl s H ex,PG (a1D X Nc scope cl C s H ex) target g) (ht:∀C cl s H ex,PTs (a1D X Nc scope cl C s H ex) ifs tt) (he:∀C cl s H ex,PE (a1D X Nc scope cl C s H ex) elt te)
  (I2:Inv X pins σ H2 s₂) (T:b4W X.prog X.w X.K target J fp it tn) (st2:tn 0 s₂.heap) (f2:∀b∈fp,a7X X pins H2 b)
  (h:∀D,H2 D=none→∃W:Nat→Nat→St→Hp→List V→Prop,(∃m,W 0 m (a1H js σ) (upd H2 D (.lst [])) [])∧
   ∀i m σ' H' ys,W i m σ' H' ys→H' D=some (.lst ys)∧((J.stop i H'∧Q (.ref D) H')∨(J.go i H'∧ys.length < sizeLine∧∀x H2,J.yld i H' x H2→g x σ' H2 fun σ2 H3=>tt σ2 H3 fun b H4=>
    if b=true then te σ2 H4 fun v H5=>H5 D=some (.lst ys)∧∃m',m' < m∧W (i+1) m' σ2 (upd H5 D (.lst (ys++[v]))) (ys++[v]) else ∃m',m' < m∧W (i+1) m' σ2 H4 ys)))
  (hRR:∀(D C:Addr) (s':Shared) (H':Hp) (m:Str→Option Value),Inv X pins σ H' s'→s'.heap.Ns C m→a7X X pins H' C→Q (.ref D) H'→RR (.ref D) C (.ok .next) s'):
  wpAny (model X.prog X.w) X.A (newList []) (fun acc s₃=>wpAny (model X.prog X.w) X.A (newFunctionEnv scope X.env.globals (a2u X.env scope.names []) [] X.env.qual none .none (some X.env)) (fun cenv s₄=>
   codeAny (model X.prog X.w) X.A (.compStart (.ListComp elt [⟨target,iter,ifs,0⟩] scope pos) 0 (.ref it) acc {cenv with scope:=relabel scope X.env}) (RR acc cenv.locals) s₄) E s₃) E s₂:=by
 have hfr:∀y∈scope.names,y.2=NameKind.free→∃c,X.env.cells.lookup y.1=some c:=fun y hy e=>I2.ok.has y.1 (ok.free y hy e)
 refine wpAny_newObj_type (wpAny_newFunctionEnv ok.nocell (by intro y hy;simp at hy) (fun h₁ hns₁ hsb₁=>?_) ok.kind)
 dsimp only at hns₁ hsb₁ ⊢
 generalize hHL:s₂.heap.push {cls:=.type "list",dict:=none,data:=.seq ([]:List Value).toArray}=HL at hns₁ hsb₁ ⊢
 have hC:HL.objs.size=s₂.heap.objs.size+1:=by rw [←hHL,Vc]
 have hCle:s₂.heap.objs.size≤HL.objs.size:=by rw [hC];exact Je _
 have hDC:s₂.heap.objs.size≠HL.objs.size:=by rw [hC];exact Xl (Vt _)
 have old:∀b o,s₂.heap.get? b=some o→h₁.get? b=some o:=fun b o e=>hsb₁.extBut b o (Xl (Xi (Qz e) hCle)) (Qo _ (hHL ▸ Qo _ e))
 have hacc:h₁.get? s₂.heap.objs.size=some {cls:=.type "list",dict:=none,data:=.seq ([]:List Value).toArray}:=hsb₁.extBut _ _ hDC (Qo _ (hHL ▸ Xd _ rfl))
 have hD0:H2 s₂.heap.objs.size=none:=I2.hok.fresh (Qj _)
 have hC0:H2 HL.objs.size=none:=I2.hok.fresh hCle
 obtain ⟨W,⟨m0,w0⟩,turn⟩:=h _ hD0
 have hlook:∀x c,(a2u X.env scope.names []).lookup x=some c→X.env.cells.lookup x=some c:=fun x c e=>a4y hfr (fun y d q=>by simp at q) e
 have hlt:∀b∈fp,b < s₂.heap.objs.size:=fun b hb=>let ⟨o,e,_⟩:=T.obj 0 _ st2 b hb;Qz e
 have okc:(a1D X Nc scope (a2u X.env scope.names []) HL.objs.size s₂ H2 fp).Ok:=by
  refine ⟨I2.ok.mod,by show scope.kind=_;exact ok.kind,I2.ok.glob,I2.ok.blt,hCle,fun x y c e1 e2=>I2.ok.inj x y c (hlook x c e1) (hlook y c e2),fun x hx=>?_,fun x c z _=>absurd z Qx,I2.ok.hd,I2.ok.frames,.inl rfl,fun b hb=>⟨?_,fun x c e=>(f2 b hb).2.2.2.2.1 x c (hlook x c e)⟩,
   I2.bs,Qi I2.ok.bsz I2.sz,fun b o e hb=>?_,fun b hb z=>?_,I2.stack,I2.stkFree⟩
  ·exact a3m (.inl (a4L ok.nocell hx))
  ·exact Xl (Xi (hlt b hb) hCle)
  ·rcases (f2 b hb).2.2.2.1 with z | z
   ·exact I2.ok.noex b o e z
   ·exact absurd (Xi (Qz e) (Qi I2.ok.bsz z)) (Zx _)
  ·rcases Qw.mp (I2.stkSub b z) with e | e
   ·exact (f2 b hb).2.1 e
   ·exact (f2 b hb).2.2.1 e
 have fpc:∀{H':Hp},(∀b∈fp,H' b=none)→∀b∈fp,a7X (a1D X Nc scope (a2u X.env scope.names []) HL.objs.size s₂ H2 fp) [] H' b:=fun {H'} hn b hb=>
  ⟨hn b hb,(okc.exf b hb).1,okc.exfs b hb,.inl hb,(okc.exf b hb).2,fun p hp=>absurd (show p∈([]:List (Addr×Obj)) from hp) (by simp)⟩
 have Ic:Inv (a1D X Nc scope (a2u X.env scope.names []) HL.objs.size s₂ H2 fp) [] (a1H js σ) (upd H2 s₂.heap.objs.size (.lst [])) {s₂ with heap:=h₁,toks:=s₂.toks+([]:List (Str×Value)).length}:=by
  refine ⟨okc,rfl,I2.bare,Un.laid old (Qj _) hD0,⟨_,hns₁,fun i x v e1 e2 e3=>?_⟩,fun x c e=>?_,?_,fun x c e=>?_,fun p hp=>absurd (show p∈([]:List (Addr×Obj)) from hp) (by simp),?_,?_⟩
  ·have e1':Nc[i]?=some x:=e1
   unfold a1H at e2
   rw [Ql] at e2
   cases ej:js[i]? with
   | none=>rw [ej] at e2;simp at e2
   | some oj=>
    rw [ej] at e2
    cases oj with
    | none=>simp at e2
    | some j=>
     have e2':(σ[j]?).getD none=some v:=by simpa using e2
     have e2'':σ[j]?=some (some v):=by
      cases q:σ[j]? with
      | none=>rw [q] at e2';simp at e2'
      | some z=>rw [q] at e2';simp at e2';rw [e2']
     obtain ⟨hN,hF⟩:=ok.map i x j e1' ej
     have hmem:(x,NameKind.free)∈scope.names:=PySem.mem_of_lookup hF
     have hkX:=ok.free _ hmem rfl
     obtain ⟨m,hn,hl⟩:=I2.loc
     have hvis:Vis X.env.scope x:=by
      rcases hkX with z | z
      ·exact .inr (.inl z)
      ·exact .inr (.inr z)
     obtain ⟨u,ru,lk⟩:=hl j x v hN e2'' hvis
     refine ⟨u,ru,.inr ?_⟩
     rcases lk with ⟨k1,_⟩ | ⟨_,c,ec,ic⟩
     ·have k1':X.env.kindOf x=some NameKind.local:=k1
      rcases hkX with z | z
      ·rw [z] at k1';cases k1'
      ·rw [z] at k1';cases k1'
     ·obtain ⟨c',hc'⟩:=a3m (env:=X.env) (l:=scope.names) (cs:=[]) (x:=x) (.inl hmem)
      have e':=hlook x c' hc'
      rw [ec] at e'
      cases e'
      exact ⟨a2b hF,c,hc',ic.keeps old⟩
  ·obtain ⟨v,q⟩:=I2.cell x c (hlook x c e)
   exact ⟨v,q.keeps old⟩
  ·show upd H2 s₂.heap.objs.size (.lst []) HL.objs.size=none
   rw [a0a (Ne.symm hDC)];exact hC0
  ·obtain ⟨v,q⟩:=I2.cell x c (hlook x c e)
   rw [a0a (Xl q.lt)]
   exact I2.freeC x c (hlook x c e)
  ·exact I2.hok.laid old (Qj _) ⟨Xb _,[],_,.nil,hacc⟩
  ·show (a1H js σ).length=Nc.length
   unfold a1H
   rw [Qd];exact ok.len
 have back:∀{σ':St} {H':Hp} {s':Shared},Inv (a1D X Nc scope (a2u X.env scope.names []) HL.objs.size s₂ H2 fp) [] σ' H' s'→Inv X pins σ H' s':=fun {σ' H' s'} I4=>
  I2.call' (ch:=fp) I4.os I4.base I4.hok I4.bare fun b hb=>⟨(f2 b hb).2.2.2.1,(f2 b hb).2.1,(f2 b hb).2.2.2.2.1,(f2 b hb).2.2.2.2.2⟩
 have st1:tn 0 h₁:=T.keep 0 _ _ st2 fun b _ o e=>old b o e
 have loop:∀s₃:Shared,s₃={s₂ with heap:=h₁,toks:=s₂.toks+([]:List (Str×Value)).length}→
   codeAny (model X.prog X.w) X.A (.compLoop (.ListComp elt [⟨target,iter,ifs,0⟩] scope pos) 0 (.ref it) (.ref s₂.heap.objs.size) (compEnvC scope (a2u X.env scope.names []) HL.objs.size X.env))
    (RR (.ref s₂.heap.objs.size) HL.objs.size) s₃:=by
  rintro s₃ rfl
  refine a6j (fun n s'=>∃i σ' H' ys,Inv (a1D X Nc scope (a2u X.env scope.names []) HL.objs.size s₂ H2 fp) [] σ' H' s'∧tn i s'.heap∧(∀b∈fp,H' b=none)∧W i n σ' H' ys) ?_ m0
   ⟨0,a1H js σ,_,[],Ic,st1,fun b hb=>by rw [a0a (Xl (hlt b hb))];exact (f2 b hb).1,w0⟩
  rintro n s3 ⟨i,σ3,H3,ys,I3,st3,fr3,w3⟩
  obtain ⟨hD3,tn3⟩:=turn i n σ3 H3 ys w3
  rcases tn3 with ⟨stop,q⟩ | ⟨go,hys,step⟩
  ·refine thn (T.done (a1D X Nc scope (a2u X.env scope.names []) HL.objs.size s₂ H2 fp) rfl rfl rfl hc i [] s3 σ3 H3 NoE I3 (fpc fr3) st3 stop) fun r s4 ⟨hr,I4⟩=>?_
   subst hr
   obtain ⟨m4,n4,_⟩:=I4.loc
   exact hRR _ _ s4 H3 m4 (back I4) n4 (I2.fpOk hCle I4.free) q
  ·refine thn (T.item (a1D X Nc scope (a2u X.env scope.names []) HL.objs.size s₂ H2 fp) rfl rfl rfl hc i [] s3 σ3 H3 NoE I3 (fpc fr3) st3 go) fun r s4 ⟨u,hr,h4⟩=>?_
   subst hr
   refine thn h4 fun _ s5 ⟨x,H5,I5,r5,y5,st5,fr5⟩=>?_
   have I5':=I5.pinned (fpc fr5) (T.obj _ _ st5)
   have fin:∀{σ7:St} {H7:Hp} {s7:Shared} {zs:List V} {m':Nat},Inv (a1D X Nc scope (a2u X.env scope.names []) HL.objs.size s₂ H2 fp) ([]++a6A fp s5.heap) σ7 H7 s7→m' < n→W (i+1) m' σ7 H7 zs→
     ∃m,m < n∧∃i σ' H' ys,Inv (a1D X Nc scope (a2u X.env scope.names []) HL.objs.size s₂ H2 fp) [] σ' H' s7∧tn i s7.heap∧(∀b∈fp,H' b=none)∧W i m σ' H' ys:=fun {σ7 H7 s7 zs m'} I7 hm w7=>by
    refine ⟨m',hm,i+1,σ7,H7,zs,I7.unpinned,T.keep _ _ _ st5 fun b hb o e=>(I7.pin (b,o) (Xc _ (Xc _ (a2H hb e)))).1,fun b hb=>?_,w7⟩
    obtain ⟨o,e,d⟩:=T.obj _ _ st5 b hb
    exact (I7.pin (b,o) (Xc _ (Xc _ (a2H hb e)))).2.1
   refine thn (hg _ _ _ _ _ _ s5 σ3 H5 x u _ I5' r5 (step x H5 y5)) fun _ s6 ⟨σ6,H6,I6,q6⟩=>?_
   refine thn (ht _ _ _ _ _ _ s6 σ6 H6 _ I6 q6) fun b s7 ⟨H7,I7,q7⟩=>?_
   cases b with
   | false=>
    obtain ⟨m',hm,w7⟩:=q7
    exact fin I7 hm w7
   | true=>
    refine thn (he _ _ _ _ _ _ s7 σ6 H7 _ I7 q7) fun v s8 ⟨y,H8,I8,r8,hD8,m',hm,w8⟩=>?_
    refine thn (a0H _ s8 σ6 H8 (.ref s₂.heap.objs.size) [y] (.ref s₂.heap.objs.size) [v] (fun _ H9=>H9=upd H8 s₂.heap.objs.size (.lst (ys++[y]))) I8 rfl (.cons r8 .nil) ⟨_,ys,y,rfl,rfl,hD8,hys,rfl⟩) fun v9 s9 ⟨_,H9,I9,_,e9⟩=>?_
    subst e9
    exact fin I9 hm w8
 exact codeAny_compStart_list (loop _ rfl) (T.self X.A 0 _ _ _ st1 (loop _ rfl))
theorem b8c (ok:a3D X Nc js scope) (hc:X.calm=true) (hi:PI X target iter wi)
  (hg:∀C cl s H ex,PG (a1D X Nc scope cl C s H ex) target g) (ht:∀C cl s H ex,PTs (a1D X Nc scope cl C s H ex) ifs tt) (he:∀C cl s H ex,PE (a1D X Nc scope cl C s H ex) elt te)
  (hs:∀x,foldedSetIterable iter X.env x=pure x:=by intro _;rfl):PE X (.ListComp elt [⟨target,iter,ifs,0⟩] scope pos) (b2C js wi g tt te):=by
 intro pins s σ H Q I h
 have hfr:∀y∈scope.names,y.2=NameKind.free→∃c,X.env.cells.lookup y.1=some c:=fun y hy e=>I.ok.has y.1 (ok.free y hy e)
 rw [eval_ListComp]
 refine wpAny_comprehension_free (use:=none) rfl hs (a1X hfr) ok.kind ok.names (thn (hi pins s σ H _ I h) fun v s1 h1=>thn h1 fun itv s2 h2=>?_)
 obtain ⟨it,fp,tn,J,H2,e,I2,T,st2,f2,h⟩:=h2
 subst e
 refine a4S (RR:=fun acc C=>compPost (model X.prog X.w) X.A X.xe none (EP X pins σ Q) acc C) (Q:=Q) ok hc hg ht he I2 T st2 f2 h ?_
 intro D C s' H' m I' n' fC q
 refine ⟨m,n',fun h' sb=>⟨.ref D,H',?_,rfl,q⟩⟩
 exact I'.turned (t':=s'.toks) (fun b o hb e=>(sb.2 b hb).trans e) fC.1 fC.2.1 fC.2.2.2.1 fC.2.2.2.2.1 fC.2.2.2.2.2
theorem a9d {i:Nat} {y:Str} {py spos:Pos} (ok:a3D X Nc js scope) (hc:X.calm=true) (hi:PI X target iter wi)
  (hg:∀C cl s H ex,PG (a1D X Nc scope cl C s H ex) target g) (ht:∀C cl s H ex,PTs (a1D X Nc scope cl C s H ex) ifs tt) (he:∀C cl s H ex,PE (a1D X Nc scope cl C s H ex) elt te)
  (hN:X.N.Nodup) (hy:X.N[i]?=some y) (hx:Loc X.env.scope y) (hsw:swapsWith (.ListComp elt [⟨target,iter,ifs,0⟩] scope pos) (some (.Name y py)) spos.line X.env=pure true)
  (hs:∀x,foldedSetIterable iter X.env x=pure x:=by intro _;rfl) (hf:X.fn y=true∨X.env.scope.names.lookup y=some .local:=by first | exact .inl rfl | exact .inr rfl | assumption):
  PS X (.Assign [.Name y py] (.ListComp elt [⟨target,iter,ifs,0⟩] scope pos) spos) (fun D σ H=>b2C js wi g tt te σ H fun v H'=>D.nx (σ.set i (some v)) H'):=by
 intro pins s σ H D I h
 have hfr:∀y∈scope.names,y.2=NameKind.free→∃c,X.env.cells.lookup y.1=some c:=fun y hy e=>I.ok.has y.1 (ok.free y hy e)
 rw [exec_Assign_Name_used _ _ _ _ hsw]
 refine wpAny_bind (wpAny_standAt (wpAny_bind ?_))
 show wpAny _ X.A (do let _ ←comprehension (.ListComp elt [⟨target,iter,ifs,0⟩] scope pos) scope X.env _ (newList []) false (eval iter X.env) (some (assign (.Name y py) X.env))) _ _ s
 refine wpAny_bind (thn (wpAny_comprehension_free (use:=some (assign (.Name y py) X.env)) (Q:=fun _ s'=>SP X pins D .next s') rfl hs (a1X hfr) ok.kind ok.names
  (thn (hi pins s σ H _ I h) fun v s1 h1=>thn h1 fun itv s2 h2=>?_)) fun _ s' hq=>wpAny_pure (wpAny_pure hq))
 obtain ⟨it,fp,tn,J,H2,e,I2,T,st2,f2,h⟩:=h2
 subst e
 refine a4S (RR:=fun acc C=>compPost (model X.prog X.w) X.A X.xe (some (assign (.Name y py) X.env)) (fun _ s'=>SP X pins D .next s') acc C) (Q:=fun v H'=>D.nx (σ.set i (some v)) H') ok hc hg ht he I2 T st2 f2 h ?_
 intro Da C s' H' m I' n' fC q
 show wpAny _ X.A (assign (.Name y py) X.env (.ref Da)) _ _ _
 refine wpAny_assign_Name (a5U I' hN hy hx (show a0Q (.ref Da) (.ref Da) from rfl) (fun s'' I'' hsb=>?_) hf)
 obtain ⟨a,sb,ha⟩:=hsb
 have hCa:C≠a:=by
  rcases ha with e | e
  ·rw [e];exact fC.2.1
  ·exact fun z=>fC.2.2.2.2.1 y a e z.symm
 refine ⟨m,n'.sameBut sb hCa,fun h' sb'=>⟨σ.set i (some (.ref Da)),H',?_,q⟩⟩
 exact I''.turned (t':=s''.toks) (fun b o hb e=>(sb'.2 b hb).trans e) fC.1 fC.2.1 fC.2.2.2.1 fC.2.2.2.2.1 fC.2.2.2.2.2
end
section
variable {js:List (Option Nat)} {g:TG} {tt:TT} {te:TE} {σ:St} {H:Hp} {Q:VK}
def a4g (J:It) (js:List (Option Nat)) (g:TG) (tt:TT) (te:TE) (σ:St) (H:Hp) (Q:VK):Prop:=
 ∀D,H D=none→∃W:Nat→Nat→St→Hp→List V→Prop,(∃m,W 0 m (a1H js σ) (upd H D (.lst [])) [])∧
 ∀i m σ' H' ys,W i m σ' H' ys→H' D=some (.lst ys)∧((J.stop i H'∧Q (.ref D) H')∨(J.go i H'∧ys.length < sizeLine∧∀x H2,J.yld i H' x H2→g x σ' H2 fun σ2 H3=>tt σ2 H3 fun b H4=>
  if b=true then te σ2 H4 fun v H5=>H5 D=some (.lst ys)∧∃m',m' < m∧W (i+1) m' σ2 (upd H5 D (.lst (ys++[v]))) (ys++[v]) else ∃m',m' < m∧W (i+1) m' σ2 H4 ys))
structure Src (J:It) (n:Nat) (f:Nat→V) (Ok:Hp→Prop):Prop where
 go:∀i H,i < n→Ok H→J.go i H
 yld:∀i H x H',i < n→Ok H→J.yld i H x H'→H'=H∧x=f i
 stop:∀H,Ok H→J.stop n H
theorem a2q {K:Qe} {a:Addr} {xs:List V}:Src (Itl K a) xs.length (fun i=>(xs[i]?).getD .non) (fun H=>SqL K H a xs):=
 ⟨fun i H hi h=>⟨xs,xs[i],h,by simp [hi]⟩,fun i H x H' hi h y=>⟨y.1,by rw [y.2 xs h];rfl⟩,fun H h=>⟨xs,h,Qj _⟩⟩
theorem a4c {K:Qe} {a:Addr} {xs:List V}:Src (Itt K a) xs.length (fun i=>(xs[i]?).getD .non) (fun H=>SqT K H a xs):=
 ⟨fun i H hi h=>⟨xs,xs[i],h,by simp [hi]⟩,fun i H x H' hi h y=>⟨y.1,by rw [y.2 xs h];rfl⟩,fun H h=>⟨xs,h,Qj _⟩⟩
theorem a3e {lo:Int} {n:Nat}:Src (Itr lo n) n (fun i=>.int (lo+i)) (fun _=>True):=
 ⟨fun i H hi _=>hi,fun i H x H' hi _ y=>y,fun H _=>Qj _⟩
theorem a7r {J:It} {n:Nat} {f:Nat→V} {Ok:Hp→Prop} (S:Src J n f Ok) (hn:n≤sizeLine) (Pv:Addr→Nat→St→Hp→List V→Prop) (h0:∀D,H D=none→Pv D 0 (a1H js σ) (upd H D (.lst [])) [])
  (hk:∀D i σ' H' ys,H D=none→i≤n→Pv D i σ' H' ys→Ok H'∧H' D=some (.lst ys)∧ys.length≤i)
  (hs:∀D i σ' H' ys (R:St→Hp→List V→Prop),H D=none→i < n→Pv D i σ' H' ys→(∀a b c,Pv D (i+1) a b c→R a b c)→g (f i) σ' H' fun σ2 H3=>tt σ2 H3 fun b H4=>
   if b=true then te σ2 H4 fun v H5=>H5 D=some (.lst ys)∧R σ2 (upd H5 D (.lst (ys++[v]))) (ys++[v]) else R σ2 H4 ys)
  (hd:∀D σ' H' ys,H D=none→Pv D n σ' H' ys→Q (.ref D) H'):a4g J js g tt te σ H Q:=by
 intro D hD
 refine ⟨fun i m σ' H' ys=>m=n - i∧i≤n∧Pv D i σ' H' ys,⟨n,by simp,Xb _,h0 D hD⟩,?_⟩
 rintro i m σ' H' ys ⟨rfl,hi,p⟩
 obtain ⟨q1,q2,q3⟩:=hk D i σ' H' ys hD hi p
 refine ⟨q2,?_⟩
 by_cases hlt:i < n
 ·refine .inr ⟨S.go i H' hlt q1,by omega,fun x H2 y=>?_⟩
  obtain ⟨rfl,rfl⟩:=S.yld i H' x H2 hlt q1 y
  exact hs D i σ' _ ys (fun σ2 H3 ys'=>∃m',m' < n - i∧(m'=n - (i+1)∧i+1≤n∧Pv D (i+1) σ2 H3 ys')) hD hlt p fun a b c r=>⟨n - (i+1),by omega,rfl,hlt,r⟩
 ·have e:i=n:=by omega
  subst e
  exact .inl ⟨S.stop H' q1,hd D σ' H' ys hD p⟩
end
section
variable {X:Cx}
def c5i:V→Option Value
 | .ty n=>some (.type n)
 | .ref a=>some (.ref a)
 | _=>none
theorem b4E {c:V} {u v:Value} (h:c5i c=some u) (r:a0Q c v):v=u:=by
 cases c with
 | ty n=>cases h;exact r
 | ref a=>cases h;exact r
 | _=>cases h
def c2H (K:Qe):List V→Hp→VK→Prop:=fun xs H Q=>∃x c u t b,xs=[x,c]∧c5i c=some u∧a9C K H x t∧Yc K t u=some b∧Q (.bl b) H
theorem a2a:a1C X (.builtin "isinstance") (c2H X.K):=by
 intro pins s σ H xs us Q I r h
 obtain ⟨x,c,u,t,b,rfl,hu,ty,e,q⟩:=h
 obtain ⟨v,u',rfl,rv,ru'⟩:=b8e r
 cases b4E hu ru'
 exact a9V I rv ty e fun tk=>⟨.bl b,H,I.tok _,rfl,q⟩
theorem a7S {bs:List Bool} {its:List Value} (r:a0Y (bs.map V.bl) its) {i:Nat} {v:Value} (h:its[i]?=some v):∃b,bs[i]?=some b∧v=.bool b:=by
 have hi:i < its.length:=(Qn.mp h).1
 have hl:=r.length
 rw [Qd] at hl
 have hb:bs[i]?=some bs[i]:=Qc ‹om›
 obtain ⟨u,hu,ru⟩:=r.get (i:=i) (x:=V.bl bs[i]) (by rw [Ql,hb];rfl)
 rw [h] at hu;cases hu
 exact ⟨_,hb,ru⟩
theorem a2P (hc:X.calm=true):a1C X (.builtin "all") (fun xs H Q=>∃(p:Addr) (bs:List Bool),xs=[.ref p]∧SqL X.K H p (bs.map V.bl)∧Q (.bl (bs.all id)) H):=by
 intro pins s σ H xs us Q I r h
 obtain ⟨p,bs,rfl,hq,q⟩:=h
 obtain ⟨u,rfl,ru⟩:=a3u r
 cases ru
 obtain ⟨its,rv,pl,hz⟩:=I.list hq
 have hl:=pl.isList
 have hlt:p < s.heap.objs.size:=by obtain ⟨_,e,_⟩:=hl;exact Qz e
 refine call_all_walk (wpAny_pyIter_list hl ?_)
 refine ⟨s.heap.objs.size,[s.heap.objs.size,p],[s.heap.objs.size],its.toArray.size,_,_,fun i=>(bs[i]?).getD true,rfl,Walks.list (A:=X.A.in1) (I.ok.hd hc) _ p (Xl hlt) its.toArray,
  ⟨⟨_,Xd _ rfl,rfl,rfl⟩,hl.push _⟩,fun i v s' Q' E' hP hQ=>?_,fun h' tk hk=>?_⟩
 ·obtain ⟨b,e,rfl⟩:=a7S rv (i:=i) (v:=v) (by simpa using hP)
  simp only [e,Xh] at hQ
  exact wpAny_truthy_bool hQ
 ·have e:((Xz its.toArray.size).all fun i=>(bs[i]?).getD true)=bs.all id:=by
   have hb:=rv.length
   rw [Qd] at hb
   rw [Qu,←hb];exact LSm.range_all bs
  rw [e]
  exact ⟨.bl (bs.all id),H,I.kept (t':=tk) (LSm.kept_iter hk),rfl,q⟩
theorem a2i (hc:X.calm=true):a1C X (.builtin "any") (fun xs H Q=>∃(p:Addr) (bs:List Bool),xs=[.ref p]∧SqL X.K H p (bs.map V.bl)∧Q (.bl (bs.any id)) H):=by
 intro pins s σ H xs us Q I r h
 obtain ⟨p,bs,rfl,hq,q⟩:=h
 obtain ⟨u,rfl,ru⟩:=a3u r
 cases ru
 obtain ⟨its,rv,pl,hz⟩:=I.list hq
 have hl:=pl.isList
 have hlt:p < s.heap.objs.size:=by obtain ⟨_,e,_⟩:=hl;exact Qz e
 refine call_any_walk (wpAny_pyIter_list hl ?_)
 refine ⟨s.heap.objs.size,[s.heap.objs.size,p],[s.heap.objs.size],its.toArray.size,_,_,fun i=>(bs[i]?).getD false,rfl,Walks.list (A:=X.A.in1) (I.ok.hd hc) _ p (Xl hlt) its.toArray,
  ⟨⟨_,Xd _ rfl,rfl,rfl⟩,hl.push _⟩,fun i v s' Q' E' hP hQ=>?_,fun h' tk hk=>?_⟩
 ·obtain ⟨b,e,rfl⟩:=a7S rv (i:=i) (v:=v) (by simpa using hP)
  simp only [e,Xh] at hQ
  exact wpAny_truthy_bool hQ
 ·have e:((Xz its.toArray.size).any fun i=>(bs[i]?).getD false)=bs.any id:=by
   have hb:=rv.length
   rw [Qd] at hb
   rw [Qu,←hb];exact LSm.range_any bs
  rw [e]
  exact ⟨.bl (bs.any id),H,I.kept (t':=tk) (LSm.kept_iter hk),rfl,q⟩
def c4s:V→Option Int→Option Int→Hp→VK→Prop:=fun x lo hi H Q=>∃z,x=.str z∧z.length≤sizeLine∧Q (.str (Ve z lo hi)) H
theorem c1a:SlR X c4s:=by
 intro pins s σ H x v vl vu lo hi sl Q I rx hs pl pu h
 obtain ⟨z,rfl,hz,q⟩:=h
 obtain ⟨t,rfl⟩:=rx
 obtain ⟨o,ho,hc,hd⟩:=hs
 refine ⟨"str",_,PySem.F.slot_str_getitem.lookup,typeIs_str _ _ _,?_⟩
 have fin:∀(l u:Option Int) (t':Tok) (k:Nat),Q (.str (Ve z l u)) H→EP X pins σ Q (.str (Ve z l u) t') {s with toks:=k}:=fun l u t' k q=>⟨.str _,H,I.tok _,⟨_,rfl⟩,q⟩
 cases pl with
 | none=>
  cases pu with
  | none=>exact wpAny_getItem_str_slice (l:=none) (u:=none) (st:=none) ⟨o,ho,hc,hd⟩ rfl (post_val_or_str ⟨Qi (Vw z _ _) hz,fun t' k=>fin _ _ t' k q⟩)
  | int j uj=>exact wpAny_getItem_str_slice (l:=none) (u:=some (j,uj)) (st:=none) ⟨o,ho,hc,hd⟩ rfl (post_val_or_str ⟨Qi (Vw z _ _) hz,fun t' k=>fin _ _ t' k q⟩)
 | int i ui=>
  cases pu with
  | none=>exact wpAny_getItem_str_slice (l:=some (i,ui)) (u:=none) (st:=none) ⟨o,ho,hc,hd⟩ rfl (post_val_or_str ⟨Qi (Vw z _ _) hz,fun t' k=>fin _ _ t' k q⟩)
  | int j uj=>exact wpAny_getItem_str_slice (l:=some (i,ui)) (u:=some (j,uj)) (st:=none) ⟨o,ho,hc,hd⟩ rfl (post_val_or_str ⟨Qi (Vw z _ _) hz,fun t' k=>fin _ _ t' k q⟩)
theorem a5l:MtR X "str.startswith" (fun x xs H Q=>∃a b,x=.str a∧xs=[.str b]∧Q (.bl (Jv a b)) H):=by
 intro pins s σ H x xs v us Q I rx rs h
 obtain ⟨a,b,rfl,rfl,q⟩:=h
 obtain ⟨t,rfl⟩:=rx
 obtain ⟨u,rfl,t',rfl⟩:=a3u rs
 exact SC.startswith ⟨.bl _,H,I,rfl,q⟩
end
theorem a1m:bootBuiltins "len"=some (.builtin "len"):=by decide+kernel
theorem a0V:bootBuiltins "isinstance"=some (.builtin "isinstance"):=by decide+kernel
theorem a5Z:bootBuiltins "all"=some (.builtin "all"):=by decide+kernel
theorem a3Z:bootBuiltins "any"=some (.builtin "any"):=by decide+kernel
theorem a4T:bootBuiltins "bool"=some (.type "bool"):=by decide+kernel
theorem a9N:bootBuiltins "int"=some (.type "int"):=by decide+kernel
theorem a1G:bootBuiltins "list"=some (.type "list"):=by decide+kernel
theorem a2o:bootBuiltins "tuple"=some (.type "tuple"):=by decide+kernel
section
variable {X:Cx}
def c2M:R2:=fun x y H Q=>∃i j,x=.str i∧y=.str j∧i.length+j.length≤sizeLine∧Q (.str (i++j)) H
def c2I:R2:=rI0 fun i j=>.int (i+j)
def b4h (K:Qe):R2:=fun x y H Q=>c2I x y H Q∨c2M x y H Q∨c7B x y H Q∨c0k K x y H Q
theorem a0r:OpR X (binaryOp .Add) (b4h X.K):=b9u.or (a8O.or (c1v.or b7M))
theorem a1d {K:Qe} {i j:Int} {H:Hp} {Q:VK}:b4h K (.int i) (.int j) H Q↔Q (.int (i+j)) H:=by
 constructor
 ·rintro (⟨a,b,e1,e2,q⟩ | ⟨a,b,e1,_⟩ | ⟨a,b,_,_,e1,_⟩ | ⟨a,b,_,_,e1,_⟩)
  ·cases e1;cases e2;exact q
  ·cases e1
  ·cases e1
  ·cases e1
 ·exact fun q=>.inl ⟨i,j,rfl,rfl,q⟩
theorem a1A {K:Qe} {i j:Str} {H:Hp} {Q:VK}:b4h K (.str i) (.str j) H Q↔(i.length+j.length≤sizeLine∧Q (.str (i++j)) H):=by
 constructor
 ·rintro (⟨a,b,e1,_⟩ | ⟨a,b,e1,e2,q⟩ | ⟨a,b,_,_,e1,_⟩ | ⟨a,b,_,_,e1,_⟩)
  ·cases e1
  ·cases e1;cases e2;exact q
  ·cases e1
  ·cases e1
 ·exact fun q=>.inr (.inl ⟨i,j,rfl,rfl,q⟩)
theorem b0Y {i j:Int} {H:Hp} {Q:VK}:rEq (.int i) (.int j) H Q↔Q (.bl (decide (i=j))) H:=by
 unfold rEq
 have e:decide (V.int i=V.int j)=decide (i=j):=by
  by_cases h:i=j
  ·subst h;simp
  ·simp [h]
 rw [e]
 exact ⟨fun h=>h.2,fun h=>⟨rfl,h⟩⟩
theorem b0G {i j:Str} {H:Hp} {Q:VK}:rEq (.str i) (.str j) H Q↔Q (.bl (decide (i=j))) H:=by
 unfold rEq
 have e:decide (V.str i=V.str j)=decide (i=j):=by
  by_cases h:i=j
  ·subst h;simp
  ·simp [h]
 rw [e]
 exact ⟨fun h=>h.2,fun h=>⟨rfl,h⟩⟩
def inS (c s:Str):Bool:=!(Builtin.Str.occurrences s c 0 s.length 1).isEmpty
def c3S:R2:=fun x y H Q=>∃i j,x=.str i∧y=.str j∧Q (.bl (inS i j)) H
def b8u (K:Qe):R2:=fun x y H Q=>c3S x y H Q∨rIn K false x y H Q
theorem c2r:OpR X (compareOp .In) c3S:=a9U
theorem a4V:OpR X (compareOp .In) (b8u X.K):=c2r.or b0C
def b7k (K:Qe):List V→Hp→VK→Prop:=fun xs H Q=>(∃x n,xs=[x]∧c7g K x H n∧Q (.int n) H)∨∃a kvs,xs=[V.ref a]∧H a=some (.dK kvs)∧Q (.int kvs.length) H
theorem a1n:a1C X (.builtin "len") (b7k X.K):=b3X.or b0i
theorem b1n {K:Qe} {z:Str} {H:Hp} {Q:VK}:b7k K [.str z] H Q↔(z.length≤sizeLine∧Q (.int z.length) H):=by
 constructor
 ·rintro (⟨x,n,e1,e2,q⟩ | ⟨a,kvs,e1,_⟩)
  ·cases e1
   obtain ⟨h1,rfl⟩:z.length≤sizeLine∧n=z.length:=e2
   exact ⟨h1,q⟩
  ·cases e1
 ·exact fun q=>.inl ⟨.str z,z.length,rfl,⟨q.1,rfl⟩,q.2⟩
theorem a1L {K:Qe} {a:Addr} {xs:List V} {H:Hp} {Q:VK} (h:SqL K H a xs) (q:Q (.int xs.length) H):b7k K [.ref a] H Q:=.inl ⟨.ref a,xs.length,rfl,.inl ⟨xs,h,rfl⟩,q⟩
def c7y (K:Qe):V→Option Int→Option Int→Hp→VK→Prop:=fun x lo hi H Q=>c4s x lo hi H Q∨c4y K x lo hi H Q∨c5P K x lo hi H Q
theorem c0X:SlR X (c7y X.K):=c1a.or (b8j.or c1s)
theorem a7Y {K:Qe} {z:Str} {lo hi:Option Int} {H:Hp} {Q:VK}:c7y K (.str z) lo hi H Q↔(z.length≤sizeLine∧Q (.str (Ve z lo hi)) H):=by
 constructor
 ·rintro (⟨x,e1,q⟩ | ⟨a,xs,e1,_⟩ | ⟨a,xs,e1,_⟩)
  ·cases e1;exact q
  ·cases e1
  ·cases e1
 ·exact fun q=>.inl ⟨z,rfl,q⟩
theorem b6H {K:Qe} {z:Str} {i:Int} {H:Hp} {Q:VK}:rIx K (.str z) (.int i) H Q↔(z.length≤sizeLine∧∃c,atI z.cps.toList i=some c∧Q (.str ⟨#[c]⟩) H):=by
 constructor
 ·rintro (⟨p,xs,j,v,e1,_⟩ | ⟨p,xs,j,v,e1,_⟩ | ⟨y,j,c,e1,e2,h1,h2,q⟩)
  ·cases e1
  ·cases e1
  ·cases e1;cases e2;exact ⟨h1,c,h2,q⟩
 ·rintro ⟨h1,c,h2,q⟩
  exact .inr (.inr ⟨z,i,c,rfl,rfl,h1,h2,q⟩)
theorem a0F {K:Qe} {a:Addr} {xs:List V} {i:Int} {v:V} {H:Hp} {Q:VK} (h:SqL K H a xs) (e:atI xs i=some v) (q:Q v H):rIx K (.ref a) (.int i) H Q:=.inl ⟨a,xs,i,v,rfl,rfl,h,e,q⟩
theorem a1t {K:Qe} {a:Addr} {xs:List V} {i:Int} {v:V} {H:Hp} {Q:VK} (h:SqT K H a xs) (e:atI xs i=some v) (q:Q v H):rIx K (.ref a) (.int i) H Q:=.inr (.inl ⟨a,xs,i,v,rfl,rfl,h,e,q⟩)
theorem a0W {C:Int→Int→Prop} {g:Int→Int→V} {i j:Int} {H:Hp} {Q:VK}:rI C g (.int i) (.int j) H Q↔(C i j∧Q (g i j) H):=by
 constructor
 ·rintro ⟨a,b,e1,e2,q⟩;cases e1;cases e2;exact q
 ·exact fun q=>⟨i,j,rfl,rfl,q⟩
theorem a5w {g:Int→Int→V} {i j:Int} {H:Hp} {Q:VK}:rI0 g (.int i) (.int j) H Q↔Q (g i j) H:=by
 constructor
 ·rintro ⟨a,b,e1,e2,q⟩;cases e1;cases e2;exact q
 ·exact fun q=>⟨i,j,rfl,rfl,q⟩
theorem a1k {k:Bool} {P:Bool→Prop}:(∃c,V.bl k=V.bl c∧P c)↔P k:=by
 constructor
 ·rintro ⟨c,e,q⟩;cases e;exact q
 ·exact fun q=>⟨k,rfl,q⟩
theorem b3k {k:Int} {P:Int→Prop}:(∃c,V.int k=V.int c∧P c)↔P k:=by
 constructor
 ·rintro ⟨c,e,q⟩;cases e;exact q
 ·exact fun q=>⟨k,rfl,q⟩
theorem a0e {v:V} {P:V→Prop}:(∃x,some (some v)=some (some x)∧P x)↔P v:=by
 constructor
 ·rintro ⟨c,e,q⟩;cases e;exact q
 ·exact fun q=>⟨v,rfl,q⟩
end
theorem a0h.upd {H:Hp} {a:Addr} {o:HO} (h:H a=none):a0h H (upd H a o):=fun b u e=>by rw [a0a (a0b e h)];exact e
section
variable {X:Cx} {st:Stmt} {a6M:List Stmt} {t u:TS}
def c9d (t u:TS):TS:=fun D σ H=>∃M:St→Hp→Prop,t {D with nx:=M} σ H∧∀σ' H',M σ' H'→u D σ' H'
theorem b7v (h1:PS X st t) (h2:PSs X a6M u):PSs X (st::a6M) (c9d t u):=by
 intro pins s σ H D I h
 obtain ⟨M,q1,q2⟩:=h
 refine wpAny_execs_cons (thn (h1 pins s σ H {D with nx:=M} I q1) fun f s1 q=>?_)
 cases f with
 | next=>
  obtain ⟨σ',H',I',q⟩:=q
  exact h2 pins s1 σ' H' D I' (q2 σ' H' q)
 | ret v=>exact q
 | brk=>exact q
 | cont=>exact q
end
theorem a3d {K:Qe}:Yc K (.type "bool") (.type "bool")=some true:=by kernel_rfl
theorem a0s {k:Addr} {P:Addr→Prop}:(∃c,V.ref k=V.ref c∧P c)↔P k:=by
 constructor
 ·rintro ⟨c,e,q⟩;cases e;exact q
 ·exact fun q=>⟨k,rfl,q⟩
theorem a9R {i j:Int} {H:Hp} {Q:VK}:rNe (.int i) (.int j) H Q↔Q (.bl (!decide (i=j))) H:=by
 unfold rNe
 have e:decide (V.int i=V.int j)=decide (i=j):=by
  by_cases h:i=j
  ·subst h;simp
  ·simp [h]
 rw [e]
 exact ⟨fun h=>h.2,fun h=>⟨rfl,h⟩⟩
theorem a9T {i j:Str} {H:Hp} {Q:VK}:rNe (.str i) (.str j) H Q↔Q (.bl (!decide (i=j))) H:=by
 unfold rNe
 have e:decide (V.str i=V.str j)=decide (i=j):=by
  by_cases h:i=j
  ·subst h;simp
  ·simp [h]
 rw [e]
 exact ⟨fun h=>h.2,fun h=>⟨rfl,h⟩⟩
theorem a3E {α:Type} {xs:List α} {i:Int} (h0:0≤i) (h1:i < xs.length):∃v,atI xs i=some v∧v∈xs∧xs[i.toNat]?=some v:=by
 have hk:i.toNat < xs.length:=by omega
 refine ⟨xs[i.toNat],?_,Xa hk,Qc hk⟩
 unfold atI ixN
 rw [if_pos h0,if_pos h1]
 exact Qc hk
theorem a1y {i j:Int} (h:0 < j):0≤i % j∧i % j < j:=⟨Zj _ ‹om›,Zc _ h⟩
theorem a8F {A B:Prop}:(if false=true then A else B)=B:=if_neg Qx
theorem a5c {A B:Prop}:(if true=false then A else B)=B:=if_neg ‹dc›
theorem a0N {H:Hp} {p:Addr} (hp:H p=none) (o:HO):∃H',upd H p o=H'∧a0h H H'∧H' p=some o:=⟨_,rfl,a0h.upd hp,a0d⟩
def c6K (J:It) (g:TG) (tb:TS) (D:a8c) (σ:St) (H:Hp):Prop:=∃W:Nat→Nat→St→Hp→Prop,(∃m,W 0 m σ H)∧∀i m σ H,W i m σ H→
 (J.stop i H∧D.nx σ H)∨(J.go i H∧∃N:St→Hp→Prop,(∀σ' H',N σ' H'→∃m',m' < m∧W (i+1) m' σ' H')∧∀x H',J.yld i H x H'→g x σ H' fun σ2 H2=>tb {D with nx:=N,ct:=N,bk:=D.nx} σ2 H2)
theorem a0t {wi:TI} {g:TG} {tb:TS} {D:a8c} {σ:St} {H:Hp}:b8t wi g tb D σ H=wi σ H fun J H1=>c6K J g tb D σ H1:=rfl
theorem a0o {js:List (Option Nat)} {wi:TI} {g:TG} {tt:TT} {te:TE} {σ:St} {H:Hp} {Q:VK}:b2C js wi g tt te σ H Q=wi σ H fun J H1=>a4g J js g tt te σ H1 Q:=rfl
theorem a4j {J:It} {n:Nat} {f:Nat→V} {Ok:Hp→Prop} {js:List (Option Nat)} {te:TE} {σ:St} {H:Hp} {Q:VK} (S:Src J n f Ok) (hn:n≤sizeLine) (σr:St) (hσ:a1H js σ=none::σr) (Pr:Nat→V→Prop)
  (hOk:∀H',a0h H H'→Ok H') (hs:∀i H' (R:V→Hp→Prop),i < n→a0h H H'→(∀v H'',a0h H' H''→Pr i v→R v H'')→te (some (f i)::σr) H' R)
  (hd:∀D H' ys,H D=none→a0h H H'→H' D=some (.lst ys)→ys.length=n→(∀i v,ys[i]?=some v→Pr i v)→Q (.ref D) H'):a4g J js (a0l 0) b4z te σ H Q:=by
 refine a7r S hn (fun D i σ' H' ys=>(∃a,σ'=a::σr)∧a0h H H'∧H' D=some (.lst ys)∧ys.length=i∧∀j v,ys[j]?=some v→Pr j v) ?_ ?_ ?_ ?_
 ·intro D hD
  exact ⟨⟨none,hσ⟩,a0h.upd hD,a0d,rfl,fun j v e=>by simp at e⟩
 ·rintro D i σ' H' ys hD hi ⟨_,s,h,hl,_⟩
  exact ⟨hOk _ s,h,Vs hl⟩
 ·rintro D i σ' H' ys R hD hi ⟨⟨a,rfl⟩,s,h,hl,hp⟩ hR
  show te (some (f i)::σr) H' _
  refine hs i H' _ hi s fun v H'' s2 pv=>⟨s2 _ _ h,hR _ _ _ ⟨⟨_,rfl⟩,?_,a0d,by simp [hl],fun j v' e=>?_⟩⟩
  ·intro b o e
   rw [a0a (a0b e hD)]
   exact s2 b o (s b o e)
  ·rw [Wy] at e
   split at e
   ·exact hp j v' e
   ·rename_i hj
    have e1:j=ys.length:=by
     have:=(Qn.mp e).1
     simp at this;omega
    subst e1
    simp at e
    subst e
    rw [hl];exact pv
 ·rintro D σ' H' ys hD ⟨_,s,h,hl,hp⟩
  exact hd D H' ys hD s h hl hp
section
variable {K:Qe} {H:Hp} {Q:VK}
theorem a6J {z:Bool}:c2H K [.bl z,.ty "bool"] H Q↔Q (.bl true) H:=by
 constructor
 ·rintro ⟨x,c,u,t,b,e1,hu,ty,e,q⟩
  cases e1;cases hu;cases ty
  rw [a3d] at e;cases e;exact q
 ·exact fun q=>⟨_,_,_,_,_,rfl,rfl,.bl z,a3d,q⟩
end
theorem a3c {K:Qe}:Yc K (.type "list") (.type "list")=some true:=by kernel_rfl
section
variable {K:Qe} {H:Hp} {Q:VK}
def b1X:V→List V→Hp→VK→Prop:=fun x xs H Q=>∃a b,x=.str a∧xs=[.str b]∧Q (.bl (Jv a b)) H
theorem a5e {a b:Str}:b1X (.str a) [.str b] H Q↔Q (.bl (Jv a b)) H:=⟨by rintro ⟨_,_,e1,e2,q⟩;cases e1;cases e2;exact q,fun q=>⟨_,_,rfl,rfl,q⟩⟩
theorem b0q {z:Str} {P:Prop}:(tyV K "str" (.str z) H∧P)↔P:=⟨fun h=>h.2,fun h=>⟨rfl,h⟩⟩
def b8H (K:Qe):List V→Hp→VK→Prop:=fun xs H Q=>∃p ys,xs=[.ref p]∧((SqL K H p ys∧∀l,H l=none→Q (.ref l) (upd H l (.tup ys)))∨SqT K H p ys∧Q (.ref p) H)
def b0s (K:Qe):List V→Hp→VK→Prop:=fun xs H Q=>∃p ys,xs=[.ref p]∧(SqL K H p ys∨SqT K H p ys)∧∀l,H l=none→Q (.ref l) (upd H l (.lst ys))
end
def c3o:R2:=fun x y H Q=>y=.non∧Q (.bl (decide (x=.non))) H
section
variable {H:Hp} {Q:VK}
theorem b3Q {a:Addr}:c3o (.ref a) .non H Q↔Q (.bl false) H:=⟨fun h=>h.2,fun h=>⟨rfl,h⟩⟩
theorem b4j:c3o .non .non H Q↔Q (.bl true) H:=⟨fun h=>h.2,fun h=>⟨rfl,h⟩⟩
end
mutual
inductive Den (K:Qe) (H:Hp):V→PyData→Prop
 | non:Den K H .non .none
 | bl (b:Bool):Den K H (.bl b) (.bool b)
 | int (i:Int):Den K H (.int i) (.int i)
 | str (x:Str):Den K H (.str x) (.str x)
 | lst {a:Addr} {xs:List V} {ds:List PyData}:SqL K H a xs→DenAll K H xs ds→Den K H (.ref a) (.list ds)
 | tup {a:Addr} {xs:List V} {ds:List PyData}:SqT K H a xs→DenAll K H xs ds→Den K H (.ref a) (.tuple ds)
inductive DenAll (K:Qe) (H:Hp):List V→List PyData→Prop
 | nil:DenAll K H [] []
 | cons {x:V} {xs:List V} {d:PyData} {ds:List PyData}:Den K H x d→DenAll K H xs ds→DenAll K H (x::xs) (d::ds)
end
theorem a3v {K:Qe} {H:Hp}:∀ys:List Str,DenAll K H (ys.map V.str) (ys.map Yj)
 | []=>.nil
 | y::ys=>.cons (.str y) (a3v ys)
def c4G (K:Qe):R2:=fun x y H Q=>∃d e,Den K H x d∧Den K H y e∧Ys d=true∧Ys e=true∧Q (.bl (Xu d e)) H
def c4Q (K:Qe):R2:=fun x y H Q=>∃d e,Den K H x d∧Den K H y e∧Ys d=true∧Ys e=true∧Q (.bl (!PyData.eqv d e)) H
def b7m (K:Qe):R2:=fun x y H Q=>rEq x y H Q∨c4G K x y H Q
def b5Y (K:Qe):R2:=fun x y H Q=>rNe x y H Q∨c4Q K x y H Q
section
variable {K:Qe} {H:Hp} {Q:VK}
theorem a1J {i j:Str}:b7m K (.str i) (.str j) H Q↔Q (.bl (decide (i=j))) H:=by
 constructor
 ·rintro (h | ⟨d,e,h1,h2,_,_,q⟩)
  ·exact b0G.mp h
  ·cases h1;cases h2
   rw [show decide (i=j)=Xu (.str i) (.str j) from by simp only [Xu];by_cases z:i=j<;>simp [z]];exact q
 ·exact fun q=>.inl (b0G.mpr q)
theorem a2K {i j:Int}:b7m K (.int i) (.int j) H Q↔Q (.bl (decide (i=j))) H:=by
 constructor
 ·rintro (h | ⟨d,e,h1,h2,_,_,q⟩)
  ·exact b0Y.mp h
  ·cases h1;cases h2
   rw [show decide (i=j)=Xu (.int i) (.int j) from by simp only [Xu];by_cases z:i=j<;>simp [z]];exact q
 ·exact fun q=>.inl (b0Y.mpr q)
theorem a7K {i j:Str}:b5Y K (.str i) (.str j) H Q↔Q (.bl (!decide (i=j))) H:=by
 constructor
 ·rintro (h | ⟨d,e,h1,h2,_,_,q⟩)
  ·exact a9T.mp h
  ·cases h1;cases h2
   rw [show decide (i=j)=Xu (.str i) (.str j) from by simp only [Xu];by_cases z:i=j<;>simp [z]];exact q
 ·exact fun q=>.inl (a9T.mpr q)
theorem a5n {i j:Int}:b5Y K (.int i) (.int j) H Q↔Q (.bl (!decide (i=j))) H:=by
 constructor
 ·rintro (h | ⟨d,e,h1,h2,_,_,q⟩)
  ·exact a9R.mp h
  ·cases h1;cases h2
   rw [show decide (i=j)=Xu (.int i) (.int j) from by simp only [Xu];by_cases z:i=j<;>simp [z]];exact q
 ·exact fun q=>.inl (a9R.mpr q)
mutual
theorem b3U:∀d:PyData,Ys d=true→Xu d d=true
 | .none,_=>rfl
 | .bool b,_=>by simp [Xu]
 | .int i,_=>by simp [Xu]
 | .str x,_=>by simp [Xu]
 | .list xs,h=>by
  simp only [Xu]
  exact eqvAll_self xs (by unfold Ys at h;simpa [Xm] using (Jy.mp h).1)
 | .tuple xs,h=>by
  simp only [Xu]
  exact eqvAll_self xs (by unfold Ys at h;simpa [Xm] using (Jy.mp h).1)
 | .dict _,h=>by unfold Ys at h;simp [Xm] at h
theorem eqvAll_self:∀ds:List PyData,Zh ds=true→Jr ds ds=true
 | [],_=>rfl
 | d::ds,h=>by
  simp only [Zh,Xq] at h
  simp only [Jr,Xq]
  exact ⟨eqv_self' d h.1,eqvAll_self ds h.2⟩
theorem eqv_self':∀d:PyData,Xm d=true→Xu d d=true
 | .none,_=>rfl
 | .bool b,_=>by simp [Xu]
 | .int i,_=>by simp [Xu]
 | .str x,_=>by simp [Xu]
 | .list xs,h=>by
  simp only [Xu]
  exact eqvAll_self xs (by simpa [Xm] using h)
 | .tuple xs,h=>by
  simp only [Xu]
  exact eqvAll_self xs (by simpa [Xm] using h)
 | .dict _,h=>by simp [Xm] at h
end
theorem a6F {x y:V} {d:PyData} (h1:Den K H x d) (h2:Den K H y d) (hs:Ys d=true) (q:Q (.bl false) H):b5Y K x y H Q:=.inr ⟨d,d,h1,h2,hs,hs,by rw [b3U d hs];exact q⟩
theorem a7M {a:Addr} {xs:List V} (h:H a=some (.lst xs)) (q:Q (.bl true) H):c2H K [.ref a,.ty "list"] H Q:=⟨_,_,_,_,_,rfl,rfl,.lst h,a3c,q⟩
end
section
variable {X:Cx}
theorem c1n:OpR X (compareOp .Is) c3o:=c2q
theorem a6u:MtR X "str.startswith" b1X:=a5l
theorem a2G:a1C X (.type "tuple") (b8H X.K):=by
 intro pins s σ H xs us Q I r h
 obtain ⟨p,ys,e,h⟩:=h
 exact a5k pins s σ H xs us Q I r ⟨p,ys,e,h⟩
theorem a1W:a1C X (.type "list") (b0s X.K):=a6w
mutual
theorem Den.reads {pins:List (Addr×Obj)} {σ:St} {H:Hp} {s:Shared} (I:Inv X pins σ H s):∀{x:V} {d:PyData} {u:Value},Den X.K H x d→a0Q x u→∃as,Reads s.heap u d as
 | _,_,_,.non,r=>by cases r;exact ⟨_,.none⟩
 | _,_,_,.bl b,r=>by cases r;exact ⟨_,.bool b⟩
 | _,_,_,.int i,r=>by obtain ⟨t,rfl⟩:=r;exact ⟨_,.int i t⟩
 | _,_,_,.str x,r=>by obtain ⟨t,rfl⟩:=r;exact ⟨_,.str x t⟩
 | _,_,_,.lst h hs,r=>by
  cases r
  obtain ⟨its,rv,pl,_⟩:=I.list h
  obtain ⟨o,ho,hc,n,hd⟩:=pl.isList
  obtain ⟨as,ra⟩:=DenAll.reads I hs rv
  exact ⟨_,.list ho hc hd (by simpa using ra)⟩
 | _,_,_,.tup h hs,r=>by
  cases r
  obtain ⟨its,rv,pl,_⟩:=I.tuple h
  obtain ⟨o,ho,hc,n,hd⟩:=pl
  obtain ⟨as,ra⟩:=DenAll.reads I hs rv
  exact ⟨_,.tuple ho hc hd (by simpa using ra)⟩
theorem DenAll.reads {pins:List (Addr×Obj)} {σ:St} {H:Hp} {s:Shared} (I:Inv X pins σ H s):∀{xs:List V} {ds:List PyData} {us:List Value},DenAll X.K H xs ds→a0Y xs us→∃as,ReadsAll s.heap us ds as
 | _,_,_,.nil,r=>by cases r;exact ⟨_,.nil⟩
 | _,_,_,.cons h hs,r=>by
  cases r with
  | cons r1 r2=>
   obtain ⟨as,ra⟩:=Den.reads I h r1
   obtain ⟨bs,rb⟩:=DenAll.reads I hs r2
   exact ⟨_,.cons ra rb⟩
end
theorem c2a (hu:X.A.units+64 < cLine):OpR X (compareOp .Eq) (c4G X.K):=by
 intro pins s σ H x y v u Q I rx ry h
 obtain ⟨d,e,h1,h2,s1,s2,q⟩:=h
 obtain ⟨as,ra⟩:=h1.reads I rx
 obtain ⟨bs,rb⟩:=h2.reads I ry
 exact eq_dataH ra rb s1 s2 hu ⟨.bl _,H,I,rfl,q⟩
theorem c0i (hu:X.A.units+64 < cLine):OpR X (compareOp .NotEq) (c4Q X.K):=by
 intro pins s σ H x y v u Q I rx ry h
 obtain ⟨d,e,h1,h2,s1,s2,q⟩:=h
 obtain ⟨as,ra⟩:=h1.reads I rx
 obtain ⟨bs,rb⟩:=h2.reads I ry
 exact ne_dataH ra rb s1 s2 hu ⟨.bl _,H,I,rfl,q⟩
theorem a0U (hu:X.A.units+64 < cLine):OpR X (compareOp .Eq) (b7m X.K):=c2P.or (c2a hu)
theorem a2A (hu:X.A.units+64 < cLine):OpR X (compareOp .NotEq) (b5Y X.K):=c2J.or (c0i hu)
variable {K:Qe}
theorem b3a (h:X.K=K):OpR X (binaryOp .Add) (b4h K):=h ▸ a0r
theorem b5P (h:X.K=K):OpR X (compareOp .In) (b8u K):=h ▸ a4V
theorem a8m (hu:X.A.units+64 < cLine) (h:X.K=K):OpR X (compareOp .Eq) (b7m K):=h ▸ a0U hu
theorem b4N (hu:X.A.units+64 < cLine) (h:X.K=K):OpR X (compareOp .NotEq) (b5Y K):=h ▸ a2A hu
theorem a6s (h:X.K=K):a1C X (.builtin "isinstance") (c2H K):=h ▸ a2a
theorem a2W (h:X.K=K):IxR X (rIx K):=h ▸ a0z
end
end L2
namespace L2
open PySem PySem.Spec PyProof.Rows PySem.W
end L2
namespace L2
open PySem PySem.Spec PyProof.Rows
theorem a5z {J:It} {n:Nat} {f:Nat→V} {Ok:Hp→Prop} {js:List (Option Nat)} {te:TE} {σ:St} {H:Hp} {Q:VK} (S:Src J n f Ok) (hn:n≤sizeLine) (σr:St) (hσ:a1H js σ=none::σr) (Pr:Addr→Nat→V→Hp→Prop)
  (mono:∀D i v (H1 H2:Hp),(∀b o,b≠D→H1 b=some o→H2 b=some o)→Pr D i v H1→Pr D i v H2)
  (hOk:∀H',a0h H H'→Ok H') (hs:∀D i H' (R:V→Hp→Prop),i < n→H D=none→a0h H H'→(∃ys,H' D=some (.lst ys))→(∀v H'',a0h H' H''→Pr D i v H''→R v H'')→te (some (f i)::σr) H' R)
  (hd:∀D H' ys,H D=none→a0h H H'→H' D=some (.lst ys)→ys.length=n→(∀i v,ys[i]?=some v→Pr D i v H')→Q (.ref D) H'):a4g J js (a0l 0) b4z te σ H Q:=by
 refine a7r S hn (fun D i σ' H' ys=>(∃a,σ'=a::σr)∧a0h H H'∧H' D=some (.lst ys)∧ys.length=i∧∀j v,ys[j]?=some v→Pr D j v H') ?_ ?_ ?_ ?_
 ·intro D hD
  exact ⟨⟨none,hσ⟩,a0h.upd hD,a0d,rfl,fun j v e=>by simp at e⟩
 ·rintro D i σ' H' ys hD hi ⟨_,s,h,hl,_⟩
  exact ⟨hOk _ s,h,Vs hl⟩
 ·rintro D i σ' H' ys R hD hi ⟨⟨a,rfl⟩,s,h,hl,hp⟩ hR
  show te (some (f i)::σr) H' _
  refine hs D i H' _ hi hD s ⟨_,h⟩ fun v H'' s2 pv=>⟨s2 _ _ h,hR _ _ _ ⟨⟨_,rfl⟩,?_,a0d,by simp [hl],fun j v' e=>?_⟩⟩
  ·intro b o e
   rw [a0a (a0b e hD)]
   exact s2 b o (s b o e)
  ·have up:∀b o,b≠D→H'' b=some o→upd H'' D (.lst (ys++[v])) b=some o:=fun b o hb e=>by rw [a0a hb];exact e
   rw [Wy] at e
   split at e
   ·exact mono _ _ _ _ _ (fun b o hb e=>up b o hb (s2 b o e)) (hp j v' e)
   ·have e1:j=ys.length:=by
     have:=(Qn.mp e).1
     simp at this;omega
    subst e1
    simp at e
    subst e
    rw [hl];exact mono _ _ _ _ _ up pv
 ·rintro D σ' H' ys hD ⟨_,s,h,hl,hp⟩
  exact hd D H' ys hD s h hl hp
theorem a3G {J:It} {n:Nat} {f:Nat→V} {Ok:Hp→Prop} {js:List (Option Nat)} {tt:TT} {te:TE} {σ:St} {H:Hp} {Q:VK} (S:Src J n f Ok) (hn:n≤sizeLine) (σr:St) (hσ:a1H js σ=none::σr) (keep:Nat→Bool) (val:Nat→V)
  (hOk:∀H',a0h H H'→Ok H') (hs:∀i H' (R:Bool→Hp→Prop),i < n→a0h H H'→(∀H'',a0h H' H''→R (keep i) H'')→tt (some (f i)::σr) H' R)
  (he:∀i H' (R:V→Hp→Prop),i < n→a0h H H'→(∀H'',a0h H' H''→R (val i) H'')→te (some (f i)::σr) H' R)
  (hd:∀D H',H D=none→a0h H H'→H' D=some (.lst (((Xz n).filter keep).map val))→Q (.ref D) H'):a4g J js (a0l 0) tt te σ H Q:=by
 refine a7r S hn (fun D i σ' H' ys=>(∃a,σ'=a::σr)∧a0h H H'∧H' D=some (.lst ys)∧ys=((Xz i).filter keep).map val) ?_ ?_ ?_ ?_
 ·intro D hD
  exact ⟨⟨none,hσ⟩,a0h.upd hD,a0d,rfl⟩
 ·rintro D i σ' H' ys hD hi ⟨_,s,h,rfl⟩
  refine ⟨hOk _ s,h,?_⟩
  rw [Qd]
  exact Qi (Qy _ _) (by simp)
 ·rintro D i σ' H' ys R hD hi ⟨⟨a,rfl⟩,s,h,rfl⟩ hR
  show tt (some (f i)::σr) H' _
  refine hs i H' _ hi s fun H2 s2=>?_
  cases hk:keep i with
  | false=>
   rw [if_neg Qx]
   refine hR _ _ _ ⟨⟨_,rfl⟩,s.trans s2,s2 _ _ h,?_⟩
   rw [Uc,Zd,Yq,hk];simp
  | true=>
   rw [if_pos rfl]
   refine he i H2 _ hi (s.trans s2) fun H3 s3=>⟨s3 _ _ (s2 _ _ h),hR _ _ _ ⟨⟨_,rfl⟩,?_,a0d,?_⟩⟩
   ·intro b o e
    rw [a0a (a0b e hD)]
    exact s3 b o (s2 b o (s b o e))
   ·rw [Uc,Zd,Yq,hk];simp
 ·rintro D σ' H' ys hD ⟨_,s,h,rfl⟩
  exact hd D H' hD s h
structure c2l (K:Qe) (C:Addr) (m:Str) (f:Addr):Prop where
 ga:Vl K (.ref C) "__getattribute__"=some (some (.builtin "type.__getattribute__"))
 rd:PySem.W.readsIn K C (.type "type")=true
 at_:PySem.W.findCls K (.ref C) (.type "type") m=some (.val (.ref f))
 kp:Zo K (.ref f)=true
structure TyI (K:Qe) (C:Addr):Prop where
 ha:Yv K (.ref C) "__class__"=some (some (.builtin "object.__class__"))
 hn:Vl K (.builtin "object.__class__") "__get__"=some (some (.builtin "getset_descriptor.__get__"))
 htk:Gv K (.builtin "object.__class__")=some true
 hm:PySem.W.mroIn K C (.type "object")=some true
theorem c2n {K:Qe} {C D:Addr} {cd:ClassData} {b:Bool} (hc:PySem.W.clsIn K D=some cd) (ht:Ws K (.ref D)=some (.type "type")) (hs:Gc K (.ref C) (.ref D)=some b) (ho:Gc K (.ref C) (.ref C)=some true):
  Yc K (.ref C) (.ref D)=some b:=by
 unfold Yc
 by_cases e:(Value.ref C == Value.ref D)=true
 ·rw [if_pos e]
  have e':C=D:=by
   have:=eq_of_beq e
   injection this
  rw [←e',ho] at hs
  exact hs
 ·rw [if_neg e]
  show (if ((PySem.W.clsIn K D).isSome && Ws K (.ref D) == some (.type "type"))=true then Gc K (.ref C) (.ref D) else none)=_
  rw [hc,ht,if_pos (by simp),hs]
section
variable {X:Cx}
def c7R:R2:=fun x y H Q=>∃i j,x=.str i∧y=.str j∧Q (.bl (decide (i.cps.toList < j.cps.toList))) H
def c5d:R2:=fun x y H Q=>rI0 (fun i j=>.bl (decide (i < j))) x y H Q∨c7R x y H Q
theorem b5M:OpR X (compareOp .Lt) c5d:=c2N.or b2N
theorem a8e {i j:Int} {H:Hp} {Q:VK}:c5d (.int i) (.int j) H Q↔Q (.bl (decide (i < j))) H:=by
 constructor
 ·rintro (⟨a,b,e1,e2,q⟩ | ⟨a,b,e1,_⟩)
  ·cases e1;cases e2;exact q
  ·cases e1
 ·exact fun q=>.inl ⟨i,j,rfl,rfl,q⟩
end
section
variable {X:Cx} {o e:Expr} {es:List Expr} {apos pos:Pos} {m:Str} {C f:Addr} {fd:FuncData} {ps:List Str} {sp:Sp} {CX:CXT} {k:Nat} {E:XK} {dvs:List V} {ds:List Value} {ta:TE} {t:TA}
def b9n (t u:TE):TE:=fun σ H Q=>t σ H Q∨u σ H Q
theorem b9M {t u:TE} (h1:PE X e t) (h2:PE X e u):PE X e (b9n t u):=fun pins s σ H Q I h=>h.elim (h1 pins s σ H Q I) (h2 pins s σ H Q I)
def b5n (C:Addr) (sp:Sp) (dvs:List V) (E:XK) (ta:TE) (t:TA):TE:=fun σ H Q=>ta σ H fun x H1=>x=.ref C∧t σ H1 fun vs H2=>sp (vs++dvs) H2 Q E
theorem b3v {pl:Sem Bool} (he:PE X o ta) (hm:c2l X.K C m f) (F:a0R X.prog X.w X.K X.mg X.base CX k f fd ps sp) (hr:a2x k X.A) (hb:a0n X.K fd ps ds) (hd:a0Y dvs ds) (hx:a3z CX X E) (ha:PA X (e::es) t)
  (hst:starEach (e::es) X.env=(false,eval e X.env)::starEach es X.env:=by rfl) (hpl:(backTo pos (starEach es X.env)).any (·.1)=false:=by rfl)
  (ht:eval (.Call (.Attribute o m apos) (e::es) [] pos) X.env=(do
   let ov ←eval o X.env
   standAt apos.atName
   let (f,first) ←holding [ov] (getMethod ov m pl)
   callWith pos f first (backTo pos (starEach (e::es) X.env)) (backToKw pos (keywordEach [] X.env))):=by rfl):
  PE X (.Call (.Attribute o m apos) (e::es) [] pos) (b5n C sp dvs E ta t):=by
 intro pins s σ H Q I h
 refine Uo (pl:=pl) (thn (he pins s σ H _ I h) fun u s1 ⟨x,H1,I1,rx,ex,q⟩=>?_) ht
 subst ex
 obtain rfl:u=Value.ref C:=rx
 refine PySem.W.method_cls I1.kIn hm.ga (PySem.W.cls_value I1.kIn hm.rd hm.at_ rfl ?_)
 refine Ug (first:=[]) (h₀:=X.base) I.ok.mod.kin hm.kp (thn (ha pos pins _ σ H1 _ (I1.tok _) q) fun us s2 ⟨vs,H2,I2,r,q2⟩=>⟨I2.kIn,?_⟩) hst hpl
 exact a8l (us:=us) (vs:=vs) F hr hb hd hx I2 r q2
end
theorem a5o {c:TT} {tb:TS} {D:a8c} {σ:St} {H:Hp} (W:Nat→St→Hp→Prop) (m0:Nat) (h0:W m0 σ H)
  (hs:∀m σ H,W m σ H→c σ H fun b H1=>if b=true then ∃N:St→Hp→Prop,(∀σ' H',N σ' H'→∃m',m' < m∧W m' σ' H')∧tb {D with nx:=N,ct:=N,bk:=D.nx} σ H1 else D.nx σ H1):b5S c tb D σ H:=⟨W,⟨m0,h0⟩,hs⟩
theorem a1f {α β:Type} (d:α) (P:α→Bool) (g:α→β):∀ps:List α,((Xz ps.length).filter fun i=>P ((ps[i]?).getD d)).map (fun i=>g ((ps[i]?).getD d))=(ps.filter P).map g:=by
 intro ps
 have h:(Xz ps.length).map (fun i=>(ps[i]?).getD d)=ps:=by
  refine Vm fun i=>?_
  rw [Ql]
  by_cases hi:i < ps.length
  ·rw [Ub hi,Qc hi,Zr,Qc hi];rfl
  ·rw [Yr (by simp;omega),Yr ‹om›];rfl
 conv=>rhs;rw [←h]
 rw [Zs,Xf];rfl
theorem b0f (z:Str) (r:List Str):inV (.str z) (r.map V.str)=decide (z∈r):=by
 unfold inV
 rw [Xn,Yx,decide_eq_true_eq]
 constructor
 ·rintro ⟨v,hv,e⟩
  obtain ⟨l,hl,rfl⟩:=Qk.mp hv
  have e':(l == z)=true:=e
  rw [←eq_of_beq e'];exact hl
 ·intro h
  exact ⟨.str z,Qk.mpr ⟨z,h,rfl⟩,(beq_self_eq_true z:(z == z)=true)⟩
theorem a6e (qs:List Str):(qs.map V.str).all a5D=true:=by
 rw [Zm];intro v hv
 obtain ⟨l,_,rfl⟩:=Qk.mp hv;rfl
theorem b1Y {K:Qe} {H:Hp} {Q:VK} {z:Str} {a:Addr} {r:List Str} (h:SqL K H a (r.map V.str)) (q:Q (.bl (decide (z∈r))) H):b8u K (.str z) (.ref a) H Q:=
 .inr ⟨a,_,rfl,.inl h,rfl,a6e _,by rw [if_neg Qx,b0f];exact q⟩
theorem none_of {H H':Hp} (s:a0h H H') {p:Addr} (h:H' p=none):H p=none:=by
 cases e:H p with
 | none=>rfl
 | some o=>rw [s _ _ e] at h;cases h
section
variable {X:Cx}
theorem b7i {K:Qe} {pos:Pos} {es:List Expr} {k:Nat} {t:TGs} {n:Nat} (hK:X.K=K) (hc:X.calm=true) (h:PGs X es t)
  (hn:(assignEach es X.env).length=n:=by rfl) (hst:(assignEach es X.env).findIdx? (·.1)=none:=by rfl):PG X (.Tuple es k pos) (b4a K n t):=hK ▸ b5k hc h hn hst
end
theorem b0K:bootBuiltins "min"=some (.builtin "min"):=by decide+kernel
end L2
namespace L2
open PySem PySem.Spec PyProof.Rows PySem.W
def Ite (K:Qe) (a:Addr):It:=
 ⟨fun i H=>∃xs x,SqL K H a xs∧xs[i]?=some x,fun i H x H'=>∃p v,H p=none∧(∀xs,SqL K H a xs→xs[i]?=some v)∧x=.ref p∧H'=upd H p (.tup [.int i,v]),fun i H=>∃xs,SqL K H a xs∧xs.length≤i⟩
def b8S (K:Qe) (ta:TA):TI:=fun σ H R=>ta σ H fun vs H1=>∃a,vs=[.ref a]∧(∃xs,SqL K H1 a xs)∧R (Ite K a) H1
theorem c0F {K:Qe} {a:Addr} {xs:List V} {js:List (Option Nat)} {te:TE} {σ:St} {H:Hp} {Q:VK} (hn:xs.length≤sizeLine) (σr:St) (hσ:a1H js σ=none::none::σr) (Pr:Addr→Nat→V→Hp→Prop)
  (mono:∀D i v (H1 H2:Hp),(∀b o,b≠D→H1 b=some o→H2 b=some o)→Pr D i v H1→Pr D i v H2)
  (ha:SqL K H a xs) (hs:∀D i H' (R:V→Hp→Prop) (hi:i < xs.length),H D=none→a0h H H'→(∃ys,H' D=some (.lst ys))→(∀v H'',a0h H' H''→Pr D i v H''→R v H'')→te (some (.int i)::some xs[i]::σr) H' R)
  (hd:∀D H' ys,H D=none→a0h H H'→H' D=some (.lst ys)→ys.length=xs.length→(∀i v,ys[i]?=some v→Pr D i v H')→Q (.ref D) H'):a4g (Ite K a) js (b4a K 2 (a4E (a0l 0) (a4E (a0l 1) b4S))) b4z te σ H Q:=by
 intro D hD
 refine ⟨fun i m σ' H' ys=>m=xs.length - i∧i≤xs.length∧(∃u v,σ'=u::v::σr)∧a0h H H'∧H' D=some (.lst ys)∧ys.length=i∧∀j v,ys[j]?=some v→Pr D j v H',⟨xs.length,by simp,Xb _,⟨none,none,hσ⟩,a0h.upd hD,a0d,rfl,fun j v e=>by simp at e⟩,?_⟩
 rintro i m σ' H' ys ⟨rfl,hi,⟨u,v,rfl⟩,s,h,hl,hp⟩
 refine ⟨h,?_⟩
 by_cases hlt:i < xs.length
 ·refine .inr ⟨⟨xs,xs[i],s.seq ha,Qc hlt⟩,by omega,?_⟩
  rintro x H2 ⟨p,w,hpn,hw,rfl,rfl⟩
  have ew:w=xs[i]:=by have:=hw xs (s.seq ha);rw [Qc hlt] at this;exact (Option.some.inj this).symm
  subst ew
  obtain ⟨H3,e3,s3,h3⟩:∃H3,upd H' p (.tup [.int i,xs[i]])=H3∧a0h H' H3∧H3 p=some (.tup [.int i,xs[i]]):=⟨_,rfl,a0h.upd hpn,a0d⟩
  rw [e3]
  refine ⟨p,_,rfl,SqT.of h3,rfl,_,_,rfl,_,_,rfl,rfl,?_⟩
  unfold b4z;dsimp only
  rw [if_pos rfl]
  show te (some (.int i)::some xs[i]::σr) H3 _
  refine hs D i H3 _ hlt hD (s.trans s3) ⟨_,s3 _ _ h⟩ fun v H'' s2 pv=>⟨s2 _ _ (s3 _ _ h),xs.length - (i+1),by omega,rfl,hlt,⟨_,_,rfl⟩,?_,a0d,by simp [hl],fun j v' e=>?_⟩
  ·intro b o e
   rw [a0a (a0b e hD)];exact s2 _ _ (s3 _ _ (s b o e))
  ·have up:∀b o,b≠D→H'' b=some o→upd H'' D (.lst (ys++[v])) b=some o:=fun b o hb q=>by rw [a0a hb];exact q
   by_cases hj:j < ys.length
   ·rw [Yi hj] at e
    exact mono _ _ _ _ _ up (mono _ _ _ _ _ (fun b o _ q=>s2 _ _ (s3 _ _ q)) (hp j v' e))
   ·have hj2:=(Qn.mp e).1
    have ej:j=ys.length:=by simp at hj2;omega
    subst ej
    rw [Yg (Qj _),Uu] at e
    cases e
    rw [hl];exact mono _ _ _ _ _ up pv
 ·have e:i=xs.length:=by omega
  subst e
  exact .inl ⟨⟨xs,s.seq ha,Qj _⟩,hd D H' ys hD s h hl hp⟩
def b6t (te:TE):TE:=fun σ H Q=>∃(a:Addr) (kvs:List (Key×V)),H a=some (.dK kvs)∧te σ H fun v H1=>∃o,H1 a=some (.frz o (.dK kvs))∧Q v (upd H1 a (.dK kvs))
section
variable {X:Cx} {pins:List (Addr×Obj)} {σ:St} {H:Hp} {s:Shared} {h':Heap} {tg:Expr}
theorem Inv.turned2 {t':Nat} {e it:Addr} (I:Inv X pins σ H s) (k:∀b o,b≠e→b≠it→s.heap.get? b=some o→h'.get? b=some o) (f1:a7X X pins H e) (f2:a7X X pins H it):Inv X pins σ H {s with heap:=h',toks:=t'}:=by
 obtain ⟨a0,a1,a2,a3,a4,a5⟩:=f1
 obtain ⟨b0,b1,b2,b3,b4,b5⟩:=f2
 have ne:∀b u,H b=some u→b≠e:=fun b u q z=>by rw [z,a0] at q;cases q
 have nit:∀b u,H b=some u→b≠it:=fun b u q z=>by rw [z,b0] at q;cases q
 refine I.step (g':=s.gens) (d':=s.drawn) (ch:=[e,it]) (fun b hb=>?_) (fun b o _ _ hc q _=>k b o (fun z=>hc (by simp [z])) (fun z=>hc (by simp [z])) q) (fun b o _ _ hc q _=>⟨o.slots,k b o (fun z=>hc (by simp [z])) (fun z=>hc (by simp [z])) q⟩) (fun _ _ _ _ n=>n)
  (fun b o hc q=>⟨o,k b o (fun z=>hc (by simp [z])) (fun z=>hc (by simp [z])) q⟩) (fun _ _ q=>q) (fun _ _ _ q=>q) (fun b ps q=>⟨#[],by rw [q];simp⟩) (fun m hm=>?_) (fun b u q=>?_) I.bare
 ·rcases Qw.mp hb with z | z
  ·subst z;exact ⟨a3,a1,a4,a5⟩
  ·rw [Xo.mp z];exact ⟨b3,b1,b4,b5⟩
 ·obtain ⟨o,es,ep,ho,r⟩:=hm
  exact ⟨o,es,ep,k _ o (Ne.symm a1) (Ne.symm b1) ho,r⟩
 ·refine (I.hok b u q).stay (fun c v hc z=>k c v ?_ ?_ z) (fun _ z=>z) fun _ _ z=>z
  ·rcases hc with z | z
   ·rw [z];exact ne b u q
   ·exact ne c _ z
  ·rcases hc with z | z
   ·rw [z];exact nit b u q
   ·exact nit c _ z
theorem b1b {P:Program} {w:World} {K:Qe} {elts:List Expr} {x1:Nat} {pos:Pos} (a e it:Addr) (hei:e≠it):b4W P w K (.Tuple elts x1 pos) (Ite K a) [e,it] e (fun i h=>(∃old,IsEnum h e it i old)∧h.IsListIter it a i) where
 mem:=by simp
 obj:=fun i h st b hb=>by
  obtain ⟨⟨old,he⟩,o,e1,c,d⟩:=st
  rcases Qw.mp hb with z | z
  ·subst z;exact ⟨_,he,fun v z=>by cases z⟩
  ·rw [Xo.mp z];exact ⟨o,e1,fun v z=>by rw [d] at z;cases z⟩
 keep:=fun i h h' st k=>by
  obtain ⟨⟨old,he⟩,hit⟩:=st
  exact ⟨⟨old,k e (by simp) _ he⟩,hit.at fun o q=>k it (by simp) o q⟩
 item:=by
  intro X hP hw hK hc i pins s σ H E I hf st hg
  subst hP hw hK
  obtain ⟨⟨old,he⟩,hit⟩:=st
  obtain ⟨xs,x,hq,hx⟩:=hg
  obtain ⟨its,rv,p,hz⟩:=I.list hq
  obtain ⟨u,hu,ru⟩:=rv.get hx
  refine wpAny_pyNext_enum_item he hit p.isList (x:=u) (by simpa using hu) hei fun h' ho hit' hT hsz hk=>?_
  refine ⟨_,rfl,?_⟩
  refine wpAny_letOwnedTupleGo_enum ho fun h2 he2 hs2=>?_
  have hfr:H s.heap.objs.size=none:=I.hok.fresh (Qj _)
  have helt:e < s.heap.objs.size:=Qz he
  have hilt:it < s.heap.objs.size:=by obtain ⟨_,z,_⟩:=hit;exact Qz z
  have hL:=Xd s.heap (o:={cls:=.type "tuple",data:=.seq #[.int i s.toks,u]}) rfl
  have I1:Inv X pins σ (upd H s.heap.objs.size (.tup [.int i,x])) {s with heap:=s.heap.push {cls:=.type "tuple",data:=.seq #[.int i s.toks,u]},toks:=s.toks+1}:=
   I.laid (t':=s.toks+1) (fun b o q=>Qo _ q) (Qj _) ⟨by simp only [Qm,Qr];decide,[.int i s.toks,u],.cons ⟨_,rfl⟩ (.cons ru .nil),⟨_,hL,rfl,_,rfl⟩⟩
  have up:∀b,b < s.heap.objs.size→upd H s.heap.objs.size (.tup [.int i,x]) b=H b:=fun b hb=>a0a (Xl hb)
  have fp:∀b,b < s.heap.objs.size→a7X X pins H b→a7X X pins (upd H s.heap.objs.size (.tup [.int i,x])) b:=fun b hb ⟨c0,c1,c2,c3,c4,c5⟩=>⟨by rw [up b hb];exact c0,c1,c2,c3,c4,c5⟩
  have I2:Inv X pins σ (upd H s.heap.objs.size (.tup [.int i,x])) {s with heap:=h2,toks:=s.toks+1}:=by
   refine I1.turned2 (h':=h2) (t':=s.toks+1) (fun b o h1 h3 q=>?_) (fp e helt (hf e (by simp))) (fp it hilt (hf it (by simp)))
   rw [hs2.2 b h1]
   by_cases z:b=s.heap.objs.size
   ·subst z
    have q':(s.heap.push {cls:=.type "tuple",data:=.seq #[.int i s.toks,u]}).get? s.heap.objs.size=some o:=q
    rw [hL] at q';rw [←q'];exact hT
   ·have q':s.heap.get? b=some o:=by
     have q2:(s.heap.push {cls:=.type "tuple",data:=.seq #[.int i s.toks,u]}).get? b=some o:=q
     rw [Jj _ _ _ z] at q2;exact q2
    exact hk b o h1 h3 q'
  exact ⟨.ref s.heap.objs.size,_,I2,rfl,⟨s.heap.objs.size,x,hfr,fun ys hy=>by rw [I.list_inj hy hq];exact hx,rfl,rfl⟩,⟨⟨_,by simpa using he2⟩,hit'.at fun o y=>(hs2.2 it hei.symm).trans y⟩,fun b hb=>by
   have hb':b < s.heap.objs.size:=by
    rcases Qw.mp hb with z | z
    ·rw [z];exact helt
    ·rw [Xo.mp z];exact hilt
   rw [up b hb'];exact (hf b hb).1⟩
 done:=by
  intro X hP hw hK hc i pins s σ H E I hf st hg
  subst hP hw hK
  obtain ⟨⟨old,he⟩,hit⟩:=st
  obtain ⟨xs,hq,hx⟩:=hg
  obtain ⟨its,rv,p,hz⟩:=I.list hq
  have hl:=rv.length
  exact wpAny_pyNext_enum_end (I.ok.hd hc) he hit p.isList (by simp;omega) fun h' hk=>⟨rfl,I.turned2 (t':=s.toks) (fun b o h1 h3 q=>hk b o h3 q) (hf e (by simp)) (hf it (by simp))⟩
 self:=fun _ _ _ _ _ st h=>by
  obtain ⟨⟨old,he⟩,_⟩:=st
  exact wpAny_pyIter_enum he h
theorem a4d:bootBuiltins "enumerate"=some (.type "enumerate"):=by decide+kernel
theorem b6A {a:Expr} {ta:TA} {p pos:Pos} {elts:List Expr} {x1:Nat} {tpos:Pos} (hg:Gl X "enumerate") (hm:X.mg "enumerate"=none) (ha:PA X [a] ta) (hs:starEach [a] X.env=[(false,eval a X.env)]:=by rfl):PI X (.Tuple elts x1 tpos) (.Call (.Name "enumerate" p) [a] [] pos) (b8S X.K ta):=by
 intro pins s σ H R I h
 refine Call_ (a4i I hg hm a4d (PyProof.Rows.callWith_type1 (thn (ha pos pins s σ H _ I h) fun us s1 ⟨vs,H1,I1,r1,q1⟩=>?_) hs rfl))
 obtain ⟨l,e,⟨xs,hq⟩,q⟩:=q1
 subst e
 cases r1 with
 | cons r rr=>
  cases rr
  cases r
  obtain ⟨its,rv,pl,hz⟩:=I1.list hq
  refine call_enumerate_list pl.isList fun h' he hit hsz hk=>?_
  refine wpAny_pyIter_enum he ?_
  have I2:=I1.kept (t':=s1.toks) hk
  refine ⟨s1.heap.objs.size+1,[s1.heap.objs.size+1,s1.heap.objs.size],_,_,H1,rfl,I2,b1b l _ _ (Nat.succ_ne_self _),⟨⟨_,he⟩,hit⟩,fun b hb=>?_,q⟩
  have hb':s1.heap.objs.size≤b:=by
   rcases Qw.mp hb with z | z
   ·rw [z];exact Je _
   ·rw [Xo.mp z];exact Qj _
  exact I1.fpOk hb' (I1.hok.fresh hb')
theorem b8r {K:Qe} {e:Expr} {ta:TE} {f:Str} {pos:Pos} (hK:X.K=K) (he:PE X e ta) (hb:attributeBase e f X.env (eval e X.env)=eval e X.env):PE X (.Attribute e f pos) (a3F K ta f):=hK ▸ b5v he hb
end
section
variable {X:Cx} {pins:List (Addr×Obj)} {σ:St} {H:Hp} {s:Shared} {a:Addr} {kvs:List (Key×V)} {tg:Expr}
theorem Inv.freeze (I:Inv X pins σ H s) (e:H a=some (.dK kvs)):∃o,s.heap.get? a=some o∧Inv X pins σ (upd H a (.frz o (.dK kvs))) s:=by
 obtain ⟨z,hd,vs,rel,dd⟩:=a6n I.hok e
 obtain ⟨o,es,ep,ho,r⟩:=id dd
 exact ⟨o,ho,I.write (x:=a) (e:=a) (t':=s.toks) (h':=s.heap) (by rw [e];exact True.intro) (.inl rfl) (fun b u _ q=>q) ⟨o,ho⟩ ⟨ho,z,hd,vs,rel,dd⟩⟩
theorem Inv.thaw {o:Obj} (I:Inv X pins σ H s) (e:H a=some (.frz o (.dK kvs))) (hn:∀ob u,X.H₀ a≠some (.frz ob u)):Inv X pins σ (upd H a (.dK kvs)) s:=by
 have ne:∀b,H b=none→b≠a:=fun b q z=>by rw [z,e] at q;cases q
 refine ⟨I.ok,I.os,I.bare,⟨I.base.keep,I.base.slot,fun b ob q n hx=>?_,I.base.there,fun b xs q=>?_,fun b ob u q=>?_,fun b ps q=>?_⟩,I.loc,I.cell,?_,fun x c q=>?_,fun p hp=>?_,fun b u q=>?_,I.len⟩
 ·have:=I.base.free b ob q n hx;rw [a0a (ne b this)];exact this
 ·have:=I.base.tups b xs q;rw [a0a (a0u this e ‹iz›)];exact this
 ·have:=I.base.frzs b ob u q
  by_cases z:b=a
  ·subst z;exact absurd q (hn _ _)
  ·rw [a0a z];exact this
 ·obtain ⟨m,h⟩:=I.base.tbls b ps q
  exact ⟨m,by rw [a0a (a0u h e ‹iz›)];exact h⟩
 ·rw [a0a (ne _ I.free)];exact I.free
 ·rw [a0a (ne _ (I.freeC x c q))];exact I.freeC x c q
 ·obtain ⟨h1,h2,h3⟩:=I.pin p hp
  exact ⟨h1,by rw [a0a (ne _ h2)];exact h2,h3⟩
 ·have ow:∀c y,H c=some (.own y)→upd H a (.dK kvs) c=some (.own y):=fun c y r=>by rw [a0a (a0u r e ‹iz›)];exact r
  have tu:∀c xs,H c=some (.tup xs)→upd H a (.dK kvs) c=some (.tup xs):=fun c xs r=>by rw [a0a (a0u r e ‹iz›)];exact r
  by_cases z:b=a
  ·subst z
   rw [a0d] at q;cases q
   exact (show a1c X.prog X.w H s.heap b (.dK kvs) from (I.hok b _ e).2).stay (fun c v _ r=>r) (fun c r=>ow c _ r) tu
  ·rw [a0a z] at q
   exact (I.hok b u q).stay (fun c v _ r=>r) (fun c r=>ow c _ r) tu
theorem b7r {e:Expr} {te:TE} (he:PE X e te):PE X e (b6t te):=by
 intro pins s σ H Q I h
 obtain ⟨a,kvs,hH,h⟩:=h
 refine thn (he pins s σ H _ I h) fun v s1 ⟨x,H1,I1,r1,o,e1,q⟩=>?_
 refine ⟨x,_,I1.thaw e1 (fun ob u z=>?_),r1,q⟩
 have:=I.base.frzs a ob u z
 rw [hH] at this;cases this
end
structure b5B (K:Qe) (x qual:Str) (st:Stmt) (f:Addr) (fd:FuncData) (T:Addr) (ds:List Value):Prop where
 ex:∃(oc:Value) (od:Option Addr) (kV doc pm:Value) (an:Option Addr) (cdv ct:Value) (osl:Array (Option Value)) (oT:Obj) (nT:Nat),
  fd=Zb x qual (a2c st) (a1w st) (a0c st) (.ref T) kV doc pm an cdv ct∧K.lookup f=some ⟨oc,od,.func fd,osl⟩∧Ju K cdv qual=true∧K.lookup T=some oT∧oT.data=.seq ds.toArray nT
 kp:Zo K (.ref f)=true
section
variable {P:Program} {w:World} {K:Qe} {mg:Str→Option Value} {base:Heap}
theorem b5B.ok {x qual:Str} {st:Stmt} {f:Addr} {fd:FuncData} {T:Addr} {ds:List Value} {N ps:List Str} {k:Nat} {sp:Sp} (F:b5B K x qual st f fd T ds) (S:a0f N ps (a0c st)) (len:∀vs H Q E,sp vs H Q E→vs.length=ps.length)
  (hbody:∀(cdv:Value) (A:Around) (outer:List Env) (s:Shared) (H:Hp) (vs:List V) (Q:VK) (E:XK),a2x k (A.deeper (envOfC qual (a0c st) s.heap.objs.size f cdv))→sp vs H Q E→
   ∃t,PSs (b5g CX0 P w K mg base N qual (a0c st) f cdv A outer s H E).nox (a1w st) t∧t {nx:=fun _ H'=>Q .non H',rt:=Q} (start N vs) H):a0R P w K mg base CX0 (k+1) f fd ps sp:=by
 obtain ⟨oc,od,kV,doc,pm,an,cdv,ct,osl,oT,nT,rfl,lk,hcd,_⟩:=F.ex
 refine b6q lk hcd S len fun A outer s H vs Q E hr hsp=>?_
 obtain ⟨t,h,q⟩:=hbody cdv A outer s H vs Q E hr hsp
 exact ⟨t,h.nox,q⟩
theorem b5B.binds {x qual:Str} {st:Stmt} {f:Addr} {fd:FuncData} {T:Addr} {ds:List Value} {ps:List Str} (es:List Value) (F:b5B K x qual st f fd T ds)
  (h:∀(kV doc pm:Value) (an:Option Addr) (cdv ct:Value) (us:List Value),(us++es).length=ps.length→∃k,bindArgs (Zb x qual (a2c st) (a1w st) (a0c st) (.ref T) kV doc pm an cdv ct) ⟨us,[]⟩=seqItems? (.ref T) >>= k∧k (some ds.toArray)=pure (ps.zip (us++es))):a0n K fd ps es:=by
 obtain ⟨oc,od,kV,doc,pm,an,cdv,ct,osl,oT,nT,rfl,lk,hcd,lT,hT⟩:=F.ex
 intro s us X hl
 obtain ⟨k,h1,h2⟩:=h kV doc pm an cdv ct us hl
 exact PySem.W.binds_K X rfl lT hT h1 h2
theorem a7n {x qual:Str} {st:Stmt} {f T:Addr} {oc:Value} {od an:Option Addr} {osl:Array (Option Value)} {kV doc pm cdv ct:Value} {oT:Obj} {nT:Nat} {ds:List Value} (l:K.lookup f=some ⟨oc,od,.func (Zb x qual (a2c st) (a1w st) (a0c st) (.ref T) kV doc pm an cdv ct),osl⟩)
  (c:Ju K cdv qual=true) (k:Zo K (.ref f)=true) (lT:K.lookup T=some oT) (hT:oT.data=.seq ds.toArray nT):b5B K x qual st f (Zb x qual (a2c st) (a1w st) (a0c st) (.ref T) kV doc pm an cdv ct) T ds:=⟨⟨oc,od,kV,doc,pm,an,cdv,ct,osl,oT,nT,rfl,l,c,lT,hT⟩,k⟩
end
section
variable {X:Cx} {pins:List (Addr×Obj)} {σ:St} {H:Hp} {s:Shared} {h':Heap} {tg:Expr}
theorem Inv.turnedL {t':Nat} (fp:List Addr) (I:Inv X pins σ H s) (k:∀b o,b∉fp→s.heap.get? b=some o→h'.get? b=some o) (f:∀b∈fp,a7X X pins H b):Inv X pins σ H {s with heap:=h',toks:=t'}:=by
 have ne:∀b u,H b=some u→b∉fp:=fun b u q z=>by rw [(f b z).1] at q;cases q
 refine I.step (g':=s.gens) (d':=s.drawn) (ch:=fp) (fun b hb=>?_) (fun b o _ _ hc q _=>k b o hc q) (fun b o _ _ hc q _=>⟨o.slots,k b o hc q⟩) (fun _ _ _ _ n=>n)
  (fun b o hc q=>⟨o,k b o hc q⟩) (fun _ _ q=>q) (fun _ _ _ q=>q) (fun b ps q=>⟨#[],by rw [q];simp⟩) (fun m hm=>?_) (fun b u q=>?_) I.bare
 ·obtain ⟨_,a1,_,a3,a4,a5⟩:=f b hb
  exact ⟨a3,a1,a4,a5⟩
 ·obtain ⟨o,es,ep,ho,r⟩:=hm
  exact ⟨o,es,ep,k _ o (fun z=>(f _ z).2.1 rfl) ho,r⟩
 ·refine (I.hok b u q).stay (fun c v hc z=>k c v ?_ z) (fun _ z=>z) fun _ _ z=>z
  rcases hc with z | z
  ·rw [z];exact ne b u q
  ·exact ne c _ z
end
section
variable {X:Cx} {pins:List (Addr×Obj)} {σ:St} {H:Hp} {s:Shared} {a:Addr} {kvs:List (Key×V)} {k:Key} {u:Value} {A:Around} {E:Value→Shared→Prop}
theorem b8y {z:V} {r:Value} {Q:Value→Shared→Prop} (I:Inv X pins σ H s) (e:H a=some (.dK kvs)) (ry:a0Q (kV k) u) (rz:a0Q z r) (hz:kvs.length < sizeLine)
  (h1:∀v w' s',a0T kvs k=some v→Inv X pins σ H s'→a0Q v w'→Q w' s') (h2:a0T kvs k=none→∀s',Inv X pins σ (upd H a (.dK (a2F kvs k z))) s'→Q r s'):
  wpAny (model X.prog X.w) A (call (.builtin "dict.setdefault") [.ref a,u,r]) Q E s:=by
 obtain ⟨z0,hd,vs,rel,dd⟩:=a6n I.hok e
 refine call_meetsIn Vd dd.typeIs PySem.F.entry_dict_setdefault (PySem.F.args_dict_setdefault_3 _ _ _) (kt_meets_setdefault (a0m X.prog X.w) a (a6z ry) hd r) ⟨vs,dd,by rw [←rel.length];exact z0,fun v hv=>?_,fun hn h' dd' hs=>?_⟩
 ·cases l:a0T kvs k with
  | none=>
   have:=a4F.none_of (o:=valueAt vs k) (by rw [←l];exact rel.val k)
   rw [this] at hv;cases hv
  | some x=>
   obtain ⟨w',hw,rw'⟩:=a4F.some_of (v:=x) (o:=valueAt vs k) (by rw [←l];exact rel.val k)
   rw [hw] at hv;cases hv
   exact h1 x _ _ l (I.tok _) rw'
 ·have l:a0T kvs k=none:=by
   cases l:a0T kvs k with
   | none=>rfl
   | some x=>
    obtain ⟨w',hw,_⟩:=a4F.some_of (v:=x) (o:=valueAt vs k) (by rw [←l];exact rel.val k)
    rw [hw] at hn;cases hn
  refine h2 l _ ?_
  have he:∃q,h'.get? a=some q:=let ⟨q,_,_,hq,_⟩:=dd';⟨q,hq⟩
  exact a4z I (by rw [e];exact True.intro) hs he (a8i (by have:=a0K kvs k z;omega) hd (rel.put k rz) dd')
end
def a6y (td ty tx:TE):TE:=fun σ H Q=>td σ H fun x H1=>∃a,x=.ref a∧IsD H1 a∧ty σ H1 fun y H2=>tx σ H2 fun z H3=>∃kvs k,H3 a=some (.dK kvs)∧y=kV k∧kvs.length < sizeLine∧
 (∀v,a0T kvs k=some v→Q v H3)∧(a0T kvs k=none→Q z (upd H3 a (.dK (a2F kvs k z))))
section
variable {X:Cx} {o e f:Expr} {apos cpos:Pos} {td ty tx:TE}
theorem b3C (ho:PE X o td) (he:PE X e ty) (hf:PE X f tx) (m:M2 X o "setdefault" apos e f cpos):PE X (.Call (.Attribute o "setdefault" apos) [e,f] [] cpos) (a6y td ty tx):=by
 intro pins s σ H Q I h
 refine wpAny_Call_method m.base m.few m.line Zy Vd PySem.F.type_dict_setdefault (thn (ho pins s σ H _ I h) fun u s1 ⟨x,H1,I1,rx,a,ex,d,q1⟩=>?_)
 subst ex
 obtain rfl:u=Value.ref a:=rx
 obtain ⟨t1,t2,_⟩:=b0g I1 d
 refine ⟨t1,t2,?_⟩
 rw [m.trees]
 refine Calls.callWith_builtin rfl (Calls.evalArgs_plain (Calls.spliced_cons (thn (he pins s1 σ H1 _ I1 q1) fun iv s2 ⟨y,H2,I2,ry,q2⟩=>
  Calls.spliced_cons (thn (hf pins s2 σ H2 _ I2 q2) fun fv s3 ⟨z,H3,I3,rz,kvs,k,hH,ey,hz,q3,q4⟩=>Calls.spliced_nil ?_))))
 subst ey
 exact b8y I3 hH ry rz hz (fun v w' s' l I' r'=>⟨v,H3,I',r',q3 v l⟩) (fun l s' I'=>⟨z,_,I',rz,q4 l⟩)
end
section
variable {α β:Type}
def TOk (n:Nat) (P:α→Prop):KasT α→Prop
 | .ret a=>P a
 | .ask i j k=>i < n∧j < n∧∀b,TOk n P (k b)
def a1g (lt:Nat→Nat→Bool):KasT α→α
 | .ret a=>a
 | .ask i j k=>a1g lt (k (lt i j))
theorem TOk.run {n:Nat} {P:α→Prop} {lt:Nat→Nat→Bool}:∀{t:KasT α},TOk n P t→P (a1g lt t)
 | .ret _,h=>h
 | .ask i j k,h=>show P (a1g lt (k (lt i j))) from TOk.run (h.2.2 (lt i j))
theorem TOk.wp {n:Nat} {P:α→Prop} {lt:Nat→Nat→Bool} {cmp:Nat→Nat→(Bool→Shared→Prop)→Shared→Prop} {Q:α→Shared→Prop} {s:Shared} (hc:∀i j C,i < n→j < n→C (lt i j) s→cmp i j C s):∀{t:KasT α},TOk n P t→Q (a1g lt t) s→t.kasWp cmp Q s
 | .ret _,_,q=>q
 | .ask i j k,h,q=>hc i j _ h.1 h.2.1 (TOk.wp hc (h.2.2 _) q)
theorem TOk.bind {n:Nat} {P:α→Prop} {R:β→Prop} {f:α→KasT β} (hf:∀a,P a→TOk n R (f a)):∀{t:KasT α},TOk n P t→TOk n R (t.bind f)
 | .ret _,h=>hf _ h
 | .ask i j k,h=>⟨h.1,h.2.1,fun b=>TOk.bind hf (h.2.2 b)⟩
end
def a0C (n:Nat) (p:Array Nat):Prop:=p.Perm (Yh (Xz n))
theorem a0C.list {n:Nat} {p:Array Nat} (h:a0C n p):p.toList.Perm (Xz n):=Array.perm_iff_toList_perm.mp h
theorem a0C.lt {n:Nat} {p:Array Nat} (h:a0C n p) (hn:0 < n) (i:Nat):p.getD i 0 < n:=by
 by_cases hi:i < p.size
 ·have h1:p[i]∈Xz n:=h.list.mem_iff.mp (by simp)
  have e:p.getD i 0=p[i]:=by simp [Jz,hi]
  rw [e];exact Jm.mp h1
 ·have e:p.getD i 0=0:=by simp [Jz,hi]
  rw [e];exact hn
theorem a0C.rev {n:Nat} {p:Array Nat} (h:a0C n p) (i j:Nat):a0C n (kas_rev p i j):=(mirror_perm _ _ _ _).trans h
theorem a0C.bub {n:Nat} {p:Array Nat} (h:a0C n p) (i j:Nat):a0C n (bubble p i j):=(bubble_perm _ _ _).trans h
section
variable {n:Nat} (hn:0 < n)
include hn
theorem b2A {p:Array Nat} (hp:a0C n p):∀f m,TOk n (fun _=>True) (kas_asc p f m)
 | 0,m=>trivial
 | f+1,m=>⟨hp.lt hn _,hp.lt hn _,fun b=>by
   show TOk n _ (if b=true then _ else _)
   split
   ·exact trivial
   ·exact b2A hp f (m+1)⟩
theorem a5J:∀f (p:Array Nat) m q,a0C n p→TOk n (fun r=>a0C n r.1) (kas_desc f p m q)
 | 0,p,m,q,hp=>hp
 | f+1,p,m,q,hp=>⟨hp.lt hn _,hp.lt hn _,fun b=>by
   show TOk n _ (if b=true then _ else _)
   split
   ·split
    ·exact a5J f _ _ _ (hp.rev _ _)
    ·exact a5J f _ _ _ hp
   ·refine ⟨hp.lt hn _,hp.lt hn _,fun d=>?_⟩
    show TOk n _ (if d=true then _ else _)
    split
    ·exact hp
    ·exact a5J f _ _ _ hp⟩
theorem a7O {p:Array Nat} (hp:a0C n p) (m r:Nat):TOk n (fun r=>a0C n r.2) (kas_tail3 m r p):=by
 unfold kas_tail3
 refine TOk.bind (P:=fun _=>True) (fun k _=>?_) (b2A hn (hp.rev _ _) _ _)
 exact hp.rev 0 m
theorem a4v {p:Array Nat} (hp:a0C n p) (m r:Nat):TOk n (fun r=>a0C n r.2) (kas_descPart m r p):=TOk.bind (fun a ha=>by
 split
 ·exact a7O hn (a0C.rev ha _ _) _ _
 ·exact a7O hn ha _ _) (a5J hn _ _ _ _ hp)
theorem b4k {p:Array Nat} (hp:a0C n p) (r:Nat):TOk n (fun r=>a0C n r.2) (kas_count r p):=TOk.bind (fun a _=>by
 split
 ·exact hp
 ·split
  ·refine ⟨hp.lt hn _,hp.lt hn _,fun b=>?_⟩
   show TOk n _ (if b=true then _ else _)
   split
   ·exact hp
   ·exact a4v hn (hp.rev _ _) _ _
  ·exact a4v hn hp _ _) (b2A hn hp _ _)
theorem a5C {p:Array Nat} (hp:a0C n p) (k:Nat):∀f l r,TOk n (fun _=>True) (kas_place p k f l r)
 | 0,l,r=>trivial
 | f+1,l,r=>by
  show TOk n _ (if l≥r then _ else _)
  split
  ·exact trivial
  ·refine ⟨hp.lt hn _,hp.lt hn _,fun b=>?_⟩
   show TOk n _ (if b=true then _ else _)
   split
   ·exact a5C hp k f _ _
   ·exact a5C hp k f _ _
theorem b4Q:∀f (p:Array Nat) k,a0C n p→TOk n (a0C n) (kas_bin f p k)
 | 0,p,k,hp=>hp
 | f+1,p,k,hp=>TOk.bind (fun l _=>b4Q f _ _ (hp.bub _ _)) (a5C hn hp k _ _ _)
theorem b1C:TOk n (a0C n) (kas_sort n):=TOk.bind (fun r hr=>by
 split
 ·exact b4Q hn _ _ _ hr
 ·exact hr) (b4k hn (Wz.refl _) n)
end
theorem a8R (vs:List Value):(Xz vs.length).map (fun i=>vs.getD i Value.none)=vs:=by
 refine Jc (by simp) fun i h1 h2=>?_
 simp [h2]
section
variable {prog:Program} {w:World} {A:Around} {E:Value→Shared→Prop} {s:Shared}
theorem a3X {a:Addr} {vs:List Value} {n:Nat} {P:PySem.Fin→Shared→Prop} (ho:s.heap.get? a=some (seqObj "list" vs.toArray n)) (h64:vs.length < 64) (lt:Nat→Nat→Bool) (κ:SortKind)
  (hk:2≤vs.length→∀h',(∀b o,b≠a→s.heap.get? b=some o→h'.get? b=some o)→∀Q:SortKind→Shared→Prop,Q κ {s with heap:=h'}→wpAny (model prog w) A (keyKind' vs.toArray) Q (fun _ _=>False) {s with heap:=h'})
  (hask:∀h',(∀b o,b≠a→s.heap.get? b=some o→h'.get? b=some o)→∀i j C,i < vs.length→j < vs.length→C (lt i j) {s with heap:=h'}→kas_ask prog w A κ vs i j C {s with heap:=h'})
  (h:∀p:Array Nat,a0C vs.length p→(2≤vs.length→p=a1g lt (kas_sort vs.length))→P (.done (.ret .none)) {s with heap:=sortedHeap s.heap a vs (Yh (p.toList.map fun i=>vs.getD i Value.none))}):
  wpAny (model prog w) A (Builtin.«list.sort» ⟨[.ref a],[]⟩) P E s:=by
 rw [list_sort_plain]
 have ha:a < s.heap.objs.size:=Qz ho
 refine wpAny_bind (listItems_at ho rfl ?_)
 refine wpAny_bind (listUpdate_at ho rfl ?_ (by rw [Qu,sizeLine_eq];omega) (Xb _))
 obtain ⟨e1,ho1⟩:∃e1,(s.heap.update a (Obj.mapSeq fun _=>#[])).get? a=some (seqObj "list" #[] e1):=⟨_,get?_update_seq ho (fun _=>#[])⟩
 refine wpAny_bind (seqEpoch_at ho1 rfl ?_)
 refine wpAny_bind (wpAny_newTuple ?_ (by show vs.length≤_;rw [sizeLine_eq];omega))
 refine wpAny_bind (wpAny_newList ?_ (Xb _))
 refine wpAny_holding ?_
 have ho6:(((s.heap.update a (Obj.mapSeq fun _=>#[])).push (seqObj "tuple" vs.toArray 0)).push (seqObj "list" #[] 0)).get? a=some (seqObj "list" #[] e1):=by
  rw [Jj _ _ _ (by rw [size_push',Vx];exact Xl (Zu ha)),Jj _ _ _ (by rw [Vx];exact Xl ha)]
  exact ho1
 have keep:∀b o,b≠a→s.heap.get? b=some o→(((s.heap.update a (Obj.mapSeq fun _=>(#[]:Array Value))).push (seqObj "tuple" vs.toArray 0)).push (seqObj "list" #[] 0)).get? b=some o:=fun b o hb e=>by
  refine Qo _ (Qo _ ?_)
  rw [Ja _ _ _ _ hb];exact e
 show wpAny (model prog w) A _ P E {s with heap:=((s.heap.update a (Obj.mapSeq fun _=>(#[]:Array Value))).push (seqObj "tuple" vs.toArray 0)).push (seqObj "list" #[] 0)}
 dsimp only
 by_cases h2:vs.toArray.size < 2
 ·rw [if_pos h2,if_pos h2]
  refine wpAny_bind (wpAny_pure ?_)
  rw [StateT.run_pure]
  refine wpAny_bind (wpAny_pure ?_)
  dsimp only
  refine wpAny_bind (seqEpoch_at ho6 rfl ?_)
  have hz:((arrOf (SortSt.mk' general' (vs.toArray.zip vs.toArray) #[] 7 none)).map (·.2))=Yh ((Yh (Xz vs.length)).toList.map fun i=>vs.getD i Value.none):=by
   have e:=a8R vs
   show ((vs.toArray.zip vs.toArray).map (·.2))=Yh ((Xz vs.length).map fun i=>vs.getD i Value.none)
   rw [e]
   apply Vy.mp
   simp
   exact List.map_snd_zip (Qj _)
  rw [hz]
  refine wpAny_bind (listUpdate_at ho6 rfl ?_ (Xb _) (by simp only [Qu,Qd,Zv];rw [sizeLine_eq];omega))
  simp only [bne_self_eq_false,Zp,if_false]
  exact wpAny_pure (h (Yh (Xz vs.length)) (Wz.refl _) (fun z=>by rw [Qu] at h2;omega))
 ·rw [if_neg h2,if_neg h2]
  rw [Qu] at h2
  have h2':2≤vs.length:=by omega
  refine wpAny_bind (wpAny_mono (hk h2' _ keep (fun κ' s0=>κ'=κ∧s0={s with heap:=((s.heap.update a (Obj.mapSeq fun _=>(#[]:Array Value))).push (seqObj "tuple" vs.toArray 0)).push (seqObj "list" #[] 0)}) ⟨rfl,rfl⟩) (fun κ' s0 hk'=>?_) fun _ _ x=>x.elim)
  obtain ⟨rfl,rfl⟩:=hk'
  have hok:=b1C (n:=vs.length) ‹om›
  refine wpAny_bind (wpAny_mono (kat_run (Q:=fun st' s'=>∃p:Array Nat,p.size=vs.length∧arrOf st'=p.map (kas_item (vs.toArray.zip vs.toArray))∧failedOf st'=none∧p=a1g lt (kas_sort vs.length)∧s'={s with heap:=((s.heap.update a (Obj.mapSeq fun _=>(#[]:Array Value))).push (seqObj "tuple" vs.toArray 0)).push (seqObj "list" #[] 0)})
   (G:=fun p s'=>p=a1g lt (kas_sort vs.length)∧s'={s with heap:=((s.heap.update a (Obj.mapSeq fun _=>(#[]:Array Value))).push (seqObj "tuple" vs.toArray 0)).push (seqObj "list" #[] 0)})
   rfl h2' h64 (fun p' st' s' a1 a2 a3 a4=>⟨p',a1,a2,a3,a4.1,a4.2⟩) (TOk.wp (lt:=lt) (fun i j C hi hj hC=>hask _ keep i j C hi hj hC) hok ⟨rfl,rfl⟩)) ?_ fun _ _ e=>e)
  rintro ⟨⟨⟩,st'⟩ s' ⟨p,hp,har,hf,hpe,rfl⟩
  dsimp only
  have hP:a0C vs.length p:=by rw [hpe];exact hok.run
  refine wpAny_bind (seqEpoch_at ho6 rfl ?_)
  rw [kat_snds rfl har]
  refine wpAny_bind (listUpdate_at ho6 rfl ?_ (Xb _) (by simp only [Qu,Qd,Zl];rw [sizeLine_eq];omega))
  rw [hf]
  simp only [bne_self_eq_false,Zp,if_false]
  exact wpAny_pure (h p hP fun _=>hpe)
end
def b5s (K:Qe):List V→Hp→VK→Prop:=fun xs H Q=>∃(p:Addr) (ss:List Str),xs=[.ref p]∧SqL K H p (ss.map V.str)∧ss.length < 64∧∀l ss',H l=none→ss'.Perm ss→sortedS ss'=true→Q (.ref l) (upd H l (.lst (ss'.map V.str)))
def b5F:List V→Hp→VK→Prop:=fun xs H Q=>∃(p:Addr) (kvs:List (Key×V)) (ss:List Str),xs=[.ref p]∧Rd H p (.dK kvs)∧kvs.map (·.1)=ss.map Sum.inr∧ss.length < 64∧∀l ss',H l=none→ss'.Perm ss→sortedS ss'=true→Q (.ref l) (upd H l (.lst (ss'.map V.str)))
theorem a4Y:∀{ss:List Str} {its:List Value},a0Y (ss.map V.str) its→StrsAre its ss
 | [],_,r=>by cases r;exact .nil
 | x::ss,_,r=>by
  cases r with
  | cons h t=>obtain ⟨t0,rfl⟩:=h;exact .cons _ _ (a4Y t)
theorem a4q {ss:List Str} {its:List Value} (h:StrsAre its ss):a0Y (ss.map V.str) its:=by
 induction h with
 | nil=>exact .nil
 | cons x t h ih=>exact .cons ⟨t,rfl⟩ ih
section
variable {X:Cx}
theorem a8U:a1C X (.builtin "sorted") (b5s X.K):=by
 intro pins s σ H xs us Q I r h
 obtain ⟨p,ss,rfl,hq,h64,q⟩:=h
 obtain ⟨u,rfl,ru⟩:=a3u r
 cases ru
 obtain ⟨its,rv,pl,hz⟩:=I.list hq
 have hn:=rv.length
 rw [Qd] at hn
 refine sorted_strs pl.isList (a4Y rv) ‹om› fun out ss' a1 a2 a3=>?_
 obtain ⟨e,he⟩:=sortedAll_at s.heap its out
 have hl:ss'.length < 64:=by rw [a2.length_eq];exact h64
 have I1:=I.laid (a:=s.heap.objs.size+1) (o:=.lst (ss'.map V.str)) (h':=sortedAll s.heap its out) (t':=s.toks) (fun _ _ q=>sortedAll_old q) (Je _) ⟨by rw [Qd,sizeLine_eq];omega,out.toList,e,a4q a1,he⟩
 exact ⟨.ref (s.heap.objs.size+1),_,I1,rfl,q _ _ (I.hok.fresh (Je _)) a2 a3⟩
theorem b1c {P:Program} {w:World} {z:Str} {v:Value} (h:(a0m P w).is (Sum.inr z) v=true):∃t,v=.str z t:=Value.isStrOf_shape h
theorem b2I {P:Program} {w:World} {k:Key} {v:Value} (h:(a0m P w).is k v=true):a0Q (kV k) v:=by
 cases k with
 | inl i=>obtain ⟨t,e⟩:=Value.isInt_shape (k:=i) (v:=v) h;exact ⟨t,e⟩
 | inr x=>obtain ⟨t,e⟩:=Value.isStrOf_shape (x:=x) (v:=v) h;exact ⟨t,e⟩
theorem a3q:∀{its:List Value} {ss:List Str},its.length=ss.length→(∀(j:Nat) v,its[j]?=some v→∃z t,ss[j]?=some z∧v=.str z t)→StrsAre its ss
 | [],[],_,_=>.nil
 | [],_::_,h,_=>by simp at h
 | _::_,[],h,_=>by simp at h
 | v::its,z::ss,h,hv=>by
  obtain ⟨z',t,e1,e2⟩:=hv 0 v rfl
  cases e1
  rw [e2]
  exact .cons _ _ (a3q (by simpa using h) fun j u e=>by
   obtain ⟨a,b,c,d⟩:=hv (j+1) u (by simpa using e)
   exact ⟨a,b,by simpa using c,d⟩)
theorem a8a:∀{r:List (Key×V)} {rs:List (Key×Value)},KV r rs→∀{i:Nat} {k:Key} {x:Value},rs[i]?=some (k,x)→∃y,r[i]?=some (k,y)∧a0Q y x:=by
 intro r rs h
 unfold KV at h
 induction h with
 | nil=>intro i k x e;simp at e
 | @cons p q ps qs h t ih=>
  intro i k x e
  cases i with
  | zero=>
   simp only [Qa,Option.some.injEq] at e
   subst e
   exact ⟨p.2,by simp only [Qa];rw [show (k,p.2)=p from by rw [←show p.1=k from h.1]],h.2⟩
  | succ i=>exact ih (by simpa using e)
theorem a9v (hc:X.calm=true):a1C X (.builtin "sorted") b5F:=by
 intro pins s σ H xs us Q I r h
 obtain ⟨p,kvs,ss,rfl,hq,hks,h64,q⟩:=h
 obtain ⟨u,rfl,ru⟩:=a3u r
 cases ru
 obtain ⟨z,hd,vs,rel,dd⟩:=a4t I.hok hq
 obtain ⟨ep,hat⟩:=dd.dictAt
 have hn:vs.length=ss.length:=by rw [←rel.length];have:=congrArg Yp hks;simpa using this
 refine Calls.call_function_entry kind_sorted plain_sorted entry_sorted (args_sorted1 _) ?_
 unfold Builtin.«sorted»
 refine wpAny_bind (m:=checkCount "sorted" 1 1 _) (wpAny_pure ?_)
 refine wpAny_bind (kdu_collect (A:=X.A.in1) (kdl_dict (knd:=a0m X.prog X.w) (kvs:=vs) (ep:=ep) hd) (I.ok.hd hc) hat (by rw [sizeLine_eq];omega) fun h' tk acc hk hacc=>?_)
 have hal:acc.toList.length=ss.length:=by rw [Zl];exact hacc.1.trans hn
 have hS:StrsAre acc.toList ss:=a3q hal fun j v e=>by
  obtain ⟨k,x,hx,hkv⟩:=hacc.2 j v (by rw [←Ur];exact e)
  obtain ⟨y,hy,_⟩:=a8a rel hx
  have h1:(kvs.map (·.1))[j]?=some k:=by rw [Ql,hy];rfl
  rw [hks,Ql] at h1
  cases e2:ss[j]? with
  | none=>rw [e2] at h1;cases h1
  | some z'=>
   rw [e2] at h1
   cases h1
   obtain ⟨t,ht⟩:=b1c hkv
   exact ⟨z',t,rfl,ht⟩
 refine wpAny_bind (wpAny_newList ?_ (by rw [hal,sizeLine_eq];omega))
 have hoL:(h'.push (seqObj "list" acc.toList.toArray 0)).get? h'.objs.size=some (seqObj "list" acc.toList.toArray 0):=Xd _ rfl
 refine wpAny_bind (wpAny_holding (wpAny_call_entry slot_list_sort ⟨_,hoL,rfl⟩ entry_list_sort (list_sort_treeK (s:={s with heap:=h'.push (seqObj "list" acc.toList.toArray 0),toks:=tk}) (vs:=acc.toList) strKind_oneLt hoL hS.keysOf (fun v₁ v₂ a6M e=>keyKind_strs (by rw [←e];exact hS)) ‹om› fun st' a1 a2=>⟨_,rfl,?_⟩) (args_list_sort _)))
 refine wpAny_pure ⟨_,rfl,?_⟩
 obtain ⟨ss',b1,b2,b3⟩:=sorted_out_str hS a1 a2
 generalize (arrOf st').map (·.2)=out at b1 ⊢
 obtain ⟨e,he⟩:=sortedHeap_at (out:=out) hoL
 have hl:ss'.length < 64:=by rw [b2.length_eq];exact h64
 have I1:=I.kept (t':=tk) hk
 have I2:=I1.laid (a:=h'.objs.size) (o:=.lst (ss'.map V.str)) (h':=sortedHeap (h'.push (seqObj "list" acc.toList.toArray 0)) h'.objs.size acc.toList out) (t':=tk) (fun b o e=>by
  have hb:b < h'.objs.size:=Qz e
  rw [sortedHeap_old (Xl hb) (by rw [size_push'];exact Zu hb)]
  exact Qo _ e) (Qj _) ⟨by rw [Qd,sizeLine_eq];omega,out.toList,e,a4q b1,he⟩
 exact ⟨.ref h'.objs.size,_,I2,rfl,q _ _ (I1.hok.fresh (Qj _)) b2 b3⟩
def a1x (H:Hp):V→Int×Str
 | .ref a=>match H a with
  | some (.tup [.int i,.str z])=>(i,z)
  | _=>(0,"")
 | _=>(0,"")
def ltP (x y:Int×Str):Bool:=if x.1=y.1 then (if x.2=y.2 then false else decide (x.2.cps.toList < y.2.cps.toList)) else decide (x.1 < y.1)
theorem a9M {P:Program} {w:World} {H:Hp} {h:Heap} {a:Addr} {i:Int} {z:Str} (ok:a1c P w H h a (.tup [.int i,.str z])):∃o n t t',h.get? a=some o∧o.cls=.type "tuple"∧o.data=.seq #[.int i t,.str z t'] n:=by
 obtain ⟨_,its,rv,o,ho,hc,n,hd⟩:=ok
 cases rv with
 | cons h1 r=>
  cases r with
  | cons h2 r=>
   cases r
   obtain ⟨t,rfl⟩:=h1
   obtain ⟨t',rfl⟩:=h2
   exact ⟨o,n,t,t',ho,hc,hd⟩
theorem a7y {P:Program} {w:World} {H:Hp} {h h':Heap} (hok:∀a o,H a=some o→a1c P w H h a o) (hk:∀b o,h.get? b=some o→h'.get? b=some o):∀{ys:List V} {its:List Value},a0Y ys its→(∀v∈ys,∃a i z,v=.ref a∧H a=some (.tup [.int i,.str z]))→
  ∃fs,KatTups h' its fs∧fs.length=its.length∧∀v∈fs,∃i t,v=.int i t
 | [],_,r,_=>by cases r;exact ⟨[],trivial,rfl,by simp⟩
 | y::ys,_,r,hT=>by
  cases r with
  | cons h1 r=>
   obtain ⟨fs,g1,g2,g3⟩:=a7y hok hk r fun v hv=>hT v (Qt _ hv)
   obtain ⟨a,i,z,rfl,ha⟩:=hT y Qq
   cases h1
   obtain ⟨o,n,t,t',e1,e2,e3⟩:=a9M (hok _ _ ha)
   refine ⟨.int i t::fs,KatTups.cons (hk _ _ e1) e2 e3 rfl g1,by simp [g2],fun v hv=>?_⟩
   rcases Qw.mp hv with e | e
   ·exact ⟨i,t,e⟩
   ·exact g3 v e
theorem a4h {ys:List V} {its:List Value} (r:a0Y ys its):∀(l:List Nat),(∀i∈l,i < ys.length)→a0Y (l.map fun i=>ys.getD i .non) (l.map fun i=>its.getD i Value.none)
 | [],_=>.nil
 | i::l,h=>by
  have hi:=h i Qq
  obtain ⟨u,hu,ru⟩:=r.get (Qc hi)
  refine .cons ?_ (a4h r l fun j hj=>h j (Qt _ hj))
  show a0Q (ys.getD i .non) (its.getD i Value.none)
  rw [Xs,Qc hi,Xs,hu]
  exact ru
theorem a9g (vs:List V):(Xz vs.length).map (fun i=>vs.getD i .non)=vs:=by
 refine Jc (by simp) fun i h1 h2=>?_
 simp [h2]
theorem a2g:bootBuiltins "sorted"=some (.builtin "sorted"):=by decide+kernel
end
def Iti (o:Obj) (a:Addr) (kvs:List (Key×V)):It:=⟨fun i H=>H a=some (.frz o (.dK kvs))∧i < kvs.length,fun i H x H'=>∃p k v,H p=none∧kvs[i]?=some (k,v)∧x=.ref p∧H'=upd H p (.tup [kV k,v]),fun i H=>H a=some (.frz o (.dK kvs))∧kvs.length≤i⟩
def b1x (td:TE):TI:=fun σ H R=>td σ H fun x H1=>∃(a:Addr) (kvs:List (Key×V)),x=.ref a∧H1 a=some (.dK kvs)∧∀o,R (Iti o a kvs) (upd H1 a (.frz o (.dK kvs)))
theorem b9F {K:Qe} {o:Obj} {a:Addr} {kvs:List (Key×V)} {js:List (Option Nat)} {te:TE} {σ:St} {H:Hp} {Q:VK} (hn:kvs.length≤sizeLine) (σr:St) (hσ:a1H js σ=none::none::σr) (Pr:Addr→Nat→V→Hp→Prop)
  (mono:∀D i v (H1 H2:Hp),(∀b o,b≠D→H1 b=some o→H2 b=some o)→Pr D i v H1→Pr D i v H2)
  (ha:H a=some (.frz o (.dK kvs))) (hs:∀D i H' (R:V→Hp→Prop) (hi:i < kvs.length),H D=none→a0h H H'→(∃ys,H' D=some (.lst ys))→(∀v H'',a0h H' H''→Pr D i v H''→R v H'')→te (some (kV kvs[i].1)::some kvs[i].2::σr) H' R)
  (hd:∀D H' ys,H D=none→a0h H H'→H' D=some (.lst ys)→ys.length=kvs.length→(∀i v,ys[i]?=some v→Pr D i v H')→Q (.ref D) H'):a4g (Iti o a kvs) js (b4a K 2 (a4E (a0l 0) (a4E (a0l 1) b4S))) b4z te σ H Q:=by
 intro D hD
 refine ⟨fun i m σ' H' ys=>m=kvs.length - i∧i≤kvs.length∧(∃u v,σ'=u::v::σr)∧a0h H H'∧H' D=some (.lst ys)∧ys.length=i∧∀j v,ys[j]?=some v→Pr D j v H',⟨kvs.length,by simp,Xb _,⟨none,none,hσ⟩,a0h.upd hD,a0d,rfl,fun j v e=>by simp at e⟩,?_⟩
 rintro i m σ' H' ys ⟨rfl,hi,⟨u,v,rfl⟩,s,h,hl,hp⟩
 refine ⟨h,?_⟩
 by_cases hlt:i < kvs.length
 ·refine .inr ⟨⟨s _ _ ha,hlt⟩,by omega,?_⟩
  rintro x H2 ⟨p,k,w,hpn,hw,rfl,rfl⟩
  rw [Qc hlt] at hw
  have ek:kvs[i]=(k,w):=Option.some.inj hw
  obtain ⟨H3,e3,s3,h3⟩:∃H3,upd H' p (.tup [kV k,w])=H3∧a0h H' H3∧H3 p=some (.tup [kV k,w]):=⟨_,rfl,a0h.upd hpn,a0d⟩
  rw [e3]
  refine ⟨p,_,rfl,SqT.of h3,rfl,_,_,rfl,_,_,rfl,rfl,?_⟩
  unfold b4z;dsimp only
  rw [if_pos rfl]
  show te (some (kV k)::some w::σr) H3 _
  have hs':=fun R=>hs D i H3 R hlt
  simp only [ek] at hs'
  refine hs' _ hD (s.trans s3) ⟨_,s3 _ _ h⟩ fun v H'' s2 pv=>⟨s2 _ _ (s3 _ _ h),kvs.length - (i+1),by omega,rfl,hlt,⟨_,_,rfl⟩,?_,a0d,by simp [hl],fun j v' e=>?_⟩
  ·intro b o e
   rw [a0a (a0b e hD)];exact s2 _ _ (s3 _ _ (s b o e))
  ·have up:∀b o,b≠D→H'' b=some o→upd H'' D (.lst (ys++[v])) b=some o:=fun b o hb q=>by rw [a0a hb];exact q
   by_cases hj:j < ys.length
   ·rw [Yi hj] at e
    exact mono _ _ _ _ _ up (mono _ _ _ _ _ (fun b o _ q=>s2 _ _ (s3 _ _ q)) (hp j v' e))
   ·have hj2:=(Qn.mp e).1
    have ej:j=ys.length:=by simp at hj2;omega
    subst ej
    rw [Yg (Qj _),Uu] at e
    cases e
    rw [hl];exact mono _ _ _ _ _ up pv
 ·have e:i=kvs.length:=by omega
  subst e
  exact .inl ⟨⟨s _ _ ha,Qj _⟩,hd D H' ys hD s h hl hp⟩
section
variable {X:Cx}
theorem a9l {P:Program} {w:World} {K:Qe} {elts:List Expr} {x1:Nat} {pos:Pos} (o:Obj) (a it:Addr) (kvs:List (Key×V)):b4W P w K (.Tuple elts x1 pos) (Iti o a kvs) [it] it (fun i h=>∃es ep ok ov,o.data=.dict es ep∧IsItemIter h it a i kvs.length ep ok ov) where
 mem:=by simp
 obj:=fun i h st b hb=>by
  have e:b=it:=by simpa using hb
  subst e
  obtain ⟨_,_,_,_,_,e⟩:=st
  exact ⟨_,e,fun v z=>by cases z⟩
 keep:=fun i h h' st k=>by
  obtain ⟨es,ep,ok,ov,hd,hit⟩:=st
  exact ⟨es,ep,ok,ov,hd,k it (by simp) _ hit⟩
 item:=by
  intro X hP hw hK hc i pins s σ H E I hf st hg
  subst hP hw hK
  obtain ⟨es,ep,ok,ov,hd,hit⟩:=st
  obtain ⟨hfr,hi⟩:=hg
  obtain ⟨ho,z,hds,vs,rel,dd⟩:=(show a1c X.prog X.w H s.heap a (.frz o (.dK kvs)) from I.hok a _ hfr)
  obtain ⟨o',es',ep',ho',hx,hdat,r⟩:=dd
  rw [ho] at ho';cases ho'
  rw [hd] at hdat;cases hdat
  have hm:s.heap.DictAt (a0m X.prog X.w) a vs ep:=⟨o,es,ho,hx,hd,r⟩
  have hl:=rel.length
  rw [hl] at hit
  obtain ⟨⟨k,u⟩,hq⟩:∃q,vs[i]?=some q:=⟨_,Qc ‹om›⟩
  obtain ⟨y,hy,ry⟩:=a8a rel hq
  obtain ⟨f0,f1,f2,f3,f4,f5⟩:=hf it (by simp)
  refine wpAny_pyNext_items_item hit hm hq fun key h' hkey hit' hT hsz hk=>?_
  refine ⟨_,rfl,?_⟩
  refine wpAny_letOwnedTupleGo_items hit' fun hh hitt hs2=>?_
  have hfr':H s.heap.objs.size=none:=I.hok.fresh (Qj _)
  have hlt:it < s.heap.objs.size:=Qz hit
  have hL:=Xd s.heap (o:={cls:=.type "tuple",data:=.seq #[key,u]}) rfl
  have I1:Inv X pins σ (upd H s.heap.objs.size (.tup [kV k,y])) {s with heap:=s.heap.push {cls:=.type "tuple",data:=.seq #[key,u]},toks:=s.toks}:=
   I.laid (t':=s.toks) (fun b o q=>Qo _ q) (Qj _) ⟨by simp only [Qm,Qr];decide,[key,u],.cons (b2I hkey) (.cons ry .nil),⟨_,hL,rfl,_,rfl⟩⟩
  have up:∀b,b < s.heap.objs.size→upd H s.heap.objs.size (.tup [kV k,y]) b=H b:=fun b hb=>a0a (Xl hb)
  have I2:Inv X pins σ (upd H s.heap.objs.size (.tup [kV k,y])) {s with heap:=hh,toks:=s.toks}:=by
   refine Inv.turnedL (s:={s with heap:=s.heap.push {cls:=.type "tuple",data:=.seq #[key,u]},toks:=s.toks}) (h':=hh) (t':=s.toks) [it] I1 (fun b o hb q=>?_) (fun b hb=>?_)
   ·have hb':b≠it:=by simpa using hb
    rw [hs2.2 b hb']
    by_cases e:b=s.heap.objs.size
    ·subst e
     have q':(s.heap.push {cls:=.type "tuple",data:=.seq #[key,u]}).get? s.heap.objs.size=some o:=q
     rw [hL] at q';rw [←q'];exact hT
    ·have q2:(s.heap.push {cls:=.type "tuple",data:=.seq #[key,u]}).get? b=some o:=q
     rw [Jj _ _ _ e] at q2
     exact hk b o hb' q2
   ·have e:b=it:=by simpa using hb
    subst e
    obtain ⟨c0,c1,c2,c3,c4,c5⟩:=hf b hb
    exact ⟨by rw [up b hlt];exact c0,c1,c2,c3,c4,c5⟩
  exact ⟨.ref s.heap.objs.size,_,I2,rfl,⟨s.heap.objs.size,k,y,hfr',hy,rfl,rfl⟩,⟨es,ep,key,u,hd,by rw [hl];exact hitt⟩,fun b hb=>by
   have e:b=it:=by simpa using hb
   subst e
   rw [up b hlt];exact (hf b hb).1⟩
 done:=by
  intro X hP hw hK hc i pins s σ H E I hf st hg
  subst hP hw hK
  obtain ⟨es,ep,ok,ov,hd,hit⟩:=st
  obtain ⟨hfr,hi⟩:=hg
  obtain ⟨ho,z,hds,vs,rel,dd⟩:=(show a1c X.prog X.w H s.heap a (.frz o (.dK kvs)) from I.hok a _ hfr)
  obtain ⟨o',es',ep',ho',hx,hdat,r⟩:=dd
  rw [ho] at ho';cases ho'
  rw [hd] at hdat;cases hdat
  have hm:s.heap.DictAt (a0m X.prog X.w) a vs ep:=⟨o,es,ho,hx,hd,r⟩
  have hl:=rel.length
  rw [hl] at hit
  obtain ⟨f0,f1,f2,f3,f4,f5⟩:=hf it (by simp)
  exact wpAny_pyNext_items_end (I.ok.hd hc) hit hm (Yr ‹om›) fun h' eb=>⟨rfl,I.turned (t':=s.toks) (fun b o hb e=>eb b o hb e) f0 f1 f3 f4 f5⟩
 self:=fun _ _ _ _ _ st h=>by
  obtain ⟨es,ep,ok,ov,hd,hit⟩:=st
  exact kcp_self hit h
theorem b3u {o:Expr} {td:TE} {apos cpos:Pos} {elts:List Expr} {x1:Nat} {tpos:Pos} (ho:PE X o td) (hbase:attributeBase o "items" X.env (eval o X.env)=eval o X.env:=by rfl) (hline:(apos.endLine == cpos.line)=true:=by rfl):PI X (.Tuple elts x1 tpos) (.Call (.Attribute o "items" apos) [] [] cpos) (b1x td):=by
 intro pins s σ H R I h
 refine wpAny_Call_method0_late hbase hline (thn (ho pins s σ H _ I h) fun v s1 ⟨x,H1,I1,r1,q1⟩=>?_)
 obtain ⟨a,kvs,rfl,hH,q⟩:=q1
 cases r1
 obtain ⟨t1,t2,_⟩:=b0g I1 (.inl ⟨kvs,.inl hH⟩)
 obtain ⟨z,hds,vs,rel,dd⟩:=a6n I1.hok hH
 obtain ⟨ob,es,ep,hob,hx,hdat,r⟩:=id dd
 refine ⟨"dict","dict.items",Zy,Wf,PySem.F.type_dict_items,t1,t2,Calls.callWith_builtin rfl (PySem.evalArgs_none ?_)⟩
 refine call_meetsIn Wf t1 PySem.F.entry_dict_items (PySem.F.args_dict_items_1 _) (meets_dict_items (a0m X.prog X.w) a hds) ⟨⟨vs,dd⟩,?_⟩
 have hm:(s1.heap.push {cls:=.type "dict_items",data:=.fields #[.ref a]}).DictAt (a0m X.prog X.w) a vs ep:=⟨ob,es,Qo _ hob,hx,hdat,r⟩
 refine wpAny_pyIter_items (knd:=a0m X.prog X.w) (v:=s1.heap.objs.size) (d:=a) ⟨_,Xd _ rfl,rfl,rfl⟩ hm ?_
 have keep:∀b u,s1.heap.get? b=some u→((s1.heap.push {cls:=.type "dict_items",data:=.fields #[.ref a]}).push {cls:=.type "dict_itemiterator",data:=.fields #[.none,.bool false,.ref a,.int 0 0,.int vs.length 0,.int ep 0,.none,.none]}).get? b=some u:=fun b u e=>Qo _ (Qo _ e)
 have I2:=I1.kept (t':=s1.toks) keep
 obtain ⟨o2,ho2,I3⟩:=I2.freeze hH
 have e2:o2=ob:=by
  have:=keep a ob hob
  rw [show _=some o2 from ho2] at this
  exact Option.some.inj this
 subst e2
 have hl:=rel.length
 have hsz:(s1.heap.push {cls:=.type "dict_items",data:=.fields #[.ref a]}).objs.size=s1.heap.objs.size+1:=Vc ..
 have hfr:∀b,s1.heap.objs.size≤b→upd H1 a (.frz o2 (.dK kvs)) b=none:=fun b hb=>by
  have hn:=I1.hok.fresh (a:=b) hb
  rw [a0a (a0b hH hn).symm];exact hn
 refine ⟨(s1.heap.push {cls:=.type "dict_items",data:=.fields #[.ref a]}).objs.size,[(s1.heap.push {cls:=.type "dict_items",data:=.fields #[.ref a]}).objs.size],_,_,_,rfl,I3,a9l o2 a _ kvs,⟨es,ep,.none,.none,hdat,by rw [hl];exact Xd _ rfl⟩,fun b hb=>?_,q o2⟩
 have e:b=s1.heap.objs.size+1:=by rw [←hsz];simpa using hb
 subst e
 exact I1.fpOk (Je _) (hfr _ (Je _))
end
def b5G:List V→Hp→VK→Prop:=fun xs H Q=>∃(p:Addr) (kvs:List (Key×V)),xs=[.ref p]∧Rd H p (.dK kvs)∧∀l,H l=none→Q (.ref l) (upd H l (.lst (kvs.map fun kv=>kV kv.1)))
def b1a (K:Qe):List V→Hp→VK→Prop:=fun xs H Q=>b0s K xs H Q∨b5G xs H Q
def a0y (H:Hp) (xs:List V) (pl:List (Str×Str)):Prop:=∃as:List Addr,xs=as.map V.ref∧as.length=pl.length∧∀(i:Nat) (a:Addr) (p:Str×Str),as[i]?=some a→pl[i]?=some p→H a=some (.tup [.str p.1,.str p.2])
def b3h (H:Hp) (a:Addr):Option (Str×Str):=match H a with
 | some (.tup [.str x,.str y])=>some (x,y)
 | _=>none
def c5f (K:Qe):R2:=fun x y H Q=>∃(q l:Addr) (a b:Str) (xs:List V) (pl:List (Str×Str)),x=.ref q∧y=.ref l∧H q=some (.tup [.str a,.str b])∧SqL K H l xs∧a0y H xs pl∧(Xp a=true∧Xp b=true)∧(∀p∈pl,Xp p.1=true∧Xp p.2=true)∧Q (.bl (decide ((a,b)∈pl))) H
section
variable {X:Cx} {pos:Pos}
theorem a6d {P:Program} {w:World}:∀{kvs:List (Key×V)} {its:List Value},its.length=kvs.length→(∀(j:Nat) v,its[j]?=some v→∃k y,kvs[j]?=some (k,y)∧(a0m P w).is k v=true)→a0Y (kvs.map fun kv=>kV kv.1) its
 | [],[],_,_=>.nil
 | [],_::_,h,_=>by simp at h
 | _::_,[],h,_=>by simp at h
 | p::kvs,v::its,h,hv=>by
  obtain ⟨k,y,e1,e2⟩:=hv 0 v rfl
  cases e1
  exact .cons (b2I e2) (a6d (by simpa using h) fun j u e=>by
   obtain ⟨a,b,c,d⟩:=hv (j+1) u (by simpa using e)
   exact ⟨a,b,by simpa using c,d⟩)
theorem a9r (hc:X.calm=true):a1C X (.type "list") b5G:=by
 intro pins s σ H xs us Q I r h
 obtain ⟨p,kvs,rfl,hq,q⟩:=h
 obtain ⟨u,rfl,ru⟩:=a3u r
 cases ru
 obtain ⟨z,hd,vs,rel,dd⟩:=a4t I.hok hq
 obtain ⟨ep,hat⟩:=dd.dictAt
 have hl:=rel.length
 refine kdl_call (kdl_dict (knd:=a0m X.prog X.w) (kvs:=vs) (ep:=ep) hd) (I.ok.hd hc) hat (by rw [←hl];exact z) fun h' tk acc c hk hD hacc=>?_
 have hv:a0Y (kvs.map fun kv=>kV kv.1) acc.toList:=a6d (P:=X.prog) (w:=X.w) (by rw [Zl,hacc.1,hl]) fun j v e=>by
  obtain ⟨k,x,hx,hkv⟩:=hacc.2 j v (by rw [←Ur];exact e)
  obtain ⟨y,hy,_⟩:=a8a rel hx
  exact ⟨k,y,hy,hkv⟩
 have I1:=I.laid (a:=s.heap.objs.size) (o:=.lst (kvs.map fun kv=>kV kv.1)) (h':=h') (t':=tk) hk (Qj _) ⟨by rw [Qd];exact z,acc.toList,c,hv,hD⟩
 exact ⟨.ref s.heap.objs.size,_,I1,rfl,q _ (I.hok.fresh (Qj _))⟩
theorem a9A (hc:X.calm=true):a1C X (.type "list") (b1a X.K):=a1C.or a1W (a9r hc)
theorem a8f {K:Qe} {H:Hp} {a:Addr} {x y:Str} (h:H a=some (.tup [.str x,.str y])):Den K H (.ref a) (.tuple [.str x,.str y]):=.tup (SqT.of h) (.cons (.str x) (.cons (.str y) .nil))
theorem a8g {x y:Str} (h1:Xp x=true) (h2:Xp y=true):Xm (.tuple [.str x,.str y])=true:=by
 show (Xm (.str x) && (Xm (.str y) && true))=true
 rw [show Xm (.str x)=true from h1,show Xm (.str y)=true from h2];rfl
theorem b3H (x y a b:Str):Xu (.tuple [.str x,.str y]) (.tuple [.str a,.str b])=decide ((x,y)=(a,b)):=by
 have e:Xu (.tuple [.str x,.str y]) (.tuple [.str a,.str b])=(decide (x=a) && (decide (y=b) && true)):=by first | rfl | simp [Xu,Jr]
 rw [e]
 by_cases h1:x=a<;>by_cases h2:y=b<;>simp [h1,h2]
theorem b9w (hu:X.A.units+64 < cLine):OpR X (compareOp .In) (c5f X.K):=by
 intro pins s σ H x y v u Q I rx ry h
 obtain ⟨q,l,a,b,xs,pl,rfl,rfl,hq,hl,⟨as,rfl,hal,hat⟩,hab,hpo,qq⟩:=h
 cases rx
 cases ry
 obtain ⟨its,rv,p1,hz⟩:=I.list hl
 have hits:its=as.map Value.ref:=by
  have:∀{as:List Addr} {its:List Value},a0Y (as.map V.ref) its→its=as.map Value.ref:=by
   intro as
   induction as with
   | nil=>intro its r;cases r;rfl
   | cons a as ih=>
    intro its r
    cases r with
    | cons h t=>cases h;rw [ih t];rfl
  exact this rv
 subst hits
 have hpr:∀c∈as,∃p∈pl,H c=some (.tup [.str p.1,.str p.2]):=fun c hc=>by
  obtain ⟨i,hi,rfl⟩:=Yz hc
  have hi':i < pl.length:=by omega
  exact ⟨pl[i],Xa hi',hat i _ _ (Qc hi) (Qc hi')⟩
 obtain ⟨bs,rb⟩:=(a8f (K:=X.K) hq).reads I (show a0Q (V.ref q) (Value.ref q) from rfl)
 refine SeqAt.in_listAt (fun w=>match w with | .ref c=>decide (b3h H c=some (a,b)) | _=>false) p1.isList (fun w hw=>?_) ⟨.bl _,H,I,rfl,?_⟩
 ·obtain ⟨c,hc,rfl⟩:=Qk.mp (show w∈as.map Value.ref by simpa using hw)
  obtain ⟨p,hp,hc2⟩:=hpr c hc
  obtain ⟨cs,rc⟩:=(a8f (K:=X.K) hc2).reads I (show a0Q (V.ref c) (Value.ref c) from rfl)
  have e0:=SeqAt.eqAt_reads _ _ X.A.in1 s _ _ _ _ rc rb (a8g (hpo p hp).1 (hpo p hp).2) (a8g hab.1 hab.2) (by
   have h1:min (Yt (.tuple [.str p.1,.str p.2])) (Yt (.tuple [.str a,.str b]))≤1:=Qi (Nat.min_le_left _ _) (by simp [Yt,Zt])
   have h2:X.A.in1.units≤X.A.units+1:=by first | exact Qj _ | exact Je _ | (simp [Around.in1])
   omega)
  rw [b3H] at e0
  have e1:(match Value.ref c with | .ref c=>decide (b3h H c=some (a,b)) | _=>false)=decide ((p.1,p.2)=(a,b)):=by
   show decide (b3h H c=some (a,b))=_
   have:b3h H c=some (p.1,p.2):=by unfold b3h;rw [hc2]
   rw [this,Xn,decide_eq_true_eq,decide_eq_true_eq,Option.some.injEq]
  rw [e1];exact e0
 ·have e2:(Yh (as.map Value.ref)).any (fun w=>match w with | .ref c=>decide (b3h H c=some (a,b)) | _=>false)=decide ((a,b)∈pl):=by
   rw [List.any_toArray,Jo,Xn,Yx,decide_eq_true_eq]
   constructor
   ·rintro ⟨c,hc,e⟩
    obtain ⟨p,hp,hc2⟩:=hpr c hc
    have e':b3h H c=some (a,b):=of_decide_eq_true e
    have:b3h H c=some (p.1,p.2):=by unfold b3h;rw [hc2]
    rw [this] at e'
    have e3:p=(a,b):=Option.some.inj e'
    rw [←e3];exact hp
   ·intro hm
    obtain ⟨i,hi,e⟩:=Yz hm
    have hi':i < as.length:=by omega
    have h1:=hat i _ _ (Qc hi') (Qc hi)
    refine ⟨as[i],Xa hi',decide_eq_true ?_⟩
    unfold b3h;rw [h1,e]
  rw [e2];exact qq
theorem b7T {K:Qe} (hu:X.A.units+64 < cLine) (hK:X.K=K):OpR X (compareOp .In) (c5f K):=hK ▸ b9w hu
end
def c0q (t u:TT):TT:=fun σ H Q=>t σ H Q∨u σ H Q
theorem c2s {X:Cx} {e:Expr} {t u:TT} (h1:PT X e t) (h2:PT X e u):PT X e (c0q t u):=fun pins s σ H Q I h=>h.elim (h1 pins s σ H Q I) (h2 pins s σ H Q I)
end L2
namespace L2
open PySem PySem.Spec PySem.W PyProof.Rows
theorem a2n {α β:Type} {lt:Nat→Nat→Bool} {f:α→KasT β}:∀(t:KasT α),a1g lt (t.bind f)=a1g lt (f (a1g lt t))
 | .ret _=>rfl
 | .ask i j k=>a2n (k (lt i j))
theorem a7h {α:Type} {lt:Nat→Nat→Bool} {c:Prop} [Decidable c] {x y:KasT α}:a1g lt (if c then x else y)=if c then a1g lt x else a1g lt y:=by split<;>rfl
structure c2B (lt:Nat→Nat→Bool) (n:Nat):Prop where
 irr:∀i,i < n→lt i i=false
 tr:∀i j k,i < n→j < n→k < n→lt i j=true→lt j k=true→lt i k=true
 tot:∀i j,i < n→j < n→i≠j→lt i j=true∨lt j i=true
def Asc (lt:Nat→Nat→Bool) (p:Array Nat) (m:Nat):Prop:=∀i j,i < j→j < m→lt (p.getD i 0) (p.getD j 0)=true
def Dsc (lt:Nat→Nat→Bool) (p:Array Nat) (m:Nat):Prop:=∀i j,i < j→j < m→lt (p.getD j 0) (p.getD i 0)=true
theorem a5b (p:Array Nat) (i:Nat):p.getD i 0=(p[i]?).getD 0:=by
 by_cases h:i < p.size<;>simp [Jz,h]
theorem a0C.size {n:Nat} {p:Array Nat} (h:a0C n p):p.size=n:=by
 have:=Wz.size_eq h;simpa using this
theorem a0C.inj {n:Nat} {p:Array Nat} (h:a0C n p) {i j:Nat} (hi:i < n) (hj:j < n) (e:i≠j):p.getD i 0≠p.getD j 0:=by
 have nd:p.toList.Nodup:=(h.list.nodup_iff).mpr List.nodup_range
 have hs:=h.size
 rw [List.nodup_iff_pairwise_ne,Vo] at nd
 have e1:p.getD i 0=p[i]'‹om›:=by simp [Jz,show i < p.size by omega]
 have e2:p.getD j 0=p[j]'‹om›:=by simp [Jz,show j < p.size by omega]
 rw [e1,e2]
 rcases Nat.lt_or_gt_of_ne e with q | q
 ·exact nd i j (by simpa using (by omega:i < p.size)) (by simpa using (by omega:j < p.size)) q
 ·exact Ne.symm (nd j i (by simpa using (by omega:j < p.size)) (by simpa using (by omega:i < p.size)) q)
section
variable {lt:Nat→Nat→Bool} {n:Nat} (L:c2B lt n) (hn:0 < n)
include L hn
theorem c2B.flip {p:Array Nat} (hp:a0C n p) {i j:Nat} (hi:i < n) (hj:j < n) (e:i≠j) (h:lt (p.getD i 0) (p.getD j 0)=false):lt (p.getD j 0) (p.getD i 0)=true:=by
 rcases L.tot _ _ (hp.lt hn i) (hp.lt hn j) (hp.inj hi hj e) with q | q
 ·rw [h] at q;cases q
 ·exact q
theorem Asc.more {p:Array Nat} (hp:a0C n p) {m:Nat} (hm:1≤m) (a:Asc lt p m) (h:lt (p.getD (m - 1) 0) (p.getD m 0)=true):Asc lt p (m+1):=fun i j hij hj=>by
 by_cases q:j < m
 ·exact a i j hij q
 ·obtain rfl:j=m:=by omega
  by_cases r:i=j - 1
  ·rw [r];exact h
  ·exact L.tr _ _ _ (hp.lt hn _) (hp.lt hn _) (hp.lt hn _) (a i (j - 1) ‹om› ‹om›) h
theorem Dsc.more {p:Array Nat} (hp:a0C n p) {m:Nat} (hm:1≤m) (a:Dsc lt p m) (h:lt (p.getD m 0) (p.getD (m - 1) 0)=true):Dsc lt p (m+1):=fun i j hij hj=>by
 by_cases q:j < m
 ·exact a i j hij q
 ·obtain rfl:j=m:=by omega
  by_cases r:i=j - 1
  ·rw [r];exact h
  ·exact L.tr _ _ _ (hp.lt hn _) (hp.lt hn _) (hp.lt hn _) h (a i (j - 1) ‹om› ‹om›)
theorem a6R {p:Array Nat} (hp:a0C n p):∀f m,1≤m→m+f≤n→Asc lt p m→
  m≤a1g lt (kas_asc p f m)∧a1g lt (kas_asc p f m)≤m+f∧Asc lt p (a1g lt (kas_asc p f m))∧(a1g lt (kas_asc p f m) < m+f→lt (p.getD (a1g lt (kas_asc p f m)) 0) (p.getD (a1g lt (kas_asc p f m) - 1) 0)=true)
 | 0,m,h1,hf,a=>⟨Qj _,Qj _,a,fun z=>absurd z (Zx _)⟩
 | f+1,m,h1,hf,a=>by
  have e:a1g lt (kas_asc p (f+1) m)=if lt (p.getD m 0) (p.getD (m - 1) 0)=true then m else a1g lt (kas_asc p f (m+1)):=by
   show a1g lt (if lt (p.getD m 0) (p.getD (m - 1) 0)=true then .ret m else kas_asc p f (m+1))=_
   rw [a7h];rfl
  rw [e]
  by_cases c:lt (p.getD m 0) (p.getD (m - 1) 0)=true
  ·rw [if_pos c];exact ⟨Qj _,by omega,a,fun _=>c⟩
  ·rw [if_neg c]
   have a':Asc lt p (m+1):=Asc.more L hn hp h1 a (L.flip hn hp ‹om› ‹om› ‹om› (by simpa using c))
   obtain ⟨x1,x2,x3,x4⟩:=a6R hp f (m+1) ‹om› ‹om› a'
   exact ⟨by omega,by omega,x3,fun z=>x4 ‹om›⟩
theorem a8h {p:Array Nat} (hp:a0C n p):∀f m,1≤m→m+f≤n→Dsc lt p m→∃r,a1g lt (kas_desc f p m 0)=(p,r,0)∧m≤r∧r≤m+f∧Dsc lt p r
 | 0,m,h1,hf,a=>⟨m,rfl,Qj _,Qj _,a⟩
 | f+1,m,h1,hf,a=>by
  have e:a1g lt (kas_desc (f+1) p m 0)=if lt (p.getD m 0) (p.getD (m - 1) 0)=true then a1g lt (kas_desc f p (m+1) 0) else
    a1g lt (if lt (p.getD (m - 1) 0) (p.getD m 0)=true then KasT.ret (p,m,0) else kas_desc f p (m+1) (0+1)):=by
   show a1g lt (if lt (p.getD m 0) (p.getD (m - 1) 0)=true then (if 0 > 0 then _ else kas_desc f p (m+1) 0) else _)=_
   rw [a7h];rfl
  rw [e]
  by_cases c:lt (p.getD m 0) (p.getD (m - 1) 0)=true
  ·rw [if_pos c]
   obtain ⟨r,x1,x2,x3,x4⟩:=a8h hp f (m+1) ‹om› ‹om› (Dsc.more L hn hp h1 a c)
   exact ⟨r,x1,by omega,by omega,x4⟩
  ·rw [if_neg c,if_pos (L.flip hn hp ‹om› ‹om› ‹om› (by simpa using c))]
   exact ⟨m,rfl,Qj _,by omega,a⟩
omit L hn in
theorem b1I {p:Array Nat} {m:Nat} (hm:m≤p.size) {i:Nat} (hi:i < m):(kas_rev p 0 m).getD i 0=p.getD (m - 1 - i) 0:=by
 rw [a5b,a5b]
 unfold kas_rev
 rw [getElem?_mirror_all hm,if_pos ⟨Xb _,hi⟩]
 simp
theorem b0x {p:Array Nat} (hp:a0C n p) {m:Nat} (h1:1≤m) (hm:m≤n) (a:Dsc lt p m):
  a0C n (a1g lt (kas_tail3 m n p)).2∧m≤(a1g lt (kas_tail3 m n p)).1∧(a1g lt (kas_tail3 m n p)).1≤n∧Asc lt (a1g lt (kas_tail3 m n p)).2 (a1g lt (kas_tail3 m n p)).1:=by
 have hs:=hp.size
 have e:a1g lt (kas_tail3 m n p)=(a1g lt (kas_asc (kas_rev p 0 m) (n - m) m),kas_rev p 0 m):=by
  unfold kas_tail3;rw [a2n];rfl
 rw [e]
 have a':Asc lt (kas_rev p 0 m) m:=fun i j hij hj=>by
  rw [b1I ‹om› ‹om›,b1I ‹om› hj]
  exact a _ _ ‹om› ‹om›
 obtain ⟨x1,x2,x3,_⟩:=a6R L hn (hp.rev 0 m) (n - m) m h1 ‹om› a'
 exact ⟨hp.rev 0 m,x1,by omega,x3⟩
theorem a6N {p:Array Nat} (hp:a0C n p) {m:Nat} (h1:1≤m) (hm:m+1≤n) (a:Dsc lt p (m+1)):
  a0C n (a1g lt (kas_descPart m n p)).2∧1≤(a1g lt (kas_descPart m n p)).1∧(a1g lt (kas_descPart m n p)).1≤n∧Asc lt (a1g lt (kas_descPart m n p)).2 (a1g lt (kas_descPart m n p)).1:=by
 obtain ⟨r,x1,x2,x3,x4⟩:=a8h L hn hp (n - (m+1)) (m+1) ‹om› ‹om› a
 have e:a1g lt (kas_descPart m n p)=a1g lt (kas_tail3 r n p):=by
  unfold kas_descPart;rw [a2n,x1];rfl
 rw [e]
 obtain ⟨y1,y2,y3,y4⟩:=b0x L hn hp (m:=r) ‹om› ‹om› x4
 exact ⟨y1,by omega,y3,y4⟩
theorem b2s {p:Array Nat} (hp:a0C n p):
  a0C n (a1g lt (kas_count n p)).2∧1≤(a1g lt (kas_count n p)).1∧(a1g lt (kas_count n p)).1≤n∧Asc lt (a1g lt (kas_count n p)).2 (a1g lt (kas_count n p)).1:=by
 obtain ⟨x1,x2,x3,x4⟩:=a6R L hn hp (n - 1) 1 (Qj _) ‹om› (fun i j hij hj=>by omega)
 unfold kas_count
 rw [a2n]
 generalize a1g lt (kas_asc p (n - 1) 1)=m at x1 x2 x3 x4 ⊢
 by_cases c:(m == n)=true
 ·rw [if_pos c];exact ⟨hp,x1,by have:=beq_iff_eq.mp c;show m≤n;omega,x3⟩
 ·have hmn:m≠n:=fun z=>c (beq_iff_eq.mpr z)
  rw [if_neg c]
  by_cases d:m > 1
  ·rw [if_pos d]
   show a0C n (a1g lt (if lt (p.getD 0 0) (p.getD (m - 1) 0)=true then .ret (m,p) else kas_descPart m n (kas_rev p 0 m))).2∧1≤(a1g lt (if lt (p.getD 0 0) (p.getD (m - 1) 0)=true then .ret (m,p) else kas_descPart m n (kas_rev p 0 m))).1∧(a1g lt (if lt (p.getD 0 0) (p.getD (m - 1) 0)=true then .ret (m,p) else kas_descPart m n (kas_rev p 0 m))).1≤n∧Asc lt (a1g lt (if lt (p.getD 0 0) (p.getD (m - 1) 0)=true then .ret (m,p) else kas_descPart m n (kas_rev p 0 m))).2 (a1g lt (if lt (p.getD 0 0) (p.getD (m - 1) 0)=true then .ret (m,p) else kas_descPart m n (kas_rev p 0 m))).1
   rw [if_pos (x3 0 (m - 1) ‹om› ‹om›)]
   exact ⟨hp,x1,by show m≤n;omega,x3⟩
  ·rw [if_neg d]
   obtain rfl:m=1:=by omega
   exact a6N L hn hp (Qj _) ‹om› (fun i j hij hj=>by
    obtain rfl:j=1:=by omega
    obtain rfl:i=0:=by omega
    exact x4 ‹om›)
theorem a4k {p:Array Nat} (hp:a0C n p) {k:Nat} (hk:k < n) (a:Asc lt p k):∀f l r,r - l≤f→l≤r→r≤k→(∀i,i < l→lt (p.getD i 0) (p.getD k 0)=true)→(∀i,r≤i→i < k→lt (p.getD k 0) (p.getD i 0)=true)→
  a1g lt (kas_place p k f l r)≤k∧(∀i,i < a1g lt (kas_place p k f l r)→lt (p.getD i 0) (p.getD k 0)=true)∧∀i,a1g lt (kas_place p k f l r)≤i→i < k→lt (p.getD k 0) (p.getD i 0)=true
 | 0,l,r,hf,hl,hr,h1,h2=>⟨by show l≤k;omega,h1,fun i x y=>h2 i (by have:l≤i:=x;omega) y⟩
 | f+1,l,r,hf,hl,hr,h1,h2=>by
  by_cases c:l≥r
  ·have e:a1g lt (kas_place p k (f+1) l r)=l:=by unfold kas_place;rw [if_pos c];rfl
   rw [e]
   exact ⟨by omega,h1,fun i x y=>h2 i ‹om› y⟩
  ·have e:a1g lt (kas_place p k (f+1) l r)=if lt (p.getD k 0) (p.getD ((l+r) / 2) 0)=true then a1g lt (kas_place p k f l ((l+r) / 2)) else a1g lt (kas_place p k f ((l+r) / 2+1) r):=by
    rw [kas_place,if_neg c]
    show a1g lt (if lt (p.getD k 0) (p.getD ((l+r) / 2) 0)=true then _ else _)=_
    rw [a7h]
   rw [e]
   by_cases d:lt (p.getD k 0) (p.getD ((l+r) / 2) 0)=true
   ·rw [if_pos d]
    refine a4k hp hk a f l ((l+r) / 2) ‹om› ‹om› ‹om› h1 fun i x y=>?_
    by_cases q:i=(l+r) / 2
    ·rw [q];exact d
    ·exact L.tr _ _ _ (hp.lt hn _) (hp.lt hn _) (hp.lt hn _) d (a _ _ ‹om› y)
   ·rw [if_neg d]
    have d':=L.flip hn hp ‹om› ‹om› ‹om› (show lt (p.getD k 0) (p.getD ((l+r) / 2) 0)=false by simpa using d)
    refine a4k hp hk a f ((l+r) / 2+1) r ‹om› ‹om› hr (fun i x=>?_) h2
    by_cases q:i=(l+r) / 2
    ·rw [q];exact d'
    ·exact L.tr _ _ _ (hp.lt hn _) (hp.lt hn _) (hp.lt hn _) (a _ _ ‹om› ‹om›) d'
omit L hn in
theorem b1B {p:Array Nat} {k l:Nat} (hk:k < p.size) (hl:l≤k) (i:Nat):(bubble p k (k - l)).getD i 0=if i=l then p.getD k 0 else if l < i∧i≤k then p.getD (i - 1) 0 else p.getD i 0:=by
 rw [a5b,getElem?_bubble hk _ ‹om›,show k - (k - l)=l by omega,a5b p k,a5b p (i - 1),a5b p i]
 by_cases h1:i=l
 ·rw [if_pos h1,if_pos h1]
 ·rw [if_neg h1,if_neg h1]
  by_cases h2:l < i∧i≤k
  ·rw [if_pos h2,if_pos h2]
  ·rw [if_neg h2,if_neg h2]
theorem b0B:∀f (p:Array Nat) k,a0C n p→1≤k→k+f≤n→Asc lt p k→a0C n (a1g lt (kas_bin f p k))∧Asc lt (a1g lt (kas_bin f p k)) (k+f)
 | 0,p,k,hp,_,_,a=>⟨hp,a⟩
 | f+1,p,k,hp,h1,hf,a=>by
  have e:a1g lt (kas_bin (f+1) p k)=a1g lt (kas_bin f (bubble p k (k - a1g lt (kas_place p k k 0 k))) (k+1)):=by
   rw [kas_bin,a2n]
  rw [e]
  obtain ⟨x1,x2,x3⟩:=a4k L hn hp (k:=k) ‹om› a k 0 k ‹om› ‹om› (Qj _) (fun i z=>by omega) (fun i z y=>by omega)
  generalize a1g lt (kas_place p k k 0 k)=l at x1 x2 x3 ⊢
  have hs:=hp.size
  have a':Asc lt (bubble p k (k - l)) (k+1):=fun i j hij hj=>by
   rw [b1B ‹om› x1,b1B ‹om› x1]
   by_cases i1:i=l
   ·rw [if_pos i1,if_neg ‹om›,if_pos ‹om›]
    exact x3 _ ‹om› ‹om›
   ·rw [if_neg i1]
    by_cases i2:l < i∧i≤k
    ·rw [if_pos i2,if_neg ‹om›,if_pos ‹om›]
     exact a _ _ ‹om› ‹om›
    ·rw [if_neg i2]
     by_cases j1:j=l
     ·rw [if_pos j1];exact x2 _ ‹om›
     ·rw [if_neg j1]
      by_cases j2:l < j∧j≤k
      ·rw [if_pos j2]
       by_cases q:i=j - 1
       ·omega
       ·exact a _ _ ‹om› ‹om›
      ·rw [if_neg j2];exact a _ _ hij ‹om›
  obtain ⟨y1,y2⟩:=b0B f _ (k+1) (hp.bub k (k - l)) ‹om› ‹om› a'
  exact ⟨y1,fun i j hij hj=>y2 i j hij ‹om›⟩
theorem a7G:Asc lt (a1g lt (kas_sort n)) n:=by
 unfold kas_sort
 rw [a2n]
 obtain ⟨x1,x2,x3,x4⟩:=b2s L hn (p:=Yh (Xz n)) (Wz.refl _)
 generalize a1g lt (kas_count n (Yh (Xz n)))=r at x1 x2 x3 x4 ⊢
 by_cases c:r.1 < n
 ·rw [if_pos c]
  have hm:max r.1 1=r.1:=by omega
  rw [hm]
  have:=(b0B L hn (n - r.1) r.2 r.1 x1 x2 ‹om› x4).2
  exact fun i j hij hj=>this i j hij ‹om›
 ·rw [if_neg c]
  exact fun i j hij hj=>x4 i j hij ‹om›
end
theorem c0x (a b:List Nat) (h:a≠b):a < b∨b < a:=by
 by_cases q:a < b
 ·exact .inl q
 ·have:=List.not_lt.mp q
  rcases List.le_iff_lt_or_eq.mp this with r | r
  ·exact .inr r
  ·exact absurd r.symm h
theorem a7f (x:Int×Str):ltP x x=false:=by simp [ltP]
theorem a7c (x y:Int×Str):ltP x y=true↔x.1 < y.1∨(x.1=y.1∧x.2.cps.toList < y.2.cps.toList):=by
 unfold ltP
 by_cases h1:x.1=y.1
 ·rw [if_pos h1]
  by_cases h2:x.2=y.2
  ·rw [if_pos h2,h2]
   constructor
   ·intro z;cases z
   ·intro z
    rcases z with z | ⟨_,z⟩
    ·omega
    ·exact absurd z (List.lt_irrefl _)
  ·rw [if_neg h2,decide_eq_true_iff]
   constructor
   ·exact fun z=>.inr ⟨h1,z⟩
   ·intro z
    rcases z with z | ⟨_,z⟩
    ·omega
    ·exact z
 ·rw [if_neg h1,decide_eq_true_iff]
  constructor
  ·exact .inl
  ·intro z
   rcases z with z | ⟨z,_⟩
   ·exact z
   ·exact absurd z h1
theorem b2T {x y z:Int×Str} (a:ltP x y=true) (b:ltP y z=true):ltP x z=true:=by
 rw [a7c] at a b ⊢
 rcases a with a | ⟨a,a'⟩<;>rcases b with b | ⟨b,b'⟩
 ·exact .inl ‹om›
 ·exact .inl ‹om›
 ·exact .inl ‹om›
 ·exact .inr ⟨by omega,List.lt_trans a' b'⟩
theorem a9W {x y:Int×Str} (h:x≠y):ltP x y=true∨ltP y x=true:=by
 rw [a7c,a7c]
 rcases Int.lt_trichotomy x.1 y.1 with q | q | q
 ·exact .inl (.inl q)
 ·have hn:x.2.cps.toList≠y.2.cps.toList:=fun z=>h (by
   obtain ⟨x1,⟨x2⟩⟩:=x
   obtain ⟨y1,⟨y2⟩⟩:=y
   have z':x2=y2:=Vy.mp z
   have q':x1=y1:=q
   rw [z',q'])
  rcases c0x _ _ hn with r | r
  ·exact .inl (.inr ⟨q,r⟩)
  ·exact .inr (.inr ⟨q.symm,r⟩)
 ·exact .inr (.inl q)
theorem b4x {x y:Int×Str} (a:ltP x y=true) (b:ltP y x=true):False:=by
 have:=b2T a b;rw [a7f] at this;cases this
theorem b9T {α:Type} {lt:α→α→Bool} (as:∀x y,lt x y=true→lt y x=true→False) {l m:List α} (p:l.Perm m) (h1:l.Pairwise (fun x y=>lt x y=true)) (h2:m.Pairwise (fun x y=>lt x y=true)):l=m:=
 List.Perm.eq_of_pairwise (le:=fun x y=>lt x y=true) (fun a b _ _ h1 h2=>(as a b h1 h2).elim) h1 h2 p
def a6r (K:Qe) (cv:Value):Option Addr:=
 match cv with
 | .ref c=>match K.lookup c with
  | some o=>match o.cls,o.data with
   | .type n,.fields vs=>match (vs[11]?:Option Value),vs.getD 18 .none,vs.getD 7 .none,vs.getD 9 .none,vs.getD 10 .none with
    | some (Value.ref P),Value.str _ _,Value.int _ _,Value.bool _,Value.int _ _=>if (n == "code" && c != P)=true then some P else none
    | _,_,_,_,_=>none
   | _,_=>none
  | none=>none
 | _=>none
theorem b0V {K:Qe} {h:Heap} {cv:Value} {T:Addr} (X:K.In h) (e:a6r K cv=some T):∃c,cv=.ref c∧CodeHd h c T:=by
 unfold a6r at e
 split at e
 ·rename_i c
  split at e
  ·rename_i o ho
   split at e
   ·rename_i n vs hcl hd
    split at e
    ·rename_i P file tf flags tg inF text tt e11 e18 e7 e9 e10
     split at e
     ·rename_i hc
      cases e
      rw [Xq] at hc
      have h1:n="code":=by simpa using hc.1
      have h2:c≠T:=by simpa using hc.2
      refine ⟨c,rfl,o,vs,_,_,_,_,_,_,_,X _ _ ho,by rw [hcl,h1],hd,e11,?_,e18,e7,e9,e10,h2⟩
      have e11':vs.getD 11 Value.none=(vs[11]?).getD Value.none:=by
       by_cases q:11 < vs.size<;>simp [Jz,q]
      rw [e11',e11];rfl
     ·cases e
    ·cases e
   ·cases e
  ·cases e
 ·cases e
def b9Z (K:Qe) (bm:Addr):Bool:=bm != builtinsNs && (match K.lookup bm with
 | some o=>(match o.cls,o.dict,o.data with
  | .type t,some d,.plain=>t == "module" && d == builtinsNs
  | _,_,_=>false)
 | none=>false)
structure c2F (K:Qe) (mg:Str→Option Value):Prop where
 ex:∃bm o,mg "__builtins__"=some (.ref bm)∧bm≠builtinsNs∧K.lookup bm=some o∧o.cls=.type "module"∧o.dict=some builtinsNs∧o.data=.plain
theorem b6W {K:Qe} {mg:Str→Option Value} {bm:Addr} (e:mg "__builtins__"=some (.ref bm)) (h:b9Z K bm=true):c2F K mg:=by
 unfold b9Z at h
 rw [Xq] at h
 obtain ⟨h1,h2⟩:=h
 split at h2
 ·rename_i o ho
  split at h2
  ·rename_i t d e1 e2 e3
   rw [Xq] at h2
   exact ⟨bm,o,e,by simpa using h1,ho,by rw [e1];simpa using h2.1,by rw [e2];simpa using h2.2,e3⟩
  ·cases h2
 ·cases h2
def a2D (H:Hp) (q:Str) (cv:Value):Prop:=∃c' o vs t,cv=.ref c'∧H c'=some (.frz o (.own c'))∧o.data=.fields vs∧vs[1]?=some (.str q t)
def a3Q (T:Addr) (q:Str) (H:Hp):Prop:=∃ps,H T=some (.tbl ps)∧TriplesOk ps.toList∧∀pos cv,codeAmong pos ps.toList=some cv→a2D H q cv
abbrev Ex (H H':Hp):Prop:=∀a o,H a=some o→H' a=some o
theorem a3Q.start {T:Addr} {q:Str} {H:Hp} (h:H T=some (.tbl #[])):a3Q T q H:=⟨#[],h,trivial,fun pos cv e=>by simp [codeAmong] at e⟩
theorem a2D.mono {q:Str} {cv:Value} {H H':Hp} (h:a2D H q cv) (k:Ex H H'):a2D H' q cv:=let ⟨c',o,vs,t,a,b,r⟩:=h;⟨c',o,vs,t,a,k _ _ b,r⟩
theorem a3Q.mono {T:Addr} {q:Str} {H H':Hp} (h:a3Q T q H) (k:Ex H H'):a3Q T q H':=let ⟨ps,a,b,c⟩:=h;⟨ps,k _ _ a,b,fun pos cv e=>(c pos cv e).mono k⟩
theorem a5i {pos:Pos} {a b:Int} {c cv:Value}:∀(l:List Value),TriplesOk l→codeAmong pos (l++[rawInt a,rawInt b,c])=some cv→codeAmong pos l=some cv∨cv=c:=by
 intro l
 fun_induction TriplesOk l with
 | case1=>
  intro _ e
  right
  simp only [Uv,codeAmong,rawInt] at e
  split at e
  ·cases e;rfl
  ·cases e
 | case2 x t y u z a6M ih=>
  intro h e
  simp only [Jx,codeAmong] at e ⊢
  split at e
  ·rename_i hc;rw [if_pos hc];exact .inl e
  ·rename_i hc;rw [if_neg hc];exact ih h e
 | case3 l h1 h2=>intro h _;exact h.elim
section
variable {X:Cx} {pins:List (Addr×Obj)} {σ:St} {H:Hp} {s:Shared}
structure b8w (X:Cx) (pins:List (Addr×Obj)) (a:Addr):Prop where
 s0:X.s₀.heap.objs.size≤a
 loc:a≠X.env.locals
 cell:∀x c,X.env.cells.lookup x=some c→c≠a
 pin:∀p∈X.pn++pins,p.1≠a
 fs:a∉X.fs
theorem Inv.mine (I:Inv X pins σ H s) {a:Addr} (h:s.heap.objs.size≤a):b8w X pins a:=
 ⟨Qi I.sz h,Us (Xi I.lt h),fun x c e z=>by
  obtain ⟨v,q⟩:=I.cell x c e
  exact absurd (Xi q.lt h) (by rw [z];exact Zx _),fun p hp z=>by
  obtain ⟨e,_⟩:=I.pin p hp
  exact absurd (Xi (Qz e) h) (by rw [z];exact Zx _),I.nofs h⟩
theorem Inv.adopt {t':Nat} {a:Addr} {o:HO} {h':Heap} (I:Inv X pins σ H s) (hn:H a=none) (hm:b8w X pins a) (k:∀b u,b≠a→s.heap.get? b=some u→h'.get? b=some u)
  (new:a1c X.prog X.w (upd H a o) h' a o):Inv X pins σ (upd H a o) {s with heap:=h',toks:=t'}:=by
 have na:∀b u,H b=some u→b≠a:=fun b u e z=>by rw [z,hn] at e;cases e
 refine I.step (g':=s.gens) (d':=s.drawn) (ch:=[a]) (fun b hb=>?_) (fun b o _ _ hc e _=>k b o (fun z=>hc (by simp [z])) e) (fun b o _ _ hc e _=>⟨o.slots,k b o (fun z=>hc (by simp [z])) e⟩)
  (fun b _ hc _ n=>by rw [a0a (fun z=>hc (by simp [z]))];exact n) (fun b o hc e=>⟨o,k b o (fun z=>hc (by simp [z])) e⟩) (fun b _ e=>by rw [a0a (na b _ e)];exact e) (fun b _ _ e=>by rw [a0a (na b _ e)];exact e)
  (fun b ps e=>⟨#[],by rw [a0a (na b _ e),e];simp⟩) (fun m hm'=>?_) (fun b u e=>?_) I.bare
 ·have e:b=a:=by simpa using hb
  subst e
  exact ⟨.inr hm.s0,hm.loc,hm.cell,hm.pin⟩
 ·obtain ⟨ob,es,ep,ho,r⟩:=hm'
  exact ⟨ob,es,ep,k _ ob (Ne.symm hm.loc) ho,r⟩
 ·by_cases hb:b=a
  ·subst hb;rw [a0d] at e;cases e;exact new
  ·rw [a0a hb] at e
   refine (I.hok b u e).stay (fun c v hc q=>k c v ?_ q) (fun c q=>by rw [a0a (na c _ q)];exact q) fun c xs q=>by rw [a0a (na c _ q)];exact q
   rcases hc with z | z
   ·rw [z];exact hb
   ·exact na c _ z
theorem b3q {args:Arguments} {body:Expr} {scope:Scope} {pos:Pos} {Nc:List Str} {js:List (Option Nat)} {T:Addr} {q:Str} {Q:Value→Shared→Prop} (I:Inv X pins σ H s) (hcb:a6r X.K X.env.code=some T) (hbk:c2F X.K X.mg) (ok:a3D X Nc js scope)
  (hq:X.env.qual++"<lambda>"=q) (hdef:defaultsOf args X.env=([],[])) (lt:a3Q T q H)
  (h:∀(f:Addr) (pm cv ctv:Value) (H':Hp) (s':Shared),Inv X pins σ H' s'→a3Q T q H'→(∀a o,a≠T→H a=some o→H' a=some o)→a2D H' q cv→H' f=none→b8w X pins f→
   s'.heap.get? f=some {cls:=.type "function",data:=.func (kla_fn "<lambda>" q args body scope (a2u X.env scope.names []) pm cv ctv)}→Q (.ref f) s'):
  wpAny (model X.prog X.w) X.A (eval (.Lambda args body scope pos) X.env) Q X.xe s:=by
 obtain ⟨ps,hT,htr,hcs⟩:=lt
 obtain ⟨c,hcode,C⟩:=b0V I.kIn hcb
 have hP:s.heap.get? T=some (tabObj ps):=I.hok T _ hT
 have hTs:T < s.heap.objs.size:=Qz hP
 have hfr:∀y∈scope.names,y.2=NameKind.free→∃c,X.env.cells.lookup y.1=some c:=fun y hy e=>I.ok.has y.1 (ok.free y hy e)
 have hcl:=a1X hfr
 have hg:s.heap.Ns mainGlobals X.mg:=I.ok.mod.glob.keeps I.bk
 obtain ⟨bm,ob,b1,b2,b3,b4,b5,b6⟩:=hbk.ex
 have hbo:=I.kIn _ _ b3
 have hgP:mainGlobals≠T:=fun z=>by
  obtain ⟨o,es,ep,e,hd,_⟩:=hg
  rw [z,hP] at e;cases e;cases hd
 have hbG:bm≠mainGlobals:=fun z=>by
  obtain ⟨o,es,ep,e,hd,_⟩:=hg
  rw [z,e] at hbo;cases hbo;rw [hd] at b6;cases b6
 have hbT:bm≠T:=fun z=>by rw [z,hP] at hbo;cases hbo;cases b4
 rw [arm_eval_Lambda,hdef]
 refine wpAny_bind (PyProof.Rows.evalAll_nil ?_)
 refine wpAny_bind (wpAny_holding (wpAny_pure ?_))
 rw [hq]
 cases hnf:codeAmong pos ps.toList with
 | none=>
  refine kla_makeFunction (mg:=X.mg) hcl I.ok.glob hg hcode C hP htr hnf hgP ⟨bm,ob,b1,b2,hbG,hbT,hbo,b4,b5,b6⟩ fun c' ctv h' tk hx hge hlt hrec htb=>?_
  obtain ⟨c₂,oc,vs,t,e2,hoc,hd,hv⟩:=hrec
  cases e2
  have hcn:H c'=none:=I.hok.fresh hge
  have hcT:c'≠T:=Us (Xi hTs hge)
  have nT:∀b u,H b=some u→(∀ps,u≠.tbl ps)→b≠T:=fun b u e n z=>by rw [z,hT] at e;cases e;exact n _ rfl
  have nc:∀b u,H b=some u→b≠c':=fun b u e z=>by rw [z,hcn] at e;cases e
  have hk:∀b o,b≠T→s.heap.get? b=some o→(h'.push (kla_obj "<lambda>" q args body scope (a2u X.env scope.names []) ((X.mg "__name__").getD .none) c' ctv)).get? b=some o:=fun b o hb e=>Qo _ (hx b o hb e)
  have hTn:=Qo (kla_obj "<lambda>" q args body scope (a2u X.env scope.names []) ((X.mg "__name__").getD .none) c' ctv) htb
  have hHT:upd (upd H T (.tbl (ps++#[rawInt pos.line,rawInt pos.col,.ref c']))) c' (.frz oc (.own c')) T=some (.tbl (ps++#[rawInt pos.line,rawInt pos.col,.ref c'])):=by rw [a0a hcT.symm,a0d]
  have hHo:∀b,b≠T→b≠c'→upd (upd H T (.tbl (ps++#[rawInt pos.line,rawInt pos.col,.ref c']))) c' (.frz oc (.own c')) b=H b:=fun b n1 n2=>by rw [a0a n2,a0a n1]
  have hu:Un X.fs [] H (upd (upd H T (.tbl (ps++#[rawInt pos.line,rawInt pos.col,.ref c']))) c' (.frz oc (.own c'))) s.heap (h'.push (kla_obj "<lambda>" q args body scope (a2u X.env scope.names []) ((X.mg "__name__").getD .none) c' ctv)):=by
   have nN:∀b,H b=none→b≠T:=fun b n z=>by rw [z,hT] at n;cases n
   refine ⟨fun b o e n _ _=>hk b o (nN b n) e,fun b o e n _ _=>⟨o.slots,hk b o (nN b n) e⟩,fun b o e n _=>?_,fun b o e _=>?_,fun b xs e=>?_,fun b o u e=>?_,fun b ps' e=>?_⟩
   ·rw [hHo b (nN b n) (Xl (Xi (Qz e) hge))];exact n
   ·by_cases z:b=T
    ·rw [z];exact ⟨_,hTn⟩
    ·exact ⟨o,hk b o z e⟩
   ·rw [hHo b (nT b _ e fun _ z=>by cases z) (nc b _ e)];exact e
   ·rw [hHo b (nT b _ e fun _ z=>by cases z) (nc b _ e)];exact e
   ·by_cases z:b=T
    ·subst z;rw [hT] at e;cases e;exact ⟨_,hHT⟩
    ·exact ⟨#[],by rw [hHo b z (nc b _ e),e];simp⟩
  have hok':HOk X.prog X.w (upd (upd H T (.tbl (ps++#[rawInt pos.line,rawInt pos.col,.ref c']))) c' (.frz oc (.own c'))) (h'.push (kla_obj "<lambda>" q args body scope (a2u X.env scope.names []) ((X.mg "__name__").getD .none) c' ctv)):=fun b u e=>by
   by_cases z1:b=c'
   ·subst z1
    rw [a0d] at e;cases e
    exact ⟨Qo _ hoc,_,Qo _ hoc⟩
   ·by_cases z2:b=T
    ·subst z2;rw [hHT] at e;cases e;exact hTn
    ·rw [hHo b z2 z1] at e
     refine (I.hok b u e).stay (fun d v hd' r=>hk d v ?_ r) (fun d r=>by rw [hHo d (nT d _ r fun _ z=>by cases z) (nc d _ r)];exact r) fun d xs r=>by rw [hHo d (nT d _ r fun _ z=>by cases z) (nc d _ r)];exact r
     rcases hd' with z | z
     ·rw [z];exact z2
     ·exact nT d _ z fun _ y=>by cases y
  have I':=I.un (t':=tk) hu hok'
  have hex:∀a o,a≠T→H a=some o→upd (upd H T (.tbl (ps++#[rawInt pos.line,rawInt pos.col,.ref c']))) c' (.frz oc (.own c')) a=some o:=fun a o n e=>by rw [hHo a n (nc a o e)];exact e
  have hcd:a2D (upd (upd H T (.tbl (ps++#[rawInt pos.line,rawInt pos.col,.ref c']))) c' (.frz oc (.own c'))) q (.ref c'):=⟨c',oc,vs,t,rfl,a0d,hd,hv⟩
  have hfs:s.heap.objs.size≤h'.objs.size:=Qi hge (Vq hlt)
  have hl:(ps++#[rawInt pos.line,rawInt pos.col,Value.ref c']).toList=ps.toList++[rawInt pos.line,rawInt pos.col,.ref c']:=by simp
  refine h h'.objs.size _ (.ref c') ctv _ _ I' ⟨_,hHT,by rw [hl];exact TriplesOk_snoc _ _ _ _ htr,fun p' cv e=>?_⟩ hex hcd ?_ (I.mine hfs) (Xd _ rfl)
  ·rw [hl] at e
   rcases a5i _ htr e with z | z
   ·obtain ⟨d,o,vs',t',z1,z2,z3⟩:=hcs p' cv z
    exact ⟨d,o,vs',t',z1,by rw [hHo d (nT d _ z2 fun _ y=>by cases y) (nc d _ z2)];exact z2,z3⟩
   ·rw [z];exact hcd
  ·rw [hHo _ (Us (Xi hTs hfs)) (Us hlt)];exact I.hok.fresh hfs
 | some cv=>
  refine kla_makeFunctionHit (mg:=X.mg) hcl I.ok.glob hg hcode C hP htr hnf ⟨bm,ob,b1,b2,hbG,hbT,hbo,b4,b5,b6⟩ fun ctv h' tk hk hsz=>?_
  exact h h'.objs.size _ cv ctv H _ (I.kept (t':=tk) fun b o e=>Qo _ (hk b o e)) ⟨ps,hT,htr,hcs⟩ (fun a o _ e=>e) (hcs pos cv hnf) (I.hok.fresh hsz) (I.mine hsz) (Xd _ rfl)
def a6m (X:Cx) (Nc:List Str) (scope:Scope) (q:Str) (f:Addr) (cv:Value) (cl:List (Str×Addr)) (A:Around) (s:Shared) (H:Hp):Cx where
 prog:=X.prog
 w:=X.w
 K:=X.K
 mg:=X.mg
 base:=X.base
 A:=A.deeper (newEnv scope s.heap.objs.size mainGlobals cl (q++".<locals>.") (some f) cv none builtinsNs)
 N:=Nc
 s₀:=s
 H₀:=H
 env:=newEnv scope s.heap.objs.size mainGlobals cl (q++".<locals>.") (some f) cv none builtinsNs
 outer:=X.stack
 stack:=newEnv scope s.heap.objs.size mainGlobals cl (q++".<locals>.") (some f) cv none builtinsNs::X.stack
 ex:=[]
 fn:=fun _=>false
 calm:=true
 pn:=[]
 xe:=NoE
theorem b3w {A:Around} {f:Addr} {pm cv ctv:Value} {q:Str} {args:Arguments} {body:Expr} {scope:Scope} {x:Str} {Nr:List Str} {js:List (Option Nat)} {v:V} {u:Value} {tb:TE} {Q:VK} {E:Value→Shared→Prop} {k:Nat}
  (I:Inv X pins σ H s) (hr:a2x k A) (hA:A.frames=some X.stack) (ok:a3D X (x::Nr) (none::js) scope) (hx:scope.names.lookup x=some .local) (hco:scope.isCoroutine=false) (hgen:scope.isGenerator=false)
  (hb:∀(q:Str) (cl:List (Str×Addr)) (pm cv ctv u:Value),bindArgs (kla_fn "<lambda>" q args body scope cl pm cv ctv) ⟨[u],[]⟩=pure [(x,u)])
  (ho:s.heap.get? f=some {cls:=.type "function",data:=.func (kla_fn "<lambda>" q args body scope (a2u X.env scope.names []) pm cv ctv)}) (hc:a2D H q cv) (rv:a0Q v u)
  (he:PE (a6m X (x::Nr) scope q f cv (a2u X.env scope.names []) A s H) body tb) (h:tb (some v::a1H js σ) H Q):
  wpAny (model X.prog X.w) A (call (.ref f) [u]) (EP X pins σ Q) E s:=by
 have hfr:∀y∈scope.names,y.2=NameKind.free→∃c,X.env.cells.lookup y.1=some c:=fun y hy e=>I.ok.has y.1 (ok.free y hy e)
 have hlook:∀x c,(a2u X.env scope.names []).lookup x=some c→X.env.cells.lookup x=some c:=fun x c e=>a4y hfr (fun y d q=>by simp at q) e
 obtain ⟨c',oc,vs,t,rfl,hcc,hd,hv⟩:=hc
 have hrec:s.heap.CodeRec (.ref c') q:=⟨c',oc,vs,t,rfl,(I.hok c' _ hcc).1,hd,hv⟩
 refine wpAny_call (kla_callFunE hr.depth ho rfl hco hgen rfl hrec ?_)
 rw [hb]
 refine wpAny_pure ?_
 refine wpAny_newFunctionEnv ok.nocell (fun y hy=>by rw [Xo.mp hy];exact hx) (fun h₁ hns hsb=>?_) ok.kind
 have old:∀b o,s.heap.get? b=some o→h₁.get? b=some o:=fun b o e=>hsb.extBut b o (Xl (Qz e)) (Qo _ e)
 refine ⟨I.nolimit.keeps old,kla_codeExpr ?_⟩
 have okc:(a6m X (x::Nr) scope q f (.ref c') (a2u X.env scope.names []) A s H).Ok:=by
  have noA:∀b:Addr,b∉(a6m X (x::Nr) scope q f (.ref c') (a2u X.env scope.names []) A s H).ex:=fun b z=>absurd (show b∈([]:List Addr) from z) (by simp)
  refine ⟨I.ok.mod,ok.kind,rfl,rfl,Qj _,fun y z c e1 e2=>I.ok.inj y z c (hlook y c e1) (hlook z c e2),fun y hy=>?_,fun y c z _=>absurd z Qx,fun _=>hr.hd,Around.frames_deeper hA,.inr ⟨rfl,rfl⟩,fun b z=>absurd z (noA b),
   I.bs,Qi I.ok.bsz I.sz,fun b _ _=>noA b,fun b z=>absurd z (noA b),I.stack,I.stkFree⟩
  have hy':scope.names.lookup y=some .cell∨scope.names.lookup y=some .free:=hy
  rcases hy' with z | z
  ·exact absurd rfl (ok.nocell _ (PySem.mem_of_lookup z))
  ·exact a3m (.inl (PySem.mem_of_lookup z))
 have Ic:Inv (a6m X (x::Nr) scope q f (.ref c') (a2u X.env scope.names []) A s H) [] (some v::a1H js σ) H {s with heap:=h₁,toks:=s.toks+[(x,u)].length}:=by
  refine ⟨okc,rfl,I.bare,Un.kept old,⟨_,hns,fun i y z e1 e2 e3=>?_⟩,fun y c e=>?_,I.hok.fresh (Qj _),fun y c e=>I.freeC y c (hlook y c e),fun p hp=>absurd (show p∈([]:List (Addr×Obj)) from hp) (by simp),I.hok.kept old,?_⟩
  ·cases i with
   | zero=>
    have e1':x=y:=by simpa [a6m] using e1
    have e2':v=z:=by simpa using e2
    subst e1';subst e2'
    exact ⟨u,rv,.inl ⟨hx,by simp⟩⟩
   | succ i=>
    have e1':(x::Nr)[i+1]?=some y:=e1
    rw [Qb] at e2
    unfold a1H at e2
    rw [Ql] at e2
    cases ej:js[i]? with
    | none=>rw [ej] at e2;simp at e2
    | some oj=>
     rw [ej] at e2
     cases oj with
     | none=>simp at e2
     | some j=>
      have e2':(σ[j]?).getD none=some z:=by simpa using e2
      have e2'':σ[j]?=some (some z):=by
       cases q:σ[j]? with
       | none=>rw [q] at e2';simp at e2'
       | some z'=>rw [q] at e2';simp at e2';rw [e2']
      obtain ⟨hN,hF⟩:=ok.map (i+1) y j e1' (by rw [Qb];exact ej)
      have hmem:(y,NameKind.free)∈scope.names:=PySem.mem_of_lookup hF
      have hkX:=ok.free _ hmem rfl
      obtain ⟨m,hn,hl⟩:=I.loc
      have hvis:Vis X.env.scope y:=by
       rcases hkX with z | z
       ·exact .inr (.inl z)
       ·exact .inr (.inr z)
      obtain ⟨u',ru,lk⟩:=hl j y z hN e2'' hvis
      refine ⟨u',ru,.inr ?_⟩
      rcases lk with ⟨k1,_⟩ | ⟨_,c,ec,ic⟩
      ·have k1':X.env.kindOf y=some NameKind.local:=k1
       rcases hkX with z | z
       ·rw [z] at k1';cases k1'
       ·rw [z] at k1';cases k1'
      ·obtain ⟨c2,hc2⟩:=a3m (env:=X.env) (l:=scope.names) (cs:=[]) (x:=y) (.inl hmem)
       have e':=hlook y c2 hc2
       rw [ec] at e'
       cases e'
       exact ⟨.inr hF,c,hc2,ic.keeps old⟩
  ·obtain ⟨z,r⟩:=I.cell y c (hlook y c e)
   exact ⟨z,r.keeps old⟩
  ·show (some v::a1H js σ).length=(x::Nr).length
   have:=ok.len
   unfold a1H
   rw [Qm,Qd]
   simpa using this
 refine wpAny_mono (he [] _ _ H Q Ic h) (fun u' s' hs=>?_) fun e s' hs=>hs.elim
 obtain ⟨v',H',J,rv',hq⟩:=hs
 exact ⟨v',H',I.call' (ch:=[]) J.os J.base J.hok J.bare (fun b z=>absurd z (by simp)),rv',hq⟩
end
theorem a4W:∀{ps:List Addr} {its:List Value},a0Y (ps.map V.ref) its→its=ps.map Value.ref
 | [],_,.nil=>rfl
 | p::ps,_,.cons h r=>by
  have e:_=Value.ref p:=h
  rw [e,a4W r];rfl
theorem a6v:∀(ps:List Addr),a0Y (ps.map V.ref) (ps.map Value.ref)
 | []=>.nil
 | p::ps=>.cons rfl (a6v ps)
theorem a3L {ss:List Str} {i:Nat} {z:Str} (e:ss[i]?=some z):ss.getD i ""=z:=by rw [Xs,e];rfl
theorem a9B (ss:List Str):(Xz ss.length).map (fun i=>ss.getD i "")=ss:=by
 refine Jc (by simp) fun i h1 h2=>?_
 simp [h2]
def ltG (g:Str→Int) (x y:Str):Bool:=ltP (g x,x) (g y,y)
theorem b8A {ss:List Str} (g:Str→Int) (nd:ss.Nodup):c2B (fun i j=>ltG g (ss.getD i "") (ss.getD j "")) ss.length where
 irr:=fun i _=>a7f _
 tr:=fun i j k _ _ _ a b=>b2T a b
 tot:=fun i j hi hj e=>by
  refine a9W fun z=>?_
  have z2:ss.getD i ""=ss.getD j "":=congrArg Prod.snd z
  rw [a3L (Qc hi),a3L (Qc hj)] at z2
  exact e ((Jn nd).mp z2)
theorem a8j {lt:Nat→Nat→Bool} {p:Array Nat} {n:Nat} (hs:p.size=n) (a:Asc lt p n):p.toList.Pairwise (fun i j=>lt i j=true):=by
 rw [Vo]
 intro i j hi hj hij
 have hi':i < p.size:=by simpa using hi
 have hj':j < p.size:=by simpa using hj
 have:=a i j hij ‹om›
 have e1:p.getD i 0=p[i]:=by simp [Jz,hi']
 have e2:p.getD j 0=p[j]:=by simp [Jz,hj']
 rw [e1,e2] at this
 simpa using this
section
variable {X:Cx} {pins:List (Addr×Obj)} {σ:St} {H:Hp} {s:Shared} {A:Around} {E:Value→Shared→Prop} {a kS:Addr} {e1:Nat} {P:PySem.Fin→Shared→Prop}
theorem a4O {st:SortSt} {out:List Value} {ss':List Str} {xs:List V} (I:Inv X ((a,seqObj "list" #[] e1)::pins) σ H s) (hm:b8w X pins a) (hk:H kS=some (.lst xs)) (hxs:xs.length < 64)
  (hf:failedOf st=none) (ho:(arrOf st).map (·.2)=Yh out) (rv:a0Y (ss'.map V.str) out) (h64:ss'.length < 64)
  (h:∀H' s',Inv X pins σ H' s'→H' a=some (.lst (ss'.map V.str))→(∀b o,b≠kS→H b=some o→H' b=some o)→P (.done (.ret .none)) s'):
  wpAny (model X.prog X.w) A (ksk_tail a false e1 (.ref kS) st) P E s:=by
 obtain ⟨_,its,n,rk,hko⟩:=I.hok kS _ hk
 have hpa:=I.pin (a,seqObj "list" #[] e1) (Xc _ Qq)
 have hka:kS≠a:=fun z=>by rw [z,hpa.2.1] at hk;cases hk
 have hil:=rk.length
 have hol:out.length=ss'.length:=by have:=rv.length;simpa using this.symm
 obtain ⟨e2,hk2⟩:∃e2,(s.heap.update kS (Obj.mapSeq fun _=>(#[]:Array Value))).get? kS=some (seqObj "list" #[] e2):=⟨_,get?_update_seq hko fun _=>#[]⟩
 have I1:=I.write (x:=kS) (e:=kS) (o:=.lst []) (t':=s.toks) (h':=s.heap.update kS (Obj.mapSeq fun _=>(#[]:Array Value))) (by rw [hk];trivial) (.inl rfl) (fun b u hb e=>by rw [Ja _ _ _ _ hb];exact e) ⟨_,hk2⟩ ⟨Xb _,[],e2,.nil,hk2⟩
 have hpa1:=I1.pin (a,seqObj "list" #[] e1) (Xc _ Qq)
 obtain ⟨e3,ha3⟩:∃e3,((s.heap.update kS (Obj.mapSeq fun _=>(#[]:Array Value))).update a (Obj.mapSeq fun _=>Yh out)).get? a=some (seqObj "list" (Yh out) e3):=⟨_,get?_update_seq hpa1.1 fun _=>Yh out⟩
 have I2:=(I1.pins_of (pins':=pins) (fun p hp=>I1.pin p (Xc _ (Qt _ hp)))).adopt (a:=a) (o:=.lst (ss'.map V.str)) (t':=s.toks) (h':=(s.heap.update kS (Obj.mapSeq fun _=>(#[]:Array Value))).update a (Obj.mapSeq fun _=>Yh out)) hpa1.2.1 hm
  (fun b u hb e=>by rw [Ja _ _ _ _ hb];exact e) ⟨by rw [Qd,sizeLine_eq];omega,out,e3,rv,ha3⟩
 unfold ksk_tail
 simp only [Zp,if_false,ho]
 refine wpAny_bind (listUpdate_at hko rfl ?_ (by rw [Qu,sizeLine_eq];omega) (Xb _))
 refine wpAny_bind (wpAny_letGo ?_)
 refine wpAny_bind (seqEpoch_at hpa1.1 rfl ?_)
 refine wpAny_bind (listUpdate_at hpa1.1 rfl ?_ (Xb _) (by rw [Qu,sizeLine_eq];omega))
 rw [hf]
 simp only [bne_self_eq_false,Zp,if_false]
 refine wpAny_pure (h _ _ I2 a0d fun b o hb e=>?_)
 rw [a0a (fun z=>by rw [z,hpa.2.1] at e;cases e),a0a hb]
 exact e
theorem b1y {ps:List Addr} {its:List Value} {ss:List Str} {g:Str→Int} (I:Inv X ((a,seqObj "list" #[] e1)::pins) σ H s) (hm:b8w X pins a) (hk:H kS=some (.lst (ps.map V.ref))) (hl:ps.length=ss.length) (h64:ss.length < 64) (nd:ss.Nodup)
  (rv:a0Y (ss.map V.str) its) (hp:∀(j:Nat) z p,ss[j]?=some z→ps[j]?=some p→H p=some (.tup [.int (g z),.str z]))
  (h:∀(H':Hp) (s':Shared) (ss':List Str),Inv X pins σ H' s'→H' a=some (.lst (ss'.map V.str))→(∀b o,b≠kS→H b=some o→H' b=some o)→ss'.Perm ss→ss'.Pairwise (fun x y=>ltG g x y=true)→P (.done (.ret .none)) s'):
  wpAny (model X.prog X.w) A (ksk_end a false its.toArray e1 (.ref kS) (Yh (ps.map Value.ref))) P E s:=by
 have hn:its.length=ss.length:=by have:=rv.length;simpa using this.symm
 have hkl:(ps.map Value.ref).length=its.length:=by rw [Qd];omega
 unfold ksk_end
 simp only [Zp,if_false]
 by_cases h2:its.toArray.size < 2
 ·rw [if_pos h2,if_pos h2]
  refine wpAny_bind (wpAny_pure ?_)
  rw [StateT.run_pure]
  refine wpAny_bind (wpAny_pure ?_)
  dsimp only
  rw [Qu] at h2
  have hz:(arrOf (SortSt.mk' general' ((Yh (ps.map Value.ref)).zip its.toArray) #[] 7 none)).map (·.2)=Yh its:=by
   show ((Yh (ps.map Value.ref)).zip its.toArray).map (·.2)=Yh its
   apply Vy.mp
   simp only [Array.toList_map,Array.toList_zip]
   exact List.map_snd_zip ‹om›
  refine a4O (out:=its) (ss':=ss) I hm hk (by rw [Qd];omega) rfl hz rv h64 fun H' s' i1 i2 i3=>h H' s' ss i1 i2 i3 (List.Perm.refl _) ?_
  match ss,(show ss.length < 2 by omega) with
  | [],_=>exact Gb.nil
  | [z],_=>simp
  | _::_::_,q=>exact absurd q (by simp)
 ·rw [if_neg h2,if_neg h2]
  rw [Qu] at h2
  have h2':2≤its.length:=by omega
  have hget:∀i,i < its.length→∃z p,ss[i]?=some z∧ps[i]?=some p∧H p=some (.tup [.int (g z),.str z]):=fun i hi=>by
   have e1:=Qc (show i < ss.length by omega)
   have e2:=Qc (show i < ps.length by omega)
   exact ⟨_,_,e1,e2,hp i _ _ e1 e2⟩
  have hat:∀i,i < its.length→∃b o n t t',(ps.map Value.ref).getD i Value.none=.ref b∧s.heap.get? b=some o∧o.data=.seq #[.int (g (ss.getD i "")) t,.str (ss.getD i "") t'] n:=fun i hi=>by
   obtain ⟨z,p,e1,e2,e3⟩:=hget i hi
   obtain ⟨o,n,t,t',f1,f2,f3⟩:=a9M (I.hok _ _ e3)
   rw [a3L e1]
   exact ⟨p,o,n,t,t',by rw [Xs,Ql,e2];rfl,f1,f3⟩
  obtain ⟨fs,g1,g2,g3⟩:=a7y (h':=s.heap) (fun b o e=>I.hok b o e) (fun _ _ e=>e) (a6v ps) (fun v hv=>by
   obtain ⟨p,hp1,rfl⟩:=Qk.mp hv
   obtain ⟨i,hi,rfl⟩:=Yz hp1
   obtain ⟨z,p,e1,e2,e3⟩:=hget i ‹om›
   rw [Qc hi] at e2
   cases e2
   exact ⟨_,_,_,rfl,e3⟩)
  refine wpAny_bind (kat_kind (T:=.type "int") g1 ‹om› (fun v hv=>by obtain ⟨i,t,rfl⟩:=g3 v hv;exact .now) ‹dc› ?_)
  have hok:=b1C (n:=its.length) ‹om›
  have L:=b8A g nd
  rw [←hn] at L
  refine wpAny_bind (wpAny_mono (kat_run (ks:=ps.map Value.ref) (vs:=its) (κ:=tuples' true) (Q:=fun st' s'=>∃p:Array Nat,p.size=its.length∧arrOf st'=p.map (kas_item ((ps.map Value.ref).toArray.zip its.toArray))∧failedOf st'=none∧p=a1g (fun i j=>ltG g (ss.getD i "") (ss.getD j "")) (kas_sort its.length)∧s'=s)
   (G:=fun p s'=>p=a1g (fun i j=>ltG g (ss.getD i "") (ss.getD j "")) (kas_sort its.length)∧s'=s)
   hkl h2' ‹om› (fun p' st' s' a1 a2 a3 a4=>⟨p',a1,a2,a3,a4.1,a4.2⟩) (TOk.wp (lt:=fun i j=>ltG g (ss.getD i "") (ss.getD j "")) (fun i j C hi hj hC=>?ask) hok ⟨rfl,rfl⟩)) ?_ fun _ _ e=>e)
  case ask=>
   obtain ⟨b,oa,na,ta,ta',ea,ha,da⟩:=hat i hi
   obtain ⟨c,ob,nb,tb,tb',eb,hb,db⟩:=hat j hj
   unfold kas_ask
   rw [ea,eb]
   refine kat_lt ha da hb db ?_
   have hC':C (ltP (g (ss.getD i ""),ss.getD i "") (g (ss.getD j ""),ss.getD j "")) s:=hC
   generalize hx:(g (ss.getD i ""),ss.getD i "")=x at hC'
   generalize hy:(g (ss.getD j ""),ss.getD j "")=y at hC'
   have hx1:g (ss.getD i "")=x.1:=by rw [←hx]
   have hx2:ss.getD i ""=x.2:=by rw [←hx]
   have hy1:g (ss.getD j "")=y.1:=by rw [←hy]
   have hy2:ss.getD j ""=y.2:=by rw [←hy]
   unfold ltP at hC'
   show KatLex _ _ _ _ _ _ [(.int (g (ss.getD i "")) ta,.int (g (ss.getD j "")) tb),(.str (ss.getD i "") ta',.str (ss.getD j "") tb')] 0 _
   rw [hx1,hy1,hx2,hy2]
   refine kat_cons (wpAny_eqBool_int ?_)
   by_cases h1:x.1=y.1
   ·rw [show (x.1 == y.1)=true from by rw [h1];exact beq_self_eq_true _]
    rw [if_pos h1] at hC'
    refine kat_yes (kat_cons (wpAny_eqBool_str ?_))
    by_cases h2:x.2=y.2
    ·rw [decide_eq_true h2]
     rw [if_pos h2] at hC'
     exact kat_yes (kat_nil (by simpa using hC'))
    ·rw [decide_eq_false h2]
     rw [if_neg h2] at hC'
     refine kat_no ?_
     show wpAny _ _ (oneLt' (true && (0+1) == 0) _ _) _ _ _
     rw [show (true && (0+1) == 0)=false from rfl]
     exact kat_one _ _ (PySem.P.lt_str hC')
   ·rw [show (x.1 == y.1)=false from beq_eq_false_iff_ne.mpr h1]
    rw [if_neg h1] at hC'
    refine kat_no ?_
    exact oneLt_int hC'
  rintro ⟨⟨⟩,st'⟩ s' ⟨p,hpz,har,hf,hpe,rfl⟩
  dsimp only
  have hP:a0C its.length p:=by rw [hpe];exact hok.run
  have hA:=a7G L ‹om›
  rw [←hpe] at hA
  have hpl:∀i∈p.toList,i < ss.length:=fun i hi=>by
   have:=hP.list.mem_iff.mp hi
   rw [Jm] at this;omega
  have hv:=a4h rv p.toList (fun i hi=>by rw [Qd];exact hpl i hi)
  have hem:(p.toList.map fun i=>(ss.map V.str).getD i .non)=(p.toList.map fun i=>ss.getD i "").map V.str:=by
   rw [Xf]
   refine Uz fun i hi=>?_
   have e:=Qc (hpl i hi)
   show (ss.map V.str).getD i .non=V.str (ss.getD i "")
   rw [a3L e,Xs,Ql,e];rfl
  rw [hem] at hv
  have hplen:p.toList.length=ss.length:=by rw [hP.list.length_eq,Zv];exact hn
  refine a4O (out:=p.toList.map fun i=>its.getD i Value.none) (ss':=p.toList.map fun i=>ss.getD i "") I hm hk (by rw [Qd];omega) hf (kat_snds hkl har) hv (by rw [Qd];omega) fun H' s' i1 i2 i3=>h H' s' _ i1 i2 i3 ?_ ?_
  ·have h1:=hP.list.map fun i=>ss.getD i ""
   rw [hn,a9B] at h1
   exact h1
  ·rw [Jt]
   exact a8j hpz hA
theorem a9e {f:Addr} {pm cv ctv:Value} {q:Str} {args:Arguments} {body:Expr} {scope:Scope} {x:Str} {Nr:List Str} {js:List (Option Nat)} {tb:TE} {k:Nat} {its:List Value} {n:Nat} {ss:List Str} {g:Str→Int}
  (I:Inv X pins σ H s) (hr:a2x k A) (hA:A.frames=some X.stack) (ok:a3D X (x::Nr) (none::js) scope) (hx:scope.names.lookup x=some .local) (hco:scope.isCoroutine=false) (hgen:scope.isGenerator=false)
  (hb:∀(q:Str) (cl:List (Str×Addr)) (pm cv ctv u:Value),bindArgs (kla_fn "<lambda>" q args body scope cl pm cv ctv) ⟨[u],[]⟩=pure [(x,u)])
  (hf:(f,({cls:=.type "function",data:=.func (kla_fn "<lambda>" q args body scope (a2u X.env scope.names []) pm cv ctv)}:Obj))∈pins) (hc:a2D H q cv)
  (he:∀s H,PE (a6m X (x::Nr) scope q f cv (a2u X.env scope.names []) A s H) body tb)
  (ha:s.heap.get? a=some (seqObj "list" its.toArray n)) (hna:H a=none) (hm:b8w X pins a) (rv:a0Y (ss.map V.str) its) (h64:ss.length < 64) (nd:ss.Nodup)
  (hask:∀z∈ss,∀H2,Ex H H2→tb (some (.str z)::a1H js σ) H2 fun v H3=>∃p,v=.ref p∧H3 p=some (.tup [.int (g z),.str z])∧Ex H2 H3)
  (h:∀(H':Hp) (s':Shared) (ss':List Str),Inv X pins σ H' s'→H' a=some (.lst (ss'.map V.str))→Ex H H'→ss'.Perm ss→ss'.Pairwise (fun x y=>ltG g x y=true)→P (.done (.ret .none)) s'):
  wpAny (model X.prog X.w) A (ksk_tree a (.ref f) false) P E s:=by
 have hn:its.length=ss.length:=by have:=rv.length;simpa using this.symm
 obtain ⟨e1,ho1⟩:∃e1,(s.heap.update a (Obj.mapSeq fun _=>(#[]:Array Value))).get? a=some (seqObj "list" #[] e1):=⟨_,get?_update_seq ha fun _=>#[]⟩
 have I1:Inv X pins σ H {s with heap:=s.heap.update a (Obj.mapSeq fun _=>(#[]:Array Value)),toks:=s.toks}:=
  I.turned (fun b o hb e=>by rw [Ja _ _ _ _ hb];exact e) hna hm.loc (.inr hm.s0) hm.cell hm.pin
 have I2:=I1.kept (t':=s.toks) (h':=(s.heap.update a (Obj.mapSeq fun _=>(#[]:Array Value))).push {cls:=.type "tuple",data:=.seq its.toArray.toList.toArray}) fun b o e=>Qo _ e
 have hS:=I2.hok.fresh (Qj _)
 have I3:=I2.laid (t':=s.toks) (a:=((s.heap.update a (Obj.mapSeq fun _=>(#[]:Array Value))).push {cls:=.type "tuple",data:=.seq its.toArray.toList.toArray}).objs.size) (o:=.lst [])
  (h':=((s.heap.update a (Obj.mapSeq fun _=>(#[]:Array Value))).push {cls:=.type "tuple",data:=.seq its.toArray.toList.toArray}).push {cls:=.type "list",data:=.seq ([]:List Value).toArray}) (fun b o e=>Qo _ e) (Qj _)
  ⟨Xb _,[],0,.nil,Xd _ rfl⟩
 have ho3:=Qo ({cls:=.type "list",data:=.seq ([]:List Value).toArray}:Obj) (Qo ({cls:=.type "tuple",data:=.seq its.toArray.toList.toArray}:Obj) ho1)
 generalize hkS:((s.heap.update a (Obj.mapSeq fun _=>(#[]:Array Value))).push {cls:=.type "tuple",data:=.seq its.toArray.toList.toArray}).objs.size=kS at I3 hS
 have hka:a≠kS:=by rw [←hkS];exact Xl (Qz (Qo _ ho1))
 have hSn:H kS=none:=hS
 have I4:=I3.pins_of (pins':=(a,seqObj "list" #[] e1)::pins) (fun p hp=>by
  rcases Qw.mp hp with z | z
  ·subst z
   exact ⟨ho3,by rw [a0a hka];exact hna,hm.loc,hm.fs,fun v z=>by cases z⟩
  ·exact I3.pin p (Xc _ z))
 have ex4:Ex H (upd H kS (.lst [])):=fun b o e=>by rw [a0a (fun z=>by rw [z,hSn] at e;cases e)];exact e
 unfold ksk_tree
 refine wpAny_bind (listItems_at ha rfl ?_)
 refine wpAny_bind (listUpdate_at ha rfl ?_ (by rw [Qu,sizeLine_eq];omega) (Xb _))
 refine wpAny_bind (seqEpoch_at ho1 rfl ?_)
 refine wpAny_bind (wpAny_newTuple ?_ (by show its.length≤_;rw [sizeLine_eq];omega))
 refine wpAny_bind (wpAny_newList ?_ (Xb _))
 refine wpAny_holding ?_
 show wpAny (model X.prog X.w) A (ksk_rest a (.ref f) false its.toArray e1 (.ref ((s.heap.update a (Obj.mapSeq fun _=>(#[]:Array Value))).push {cls:=.type "tuple",data:=.seq its.toArray.toList.toArray}).objs.size)) P E _
 rw [hkS]
 unfold ksk_rest
 refine wpAny_bind (wpAny_rule ?_)
 rw [List.forIn_toArray]
 refine wpAny_bind (ksk_fold (fun i s'=>∃H' ps,Inv X ((a,seqObj "list" #[] e1)::pins) σ H' s'∧Ex H H'∧H' kS=some (.lst (ps.map V.ref))∧ps.length=i∧∀(j:Nat) z p,ss[j]?=some z→ps[j]?=some p→H' p=some (.tup [.int (g z),.str z])) its 0 _
  ⟨_,[],I4,ex4,a0d,rfl,fun j z p _ e=>by simp at e⟩ ?step ?done)
 case step=>
  rintro j u s' hu ⟨H',ps,I',ex',hk',hl',hp'⟩
  rw [Nat.zero_add] at hl' ⊢
  have hj:j < its.length:=(Qn.mp hu).1
  have ez:=Qc (show j < ss.length by omega)
  obtain ⟨u2,hu2,ru⟩:=rv.get (i:=j) (x:=V.str (ss[j]'‹om›)) (by rw [Ql,ez];rfl)
  rw [hu] at hu2
  cases hu2
  have hfo:=(I'.pin _ (Xc _ (Qt _ hf))).1
  refine wpAny_bind (wpAny_attempt (wpAny_mono (b3w (E:=fun _ _=>False) I' hr hA ok hx hco hgen hb hfo (hc.mono ex') ru (he s' H') (hask _ (Xa _) H' ex')) (fun v s'' hv=>?_) fun _ _ z=>z.elim))
  obtain ⟨v',H2,J,rw',p,rfl,hpt,ex2⟩:=hv
  cases rw'
  dsimp only
  have hk2:=ex2 _ _ hk'
  obtain ⟨_,its',n',rk,hko⟩:=J.hok kS _ hk2
  have hil:=rk.length
  rw [Qd] at hil
  obtain ⟨c2,hc2⟩:∃c2,(s''.heap.update kS (Obj.mapSeq (·.push (Value.ref p)))).get? kS=some (seqObj "list" (its'.toArray.push (Value.ref p)) c2):=⟨_,get?_update_seq hko (·.push (Value.ref p))⟩
  have epush:its'.toArray.push (Value.ref p)=(its'++[Value.ref p]).toArray:=by simp
  rw [epush] at hc2
  have emap:(ps++[p]).map V.ref=ps.map V.ref++[V.ref p]:=by simp
  have J2:=J.write (x:=kS) (e:=kS) (o:=.lst ((ps++[p]).map V.ref)) (t':=s''.toks) (h':=s''.heap.update kS (Obj.mapSeq (·.push (Value.ref p)))) (by rw [hk2];trivial) (.inl rfl) (fun b u hb e=>by rw [Ja _ _ _ _ hb];exact e) ⟨_,hc2⟩
   ⟨by rw [Qd,Xx,sizeLine_eq];simp only [Qm,Qr];omega,its'++[Value.ref p],c2,by rw [emap];exact rk.append (.cons rfl .nil),hc2⟩
  have hkp:kS≠p:=fun z=>by rw [z,hpt] at hk2;cases hk2
  refine wpAny_bind (listUpdate_at hko rfl ?_ (by rw [Qu,sizeLine_eq];omega) (by rw [Array.size_push,Qu,sizeLine_eq];omega))
  refine wpAny_pure ⟨rfl,_,ps++[p],J2,fun b o e=>?_,a0d,by rw [Xx,hl'];rfl,fun i z p1 ez1 ep1=>?_⟩
  ·by_cases hb1:b=kS
   ·rw [hb1,hSn] at e;cases e
   ·rw [a0a hb1];exact ex2 _ _ (ex' _ _ e)
  ·by_cases hi:i < ps.length
   ·rw [Yi hi] at ep1
    have e9:=ex2 _ _ (hp' i z p1 ez1 ep1)
    rw [a0a (fun y=>by rw [y,hk2] at e9;cases e9)]
    exact e9
   ·have hi2:i=ps.length:=by
     have h8:i < (ps++[p]).length:=(Qn.mp ep1).1
     rw [Xx] at h8
     simp only [Qm,Qr] at h8
     omega
    subst hi2
    rw [Yg (Qj _)] at ep1
    simp only [Uu,Qa,Option.some.injEq] at ep1
    subst ep1
    rw [a0a (Ne.symm hkp)]
    rw [hl',ez] at ez1
    cases ez1
    exact hpt
 case done=>
  rintro s' ⟨H',ps,I',ex',hk',hl',hp'⟩
  rw [Nat.zero_add] at hl'
  obtain ⟨_,its',n',rk,hko⟩:=I'.hok kS _ hk'
  have er:=a4W rk
  refine wpAny_bind (listItems_at hko rfl ?_)
  rw [er]
  refine b1y I' hm hk' ‹om› h64 nd rv hp' fun H2 s2 ss' i1 i2 i3 i4 i5=>h H2 s2 ss' i1 i2 (fun b o e=>i3 b o (fun z=>by rw [z,hSn] at e;cases e) (ex' b o e)) i4 i5
end
def b8V (T:Addr) (q:Str) (js:List (Option Nat)) (tb:TE) (σ:St) (Q:VK) (y:V) (H1:Hp):Prop:=∃(p:Addr) (kvs:List (Key×V)) (ss:List Str) (g:Str→Int),y=.ref p∧H1 p=some (.dK kvs)∧kvs.map (·.1)=ss.map Sum.inr∧ss.length < 64∧ss.Nodup∧a3Q T q H1∧
 (∀z∈ss,∀H2,(∀a o,a≠T→H1 a=some o→H2 a=some o)→tb (some (.str z)::a1H js σ) H2 fun v H3=>∃p,v=.ref p∧H3 p=some (.tup [.int (g z),.str z])∧Ex H2 H3)∧
 ∀(l:Addr) (H':Hp) (ss':List Str),a3Q T q H'→(∀a o,a≠T→H1 a=some o→H' a=some o)→H1 l=none→H' l=some (.lst (ss'.map V.str))→ss'.Perm ss→ss'.Pairwise (fun x y=>ltG g x y=true)→Q (.ref l) H'
def b4Y (T:Addr) (q:Str) (js:List (Option Nat)) (te tb:TE):TE:=fun σ H Q=>te σ H (b8V T q js tb σ Q)
theorem b3L {X:Cx} {e:Expr} {te tb:TE} {args:Arguments} {body:Expr} {scope:Scope} {x y:Str} {p pos lpos kp:Pos} {Nr:List Str} {js:List (Option Nat)} {T:Addr} {q:Str} {k:Nat} (hy:y="sorted") (hc:X.calm=true) (hr:a2x (k+3) X.A) (hg:Gl X y) (hm:X.mg y=none)
  (hcb:a6r X.K X.env.code=some T) (hbk:c2F X.K X.mg) (ha:PE X e te) (ok:a3D X (x::Nr) (none::js) scope) (hx:scope.names.lookup x=some .local) (hco:scope.isCoroutine=false) (hgen:scope.isGenerator=false)
  (hb:∀(q:Str) (cl:List (Str×Addr)) (pm cv ctv u:Value),bindArgs (kla_fn "<lambda>" q args body scope cl pm cv ctv) ⟨[u],[]⟩=pure [(x,u)]) (hq:X.env.qual++"<lambda>"=q) (hdef:defaultsOf args X.env=([],[]))
  (he:∀f cv cl A s H,a2x k (a6m X (x::Nr) scope q f cv cl A s H).A→PE (a6m X (x::Nr) scope q f cv cl A s H) body tb) (hst:starEach [e] X.env=(false,eval e X.env)::starEach [] X.env:=by rfl):
  PE X (.Call (.Name y p) [e] [⟨some "key",.Lambda args body scope lpos,kp⟩] pos) (b4Y T q js te tb):=by
 subst hy
 intro pins s σ H Q I h
 refine wpAny_Call_Name_kw (a4i I hg hm a2g ?_ ‹dc› ‹dc›)
 refine callWith_kw (thn (b0W ha b5f hst pos pins s σ H (fun vs H1=>match vs with | [y]=>b8V T q js tb σ Q y H1 | _=>False) I h) fun us s1 ⟨vs,H1,I1,r1,q1⟩=>?_) (by rw [hst];rfl) (by rw [hst];rfl)
 match vs,q1,r1 with
 | [],q1,_=>exact q1.elim
 | _::_::_,q1,_=>exact q1.elim
 | [y],q1,r1=>
 obtain ⟨p,kvs,ss,g,rfl,hp,hks,h64,nd,lt1,hask,qq⟩:=q1
 obtain ⟨u,rfl,ru⟩:=a3u r1
 cases ru
 have hpT:p≠T:=fun z=>by
  obtain ⟨ps,e1,_⟩:=lt1
  rw [z,e1] at hp;cases hp
 refine kws_cons (b3q I1 hcb hbk ok hq hdef lt1 fun f pm cv ctv H2 s2 I2 lt2 ex2 hcd hfn hfm hfo=>kws_nil ?_)
 show wpAny (model X.prog X.w) X.A (call (.builtin "sorted") [.ref p] [(Ut "key",.ref f)]) _ _ s2
 have I3:=I2.pins_of (pins':=(f,({cls:=.type "function",data:=.func (kla_fn "<lambda>" q args body scope (a2u X.env scope.names []) pm cv ctv)}:Obj))::pins) (fun pr hpr=>by
  rcases Qw.mp hpr with z | z
  ·subst z
   exact ⟨hfo,hfn,hfm.loc,hfm.fs,fun v z=>by cases z⟩
  ·exact I2.pin pr (Xc _ z))
 obtain ⟨z,hd,vs,rel,dd⟩:=a4t I3.hok (.of (ex2 _ _ hpT hp))
 obtain ⟨ep,hat⟩:=dd.dictAt
 have hn:vs.length=ss.length:=by rw [←rel.length];have:=congrArg Yp hks;simpa using this
 refine call_function_entry_kw kind_sorted plain_sorted entry_sorted (ksk_s1 _ _) ?_
 unfold Builtin.«sorted»
 refine wpAny_bind (m:=checkCount "sorted" 1 1 _) (wpAny_pure ?_)
 refine wpAny_bind (kdu_collect (A:=X.A.in1) (kdl_dict (knd:=a0m X.prog X.w) (kvs:=vs) (ep:=ep) hd) (I.ok.hd hc) hat (by rw [sizeLine_eq];omega) fun h' tk acc hk hacc=>?_)
 have hal:acc.toList.length=ss.length:=by rw [Zl];exact hacc.1.trans hn
 have hS:StrsAre acc.toList ss:=a3q hal fun j v e=>by
  obtain ⟨k,x,hx,hkv⟩:=hacc.2 j v (by rw [←Ur];exact e)
  obtain ⟨y,hy,_⟩:=a8a rel hx
  have h1:(kvs.map (·.1))[j]?=some k:=by rw [Ql,hy];rfl
  rw [hks,Ql] at h1
  cases e2:ss[j]? with
  | none=>rw [e2] at h1;cases h1
  | some z'=>
   rw [e2] at h1
   cases h1
   obtain ⟨t,ht⟩:=b1c hkv
   exact ⟨z',t,rfl,ht⟩
 refine wpAny_bind (wpAny_newList ?_ (by rw [hal,sizeLine_eq];omega))
 have hoL:(h'.push (seqObj "list" acc.toList.toArray 0)).get? h'.objs.size=some (seqObj "list" acc.toList.toArray 0):=Xd _ rfl
 have I3':=I3.kept (t':=tk) hk
 have I4:=I3'.kept (t':=tk) (h':=h'.push (seqObj "list" acc.toList.toArray 0)) fun b o e=>Qo _ e
 have hD:H2 h'.objs.size=none:=I3'.hok.fresh (Qj _)
 have hD1:H1 h'.objs.size=none:=by
  cases e:H1 h'.objs.size with
  | none=>rfl
  | some o=>
   by_cases y:h'.objs.size=T
   ·obtain ⟨ps,e1,_⟩:=lt2
    rw [y,e1] at hD;cases hD
   ·rw [ex2 _ _ y e] at hD;cases hD
 refine wpAny_bind (wpAny_holding (wpAny_call_entry_kw slot_list_sort ⟨_,hoL,rfl⟩ entry_list_sort ?body (ksk_l1 _ _)))
 case body=>
  show wpAny (model X.prog X.w) X.A.in1.in1 (Builtin.«list.sort» ⟨[.ref h'.objs.size],[(Ut "key",.ref f)]⟩) _ _ _
  rw [ksk_t1]
  refine a9e (k:=k+1) (ss:=ss) (g:=g) I4 (show a2x (k+1+1+1) X.A from hr).in1.in1 I.ok.frames ok hx hco hgen hb Qq hcd (fun s H=>he _ _ _ _ s H ((show a2x (k+1+1+1) X.A from hr).in1.in1.deeper _)) hoL hD (I3'.mine (Qj _)) (a4q hS) h64 nd
   (fun z hz H3 e3=>hask z hz H3 fun a o n e=>e3 _ _ (ex2 _ _ n e)) fun H' s' ss' i1 i2 i3 i4 i5=>⟨_,rfl,wpAny_pure ⟨_,rfl,?_⟩⟩
  exact ⟨.ref h'.objs.size,H',i1.pins_of (fun pr hpr=>i1.pin pr (Xc _ (Qt _ hpr))),rfl,qq _ _ _ (lt2.mono i3) (fun a o n e=>i3 _ _ (ex2 _ _ n e)) hD1 i2 i4 i5⟩
def b0O (K:Qe):List V→Hp→VK→Prop:=fun xs H Q=>∃(p:Addr) (ys:List V),xs=[.ref p]∧SqL K H p ys∧ys.length < 64∧(∀v∈ys,∃a i z,v=.ref a∧H a=some (.tup [.int i,.str z]))∧(ys.map (a1x H)).Nodup∧
 ∀l ys',H l=none→ys'.Perm ys→(ys'.map (a1x H)).Pairwise (fun x y=>ltP x y=true)→Q (.ref l) (upd H l (.lst ys'))
def b5L (K:Qe):List V→Hp→VK→Prop:=fun xs H Q=>b5s K xs H Q∨(b5F xs H Q∨b0O K xs H Q)
section
variable {X:Cx}
theorem a7a:a1C X (.builtin "sorted") (b0O X.K):=by
 intro pins s σ H xs us Q I r h
 obtain ⟨p,ys,rfl,hq,h64,hT,hnd,q⟩:=h
 obtain ⟨u,rfl,ru⟩:=a3u r
 cases ru
 obtain ⟨its,rv,pl,hz⟩:=I.list hq
 have hn:=rv.length
 have hat:∀i,i < its.length→∃a o n t t',its.getD i Value.none=.ref a∧s.heap.get? a=some o∧o.data=.seq #[.int (a1x H (ys.getD i .non)).1 t,.str (a1x H (ys.getD i .non)).2 t'] n:=fun i hi=>by
  have hi':i < ys.length:=by omega
  obtain ⟨u,hu,ru⟩:=rv.get (Qc hi')
  obtain ⟨a,m,z,e,ha⟩:=hT _ (Xa hi')
  rw [e] at ru
  cases ru
  obtain ⟨o,n,t,t',e1,e2,e3⟩:=a9M (I.hok _ _ ha)
  have ep:a1x H (ys.getD i .non)=(m,z):=by
   rw [Xs,Qc hi',Xh,e]
   show (match H a with | some (.tup [.int i,.str z])=>(i,z) | _=>(0,""))=(m,z)
   rw [ha]
  rw [ep]
  exact ⟨a,o,n,t,t',by rw [Xs,hu];rfl,e1,e3⟩
 refine Calls.call_function_entry kind_sorted plain_sorted entry_sorted (args_sorted1 _) ?_
 unfold Builtin.«sorted»
 refine wpAny_bind (m:=checkCount "sorted" 1 1 _) (wpAny_pure ?_)
 refine wpAny_bind (collect_list pl.isList ?_ (by rw [sizeLine_eq];omega))
 refine wpAny_bind (wpAny_newList ?_ (by rw [sizeLine_eq];omega))
 have hsz:((s.heap.push (seqObj "list" #[] 0)).update s.heap.objs.size (Obj.mapSeq (·++its.toArray))).objs.size=s.heap.objs.size+1:=by
  rw [Vx,size_push']
 have hoL:(((s.heap.push (seqObj "list" #[] 0)).update s.heap.objs.size (Obj.mapSeq (·++its.toArray))).push (seqObj "list" its.toArray 0)).get? (s.heap.objs.size+1)=some (seqObj "list" its.toArray 0):=by
  rw [←hsz];exact Xd _ rfl
 have keep:∀b o,s.heap.get? b=some o→(((s.heap.push (seqObj "list" #[] 0)).update s.heap.objs.size (Obj.mapSeq (·++its.toArray))).push (seqObj "list" its.toArray 0)).get? b=some o:=fun b o q=>by
  have hlt:b < s.heap.objs.size:=Qz q
  rw [Jj _ _ _ (by rw [hsz];exact Xl (Zu hlt)),Ja _ _ _ _ (Xl hlt),Jj _ _ _ (Xl hlt)]
  exact q
 show wpAny _ _ _ _ _ {s with heap:=((s.heap.push (seqObj "list" #[] 0)).update s.heap.objs.size (Obj.mapSeq (·++its.toArray))).push (seqObj "list" its.toArray 0)}
 rw [hsz]
 have keep2:∀h':Heap,(∀b o,b≠s.heap.objs.size+1→(((s.heap.push (seqObj "list" #[] 0)).update s.heap.objs.size (Obj.mapSeq (·++its.toArray))).push (seqObj "list" its.toArray 0)).get? b=some o→h'.get? b=some o)→∀b o,s.heap.get? b=some o→h'.get? b=some o:=fun h' hk b o e=>hk b o (Xl (Zu (Qz e))) (keep b o e)
 refine wpAny_bind (wpAny_holding (wpAny_call_entry slot_list_sort ⟨_,hoL,rfl⟩ entry_list_sort (a3X (s:={s with heap:=((s.heap.push (seqObj "list" #[] 0)).update s.heap.objs.size (Obj.mapSeq (·++its.toArray))).push (seqObj "list" its.toArray 0)}) hoL ‹om›
  (fun i j=>ltP (a1x H (ys.getD i .non)) (a1x H (ys.getD j .non))) (tuples' true) ?hk ?hask fun pp hp hpe=>⟨_,rfl,?fin⟩) (args_list_sort _)))
 case hk=>
  intro h2 h' hkp Q' hQ'
  obtain ⟨fs,g1,g2,g3⟩:=a7y (h':=h') (fun a o e=>I.hok a o e) (keep2 h' hkp) rv hT
  refine kat_kind (T:=.type "int") g1 ‹om› (fun v hv=>?_) ‹dc› hQ'
  obtain ⟨i,t,rfl⟩:=g3 v hv
  exact .now
 case hask=>
  intro h' hkp i j C hi hj hC
  obtain ⟨a,oa,na,ta,ta',ea,ha,da⟩:=hat i hi
  obtain ⟨b,ob,nb,tb,tb',eb,hb,db⟩:=hat j hj
  unfold kas_ask
  rw [ea,eb]
  refine kat_lt (keep2 h' hkp _ _ ha) da (keep2 h' hkp _ _ hb) db ?_
  have hC':C (ltP (a1x H (ys.getD i .non)) (a1x H (ys.getD j .non))) {s with heap:=h'}:=hC
  generalize a1x H (ys.getD i .non)=x at hC' ⊢
  generalize a1x H (ys.getD j .non)=y at hC' ⊢
  unfold ltP at hC'
  show KatLex _ _ _ _ _ _ [(.int x.1 ta,.int y.1 tb),(.str x.2 ta',.str y.2 tb')] 0 _
  refine kat_cons (wpAny_eqBool_int ?_)
  by_cases h1:x.1=y.1
  ·rw [show (x.1 == y.1)=true from by rw [h1];exact beq_self_eq_true _]
   rw [if_pos h1] at hC'
   refine kat_yes (kat_cons (wpAny_eqBool_str ?_))
   by_cases h2:x.2=y.2
   ·rw [decide_eq_true h2]
    rw [if_pos h2] at hC'
    exact kat_yes (kat_nil (by simpa using hC'))
   ·rw [decide_eq_false h2]
    rw [if_neg h2] at hC'
    refine kat_no ?_
    show wpAny _ _ (oneLt' (true && (0+1) == 0) _ _) _ _ _
    rw [show (true && (0+1) == 0)=false from rfl]
    exact kat_one _ _ (PySem.P.lt_str hC')
  ·rw [show (x.1 == y.1)=false from beq_eq_false_iff_ne.mpr h1]
   rw [if_neg h1] at hC'
   refine kat_no ?_
   exact oneLt_int hC'
 case fin=>
  refine wpAny_pure ⟨_,rfl,?_⟩
  obtain ⟨e,he⟩:=sortedHeap_at (out:=Yh (pp.toList.map fun i=>its.getD i Value.none)) hoL
  have hpl:∀i∈pp.toList,i < ys.length:=fun i hi=>by
   have:=hp.list.mem_iff.mp hi
   rw [Jm] at this;omega
  have hplen:pp.toList.length=its.length:=by rw [hp.list.length_eq,Zv]
  have I2:=I.laid (a:=s.heap.objs.size+1) (o:=.lst (pp.toList.map fun i=>ys.getD i .non)) (h':=sortedHeap (((s.heap.push (seqObj "list" #[] 0)).update s.heap.objs.size (Obj.mapSeq (·++its.toArray))).push (seqObj "list" its.toArray 0)) (s.heap.objs.size+1) its (Yh (pp.toList.map fun i=>its.getD i Value.none))) (t':=s.toks) (fun b o e=>by
   have hb:b < s.heap.objs.size:=Qz e
   rw [sortedHeap_old (Xl (Zu hb)) (by rw [size_push',hsz];exact Zu (Zu hb))]
   exact keep b o e) (Je _) ⟨by rw [Qd,sizeLine_eq];omega,pp.toList.map fun i=>its.getD i Value.none,e,a4h rv _ hpl,he⟩
  refine ⟨.ref (s.heap.objs.size+1),_,I2,rfl,q _ _ (I.hok.fresh (Je _)) ?_ ?_⟩
  ·have h1:=hp.list.map fun i=>ys.getD i .non
   rw [←hn,a9g] at h1
   exact h1
  ·rw [Xf,Jt]
   by_cases h2:2≤its.length
   ·have L:c2B (fun i j=>ltP (a1x H (ys.getD i .non)) (a1x H (ys.getD j .non))) its.length:=
     ⟨fun i _=>a7f _,fun i j k _ _ _ a b=>b2T a b,fun i j hi hj e=>a9W fun z=>by
      have hi':i < ys.length:=by omega
      have hj':j < ys.length:=by omega
      rw [Xs,Qc hi',Xs,Qc hj',Xh,Xh] at z
      exact e ((Jn (i:=i) (j:=j) (h₀:=by rw [Qd];exact hi') (h₁:=by rw [Qd];exact hj') hnd).mp (by rw [Yd,Yd];exact z))⟩
    have hA:=a7G L ‹om›
    rw [←hpe h2] at hA
    exact a8j hp.size hA
   ·have hl1:pp.toList.length < 2:=by rw [hplen];omega
    match pp.toList,hl1 with
    | [],_=>exact Gb.nil
    | [z],_=>simp
    | _::_::_,y=>exact absurd y (by simp)
theorem a3s (hc:X.calm=true):a1C X (.builtin "sorted") (b5L X.K):=a1C.or a8U (a1C.or (a9v hc) a7a)
end
def b3O (T:Addr) (H:Hp):Prop:=H T=some (.tbl #[])∧∀b,b≠T→H b=none∨∃o xs,H b=some (.frz o (.lst xs))
def b6f (K:Qe) (c T:Addr):Bool:=match K.lookup c with
 | some o=>(match o.cls,o.data with
  | .type n,.fields vs=>(match (vs[11]?:Option Value) with
   | some (Value.ref P)=>n == "code" && P == T
   | _=>false)
  | _,_=>false)
 | none=>false
theorem b3j {K:Qe} {h:Heap} {c T:Addr} (X:K.In h) (e:b6f K c T=true):isCodeTable h T:=by
 unfold b6f at e
 split at e
 ·rename_i o ho
  split at e
  ·rename_i n vs hcl hd
   split at e
   ·rename_i P e11
    rw [Xq] at e
    have h1:n="code":=by simpa using e.1
    have h2:P=T:=by simpa using e.2
    exact ⟨c,o,vs,X _ _ ho,by rw [hcl,h1],hd,by rw [e11,h2]⟩
   ·cases e
  ·cases e
 ·cases e
theorem b1v {P:Program} {w:World} {K:Qe} {mg mb:Str→Option Value} {CX:CXT} {k:Nat} {fa a T:Addr} {fd:FuncData} {x:Str} {sp:Sp} {s₁:Shared} {vs:List Value} {ns:List Int}
  (KX:K.In s₁.heap) (hT:s₁.heap.get? T=some {cls:=.none,data:=.fields #[]}) (hKT:K.lookup T=none) (hCT:isCodeTable s₁.heap T) (hns:s₁.heap.Ns mainGlobals mg) (hb:s₁.heap.Ns builtinsNs mb) (hbb:∀x:Str,x≠"__name__"→mb x=bootBuiltins x) (hlim:s₁.heap.NoLimit) (hg:s₁.gens=#[])
  (ha:s₁.heap.get? a=some {cls:=.type "list",data:=.seq vs.toArray}) (hi:IntsAre vs ns) (hl:ns.length≤sizeLine) (hr:a2x k callerA)
  (F:∀base:Heap,K.In base→base.Ns mainGlobals mg→a0R P w K mg base CX k fa fd [x] sp) (hbind:∀(s:Shared) (u:Value),BindsTo s fd ⟨[u],[]⟩ [(x,u)])
  (hsp:∀H:Hp,b3O T H→SqL K H a (ns.map V.int)→sp [.ref a] H (fun v _=>v=.bl true) fun _ _ _=>False)
  (hCX:∀H e s',CX [] H s₁ (fun _ _ _=>False) e s'→False):
  codeAny (model P w) callerA (.call (.ref fa) ⟨[.ref a],[]⟩) (fun r s'=>r=.ok (.ret (.bool true))∧OldK s₁.heap s'.heap∧s'.os=s₁.os∧AllBare s'.gens) s₁:=by
 have rv:=a6k hi
 have lenV:=hi.length
 have haT:a≠T:=fun z=>by rw [z,hT] at ha;cases ha
 have core:∀H:Hp,b3O T H→SqL K H a (ns.map V.int)→HOk P w H s₁.heap→(∀b,H b≠none→b=a∨b=T)→(H a≠none→K.lookup a=none)→
   codeAny (model P w) callerA (.call (.ref fa) ⟨[.ref a],[]⟩) (fun r s'=>r=.ok (.ret (.bool true))∧OldK s₁.heap s'.heap∧s'.os=s₁.os∧AllBare s'.gens) s₁:=by
  intro H hO hS hok hA hK
  have base_of:∀{b:Addr} {o:Obj},s₁.heap.get? b=some o→H b=none→(b3K s₁.heap H).get? b=some o:=fun e n=>b3G e n
  have noA:∀{b:Addr} {o:Obj} {es:Array DictEntry} {ep:Nat},s₁.heap.get? b=some o→o.data=.dict es ep→H b=none:=fun {b o es ep} e d=>by
   cases q:H b with
   | none=>rfl
   | some u=>
    rcases hA b (by rw [q];simp) with e' | e'
    ·subst e'
     rw [ha] at e;cases e
     have d':Data.seq vs.toArray _=Data.dict es ep:=d
     cases d'
    ·subst e'
     rw [hT] at e;cases e
     have d':Data.fields #[]=Data.dict es ep:=d
     cases d'
  have nsK:∀{b:Addr} {m:Str→Option Value},s₁.heap.Ns b m→(b3K s₁.heap H).Ns b m:=fun {b m} ⟨o,es,ep,e,d,r⟩=>⟨o,es,ep,base_of e (noA e d),d,r⟩
  have hKb:K.In (b3K s₁.heap H):=fun b o e=>base_of (KX b o e) (by
   cases q:H b with
   | none=>rfl
   | some u=>
    rcases hA b (by rw [q];simp) with e' | e'
    ·subst e'
     rw [hK (by rw [q];simp)] at e;cases e
    ·subst e'
     rw [hKT] at e;cases e)
  have hM:Mod K mg (b3K s₁.heap H):=⟨hKb,nsK hns,⟨mb,nsK hb,hbb⟩,let ⟨mc,h1,h2⟩:=hlim;⟨mc,nsK h1,h2⟩⟩
  have e0:b7e P w K mg (b3K s₁.heap H) callerA [] s₁ H:=⟨rfl,hM,fun b o e=>b6i e,Vs (b1z _ _),trivial,fun b hb=>absurd (show b∈([]:List Addr) from hb) (by simp),hok,.of_eq hg⟩
  refine codeAny_mono ((F _ hKb (nsK hns)).run callerA [] s₁ H ⟨[.ref a],[]⟩ [.ref a] [.ref a] _ _ hr e0 (hbind s₁ (.ref a)) (.cons rfl .nil) (hsp H hO hS)) fun r s' h=>?_
  cases r with
  | error e=>exact (hCX H e s' h).elim
  | ok fl=>
   cases fl with
   | next=>exact False.elim h
   | brk=>exact False.elim h
   | cont=>exact False.elim h
   | ret u=>
    obtain ⟨v,H',os,bare,un,hok',r',q⟩:=h
    have q':v=.bl true:=q
    subst q'
    obtain rfl:u=Value.bool true:=r'
    obtain ⟨more,hT'⟩:=un.tbls T _ hO.1
    have hTo:s'.heap.get? T=some {cls:=.none,data:=.fields (#[]++more)}:=hok' T _ hT'
    have old:∀b o,b≠T→s₁.heap.get? b=some o→s'.heap.get? b=some o:=fun b o hbT e=>by
     cases q:H b with
     | none=>exact un.keep b o e q (by intro z;exact absurd (show b∈([]:List Addr) from z) (by simp)) (by simp)
     | some u=>
      rcases hO.2 b hbT with z | ⟨ob,xs,z⟩
      ·rw [q] at z;cases z
      ·have z2:=un.frzs b ob _ z
       obtain ⟨e1,_⟩:=hok b _ z
       obtain ⟨e2,_⟩:=hok' b _ z2
       rw [e] at e1;cases e1
       exact e2
    refine ⟨rfl,⟨fun b o e=>?_,fun b o e=>?_⟩,os,bare⟩
    ·by_cases hbT:b=T
     ·subst hbT
      rw [hT] at e;cases e
      exact .inr (.inl ⟨hCT,rfl,#[],more,rfl,hTo⟩)
     ·exact .inl (old b o hbT e)
    ·by_cases hbT:b=T
     ·subst hbT;exact ⟨_,hTo⟩
     ·exact ⟨o,old b o hbT e⟩
 cases hk:K.lookup a with
 | some o=>
  have e:=KX a o hk
  rw [ha] at e
  cases e
  refine core (fun b=>if b=T then some (.tbl #[]) else none) ⟨if_pos rfl,fun b hb=>.inl (if_neg hb)⟩ (.inr ⟨_,vs.toArray,_,hk,rfl,rfl,rfl,by rw [Qu,lenV];exact hl,by simpa using rv⟩) (fun b u z=>?_) (fun b z=>?_) fun z=>absurd (if_neg haT) z
  ·by_cases hb:b=T
   ·have z':=(if_pos hb).symm.trans z
    cases z'
    subst hb
    exact hT
   ·have z':=(if_neg hb).symm.trans z
    cases z'
  ·by_cases hb:b=T
   ·exact .inr hb
   ·exact absurd (if_neg hb) z
 | none=>
  refine core (fun b=>if b=T then some (.tbl #[]) else if b=a then some (.frz {cls:=.type "list",data:=.seq vs.toArray} (.lst (ns.map V.int))) else none) ⟨if_pos rfl,fun b hb=>?_⟩ (.inl (.inr ⟨{cls:=.type "list",data:=.seq vs.toArray},(if_neg haT).trans (if_pos rfl)⟩)) (fun b u z=>?_) (fun b z=>?_) fun _=>hk
  ·by_cases hba:b=a
   ·exact .inr ⟨_,_,(if_neg hb).trans (if_pos hba)⟩
   ·exact .inl ((if_neg hb).trans (if_neg hba))
  ·by_cases hb:b=T
   ·have z':=(if_pos hb).symm.trans z
    cases z'
    subst hb
    exact hT
   ·by_cases hba:b=a
    ·have z':=((if_neg hb).trans (if_pos hba)).symm.trans z
     cases z'
     subst hba
     exact ⟨ha,by rw [Qd];exact hl,vs,_,rv,ha⟩
    ·have z':=((if_neg hb).trans (if_neg hba)).symm.trans z
     cases z'
  ·by_cases hb:b=T
   ·exact .inr hb
   ·by_cases hba:b=a
    ·exact .inl hba
    ·exact absurd ((if_neg hb).trans (if_neg hba)) z
theorem b3b {l:PySem.W.OpenLaw} {n k:Nat} {q:Program} {loose:List Str} {XP:(Str→Option Value)→Heap→Prop} {YP:World→Heap→Prop} {d:DefRec} {K:Params→Qe} {CX:CXT} {sp:Qe→Sp} {x:Str} (T c:Addr)
  (hn:l.most=some n) (hn2:n≤sizeLine) (hdf:d.params.defaults=[]) (hr:a2x k callerA)
  (hY:∀(w:World) (h:Heap),YP w h→(K w.params).In h∧h.get? T=some {cls:=.none,data:=.fields #[]}) (hKT:∀w:World,(K w.params).lookup T=none) (hCT:∀w:World,b6f (K w.params) c T=true)
  (F:∀(w:World) (mg:Str→Option Value) (fa:Addr) (h:Heap),(K w.params).In h→h.Ns mainGlobals mg→mg d.name=some (.ref fa)→
   ∃fd:FuncData,(∀(s:Shared) (u:Value),BindsTo s fd ⟨[u],[]⟩ [(x,u)])∧
    ∀base:Heap,(K w.params).In base→base.Ns mainGlobals mg→a0R l.prog w (K w.params) mg base CX k fa fd [x] (sp (K w.params)))
  (hsp:∀(K:Qe) (H:Hp) (a:Addr) (ns:List Int),ns.length≤n→b3O T H→SqL K H a (ns.map V.int)→sp K [.ref a] H (fun v _=>v=.bl true) fun _ _ _=>False)
  (hCX:∀(H:Hp) (s:Shared) (e:Value) (s':Shared),CX [] H s (fun _ _ _=>False) e s'→False):
  PySem.W.WalkO q loose XP YP l.row.toRowW d [] (fun f vs=>PySem.call f vs):=by
 refine Att.attach_call hn hdf fun w s₀ s₁ mg mb fa o pm cd doc a vs ns G Y ho hd hcd hmg hobj hints hlen hg=>?_
 obtain ⟨KX,hT⟩:=hY w _ Y
 obtain ⟨fd,hb,hF⟩:=F w mg fa _ KX G.T.g hmg
 exact b1v KX hT (hKT w) (b3j KX (hCT w)) G.T.g G.T.b G.T.builtins G.T.nolimit hg hobj hints (Qi hlen hn2) hr hF hb (fun H hO hS=>hsp (K w.params) H a ns hlen hO hS) fun H e s'=>hCX H s₁ e s'
theorem b6h {K:Qe} {T:Addr} {o:Obj} {h:Heap} (X:Qe.In ((T,o)::K) h) (n:K.lookup T=none):K.In h∧h.get? T=some o:=by
 refine ⟨fun a u e=>X a u ?_,X T o (by rw [Yl,beq_self_eq_true])⟩
 rw [Yl]
 have:(a == T)=false:=by
  rw [beq_eq_false_iff_ne]
  intro z;rw [z,n] at e;cases e
 rw [this];exact e
section
variable {P:Program} {w:World} {K:Qe} {mg:Str→Option Value} {base:Heap}
theorem Fun.okC {x qual:Str} {st:Stmt} {f:Addr} {fd:FuncData} {N ps:List Str} {k:Nat} {sp:Sp} (F:Fun K x qual st f fd) (S:a0f N ps (a0c st)) (len:∀vs H Q E,sp vs H Q E→vs.length=ps.length)
  (hbody:∀(A:Around) (outer:List Env) (s:Shared) (H:Hp) (vs:List V) (Q:VK) (E:XK),a2x k (A.deeper (envOfC qual (a0c st) s.heap.objs.size f fd.code))→sp vs H Q E→
   ∃t,PSs (b5g CX0 P w K mg base N qual (a0c st) f fd.code A outer s H E).nox (a1w st) t∧t {nx:=fun _ H'=>Q .non H',rt:=Q} (start N vs) H):a0R P w K mg base CX0 (k+1) f fd ps sp:=by
 obtain ⟨oc,od,kV,doc,pm,an,cdv,ct,osl,rfl,lk,hcd⟩:=F.ex
 refine b6q lk hcd S len fun A outer s H vs Q E hr hsp=>?_
 obtain ⟨t,h,q⟩:=hbody A outer s H vs Q E hr hsp
 exact ⟨t,h.nox,q⟩
end
end L2
namespace L2
open PySem PySem.Spec PySem.W PyProof.Rows PySem.Builtin PySem.Builtin.ObjectAttr
def b5H:List Value→Bool
 | .ref _::r=>b5H r
 | [.type a,.type b,.type c,.type d]=>a == "ValueError" && b == "Exception" && c == "BaseException" && d == "object"
 | _=>false
def c1l (K:Qe) (C:Addr):Bool:=(clsIn K C).any fun cd=>b5H cd.mro
end L2
namespace L2
open PySem PySem.Spec PySem.W PySem.Calls PyProof.Rows PySem.Builtin PySem.Builtin.ObjectAttr
abbrev bmV:List Value:=[.type "ValueError",.type "Exception",.type "BaseException",.type "object"]
def c8Y (K:Qe) (C:Addr):Bool:=match K.lookup C with
 | some ⟨.type "type",_,.cls cd,sl⟩=>(match cd.mro,sl.toList with
  | .ref C'::bm,[_,_,_,_,some (.builtin n),_]=>C' == C && n == "ValueError.__new__" && !cd.hasDel && !cd.abstract && tailIn K bmV bm && specialIn K (.ref C) "__call__" == some (some (.builtin "type.__call__")) && instIn K (.ref C) (.type "type") == some true
  | _,_=>false)
 | _=>false
structure c8A (K:Qe) (C:Addr):Prop where
 ga:findIn K (.ref C) "__getattribute__"=some (some (.builtin "BaseException.__getattribute__"))
 gt:findIn K (.ref C) "__getattr__"=some none
 bx:mroIn K C (.type "BaseException")=some true
 hd:hasDictIn K C=true
 cc:findIn K (.ref C) "__class__"=some (some (.builtin "object.__class__"))
 cg:specialIn K (.builtin "object.__class__") "__get__"=some (some (.builtin "getset_descriptor.__get__"))
 ct:takesIn K (.builtin "object.__class__")=some true
 mo:mroIn K C (.type "object")=some true
 sa:findIn K (.ref C) "__setattr__"=some (some (.builtin "object.__setattr__"))
 ov:c1l K C=true
 xc:c8Y K C=true
end L2
namespace L2
open PySem PySem.Spec PySem.W PyProof.Rows
def c7x (x C:Addr) (od:Option Addr):HO:=.ext fun h=>∃vs sl,h.get? x=some ⟨.ref C,od,.fields vs,sl⟩∧vs[1]?=some Value.none
def c5r (x C:Addr) (od:Option Addr) (T:Addr):HO:=.ext fun h=>∃vs sl,h.get? x=some ⟨.ref C,od,.fields vs,sl⟩∧vs[1]?=some (Value.ref T)
def IsX (H:Hp) (x C:Addr) (od:Option Addr):Prop:=H x=some (c7x x C od)∨∃T,H x=some (c5r x C od T)
end L2
namespace L2
open PySem PySem.Spec PySem.W PySem.Calls PyProof.Rows
def c7L (H:Hp) (x C:Addr) (m:Str) (v:V):Prop:=∃d,IsX H x C (some d)∧H d=some (.xd [(m,v)])
def c7n (H:Hp) (x C:Addr):Option (Str×V)→Prop
 | some (m,v)=>c7L H x C m v
 | none=>IsX H x C none
def b8x (H:Hp):List Addr→List (Addr×Option (Str×V))→Prop
 | [],[]=>True
 | x::xs,e::es=>c7n H x e.1 e.2∧b8x H xs es
 | _,_=>False
theorem b8x.len {H:Hp}:∀{xs:List Addr} {es:List (Addr×Option (Str×V))},b8x H xs es→xs.length=es.length
 | [],[],_=>rfl
 | _::_,_::_,⟨_,b⟩=>congrArg (·+1) b.len
 | [],_::_,h=>h.elim
 | _::_,[],h=>h.elim
theorem b8x.get {H:Hp}:∀{xs:List Addr} {es:List (Addr×Option (Str×V))} {i:Nat} {e:Addr×Option (Str×V)},b8x H xs es→es[i]?=some e→∃x,xs[i]?=some x∧c7n H x e.1 e.2
 | _::_,_::_,0,_,⟨a,_⟩,h=>by cases h;exact ⟨_,rfl,a⟩
 | _::_,_::_,i+1,_,⟨_,b⟩,h=>b8x.get (i:=i) b (by simpa using h)
 | [],_::_,_,_,h,_=>h.elim
 | _::_,[],_,_,h,_=>h.elim
def TbO (T:Addr) (fl:Value):HO:=.ext fun h=>∃ob ts,h.get? T=some ob∧ob.data=.fields ts∧ts[3]?=some fl
def Fl (H:Hp) (x C:Addr) (od:Option Addr) (fl:Value) (T:Addr):Prop:=T≠x∧H x=some (c5r x C od T)∧H T=some (TbO T fl)
def Arr (H:Hp) (x C:Addr) (od oT:Option Addr):Prop:=(oT=none∧H x=some (c7x x C od))∨∃T,oT=some T∧Fl H x C od .none T
section
variable {X:Cx} {pins:List (Addr×Obj)} {σ:St} {H:Hp} {s:Shared}
theorem Inv.frames (I:Inv X pins σ H s) {h':Heap} (hs:Heap.SlotsOnly (frs X.stack) s.heap h'):Inv X pins σ H {s with heap:=h'}:=by
 have k:∀b u o,H b=some o→s.heap.get? b=some u→h'.get? b=some u:=fun b u o e q=>by
  rw [hs.2.1 b fun z=>by rw [I.stkFree b z] at e;cases e];exact q
 refine I.call' (s':={s with heap:=h'}) (ch:=[]) rfl ⟨fun b o e _ n _=>by rw [hs.2.1 b n];exact e,fun b o e _ _ _=>hs.2.2 b o e,fun b o _ n _=>n,fun b o e _=>let ⟨sl,q⟩:=hs.2.2 b o e;⟨_,q⟩,fun _ _ e=>e,fun _ _ _ e=>e,fun _ ps e=>⟨#[],by simpa using e⟩⟩ (fun a o e=>?_) I.bare (fun b z=>absurd z (by simp))
 exact (I.hok a o e).stay (fun b u hb q=>by
  rcases hb with rfl | hb
  ·exact k _ _ _ e q
  ·exact k _ _ _ hb q) (fun _ q=>q) fun _ _ q=>q
end
section
variable {X:Cx} {pins:List (Addr×Obj)} {σ:St} {H:Hp} {s:Shared}
abbrev Cx.held (X:Cx) (x:Addr):Cx:={X with A:=X.A.mark (some (.ref x)),calm:=false,xe:=fun _ _=>False}
theorem Inv.held {x:Addr} (I:Inv X pins σ H s):Inv (X.held x) pins σ H s:=
 ⟨⟨I.ok.mod,I.ok.kind,I.ok.glob,I.ok.blt,I.ok.above,I.ok.inj,I.ok.has,I.ok.cab,fun z=>(Qx z).elim,I.ok.frames,I.ok.stk,I.ok.exf,I.ok.bs,I.ok.bsz,I.ok.noex,I.ok.exfs,I.ok.funs,I.ok.frf⟩,I.os,I.bare,I.base,I.loc,I.cell,I.free,I.freeC,I.pin,I.hok,I.len⟩
abbrev XW:=St→Addr→Addr→Hp→Prop
def XP (X:Cx) (pins:List (Addr×Obj)) (W:XW) (e:Value) (s':Shared):Prop:=∃σ H x C od oT,e=.ref x∧Inv X pins σ H s'∧Arr H x C od oT∧c8A X.K C∧W σ x C H
end
end L2
namespace Tx
open PySem PySem.Builtin PySem.Builtin.Str PySem.StrLaws PyProof.Rows
theorem a1s (l:List Nat) (i j:Nat):(strSub (mk l) i j).length≤l.length:=by
 rw [c0W,a0A]
 exact Qi (Ga _ _) (by rw [Jw];omega)
end Tx
namespace L2
open PySem PySem.Spec PySem.W PySem.Calls PyProof.Rows
def Itk (o:Obj) (a:Addr) (kvs:List (Key×V)):It:=⟨fun i H=>H a=some (.frz o (.dK kvs))∧i < kvs.length,fun i H x H'=>H'=H∧∃k v,kvs[i]?=some (k,v)∧x=kV k,fun i H=>H a=some (.frz o (.dK kvs))∧kvs.length≤i⟩
def a8Q (td:TE):TI:=fun σ H R=>td σ H fun x H1=>∃(a:Addr) (kvs:List (Key×V)),x=.ref a∧H1 a=some (.dK kvs)∧∀o,R (Itk o a kvs) (upd H1 a (.frz o (.dK kvs)))
theorem a5s {o:Obj} {a:Addr} {kvs:List (Key×V)}:Src (Itk o a kvs) kvs.length (fun i=>(kvs[i]?.map fun p=>kV p.1).getD .non) (fun H=>H a=some (.frz o (.dK kvs))):=
 ⟨fun i H hi h=>⟨h,hi⟩,fun i H x H' hi h y=>⟨y.1,by obtain ⟨_,k,v,e,rfl⟩:=y;rw [e];rfl⟩,fun H h=>⟨h,Qj _⟩⟩
theorem b4J {P:Program} {w:World} {k:Key} {u:Value} (h:(a0m P w).is k u=true):a0Q (kV k) u:=by
 rcases a0L (k:=k) (v:=u) h with ⟨i,t,rfl,rfl⟩ | ⟨x,t,rfl,rfl⟩
 ·exact ⟨t,rfl⟩
 ·exact ⟨t,rfl⟩
theorem b6N:∀{r:List (Key×V)} {rs:List (Key×Value)},KV r rs→∀{i:Nat} {p:Key×V},r[i]?=some p→∃q,rs[i]?=some q∧p.1=q.1:=by
 intro r rs h
 unfold KV at h
 induction h with
 | nil=>intro i p e;simp at e
 | @cons p q ps qs h t ih=>
  intro i p' e
  cases i with
  | zero=>cases e;exact ⟨q,rfl,h.1⟩
  | succ i=>exact ih e
theorem b0M {P:Program} {w:World} {K:Qe} {tg:Expr} (o:Obj) (a it:Addr) (kvs:List (Key×V)):b4W P w K tg (Itk o a kvs) [it] it (fun i h=>∃es ep,o.data=.dict es ep∧h.IsKeyIter it a i kvs.length ep) where
 mem:=by simp
 obj:=fun i h st b hb=>by
  have e:b=it:=by simpa using hb
  subst e
  obtain ⟨_,_,_,ob,e,c,d⟩:=st
  exact ⟨ob,e,fun v z=>by rw [d] at z;cases z⟩
 keep:=fun i h h' st k=>by
  obtain ⟨es,ep,hd,hit⟩:=st
  exact ⟨es,ep,hd,hit.at fun o e=>k it (by simp) o e⟩
 item:=by
  intro X hP hw hK hc i pins s σ H E I hf st hg
  subst hP hw hK
  obtain ⟨es,ep,hd,hit⟩:=st
  obtain ⟨hfr,hi⟩:=hg
  obtain ⟨ho,z,hds,vs,rel,dd⟩:=(show a1c X.prog X.w H s.heap a (.frz o (.dK kvs)) from I.hok a _ hfr)
  obtain ⟨o',es',ep',ho',hx,hdat,r⟩:=dd
  rw [ho] at ho';cases ho'
  rw [hd] at hdat;cases hdat
  have hm:s.heap.DictAt (a0m X.prog X.w) a vs ep:=⟨o,es,ho,hx,hd,r⟩
  have hl:=rel.length
  rw [hl] at hit
  obtain ⟨⟨k,u⟩,hq,ek⟩:=b6N rel (Qc hi)
  obtain ⟨f0,f1,f2,f3,f4,f5⟩:=hf it (by simp)
  refine wpAny_pyNext_dict_item (knd:=a0m X.prog X.w) hit hm hq fun key h' hkey st' sb=>?_
  have I1:Inv X pins σ H {s with heap:=h'}:=I.turned (t':=s.toks) (fun b o hb e=>(sb.2 b hb).trans e) f0 f1 f3 f4 f5
  obtain ⟨ob,e,c,d⟩:=id st'
  have ek':kvs[i].1=k:=ek
  exact ⟨key,rfl,b4b (s:={s with heap:=h'}) e c d ‹dc› ⟨kV kvs[i].1,H,I1,by rw [ek'];exact b4J hkey,⟨rfl,kvs[i].1,kvs[i].2,Qc hi,rfl⟩,⟨es,ep,hd,by rw [hl];exact st'⟩,fun b hb=>(hf b hb).1⟩⟩
 done:=by
  intro X hP hw hK hc i pins s σ H E I hf st hg
  subst hP hw hK
  obtain ⟨es,ep,hd,hit⟩:=st
  obtain ⟨hfr,hi⟩:=hg
  obtain ⟨ho,z,hds,vs,rel,dd⟩:=(show a1c X.prog X.w H s.heap a (.frz o (.dK kvs)) from I.hok a _ hfr)
  obtain ⟨o',es',ep',ho',hx,hdat,r⟩:=dd
  rw [ho] at ho';cases ho'
  rw [hd] at hdat;cases hdat
  have hm:s.heap.DictAt (a0m X.prog X.w) a vs ep:=⟨o,es,ho,hx,hd,r⟩
  have hl:=rel.length
  rw [hl] at hit
  obtain ⟨f0,f1,f2,f3,f4,f5⟩:=hf it (by simp)
  exact wpAny_pyNext_dict_end (knd:=a0m X.prog X.w) (I.ok.hd hc) hit hm (Yr ‹om›) fun h' eb=>⟨rfl,I.turned (t':=s.toks) (fun b o hb e=>eb b o hb e) f0 f1 f3 f4 f5⟩
 self:=fun _ _ _ _ _ st h=>by
  obtain ⟨es,ep,hd,hit⟩:=st
  exact wpAny_pyIter_keyiter hit h
section
variable {X:Cx} {tg:Expr}
theorem b7y {o:Expr} {td:TE} (ho:PE X o td):PI X tg o (a8Q td):=by
 intro pins s σ H R I h
 refine thn (ho pins s σ H _ I h) fun v s1 ⟨x,H1,I1,r1,q1⟩=>?_
 obtain ⟨a,kvs,rfl,hH,q⟩:=q1
 cases r1
 obtain ⟨z,hds,vs,rel,dd⟩:=a6n I1.hok hH
 obtain ⟨ob,es,ep,hob,hx,hdat,r⟩:=id dd
 have hm:s1.heap.DictAt (a0m X.prog X.w) a vs ep:=⟨ob,es,hob,hx,hdat,r⟩
 refine wpAny_pyIter_dict (knd:=a0m X.prog X.w) hds hm ?_
 have keep:∀b u,s1.heap.get? b=some u→(s1.heap.push {cls:=.type "dict_keyiterator",data:=.fields #[.ref a,.int 0 0,.int vs.length 0,.int ep 0]}).get? b=some u:=fun b u e=>Qo _ e
 have I2:=I1.kept (t':=s1.toks) keep
 obtain ⟨o2,ho2,I3⟩:=I2.freeze hH
 have e2:o2=ob:=by
  have:=keep a ob hob
  rw [show _=some o2 from ho2] at this
  exact Option.some.inj this
 subst e2
 have hl:=rel.length
 refine ⟨s1.heap.objs.size,[s1.heap.objs.size],_,_,_,rfl,I3,b0M o2 a _ kvs,⟨es,ep,hdat,_,Xd _ rfl,rfl,by rw [hl];rfl⟩,fun b hb=>?_,q o2⟩
 have e:b=s1.heap.objs.size:=by simpa using hb
 subst e
 have hn:=I1.hok.fresh (a:=s1.heap.objs.size) (Qj _)
 exact I1.fpOk (Qj _) (by rw [a0a (a0b hH hn).symm];exact hn)
end
def c2V:V→List V→Hp→VK→Prop:=fun x xs H Q=>∃(a b:Addr) (kvs more:List (Key×V)),x=.ref a∧xs=[.ref b]∧a≠b∧H a=some (.dK kvs)∧H b=some (.dK more)∧kvs.length+more.length≤sizeLine∧Q .non (upd H a (.dK (a1u kvs more)))
section
variable {X:Cx}
theorem a4U:MtM X "dict.update" c2V:=by
 intro pins s σ H x xs v us Q I rx rv h
 obtain ⟨a,b,kvs,more,rfl,rfl,hab,ha,hb,hz,q⟩:=h
 cases rx
 obtain ⟨u,rfl,ru⟩:=a3u rv
 cases ru
 obtain ⟨z,hd,vs,rel,dd⟩:=a6n I.hok ha
 obtain ⟨z',hd',vs',rel',dd'⟩:=a6n I.hok hb
 refine call_meetsIn Uh dd.typeIs PySem.F.entry_dict_update (PySem.F.args_dict_update_2 _ _) (meets_dict_update (a0m X.prog X.w) a b hab hd') ⟨vs,vs',dd,dd',by rw [←rel.length,←rel'.length];exact hz,fun h' dn db hs=>?_⟩
 have he:∃q,h'.get? a=some q:=let ⟨q,_,_,hq,_⟩:=dn;⟨q,hq⟩
 exact ⟨.non,_,a4z (t':=s.toks) I (by rw [ha];exact True.intro) hs he (a8i (Qi (a1z more kvs) hz) hd (KV.merge rel' rel) dn),rfl,q⟩
end
def b3m (ts:TS):TS:=fun E σ H=>∃(a:Addr) (kvs:List (Key×V)),H a=some (.dK kvs)∧
 ts {nx:=fun σ' H1=>∃o,H1 a=some (.frz o (.dK kvs))∧E.nx σ' (upd H1 a (.dK kvs)),rt:=fun v H1=>∃o,H1 a=some (.frz o (.dK kvs))∧E.rt v (upd H1 a (.dK kvs)),bk:=fun σ' H1=>∃o,H1 a=some (.frz o (.dK kvs))∧E.bk σ' (upd H1 a (.dK kvs)),ct:=fun σ' H1=>∃o,H1 a=some (.frz o (.dK kvs))∧E.ct σ' (upd H1 a (.dK kvs))} σ H
def d0k (K:Qe):R2:=fun x y H Q=>∃(a b:Addr) (xs:List V),x=.ref a∧y=.ref b∧SqL K H a xs∧SqL K H b []∧Q (.bl (decide (xs≠[]))) H
section
variable {X:Cx}
theorem b7c {st:Stmt} {ts:TS} (hs:PS X st ts):PS X st (b3m ts):=by
 intro pins s σ H D I h
 obtain ⟨a,kvs,hH,h⟩:=h
 have hn:∀ob u,X.H₀ a≠some (.frz ob u):=fun ob u z=>by
  have:=I.base.frzs a ob u z
  rw [hH] at this;cases this
 refine thn (hs pins s σ H _ I h) fun f s1 q=>?_
 cases f with
 | next=>obtain ⟨σ',H1,I1,o,e1,q⟩:=q;exact ⟨σ',_,I1.thaw e1 hn,q⟩
 | brk=>obtain ⟨σ',H1,I1,o,e1,q⟩:=q;exact ⟨σ',_,I1.thaw e1 hn,q⟩
 | cont=>obtain ⟨σ',H1,I1,o,e1,q⟩:=q;exact ⟨σ',_,I1.thaw e1 hn,q⟩
 | ret u=>obtain ⟨v,σ',H1,I1,r,o,e1,q⟩:=q;exact ⟨v,σ',_,I1.thaw e1 hn,r,q⟩
theorem b9a (hu:X.A.units+64 < cLine):OpR X (compareOp .NotEq) (d0k X.K):=by
 intro pins s σ H x y v u Q I rx ry h
 obtain ⟨a,b,xs,rfl,rfl,ha,hb,q⟩:=h
 cases rx
 cases ry
 obtain ⟨its,rv,p1,_⟩:=I.list ha
 obtain ⟨its2,rv2,p2,_⟩:=I.list hb
 have hl:=rv.length
 cases rv2
 by_cases hx:xs=[]
 ·subst hx
  cases rv
  rw [decide_eq_false (fun z=>z rfl)] at q
  exact SeqAt.RcNeAt.lists (e:=fun _=>true) p1.isList p2.isList rfl ‹om› (fun j h1 _=>absurd h1 (by simp)) X.prog X.w _ _ ⟨.bl _,H,I,rfl,q⟩
 ·rw [decide_eq_true hx] at q
  refine SeqAt.RcNeAt.lists_lengths p1.isList p2.isList ?_ ‹om› X.prog X.w _ _ ⟨.bl _,H,I,rfl,q⟩
  have:its.length≠0:=fun z=>hx (Zz.mp ‹om›)
  simp [this]
end
def c4x (ts ts':TS):TS:=fun E σ H=>ts E σ H∨ts' E σ H
section
variable {X:Cx}
theorem b8O {st:Stmt} {ts ts':TS} (h1:PS X st ts) (h2:PS X st ts'):PS X st (c4x ts ts'):=by
 intro pins s σ H D I h
 rcases h with h | h
 ·exact h1 pins s σ H D I h
 ·exact h2 pins s σ H D I h
end
def a6l (H:Hp) (q:Hp→Prop) (H1:Hp):Prop:=∃(a:Addr) (o:Obj) (kvs:List (Key×V)),(∀ob u,H a≠some (.frz ob u))∧H1 a=some (.frz o (.dK kvs))∧q (upd H1 a (.dK kvs))
def b5O (ts:TS):TS:=fun E σ H=>ts {nx:=fun σ'=>a6l H (E.nx σ'),rt:=fun v=>a6l H (E.rt v),bk:=fun σ'=>a6l H (E.bk σ'),ct:=fun σ'=>a6l H (E.ct σ')} σ H
section
variable {X:Cx}
theorem b3M {st:Stmt} {ts:TS} (hs:PS X st ts):PS X st (b5O ts):=by
 intro pins s σ H D I h
 have hn:∀a,(∀ob u,H a≠some (.frz ob u))→∀ob u,X.H₀ a≠some (.frz ob u):=fun a n ob u z=>n ob u (I.base.frzs a ob u z)
 refine thn (hs pins s σ H _ I h) fun f s1 q=>?_
 cases f with
 | next=>obtain ⟨σ',H1,I1,a,o,kvs,n,e1,q⟩:=q;exact ⟨σ',_,I1.thaw e1 (hn a n),q⟩
 | brk=>obtain ⟨σ',H1,I1,a,o,kvs,n,e1,q⟩:=q;exact ⟨σ',_,I1.thaw e1 (hn a n),q⟩
 | cont=>obtain ⟨σ',H1,I1,a,o,kvs,n,e1,q⟩:=q;exact ⟨σ',_,I1.thaw e1 (hn a n),q⟩
 | ret u=>obtain ⟨v,σ',H1,I1,r,a,o,kvs,n,e1,q⟩:=q;exact ⟨v,σ',_,I1.thaw e1 (hn a n),r,q⟩
end
end L2
namespace L2
open PySem PySem.Spec PyProof.Rows PySem.W
end L2
namespace L2
open PySem
theorem d0l {a b c:Prop} (h:a):a∨b∨c:=Or.inl h
theorem c9i {a b c:Prop} (h:b):a∨b∨c:=Or.inr (Or.inl h)
theorem d0s {a b c:Prop} (h:c):a∨b∨c:=Or.inr (Or.inr h)
end L2
namespace K43
open PySem L2 Tx
abbrev a1K:Str:="sure_steps.<locals>.<lambda>"
theorem a2N:("sure_steps":Str)++".<locals>."++"<lambda>"=a1K:=by decide+kernel
abbrev c1I:List Str:=["some","told","statement"]
theorem a7H:a0f c1I ["some"] (a0c b2B):=‹sk›
abbrev b7L:List Str:=["statements","some"]
theorem b9h:a0f b7L ["statements","some"] (a0c a9u):=‹sk›
abbrev b6v:List Str:=["statements","some"]
theorem b9c:a0f b6v ["statements","some"] (a0c a9D):=‹sk›
abbrev c2y:List Str:=["statement"]
theorem b8X:a0f c2y ["statement"] (a0c b2Z):=‹sk›
abbrev c0n:List Str:=["ground","heads","rule","premise"]
theorem a8o:a0f c0n ["ground"] (a0c b0d):=‹sk›
abbrev a8M:List Str:=["rules","known","sure","waiting","ranks","rank","fresh","head"]
theorem a2Q:a0f a8M ["rules","known"] (a0c a2L):=‹sk›
abbrev b6Y:List Str:=["ground","ranks"]
theorem b5a:a0f b6Y ["ground"] (a0c a8K):=‹sk›
abbrev b7H:List Str:=["ground","rule","beaters"]
theorem c0t:a0f b7H ["ground","rule","beaters"] (a0c a8P):=‹sk›
abbrev b3A:List Str:=["ground","sures","held","refused","q","standing"]
theorem b5A:a0f b3A ["ground","sures","held","refused","q"] (a0c a7v):=‹sk›
abbrev b4u:List Str:=["ground","sures","held","refused","q","unfallen"]
theorem b5j:a0f b4u ["ground","sures","held","refused","q"] (a0c a6Q):=‹sk›
abbrev c0B:List Str:=["ground","sures","held","refused","asked","words","q"]
theorem a8z:a0f c0B ["ground","sures","held","refused","asked"] (a0c a9Y):=‹sk›
abbrev c2f:List Str:=["heads","came","told","premise","head"]
theorem a8B:a0f c2f ["heads","came"] (a0c b2e):=‹sk›
abbrev a6V:List Str:=["ground","some","sures","known","sure","held","refused","heads","wanted","told","rank","came","q","asked"]
theorem a2l:a0f a6V ["ground","some","sures","known"] (a0c a4G):=‹sk›
abbrev c0D:List Str:=["is_sure","word"]
theorem b9P:a0f c0D ["is_sure","word"] (a0c b1V):=‹sk›
abbrev b8W:List Str:=["self","ground"]
theorem c1p:a0f b8W ["self","ground"] (a0c b1k):=‹sk›
abbrev c1D:List Str:=["self","q"]
theorem c0L:a0f c1D ["self","q"] (a0c b2l):=‹sk›
abbrev c0H:List Str:=["self","q"]
theorem c0b:a0f c0H ["self","q"] (a0c b1M):=‹sk›
abbrev c1K:List Str:=["self","q"]
theorem c0f:a0f c1K ["self","q"] (a0c a9L):=‹sk›
abbrev c1L:List Str:=["self","q"]
theorem c1Z:a0f c1L ["self","q"] (a0c b2K):=‹sk›
abbrev c0E:List Str:=["self","q"]
theorem c1C:a0f c0E ["self","q"] (a0c b0D):=‹sk›
abbrev c1P:List Str:=["self","q"]
theorem c0o:a0f c1P ["self","q"] (a0c a9P):=‹sk›
abbrev b6o:List Str:=["self"]
theorem b9z:a0f b6o ["self"] (a0c a9o):=‹sk›
abbrev c0Y:List Str:=["self"]
theorem c0e:a0f c0Y ["self"] (a0c b0v):=‹sk›
abbrev c0M:List Str:=["self","label","head","body"]
theorem c0v:a0f c0M ["self","label","head","body"] (a0c b2x):=‹sk›
abbrev b9s:List Str:=["self"]
theorem b9K:a0f b9s ["self"] (a0c b1U):=‹sk›
abbrev c0G:List Str:=["self"]
theorem c1o:a0f c0G ["self"] (a0c b0E):=‹sk›
abbrev b8G:List Str:=["self","head"]
theorem c2i:a0f b8G ["self","head"] (a0c b1E):=‹sk›
abbrev c1r:List Str:=["self"]
theorem c1b:a0f c1r ["self"] (a0c b2Q):=‹sk›
abbrev c1g:List Str:=["self"]
theorem b8K:a0f c1g ["self"] (a0c b2V):=‹sk›
abbrev c0J:List Str:=["self"]
theorem b8D:a0f c0J ["self"] (a0c b0R):=‹sk›
abbrev c2d:List Str:=["self","rules","pairs","rule","pair"]
theorem b0T:a0f c2d ["self","rules","pairs"] (a0c b2J):=‹sk›
abbrev c2j:List Str:=["self"]
theorem c1j:a0f c2j ["self"] (a0c b2c):=‹sk›
abbrev b9p:List Str:=["self","statement"]
theorem c0C:a0f b9p ["self","statement"] (a0c a9S):=‹sk›
abbrev b7D:List Str:=["self","statement"]
theorem c2v:a0f b7D ["self","statement"] (a0c a9x):=‹sk›
abbrev b9R:List Str:=["self","statement"]
theorem c2w:a0f b9R ["self","statement"] (a0c b2u):=‹sk›
abbrev c1M:List Str:=["self","one","other"]
theorem c1x:a0f c1M ["self","one","other"] (a0c b1w):=‹sk›
abbrev b9W:List Str:=["self","told","rule","statement"]
theorem a7A:a0f b9W ["self"] (a0c b1t):=‹sk›
abbrev c0y:List Str:=["_law_script","_law_k"]
theorem c1y:a0f c0y ["_law_script","_law_k"] (a0c b2M):=‹sk›
abbrev c1d:List Str:=["_law_found"]
theorem b8N:a0f c1d ["_law_found"] (a0c b0A):=‹sk›
abbrev c1O:List Str:=["_law_cell","_law_k","_law_number"]
theorem b1u:a0f c1O ["_law_cell","_law_k"] (a0c b2f):=‹sk›
abbrev c1c:List Str:=["_law_cell","_law_k","_law_signs","_law_size","_law_at","_law_word_here","_law_j","_law_step"]
theorem a3x:a0f c1c ["_law_cell","_law_k","_law_signs"] (a0c b1G):=‹sk›
abbrev b6y:List Str:=["_law_cell","_law_words","_law_pool_here","_law_k","_law_places"]
theorem a6D:a0f b6y ["_law_cell"] (a0c a9w):=‹sk›
abbrev b3V:List Str:=["_law_m","_law_k","_law_pool_here","_law_labels_here","_law_style","_law_size","_law_head","_law_body","_law_many","_law_sort"]
theorem a3B:a0f b3V ["_law_m","_law_k","_law_pool_here","_law_labels_here","_law_style"] (a0c a6Z):=‹sk›
abbrev c1h:List Str:=["_law_row_here","_law_sort","_law_label","_law_head","_law_body"]
theorem a6h:a0f c1h ["_law_row_here"] (a0c b1i):=‹sk›
abbrev b7w:List Str:=["_law_cell"]
theorem c0l:a0f b7w ["_law_cell"] (a0c a8T):=‹sk›
abbrev c0A:List Str:=["_law_cell","_law_pool_here","_law_labels_here","_law_size","_law_sort","_law_label","_law_head","_law_many","_law_rest","_law_body","_law_j"]
theorem a2O:a0f c0A ["_law_cell","_law_pool_here","_law_labels_here"] (a0c b2t):=‹sk›
abbrev b4f:List Str:=["_law_script","_law_start","_law_pool_here","_law_labels_here","_law_style","_law_cells"]
theorem a6B:a0f b4f ["_law_script","_law_start"] (a0c a7p):=‹sk›
abbrev b8f:List Str:=["_law_rows_here","_law_known","_law_there_here","_law_statement","_law_ranks","_law_rank","_law_fresh","_law_sort","_law_label","_law_head","_law_body"]
theorem a2m:a0f b8f ["_law_rows_here","_law_known"] (a0c a8X):=‹sk›
abbrev b8B:List Str:=["_law_cell","_law_many","_law_labels_here","_law_pairs_here","_law_k","_law_number","_law_one_here","_law_other_here"]
theorem a4D:a0f b8B ["_law_cell","_law_many"] (a0c b2R):=‹sk›
abbrev c2m:List Str:=["_law_script","_law_labels_here","_law_cell","_law_pairs_here","_law_one_here","_law_other_here"]
theorem a4n:a0f c2m ["_law_script"] (a0c b2a):=‹sk›
abbrev c2k:List Str:=["_law_q"]
theorem c1N:a0f c2k ["_law_q"] (a0c b2g):=‹sk›
abbrev b9X:List Str:=["_law_rows_here","_law_by_here","_law_row_here"]
theorem b2w:a0f b9X ["_law_rows_here"] (a0c b0k):=‹sk›
abbrev b8m:List Str:=["_law_row_here","_law_up"]
theorem c1q:a0f b8m ["_law_row_here","_law_up"] (a0c a9i):=‹sk›
abbrev b8o:List Str:=["_law_row_here","_law_down"]
theorem c1H:a0f b8o ["_law_row_here","_law_down"] (a0c a9a):=‹sk›
abbrev b8s:List Str:=["_law_pairs_here","_law_row_here","_law_some"]
theorem b9o:a0f b8s ["_law_pairs_here","_law_row_here","_law_some"] (a0c a9m):=‹sk›
abbrev b2P:List Str:=["_law_by_here","_law_pairs_here","_law_firm","_law_up","_law_down","_law_q","_law_good","_law_bad"]
theorem b1e:a0f b2P ["_law_by_here","_law_pairs_here","_law_firm","_law_up","_law_down","_law_q"] (a0c a6c):=‹sk›
abbrev b1l:List Str:=["_law_by_here","_law_pairs_here","_law_firm","_law_up","_law_down","_law_q","_law_left","_law_bad"]
theorem b0w:a0f b1l ["_law_by_here","_law_pairs_here","_law_firm","_law_up","_law_down","_law_q"] (a0c a5W):=‹sk›
abbrev c0T:List Str:=["_law_rows_here","_law_pairs_here","_law_firm","_law_some","_law_known","_law_by_here","_law_up","_law_down","_law_q","_law_word_here","_law_ranks","_law_rank","_law_fresh"]
theorem a2f:a0f c0T ["_law_rows_here","_law_pairs_here","_law_firm","_law_some","_law_known"] (a0c b2q):=‹sk›
abbrev b8R:List Str:=["_law_rows_here","_law_found","_law_sort","_law_label","_law_head","_law_body","_law_q"]
theorem a3Y:a0f b8R ["_law_rows_here"] (a0c b1P):=‹sk›
abbrev c1m:List Str:=["_law_firm","_law_ranks","_law_q"]
theorem c2o:a0f c1m ["_law_firm","_law_ranks","_law_q"] (a0c b0u):=‹sk›
abbrev b9U:List Str:=["_law_rows_here","_law_pairs_here","_law_firm","_law_there_here","_law_ranks","_law_q"]
theorem a6L:a0f b9U ["_law_rows_here","_law_pairs_here"] (a0c b1F):=‹sk›
abbrev b7S:List Str:=["_law_answers","_law_due_here","_law_q","_law_firm","_law_there_here","_law_ranks","_law_word_here","_law_rank","_law_told"]
theorem a4f:a0f b7S ["_law_answers","_law_due_here","_law_q"] (a0c a9t):=‹sk›
abbrev b2Y:List Str:=["_law_answers","_law_due_here","_law_some","_law_firm","_law_there_here","_law_ranks","_law_q","_law_listed","_law_sures","_law_steps"]
theorem a3A:a0f b2Y ["_law_answers","_law_due_here","_law_some"] (a0c a6i):=‹sk›
abbrev a5N:List Str:=["_law_script","_law_rows_here","_law_pool_here","_law_pairs_here","_law_half","_law_answers","_law_beside","_law_strange","_law_some","_law_due_here","_law_other_here","_law_turn"]
theorem a1r:a0f a5N ["_law_script"] (a0c a2T):=‹sk›
set_option genInjectivity false in
set_option genSizeOf false in
structure Adr where
 f_z21:Addr
 fd_z21:FuncData
 f_z11:Addr
 fd_z11:FuncData
 f_z12:Addr
 fd_z12:FuncData
 f_z1e:Addr
 fd_z1e:FuncData
 f_z03:Addr
 fd_z03:FuncData
 f_z0n:Addr
 fd_z0n:FuncData
 T_z0n:Addr
 f_z0u:Addr
 fd_z0u:FuncData
 f_z13:Addr
 fd_z13:FuncData
 f_z1f:Addr
 fd_z1f:FuncData
 f_z0v:Addr
 fd_z0v:FuncData
 f_z14:Addr
 fd_z14:FuncData
 f_z1n:Addr
 fd_z1n:FuncData
 f_z0o:Addr
 fd_z0o:FuncData
 f_z15:Addr
 fd_z15:FuncData
 f_z0c:Addr
 fd_z0c:FuncData
 f_z00:Addr
 fd_z00:FuncData
 f_z0d:Addr
 fd_z0d:FuncData
 f_z0e:Addr
 fd_z0e:FuncData
 f_z04:Addr
 fd_z04:FuncData
 f_z07:Addr
 fd_z07:FuncData
 f_z0f:Addr
 fd_z0f:FuncData
 f_z08:Addr
 fd_z08:FuncData
 f_z0a:Addr
 fd_z0a:FuncData
 f_z16:Addr
 fd_z16:FuncData
 f_z0p:Addr
 fd_z0p:FuncData
 f_z0g:Addr
 fd_z0g:FuncData
 f_z18:Addr
 fd_z18:FuncData
 f_z0i:Addr
 fd_z0i:FuncData
 f_z0j:Addr
 fd_z0j:FuncData
 f_z0k:Addr
 fd_z0k:FuncData
 f_z0s:Addr
 fd_z0s:FuncData
 f_z0l:Addr
 fd_z0l:FuncData
 f_z0b:Addr
 fd_z0b:FuncData
 f_z05:Addr
 fd_z05:FuncData
 f_z09:Addr
 fd_z09:FuncData
 f_z0m:Addr
 fd_z0m:FuncData
 f_z01:Addr
 fd_z01:FuncData
 f_z1c:Addr
 fd_z1c:FuncData
 f_z1o:Addr
 fd_z1o:FuncData
 f_z22:Addr
 fd_z22:FuncData
 f_z1v:Addr
 fd_z1v:FuncData
 f_z1w:Addr
 fd_z1w:FuncData
 f_z23:Addr
 fd_z23:FuncData
 f_z1x:Addr
 fd_z1x:FuncData
 f_z1i:Addr
 fd_z1i:FuncData
 f_z06:Addr
 fd_z06:FuncData
 f_z1y:Addr
 fd_z1y:FuncData
 f_z1j:Addr
 fd_z1j:FuncData
 f_z1p:Addr
 fd_z1p:FuncData
 f_z02:Addr
 fd_z02:FuncData
 f_z1q:Addr
 fd_z1q:FuncData
 f_z26:Addr
 fd_z26:FuncData
 f_z1k:Addr
 fd_z1k:FuncData
 f_z1r:Addr
 fd_z1r:FuncData
 f_z1l:Addr
 fd_z1l:FuncData
 f_z1z:Addr
 fd_z1z:FuncData
 f_z1d:Addr
 fd_z1d:FuncData
 f_z1s:Addr
 fd_z1s:FuncData
 f_z1t:Addr
 fd_z1t:FuncData
 f_z1m:Addr
 fd_z1m:FuncData
 f_z24:Addr
 fd_z24:FuncData
 f_z25:Addr
 fd_z25:FuncData
 f_z1u:Addr
 fd_z1u:FuncData
 f_d_law:Addr
 fd_d_law:FuncData
 C_Answers:Addr
 C_Rule:Addr
 C_Fact:Addr
 C_Sure:Addr
 C_Most:Addr
 C_Block:Addr
 C_Ground:Addr
 TB_z0u:Addr
structure Txt (K:Qe) (mg:Str→Option Value) (t:Adr):Prop where
 F_z21:Fun K "keyed" "keyed" b2B t.f_z21 t.fd_z21
 b_z21:a0n K t.fd_z21 ["some"] []
 g_z21:mg "keyed"=some (.ref t.f_z21)
 F_z11:Fun K "all_among" "all_among" a9u t.f_z11 t.fd_z11
 b_z11:a0n K t.fd_z11 ["statements","some"] []
 g_z11:mg "all_among"=some (.ref t.f_z11)
 F_z12:Fun K "any_among" "any_among" a9D t.f_z12 t.fd_z12
 b_z12:a0n K t.fd_z12 ["statements","some"] []
 g_z12:mg "any_among"=some (.ref t.f_z12)
 F_z1e:Fun K "opposite" "opposite" b2Z t.f_z1e t.fd_z1e
 b_z1e:a0n K t.fd_z1e ["statement"] []
 g_z1e:mg "opposite"=some (.ref t.f_z1e)
 F_z03:Fun K "heads_by_premise" "heads_by_premise" b0d t.f_z03 t.fd_z03
 b_z03:a0n K t.fd_z03 ["ground"] []
 g_z03:mg "heads_by_premise"=some (.ref t.f_z03)
 F_z0n:b5B K "sure_rounds" "sure_rounds" a2L t.f_z0n t.fd_z0n t.T_z0n [Value.none]
 b_z0n:a0n K t.fd_z0n ["rules","known"] []
 bd_z0n:a0n K t.fd_z0n ["rules","known"] [Value.none]
 g_z0n:mg "sure_rounds"=some (.ref t.f_z0n)
 F_z0u:Fun K "sure_steps" "sure_steps" a8K t.f_z0u t.fd_z0u
 b_z0u:a0n K t.fd_z0u ["ground"] []
 g_z0u:mg "sure_steps"=some (.ref t.f_z0u)
 F_z13:Fun K "is_beaten" "is_beaten" a8P t.f_z13 t.fd_z13
 b_z13:a0n K t.fd_z13 ["ground","rule","beaters"] []
 g_z13:mg "is_beaten"=some (.ref t.f_z13)
 F_z1f:Fun K "holds_by" "holds_by" a7v t.f_z1f t.fd_z1f
 b_z1f:a0n K t.fd_z1f ["ground","sures","held","refused","q"] []
 g_z1f:mg "holds_by"=some (.ref t.f_z1f)
 F_z0v:Fun K "refused_by" "refused_by" a6Q t.f_z0v t.fd_z0v
 b_z0v:a0n K t.fd_z0v ["ground","sures","held","refused","q"] []
 g_z0v:mg "refused_by"=some (.ref t.f_z0v)
 F_z14:Fun K "words_now" "words_now" a9Y t.f_z14 t.fd_z14
 b_z14:a0n K t.fd_z14 ["ground","sures","held","refused","asked"] []
 g_z14:mg "words_now"=some (.ref t.f_z14)
 F_z1n:Fun K "touched" "touched" b2e t.f_z1n t.fd_z1n
 b_z1n:a0n K t.fd_z1n ["heads","came"] []
 g_z1n:mg "touched"=some (.ref t.f_z1n)
 F_z0o:Fun K "most_rounds" "most_rounds" a4G t.f_z0o t.fd_z0o
 b_z0o:a0n K t.fd_z0o ["ground","some","sures","known"] []
 g_z0o:mg "most_rounds"=some (.ref t.f_z0o)
 F_z15:Fun K "answer_by" "answer_by" b1V t.f_z15 t.fd_z15
 b_z15:a0n K t.fd_z15 ["is_sure","word"] []
 g_z15:mg "answer_by"=some (.ref t.f_z15)
 F_z0c:Fun K "__init__" "Answers.__init__" b1k t.f_z0c t.fd_z0c
 b_z0c:a0n K t.fd_z0c ["self","ground"] []
 F_z00:Fun K "word_and_rank" "Answers.word_and_rank" b2l t.f_z00 t.fd_z00
 b_z00:a0n K t.fd_z00 ["self","q"] []
 F_z0d:Fun K "sure" "Answers.sure" b1M t.f_z0d t.fd_z0d
 b_z0d:a0n K t.fd_z0d ["self","q"] []
 F_z0e:Fun K "held" "Answers.held" a9L t.f_z0e t.fd_z0e
 b_z0e:a0n K t.fd_z0e ["self","q"] []
 F_z04:Fun K "refused" "Answers.refused" b2K t.f_z04 t.fd_z04
 b_z04:a0n K t.fd_z04 ["self","q"] []
 F_z07:Fun K "answer" "Answers.answer" b0D t.f_z07 t.fd_z07
 b_z07:a0n K t.fd_z07 ["self","q"] []
 F_z0f:Fun K "rank" "Answers.rank" a9P t.f_z0f t.fd_z0f
 b_z0f:a0n K t.fd_z0f ["self","q"] []
 F_z08:Fun K "listed" "Answers.listed" a9o t.f_z08 t.fd_z08
 b_z08:a0n K t.fd_z08 ["self"] []
 F_z0a:Fun K "sures" "Answers.sures" b0v t.f_z0a t.fd_z0a
 b_z0a:a0n K t.fd_z0a ["self"] []
 F_z16:Fun K "__init__" "Rule.__init__" b2x t.f_z16 t.fd_z16
 b_z16:a0n K t.fd_z16 ["self","label","head","body"] []
 F_z0p:Fun K "speaks" "Rule.speaks" b1U t.f_z0p t.fd_z0p
 b_z0p:a0n K t.fd_z0p ["self"] []
 F_z0g:Fun K "is_sure" "Rule.is_sure" b0E t.f_z0g t.fd_z0g
 b_z0g:a0n K t.fd_z0g ["self"] []
 F_z18:Fun K "__init__" "Fact.__init__" b1E t.f_z18 t.fd_z18
 b_z18:a0n K t.fd_z18 ["self","head"] []
 F_z0i:Fun K "is_sure" "Fact.is_sure" b2Q t.f_z0i t.fd_z0i
 b_z0i:a0n K t.fd_z0i ["self"] []
 F_z0j:Fun K "is_sure" "Sure.is_sure" b2V t.f_z0j t.fd_z0j
 b_z0j:a0n K t.fd_z0j ["self"] []
 F_z0k:Fun K "speaks" "Block.speaks" b0R t.f_z0k t.fd_z0k
 b_z0k:a0n K t.fd_z0k ["self"] []
 F_z0s:Fun K "__init__" "Ground.__init__" b2J t.f_z0s t.fd_z0s
 b_z0s:a0n K t.fd_z0s ["self","rules","pairs"] []
 F_z0l:Fun K "rules" "Ground.rules" b2c t.f_z0l t.fd_z0l
 b_z0l:a0n K t.fd_z0l ["self"] []
 F_z0b:Fun K "ruling" "Ground.ruling" a9S t.f_z0b t.fd_z0b
 b_z0b:a0n K t.fd_z0b ["self","statement"] []
 F_z05:Fun K "speaking" "Ground.speaking" a9x t.f_z05 t.fd_z05
 b_z05:a0n K t.fd_z05 ["self","statement"] []
 F_z09:Fun K "against" "Ground.against" b2u t.f_z09 t.fd_z09
 b_z09:a0n K t.fd_z09 ["self","statement"] []
 F_z0m:Fun K "beats" "Ground.beats" b1w t.f_z0m t.fd_z0m
 b_z0m:a0n K t.fd_z0m ["self","one","other"] []
 F_z01:Fun K "statements" "Ground.statements" b1t t.f_z01 t.fd_z01
 b_z01:a0n K t.fd_z01 ["self"] []
 F_z1c:Fun K "_law_cell_at" "_law_cell_at" b2M t.f_z1c t.fd_z1c
 b_z1c:a0n K t.fd_z1c ["_law_script","_law_k"] []
 g_z1c:mg "_law_cell_at"=some (.ref t.f_z1c)
 F_z1o:Fun K "_law_whole" "_law_whole" b0A t.f_z1o t.fd_z1o
 b_z1o:a0n K t.fd_z1o ["_law_found"] []
 g_z1o:mg "_law_whole"=some (.ref t.f_z1o)
 F_z22:Fun K "_law_mix" "_law_mix" b2f t.f_z22 t.fd_z22
 b_z22:a0n K t.fd_z22 ["_law_cell","_law_k"] []
 g_z22:mg "_law_mix"=some (.ref t.f_z22)
 F_z1v:Fun K "_law_word" "_law_word" b1G t.f_z1v t.fd_z1v
 b_z1v:a0n K t.fd_z1v ["_law_cell","_law_k","_law_signs"] []
 g_z1v:mg "_law_word"=some (.ref t.f_z1v)
 F_z1w:Fun K "_law_pool" "_law_pool" a9w t.f_z1w t.fd_z1w
 b_z1w:a0n K t.fd_z1w ["_law_cell"] []
 g_z1w:mg "_law_pool"=some (.ref t.f_z1w)
 F_z23:Fun K "_law_row" "_law_row" a6Z t.f_z23 t.fd_z23
 b_z23:a0n K t.fd_z23 ["_law_m","_law_k","_law_pool_here","_law_labels_here","_law_style"] []
 g_z23:mg "_law_row"=some (.ref t.f_z23)
 F_z1x:Fun K "_law_made" "_law_made" b1i t.f_z1x t.fd_z1x
 b_z1x:a0n K t.fd_z1x ["_law_row_here"] []
 g_z1x:mg "_law_made"=some (.ref t.f_z1x)
 F_z1i:Fun K "_law_labels" "_law_labels" a8T t.f_z1i t.fd_z1i
 b_z1i:a0n K t.fd_z1i ["_law_cell"] []
 g_z1i:mg "_law_labels"=some (.ref t.f_z1i)
 F_z06:Fun K "_law_row_by_digits" "_law_row_by_digits" b2t t.f_z06 t.fd_z06
 b_z06:a0n K t.fd_z06 ["_law_cell","_law_pool_here","_law_labels_here"] []
 g_z06:mg "_law_row_by_digits"=some (.ref t.f_z06)
 F_z1y:Fun K "_law_rows" "_law_rows" a7p t.f_z1y t.fd_z1y
 b_z1y:a0n K t.fd_z1y ["_law_script","_law_start"] []
 g_z1y:mg "_law_rows"=some (.ref t.f_z1y)
 F_z1j:Fun K "_law_rounds" "_law_rounds" a8X t.f_z1j t.fd_z1j
 b_z1j:a0n K t.fd_z1j ["_law_rows_here","_law_known"] []
 g_z1j:mg "_law_rounds"=some (.ref t.f_z1j)
 F_z1p:Fun K "_law_pairs" "_law_pairs" b2R t.f_z1p t.fd_z1p
 b_z1p:a0n K t.fd_z1p ["_law_cell","_law_many"] []
 g_z1p:mg "_law_pairs"=some (.ref t.f_z1p)
 F_z02:Fun K "_law_pairs_by_digits" "_law_pairs_by_digits" b2a t.f_z02 t.fd_z02
 b_z02:a0n K t.fd_z02 ["_law_script"] []
 g_z02:mg "_law_pairs_by_digits"=some (.ref t.f_z02)
 F_z1q:Fun K "_law_other" "_law_other" b2g t.f_z1q t.fd_z1q
 b_z1q:a0n K t.fd_z1q ["_law_q"] []
 g_z1q:mg "_law_other"=some (.ref t.f_z1q)
 F_z26:Fun K "_law_by" "_law_by" b0k t.f_z26 t.fd_z26
 b_z26:a0n K t.fd_z26 ["_law_rows_here"] []
 g_z26:mg "_law_by"=some (.ref t.f_z26)
 F_z1k:Fun K "_law_stands" "_law_stands" a9i t.f_z1k t.fd_z1k
 b_z1k:a0n K t.fd_z1k ["_law_row_here","_law_up"] []
 g_z1k:mg "_law_stands"=some (.ref t.f_z1k)
 F_z1r:Fun K "_law_falls" "_law_falls" a9a t.f_z1r t.fd_z1r
 b_z1r:a0n K t.fd_z1r ["_law_row_here","_law_down"] []
 g_z1r:mg "_law_falls"=some (.ref t.f_z1r)
 F_z1l:Fun K "_law_beaten" "_law_beaten" a9m t.f_z1l t.fd_z1l
 b_z1l:a0n K t.fd_z1l ["_law_pairs_here","_law_row_here","_law_some"] []
 g_z1l:mg "_law_beaten"=some (.ref t.f_z1l)
 F_z1z:Fun K "_law_held" "_law_held" a6c t.f_z1z t.fd_z1z
 b_z1z:a0n K t.fd_z1z ["_law_by_here","_law_pairs_here","_law_firm","_law_up","_law_down","_law_q"] []
 g_z1z:mg "_law_held"=some (.ref t.f_z1z)
 F_z1d:Fun K "_law_refused" "_law_refused" a5W t.f_z1d t.fd_z1d
 b_z1d:a0n K t.fd_z1d ["_law_by_here","_law_pairs_here","_law_firm","_law_up","_law_down","_law_q"] []
 g_z1d:mg "_law_refused"=some (.ref t.f_z1d)
 F_z1s:Fun K "_law_fixed" "_law_fixed" b2q t.f_z1s t.fd_z1s
 b_z1s:a0n K t.fd_z1s ["_law_rows_here","_law_pairs_here","_law_firm","_law_some","_law_known"] []
 g_z1s:mg "_law_fixed"=some (.ref t.f_z1s)
 F_z1t:Fun K "_law_there" "_law_there" b1P t.f_z1t t.fd_z1t
 b_z1t:a0n K t.fd_z1t ["_law_rows_here"] []
 g_z1t:mg "_law_there"=some (.ref t.f_z1t)
 F_z1m:Fun K "_law_answer" "_law_answer" b0u t.f_z1m t.fd_z1m
 b_z1m:a0n K t.fd_z1m ["_law_firm","_law_ranks","_law_q"] []
 g_z1m:mg "_law_answer"=some (.ref t.f_z1m)
 F_z24:Fun K "_law_due" "_law_due" b1F t.f_z24 t.fd_z24
 b_z24:a0n K t.fd_z24 ["_law_rows_here","_law_pairs_here"] []
 g_z24:mg "_law_due"=some (.ref t.f_z24)
 F_z25:Fun K "_law_one" "_law_one" a9t t.f_z25 t.fd_z25
 b_z25:a0n K t.fd_z25 ["_law_answers","_law_due_here","_law_q"] []
 g_z25:mg "_law_one"=some (.ref t.f_z25)
 F_z1u:Fun K "_law_right" "_law_right" a6i t.f_z1u t.fd_z1u
 b_z1u:a0n K t.fd_z1u ["_law_answers","_law_due_here","_law_some"] []
 g_z1u:mg "_law_right"=some (.ref t.f_z1u)
 F_d_law:Fun K "law" "law" a2T t.f_d_law t.fd_d_law
 b_d_law:a0n K t.fd_d_law ["_law_script"] []
 g_d_law:mg "law"=some (.ref t.f_d_law)
 k_HELD:∃u,mg "HELD"=some (.str "held" u)
 k_REFUSED:∃u,mg "REFUSED"=some (.str "refused" u)
 g_Answers:mg "Answers"=some (.ref t.C_Answers)
 g_Rule:mg "Rule"=some (.ref t.C_Rule)
 g_Fact:mg "Fact"=some (.ref t.C_Fact)
 g_Sure:mg "Sure"=some (.ref t.C_Sure)
 g_Most:mg "Most"=some (.ref t.C_Most)
 g_Block:mg "Block"=some (.ref t.C_Block)
 g_Ground:mg "Ground"=some (.ref t.C_Ground)
 z_NotImplementedError:mg "NotImplementedError"=none
 z_all:mg "all"=none
 z_any:mg "any"=none
 z_bool:mg "bool"=none
 z_enumerate:mg "enumerate"=none
 z_int:mg "int"=none
 z_isinstance:mg "isinstance"=none
 z_len:mg "len"=none
 z_list:mg "list"=none
 z_max:mg "max"=none
 z_min:mg "min"=none
 z_range:mg "range"=none
 z_sorted:mg "sorted"=none
 z_tuple:mg "tuple"=none
 cl_Answers:Cls K t.C_Answers
 ty_Answers:TyI K t.C_Answers
 nf_Answers_standing:a0E K t.C_Answers "standing"
 nf_Answers_sure_keys:a0E K t.C_Answers "sure_keys"
 nf_Answers_came:a0E K t.C_Answers "came"
 mk_Answers:Mk K t.C_Answers t.f_z0c
 me_Answers_word_and_rank:a3I K t.C_Answers "word_and_rank" t.f_z00
 me_Answers_sure:a3I K t.C_Answers "sure" t.f_z0d
 me_Answers_held:a3I K t.C_Answers "held" t.f_z0e
 me_Answers_refused:a3I K t.C_Answers "refused" t.f_z04
 me_Answers_answer:a3I K t.C_Answers "answer" t.f_z07
 me_Answers_rank:a3I K t.C_Answers "rank" t.f_z0f
 me_Answers_listed:a3I K t.C_Answers "listed" t.f_z08
 me_Answers_sures:a3I K t.C_Answers "sures" t.f_z0a
 ki_Answers_Answers:Yc K (.ref t.C_Answers) (.ref t.C_Answers)=some true
 cm_Rule:c2l K t.C_Rule "__init__" t.f_z16
 cl_Fact:Cls K t.C_Fact
 ty_Fact:TyI K t.C_Fact
 nf_Fact_label:a0E K t.C_Fact "label"
 nf_Fact_head:a0E K t.C_Fact "head"
 nf_Fact_body:a0E K t.C_Fact "body"
 mk_Fact:Mk K t.C_Fact t.f_z18
 me_Fact_speaks:a3I K t.C_Fact "speaks" t.f_z0p
 me_Fact_is_sure:a3I K t.C_Fact "is_sure" t.f_z0i
 ki_Fact_Rule:Yc K (.ref t.C_Fact) (.ref t.C_Rule)=some true
 ki_Fact_Fact:Yc K (.ref t.C_Fact) (.ref t.C_Fact)=some true
 cl_Sure:Cls K t.C_Sure
 ty_Sure:TyI K t.C_Sure
 nf_Sure_label:a0E K t.C_Sure "label"
 nf_Sure_head:a0E K t.C_Sure "head"
 nf_Sure_body:a0E K t.C_Sure "body"
 mk_Sure:Mk K t.C_Sure t.f_z16
 me_Sure_speaks:a3I K t.C_Sure "speaks" t.f_z0p
 me_Sure_is_sure:a3I K t.C_Sure "is_sure" t.f_z0j
 ki_Sure_Rule:Yc K (.ref t.C_Sure) (.ref t.C_Rule)=some true
 ki_Sure_Sure:Yc K (.ref t.C_Sure) (.ref t.C_Sure)=some true
 cl_Most:Cls K t.C_Most
 ty_Most:TyI K t.C_Most
 nf_Most_label:a0E K t.C_Most "label"
 nf_Most_head:a0E K t.C_Most "head"
 nf_Most_body:a0E K t.C_Most "body"
 mk_Most:Mk K t.C_Most t.f_z16
 me_Most_speaks:a3I K t.C_Most "speaks" t.f_z0p
 me_Most_is_sure:a3I K t.C_Most "is_sure" t.f_z0g
 ki_Most_Rule:Yc K (.ref t.C_Most) (.ref t.C_Rule)=some true
 ki_Most_Most:Yc K (.ref t.C_Most) (.ref t.C_Most)=some true
 cl_Block:Cls K t.C_Block
 ty_Block:TyI K t.C_Block
 nf_Block_label:a0E K t.C_Block "label"
 nf_Block_head:a0E K t.C_Block "head"
 nf_Block_body:a0E K t.C_Block "body"
 mk_Block:Mk K t.C_Block t.f_z16
 me_Block_speaks:a3I K t.C_Block "speaks" t.f_z0k
 me_Block_is_sure:a3I K t.C_Block "is_sure" t.f_z0g
 ki_Block_Rule:Yc K (.ref t.C_Block) (.ref t.C_Rule)=some true
 ki_Block_Block:Yc K (.ref t.C_Block) (.ref t.C_Block)=some true
 cl_Ground:Cls K t.C_Ground
 ty_Ground:TyI K t.C_Ground
 nf_Ground_in_order:a0E K t.C_Ground "in_order"
 nf_Ground_by_head:a0E K t.C_Ground "by_head"
 nf_Ground_pairs:a0E K t.C_Ground "pairs"
 mk_Ground:Mk K t.C_Ground t.f_z0s
 me_Ground_rules:a3I K t.C_Ground "rules" t.f_z0l
 me_Ground_ruling:a3I K t.C_Ground "ruling" t.f_z0b
 me_Ground_speaking:a3I K t.C_Ground "speaking" t.f_z05
 me_Ground_against:a3I K t.C_Ground "against" t.f_z09
 me_Ground_beats:a3I K t.C_Ground "beats" t.f_z0m
 me_Ground_statements:a3I K t.C_Ground "statements" t.f_z01
 ki_Ground_Ground:Yc K (.ref t.C_Ground) (.ref t.C_Ground)=some true
 L_z0u:a6r K t.fd_z0u.code=some t.TB_z0u
 LB:c2F K mg
section
variable {α:Type} [DecidableEq α]
def lk (d:List (α×Nat)) (x:α):Option Nat:=(d.find? fun p=>decide (p.1=x)).map (·.2)
theorem b1A {d:List (α×Nat)} {x:α} {m:Nat} (h:lk d x=some m):(x,m)∈d:=by
 unfold lk at h
 cases e:d.find? fun p=>decide (p.1=x) with
 | none=>rw [e] at h;cases h
 | some p=>
  rw [e] at h
  have h1:=Ud e
  have h2:=Wi e
  obtain ⟨a,b⟩:=p
  cases h
  have h3:a=x:=of_decide_eq_true h2
  rw [←h3];exact h1
theorem a7x {d:List (α×Nat)} {x:α} (h:lk d x=none) {p:α×Nat} (hp:p∈d):p.1≠x:=by
 unfold lk at h
 rw [Wn,Ui] at h
 intro e
 exact h p hp (decide_eq_true e)
theorem b8a {d:List (α×Nat)} {y:α} {m:Nat} (h:lk d y=none) (x:α):lk (d++[(y,m)]) x=if x=y then some m else lk d x:=by
 unfold lk at *
 rw [List.find?_append]
 by_cases e:x=y
 ·subst e
  rw [Wn] at h
  rw [h,if_pos rfl];simp
 ·rw [if_neg e]
  have:List.find? (fun p:α×Nat=>decide (p.1=x)) [(y,m)]=none:=by simp;exact fun z=>e z.symm
  rw [this,Option.or_none]
theorem a7k {d:List (α×Nat)} (nd:(d.map (·.1)).Nodup) {p:α×Nat} (hp:p∈d):lk d p.1=some p.2:=by
 induction d with
 | nil=>cases hp
 | cons q r ih=>
  rw [Xk,Za] at nd
  unfold lk
  rw [Zi]
  by_cases e:q.1=p.1
  ·rw [decide_eq_true e]
   rcases Qw.mp hp with z | z
   ·rw [z];rfl
   ·exact absurd (Qk.mpr ⟨p,z,e.symm⟩) nd.1
  ·rw [decide_eq_false e]
   rcases Qw.mp hp with z | z
   ·exact absurd (by rw [z]) e
   ·exact ih nd.2 z
structure Ok (ps:List (α×α)) (ls:List α) (o:α) (d:List (α×Nat)):Prop where
 nd:(d.map (·.1)).Nodup
 sub:∀p∈d,p.1∈o::ls
 low:∀p∈d,p.2 < d.length
 zer:∀p∈d,p.2=0→p.1=o
 prv:∀p∈d,∀m,p.2=m+1→∃b,(p.1,b)∈ps∧lk d b=some m
 one:lk d o=some 0
theorem a1s:∀{l m:List α},l.Nodup→(∀x∈l,x∈m)→l.length≤m.length
 | [],m,_,_=>Xb _
 | x::l,m,h,s=>by
  rw [Za] at h
  have h1:=a1s (l:=l) (m:=m.erase x) h.2 (fun y hy=>(List.mem_erase_of_ne (fun z=>h.1 (by rw [←z];exact hy))).mpr (s y (Qt _ hy)))
  have h2:x∈m:=s x Qq
  have h3:=List.length_erase_of_mem h2
  have h4:=Wo h2
  simp only [Qm];omega
theorem Ok.len {ps:List (α×α)} {ls:List α} {o:α} {d:List (α×Nat)} (h:Ok ps ls o d):d.length≤ls.length+1:=by
 have:=a1s (m:=o::ls) h.nd (fun x hx=>by
  obtain ⟨p,hp,rfl⟩:=Qk.mp hx
  exact h.sub p hp)
 simpa using this
end
section
variable {α:Type} [DecidableEq α]
abbrev SR (α:Type):=Bool×α×List α
def a0O (l:List α) (x:α):List α:=if x∈l then l else l++[x]
theorem a5y {l:List α} {x y:α}:y∈a0O l x↔y∈l∨y=x:=by
 unfold a0O
 by_cases h:x∈l
 ·rw [if_pos h];exact ⟨.inl,fun z=>z.elim id fun e=>e ▸ h⟩
 ·rw [if_neg h];simp
theorem a1o {xs:List α}:∀{l:List α} {y:α},y∈xs.foldl a0O l↔y∈l∨y∈xs:=by
 induction xs with
 | nil=>intro l y;simp
 | cons x xs ih=>intro l y;rw [Ue,ih,a5y];simp [or_assoc]
def a3H (n:Nat) (R:List (α×Nat)) (h:α):List (α×Nat):=if (lk R h).isSome then R else R++[(h,n)]
def frs (rs:List (SR α)) (S:List α):List α:=(rs.filter fun r=>r.1 && decide (r.2.1∉S) && r.2.2.all fun q=>decide (q∈S)).map fun r=>r.2.1
theorem a2r {rs:List (SR α)} {S:List α} {h:α}:h∈frs rs S↔h∉S∧∃b,(true,h,b)∈rs∧∀q∈b,q∈S:=by
 unfold frs
 rw [Qk]
 constructor
 ·rintro ⟨⟨a,x,b⟩,hr,rfl⟩
  have:=Qs.mp hr
  simp at this
  obtain ⟨h1,⟨rfl,h2⟩,h3⟩:=this
  exact ⟨h2,b,h1,h3⟩
 ·rintro ⟨h1,b,h2,h3⟩
  exact ⟨(true,h,b),Qs.mpr ⟨h2,by simp [h1];exact h3⟩,rfl⟩
def sS (rs:List (SR α)) (kn:List α):Nat→List α
 | 0=>kn
 | n+1=>(frs rs (sS rs kn n)).foldl a0O (sS rs kn n)
def sR (rs:List (SR α)) (kn:List α):Nat→List (α×Nat)
 | 0=>[]
 | n+1=>(frs rs (sS rs kn n)).foldl (a3H (n+1)) (sR rs kn n)
theorem a3h {rs:List (SR α)} {kn:List α} {n:Nat} {x:α}:x∈sS rs kn (n+1)↔x∈sS rs kn n∨x∈frs rs (sS rs kn n):=a1o
theorem b2X {n:Nat} {R:List (α×Nat)} {h x:α}:lk (a3H n R h) x=if x=h then some ((lk R h).getD n) else lk R x:=by
 unfold a3H
 cases e:lk R h with
 | none=>
  rw [if_neg (by simp),b8a e];rfl
 | some m=>
  rw [if_pos (by simp)]
  by_cases z:x=h
  ·rw [if_pos z,z,e];rfl
  ·rw [if_neg z]
theorem a3M {n:Nat} {xs:List α}:∀{R:List (α×Nat)} {x:α},(∀h∈xs,lk R h=none∨lk R h=some n)→lk (xs.foldl (a3H n) R) x=if x∈xs then some n else lk R x:=by
 induction xs with
 | nil=>intro R x _;simp
 | cons h xs ih=>
  intro R x hx
  have hh:(lk R h).getD n=n:=by rcases hx h Qq with e | e<;>rw [e]<;>rfl
  rw [Ue,ih]
  ·rw [b2X,hh]
   by_cases z:x=h
   ·subst z;simp
   ·by_cases z2:x∈xs
    ·rw [if_pos z2,if_pos (Qt _ z2)]
    ·rw [if_neg z2,if_neg z,if_neg (by simp [z,z2])]
  ·intro k hk
   rw [b2X,hh]
   by_cases z:k=h
   ·rw [if_pos z];exact .inr rfl
   ·rw [if_neg z];exact hx k (Qt _ hk)
theorem a6E {rs:List (SR α)} {kn:List α}:∀(n:Nat) {x:α} {m:Nat},lk (sR rs kn n) x=some m→x∈sS rs kn n
 | 0,x,m,h=>by cases h
 | n+1,x,m,h=>by
  have hn:∀h∈frs rs (sS rs kn n),lk (sR rs kn n) h=none∨lk (sR rs kn n) h=some (n+1):=fun h hh=>by
   cases e:lk (sR rs kn n) h with
   | none=>exact .inl rfl
   | some m=>exact absurd (a6E n e) (a2r.mp hh).1
  rw [sR,a3M hn] at h
  rw [a3h]
  by_cases z:x∈frs rs (sS rs kn n)
  ·exact .inr z
  ·rw [if_neg z] at h;exact .inl (a6E n h)
theorem a4b {rs:List (SR α)} {kn:List α} {n:Nat} {h:α} (hh:h∈frs rs (sS rs kn n)):lk (sR rs kn n) h=none:=by
 cases e:lk (sR rs kn n) h with
 | none=>rfl
 | some m=>exact absurd (a6E n e) (a2r.mp hh).1
theorem b7q {rs:List (SR α)} {kn:List α} {n:Nat} {x:α}:lk (sR rs kn (n+1)) x=if x∈frs rs (sS rs kn n) then some (n+1) else lk (sR rs kn n) x:=
 a3M fun h hh=>.inl (a4b hh)
theorem a4X {rs rs':List (SR α)} {kn kn':List α} (hr:∀r,r∈rs↔r∈rs') (hk:∀x,x∈kn↔x∈kn'):∀n,(∀x,x∈sS rs kn n↔x∈sS rs' kn' n)∧∀x,lk (sR rs kn n) x=lk (sR rs' kn' n) x
 | 0=>⟨hk,fun _=>rfl⟩
 | n+1=>by
  obtain ⟨h1,h2⟩:=a4X hr hk n
  have hf:∀x,x∈frs rs (sS rs kn n)↔x∈frs rs' (sS rs' kn' n):=fun x=>by
   rw [a2r,a2r,h1]
   constructor
   ·rintro ⟨a,b,c,d⟩;exact ⟨a,b,(hr _).mp c,fun q hq=>(h1 q).mp (d q hq)⟩
   ·rintro ⟨a,b,c,d⟩;exact ⟨a,b,(hr _).mpr c,fun q hq=>(h1 q).mpr (d q hq)⟩
  refine ⟨fun x=>by rw [a3h,a3h,h1,hf],fun x=>?_⟩
  rw [b7q,b7q,h2]
  by_cases z:x∈frs rs (sS rs kn n)
  ·rw [if_pos z,if_pos ((hf x).mp z)]
  ·rw [if_neg z,if_neg fun w=>z ((hf x).mpr w)]
theorem a4w {rs:List (SR α)} {kn:List α} {n:Nat} (h:frs rs (sS rs kn n)=[]):∀k,sS rs kn (n+k)=sS rs kn n∧sR rs kn (n+k)=sR rs kn n
 | 0=>⟨rfl,rfl⟩
 | k+1=>by
  obtain ⟨h1,h2⟩:=a4w h k
  show (frs rs (sS rs kn (n+k))).foldl a0O (sS rs kn (n+k))=_∧(frs rs (sS rs kn (n+k))).foldl (a3H (n+k+1)) (sR rs kn (n+k))=_
  rw [h1,h2,h];exact ⟨rfl,rfl⟩
def b2j (rs:List (SR α)) (S:List α):Nat:=(rs.filter fun r=>decide (r.2.1∉S)).length
theorem a5T {β:Type} {p q:β→Bool}:∀{l:List β},(∀r∈l,p r=true→q r=true)→(l.filter p).length≤(l.filter q).length
 | [],_=>Qj _
 | r::l,h=>by
  have ih:=a5T (l:=l) fun x hx=>h x (Qt _ hx)
  rw [Yq,Yq]
  cases hp:p r with
  | true=>rw [h r Qq hp];simp;exact ih
  | false=>cases hq:q r<;>simp<;>omega
theorem a6a {β:Type} {p q:β→Bool}:∀{l:List β},(∀r∈l,p r=true→q r=true)→(∃r∈l,q r=true∧p r=false)→(l.filter p).length < (l.filter q).length
 | [],_,h=>by obtain ⟨r,hr,_⟩:=h;cases hr
 | r::l,h,⟨x,hx,hq,hp⟩=>by
  have hl:∀y∈l,p y=true→q y=true:=fun y hy=>h y (Qt _ hy)
  rw [Yq,Yq]
  rcases Qw.mp hx with e | e
  ·subst e
   rw [hp,hq]
   have:=a5T hl
   simp;omega
  ·have ih:=a6a hl ⟨x,e,hq,hp⟩
   cases hp':p r with
   | true=>rw [h r Qq hp'];simp;exact ih
   | false=>cases hq':q r<;>simp<;>omega
theorem a4A {rs:List (SR α)} {kn:List α} {n:Nat} (h:frs rs (sS rs kn n)≠[]):b2j rs (sS rs kn (n+1)) < b2j rs (sS rs kn n):=by
 obtain ⟨x,hx⟩:=Vp _ h
 obtain ⟨h1,b,h2,_⟩:=a2r.mp hx
 have hs:x∈sS rs kn (n+1):=a3h.mpr (.inr hx)
 refine a6a (fun r _ hr=>?_) ⟨_,h2,by simpa using h1,by simpa using hs⟩
 simp at hr ⊢
 exact fun z=>hr (a3h.mpr (.inl z))
end
section
variable {α:Type} [DecidableEq α]
theorem b0I (rs:List (SR α)) (S:List α):b2j rs S≤rs.length:=Qy _ _
theorem b3R {rs:List (SR α)} {S:List α} (h:frs rs S≠[]):0 < b2j rs S:=by
 obtain ⟨x,hx⟩:=Vp _ h
 obtain ⟨h1,b,h2,_⟩:=a2r.mp hx
 exact Wo (Qs.mpr ⟨h2,by simpa using h1⟩)
theorem a8u {rs:List (SR α)} {kn:List α}:∀n,frs rs (sS rs kn n)≠[]→b2j rs (sS rs kn n)+n≤rs.length
 | 0,_=>b0I _ _
 | n+1,h=>by
  have h0:frs rs (sS rs kn n)≠[]:=fun z=>h (by
   have:=(a4w z 1).1
   rw [this];exact z)
  have:=a8u n h0
  have:=a4A h0
  omega
theorem b4n (rs:List (SR α)) (kn:List α):frs rs (sS rs kn rs.length)=[]:=by
 by_cases h:frs rs (sS rs kn rs.length)=[]
 ·exact h
 ·have:=a8u _ h
  have:=b3R h
  omega
def FIN (rs:List (SR α)) (kn:List α):List (α×Nat):=sR rs kn rs.length
theorem b4R {rs:List (SR α)} {kn:List α} {n:Nat} (h:frs rs (sS rs kn n)=[]):sR rs kn n=FIN rs kn:=by
 unfold FIN
 by_cases c:n≤rs.length
 ·obtain ⟨k,e⟩:=Nat.le.dest c
  rw [←e];exact ((a4w h k).2).symm
 ·obtain ⟨k,e⟩:=Nat.le.dest (Nat.le_of_not_le c)
  rw [←e];exact (a4w (b4n rs kn) k).2
theorem b3F {rs:List (SR α)} {kn:List α} (h:kn.Nodup):∀n,(sS rs kn n).Nodup:=by
 have put:∀(l:List α) (x:α),l.Nodup→(a0O l x).Nodup:=fun l x hl=>by
  unfold a0O
  by_cases z:x∈l
  ·rw [if_pos z];exact hl
  ·rw [if_neg z]
   exact Zw.mpr ⟨hl,by simp,fun a ha b hb e=>z (by rw [Xo] at hb;rw [←hb,←e];exact ha)⟩
 have puts:∀(xs l:List α),l.Nodup→(xs.foldl a0O l).Nodup:=by
  intro xs
  induction xs with
  | nil=>intro l hl;exact hl
  | cons x xs ih=>intro l hl;exact ih _ (put l x hl)
 intro n
 induction n with
 | zero=>exact h
 | succ n ih=>exact puts _ _ ih
theorem a1b (xs:List α):∀l:List α,(xs.foldl a0O l).length≤l.length+xs.length:=by
 induction xs with
 | nil=>intro l;simp
 | cons x xs ih=>
  intro l
  have:=ih (a0O l x)
  have h2:(a0O l x).length≤l.length+1:=by unfold a0O;split<;>simp
  rw [Ue,Qm];omega
theorem a1e {rs:List (SR α)} {kn:List α}:∀n,((sR rs kn n).map (·.1)).Nodup:=by
 have put:∀(n:Nat) (R:List (α×Nat)) (x:α),(R.map (·.1)).Nodup→((a3H n R x).map (·.1)).Nodup:=fun n R x hl=>by
  unfold a3H
  cases e:lk R x with
  | some m=>simpa using hl
  | none=>
   rw [if_neg (by simp),Xe]
   refine Zw.mpr ⟨hl,by simp,fun a ha b hb z=>?_⟩
   obtain ⟨p,hp,rfl⟩:=Qk.mp ha
   simp at hb
   exact a7x e hp (by rw [←hb,←z])
 have puts:∀(n:Nat) (xs:List α) (R:List (α×Nat)),(R.map (·.1)).Nodup→((xs.foldl (a3H n) R).map (·.1)).Nodup:=by
  intro n xs
  induction xs with
  | nil=>intro R hl;exact hl
  | cons x xs ih=>intro R hl;exact ih _ (put n R x hl)
 intro n
 induction n with
 | zero=>simp [sR]
 | succ n ih=>exact puts _ _ _ ih
theorem b3r {rs rs':List (SR α)} {kn kn':List α} (hr:∀r,r∈rs↔r∈rs') (hk:∀x,x∈kn↔x∈kn') (hl:rs.length=rs'.length) (x:α):lk (FIN rs kn) x=lk (FIN rs' kn') x:=by
 unfold FIN;rw [←hl];exact (a4X hr hk _).2 x
end
section
variable {α:Type} [DecidableEq α]
theorem a0Z:∀(xs:List α) {l:List α},l.Nodup→(xs.foldl a0O l).Nodup
 | [],_,hl=>hl
 | x::xs,l,hl=>by
  refine a0Z xs ?_
  unfold a0O
  by_cases z:x∈l
  ·rw [if_pos z];exact hl
  ·rw [if_neg z]
   exact Zw.mpr ⟨hl,by simp,fun a ha b hb e=>z (by rw [Xo] at hb;rw [←hb,←e];exact ha)⟩
theorem a2V (n:Nat):∀(xs:List α) {R:List (α×Nat)},(R.map (·.1)).Nodup→((xs.foldl (a3H n) R).map (·.1)).Nodup
 | [],_,hl=>hl
 | x::xs,R,hl=>by
  refine a2V n xs ?_
  unfold a3H
  cases e:lk R x with
  | some m=>simpa using hl
  | none=>
   rw [if_neg (by simp),Xe]
   refine Zw.mpr ⟨hl,by simp,fun a ha b hb z=>?_⟩
   obtain ⟨p,hp,rfl⟩:=Qk.mp ha
   simp at hb
   exact a7x e hp (by rw [←hb,←z])
theorem a4m (n:Nat):∀(xs:List α) (R:List (α×Nat)),(xs.foldl (a3H n) R).length≤R.length+xs.length
 | [],R=>by simp
 | x::xs,R=>by
  have:=a4m n xs (a3H n R x)
  have h2:(a3H n R x).length≤R.length+1:=by unfold a3H;split<;>simp
  rw [Ue,Qm];omega
theorem b2E {rs:List (SR α)} {kn:List α} (h:kn.Nodup) (n:Nat):(sS rs kn n).length≤kn.length+rs.length:=by
 have sub:∀n x,x∈sS rs kn n→x∈kn++rs.map fun r=>r.2.1:=by
  intro n
  induction n with
  | zero=>intro x hx;exact Zf _ hx
  | succ n ih=>
   intro x hx
   rcases a3h.mp hx with z | z
   ·exact ih x z
   ·obtain ⟨_,b,h2,_⟩:=a2r.mp z
    exact Xc _ (Qk.mpr ⟨_,h2,rfl⟩)
 have:=a1s (b3F h n) (sub n)
 simpa using this
theorem b0r {rs:List (SR α)} {kn:List α} (h:kn.Nodup) (n:Nat):(sR rs kn n).length≤kn.length+rs.length:=by
 have:=a1s (l:=(sR rs kn n).map (·.1)) (m:=sS rs kn n) (a1e n) (fun x hx=>by
  obtain ⟨p,hp,rfl⟩:=Qk.mp hx
  exact a6E n (a7k (a1e n) hp))
 have h2:=b2E (rs:=rs) h n
 simp at this;omega
theorem b4c (l:List (SR α)) (r:SR α) (S:List α):frs (l++[r]) S=frs l S++(if (r.1 && decide (r.2.1∉S) && r.2.2.all fun q=>decide (q∈S))=true then [r.2.1] else []):=by
 unfold frs
 rw [Zd,Xe,Yq]
 split<;>rfl
theorem a7z (rs:List (SR α)) (S:List α):(frs rs S).length≤rs.length:=by
 unfold frs;rw [Qd];exact Qy _ _
theorem a5f (bd S:List α):decide (bd.filter (fun q=>decide (q∉S))=[])=bd.all fun q=>decide (q∈S):=by
 rw [Xn,decide_eq_true_eq,Jf,Zm]
 constructor
 ·intro h x hx;have:=h x hx;simpa using this
 ·intro h x hx;have:=h x hx;simpa using this
end
section
variable {α:Type} [DecidableEq α]
def a3i (b S:List α):Bool:=b.all fun q=>decide (q∈S)
theorem b3x {S:List α} {x:α} (h:x∉S):a0O S x=S++[x]:=by unfold a0O;rw [if_neg h]
theorem b0Z {rs:List (SR α)} (x:α):x∈(FIN rs []).map (·.1)↔x∈sS rs [] rs.length:=by
 have key:∀n,x∈(sR rs ([]:List α) n).map (·.1)↔x∈sS rs [] n:=by
  intro n
  constructor
  ·intro h
   obtain ⟨p,hp,rfl⟩:=Qk.mp h
   exact a6E n (a7k (a1e n) hp)
  ·induction n with
   | zero=>intro h;cases h
   | succ n ih=>
    intro h
    have hs:(lk (sR rs ([]:List α) (n+1)) x).isSome=true:=by
     rw [b7q]
     by_cases z:x∈frs rs (sS rs [] n)
     ·rw [if_pos z];rfl
     ·rw [if_neg z]
      rcases a3h.mp h with w | w
      ·obtain ⟨p,hp,e⟩:=Qk.mp (ih w)
       have:=a7k (a1e n) hp
       rw [e] at this;rw [this];rfl
      ·exact absurd w z
    cases e:lk (sR rs ([]:List α) (n+1)) x with
    | none=>rw [e] at hs;cases hs
    | some m=>exact Qk.mpr ⟨_,b1A e,rfl⟩
 exact key _
end
def a2S:List Nat:=[97,98,99,100,101,102,103,104,105,106,107,108,109,110,111,112,113,114,115,116,117,118,119,120,121,122]
def c3f:List Nat:=[48,49,50,51,52,53,54,55,56,57]++a2S
abbrev sv (l:List Nat):V:=.str (mk l)
theorem b5C:("abcdefghijklmnopqrstuvwxyz":Str)=mk a2S:=by decide+kernel
theorem b6x:("0123456789abcdefghijklmnopqrstuvwxyz":Str)=mk c3f:=by decide+kernel
theorem a4Z {c:Nat} (h:c∈a2S):c < 128:=by revert c;decide
theorem b7b {c:Nat} (h:c∈c3f):c < 128:=by revert c;decide
theorem a3O {n:Nat} (h:n≤100000):n≤sizeLine:=Qi h ‹dc›
theorem b4g {l:List Nat} (h:∀c∈l,c < 1114112):Xp (mk l)=true:=by
 unfold Xp;simpa using h
def OkS (z:Str):Prop:=Xp z=true∧z.length≤40
theorem OkS.of {l:List Nat} (h:∀c∈l,c < 128) (hl:l.length≤40):OkS (mk l):=⟨b4g fun c hc=>by have:=h c hc;omega,by rw [a0A];exact hl⟩
def a2h:Nat→Str
 | 0=>"fact"
 | 1=>"sure"
 | 2=>"most"
 | _=>"block"
abbrev Rw:=Nat×Str×Str×List Str
def a1E (r:Rw):Prop:=r.1 < 4∧(r.1=0→r.2.2.2=[]∧r.2.1="")∧OkS r.2.1∧OkS r.2.2.1∧(∀q∈r.2.2.2,OkS q)∧r.2.2.2.length≤4
def a5F (H:Hp) (v:V) (r:Rw):Prop:=∃p t,v=.ref p∧H p=some (.tup [.str (a2h r.1),.str r.2.1,.str r.2.2.1,.ref t])∧H t=some (.tup (r.2.2.2.map V.str))
theorem a5F.same {H H':Hp} {v:V} {r:Rw} (s:a0h H H') (h:a5F H v r):a5F H' v r:=let ⟨p,t,a,b,c⟩:=h;⟨p,t,a,s _ _ b,s _ _ c⟩
def c0m (pl:List Str) (r:Rw):Prop:=r.2.2.1∈pl∧∀q∈r.2.2.2,q∈pl
def OkP (pl:List Str) (z:Str):Prop:=OkS z∧z∈pl
def RwD (pl:List Str) (D:Addr) (v:V) (H:Hp):Prop:=∃(p t:Addr) (r:Rw),v=.ref p∧p≠D∧t≠D∧(a1E r∧c0m pl r)∧H p=some (.tup [.str (a2h r.1),.str r.2.1,.str r.2.2.1,.ref t])∧H t=some (.tup (r.2.2.2.map V.str))
structure a1V (H:Hp) (xs:List V) (rs:List Rw):Prop where
 len:xs.length=rs.length
 get:∀(i:Nat) (r:Rw),rs[i]?=some r→∃x,xs[i]?=some x∧a5F H x r
theorem a1V.same {H H':Hp} {xs:List V} {rs:List Rw} (s:a0h H H') (h:a1V H xs rs):a1V H' xs rs:=⟨h.len,fun i r e=>let ⟨x,a,b⟩:=h.get i r e;⟨x,a,b.same s⟩⟩
theorem a8d {pl:List Str} {D:Addr} {H:Hp}:∀{ys:List V},(∀(i:Nat) v,ys[i]?=some v→RwD pl D v H)→∃rs:List Rw,a1V H ys rs∧∀r∈rs,a1E r∧c0m pl r
 | [],_=>⟨[],⟨rfl,fun i r e=>by simp at e⟩,by simp⟩
 | y::ys,h=>by
  obtain ⟨rs,hA,hO⟩:=a8d (D:=D) (ys:=ys) fun i v e=>h (i+1) v e
  obtain ⟨p,t,r,e,_,_,ho,h1,h2⟩:=h 0 y rfl
  refine ⟨r::rs,⟨by simp [hA.len],fun i q eq=>?_⟩,fun q hq=>?_⟩
  ·cases i with
   | zero=>cases eq;exact ⟨y,rfl,p,t,e,h1,h2⟩
   | succ i=>exact hA.get i q eq
  ·rcases Qw.mp hq with z | z
   ·rw [z];exact ho
   ·exact hO q z
def b9O (K:Qe):Sp:=fun vs H Q _=>∃(a:Addr) (ns:List Int) (k:Int),vs=[.ref a,.int k]∧SqL K H a (ns.map V.int)∧ns.length≤63∧0≤k∧k≤1000∧∀i,i=ns.getD k.toNat 0→Q (.int i) H
def c2p:Sp:=fun vs H Q _=>∃(c k:Int),vs=[.int c,.int k]∧∀r:Int,0≤r→Q (.int r) H
theorem a3T {c k:Int} {H:Hp} {Q:VK} {E:XK}:c2p [.int c,.int k] H Q E↔∀r:Int,0≤r→Q (.int r) H:=⟨by rintro ⟨_,_,e,q⟩;cases e;exact q,fun q=>⟨_,_,rfl,q⟩⟩
def a2y (c k:Int) (sg:List Nat):List Nat:=(Xz (1+c % 8).toNat).map fun (j:Nat)=>sg.getD (((c / 64+5 * (j:Int)+(if (j:Int)=c / 8 % (1+c % 8) then k else 0)) % (sg.length:Int)).toNat) 0
theorem a2z (c k:Int) (sg:List Nat):1≤(a2y c k sg).length∧(a2y c k sg).length≤8:=by
 unfold a2y
 rw [Qd,Zv]
 have:=Zj c (b:=8) ‹dc›
 have:=Zc c (b:=8) ‹dc›
 omega
theorem a3o {c k:Int} {sg:List Nat} (h:0 < sg.length):∀x∈a2y c k sg,x∈sg:=by
 intro x hx
 obtain ⟨j,_,rfl⟩:=Qk.mp hx
 have h1:=Zj (c / 64+5 * (j:Int)+(if (j:Int)=c / 8 % (1+c % 8) then k else 0)) (b:=(sg.length:Int)) ‹om›
 have h2:=Zc (c / 64+5 * (j:Int)+(if (j:Int)=c / 8 % (1+c % 8) then k else 0)) (b:=(sg.length:Int)) ‹om›
 generalize (c / 64+5 * (j:Int)+(if (j:Int)=c / 8 % (1+c % 8) then k else 0)) % (sg.length:Int)=n at h1 h2
 rw [Xs,Qc ‹om›]
 exact Xa _
theorem b5d:∀n:Nat,n < 26→a2S.getD n 0=97+n:=by decide
theorem b2n {c k k':Int} (hk:0≤k∧k < 26) (hk':0≤k'∧k' < 26) (h:a2y c k a2S=a2y c k' a2S):k=k':=by
 have m8:=Zj c (b:=8) ‹dc›
 have m9:=Zc c (b:=8) ‹dc›
 have a1:=Zj (c / 8) (b:=1+c % 8) ‹om›
 have a2:=Zc (c / 8) (b:=1+c % 8) ‹om›
 obtain ⟨a,ea⟩:∃a:Nat,c / 8 % (1+c % 8)=(a:Int):=⟨(c / 8 % (1+c % 8)).toNat,by omega⟩
 have hl:a < (1+c % 8).toNat:=by omega
 have h1:=congrArg (fun l:List Nat=>l[a]?) h
 unfold a2y at h1
 simp only [Ql] at h1
 rw [Ub hl] at h1
 simp only [Zr,Option.some.injEq] at h1
 rw [if_pos ea.symm,if_pos ea.symm] at h1
 have e26:(a2S.length:Int)=26:=by decide
 rw [e26] at h1
 have b1:=Zj (c / 64+5 * (a:Int)+k) (b:=26) ‹dc›
 have b2:=Zc (c / 64+5 * (a:Int)+k) (b:=26) ‹dc›
 have b3:=Zj (c / 64+5 * (a:Int)+k') (b:=26) ‹dc›
 have b4:=Zc (c / 64+5 * (a:Int)+k') (b:=26) ‹dc›
 rw [b5d _ ‹om›,b5d _ ‹om›] at h1
 omega
def pcl (wd:Nat→List Nat):Nat→List Nat
 | 0=>[]
 | 1=>40::(wd 3++[41])
 | _=>40::(wd 4++[44])++wd 3++[41]
def nmL (wd:Nat→List Nat) (k:Nat):List Nat:=wd (k % 3)++pcl wd (k / 3)
def plG (wd:Nat→List Nat) (j:Nat):Str:=if j % 2=0 then mk (nmL wd (j / 2)) else mk (45::nmL wd (j / 2))
theorem a5V {a b:List Nat} (h:mk a=mk b):a=b:=by
 have:=congrArg (fun z:Str=>z.cps.toList) h
 exact this
theorem b0a {wd:Nat→List Nat} (hw:∀k,k < 5→∀x∈wd k,x∈a2S) (k:Nat):(nmL wd k).takeWhile (fun x=>x != 40)=wd (k % 3):=by
 have h1:∀x∈wd (k % 3),(x != 40)=true:=fun x hx=>by
  have:=hw _ ‹om› x hx
  have h2:∀y∈a2S,(y != 40)=true:=by decide
  exact h2 x this
 have hp:(pcl wd (k / 3)).takeWhile (fun x=>x != 40)=[]:=by
  match k / 3 with
  | 0=>rfl
  | 1=>rfl
  | n+2=>rfl
 unfold nmL
 rw [List.takeWhile_append_of_pos h1,hp,Qh]
theorem b6c {wd:Nat→List Nat} (hw:∀k,k < 5→∀x∈wd k,x∈a2S) {p q:Nat} (hp:p < 3) (hq:q < 3) (h:pcl wd p=pcl wd q):p=q:=by
 have n44:∀k,k < 5→44∉wd k:=fun k hk z=>by have:=hw k hk 44 z;revert this;decide
 have i1:44∉pcl wd 1:=by
  show 44∉40::(wd 3++[41])
  simp [n44 3 ‹dc›]
 have i2:44∈pcl wd 2:=by
  show 44∈40::(wd 4++[44])++wd 3++[41]
  simp
 match p,q,hp,hq with
 | 0,0,_,_=>rfl
 | 1,1,_,_=>rfl
 | 2,2,_,_=>rfl
 | 0,1,_,_=>cases h
 | 0,2,_,_=>cases h
 | 1,0,_,_=>cases h
 | 2,0,_,_=>cases h
 | 1,2,_,_=>rw [h] at i1;exact absurd i2 i1
 | 2,1,_,_=>rw [←h] at i1;exact absurd i2 i1
theorem b4O {wd:Nat→List Nat} (hw:∀k,k < 5→∀x∈wd k,x∈a2S) (hi:∀j k,j < 5→k < 5→wd j=wd k→j=k) {p q:Nat} (hp:p < 9) (hq:q < 9) (h:nmL wd p=nmL wd q):p=q:=by
 have e1:wd (p % 3)=wd (q % 3):=by rw [←b0a hw p,←b0a hw q,h]
 have e2:=hi _ _ ‹om› ‹om› e1
 have e3:pcl wd (p / 3)=pcl wd (q / 3):=by
  unfold nmL at h
  rw [e1] at h
  exact List.append_cancel_left h
 have e4:=b6c hw ‹om› ‹om› e3
 omega
theorem b9S {wd:Nat→List Nat} (hw:∀k,k < 5→∀x∈wd k,x∈a2S) (hn:∀k,k < 5→wd k≠[]) (p q:Nat):nmL wd p≠45::nmL wd q:=fun h=>by
 unfold nmL at h
 cases e:wd (p % 3) with
 | nil=>exact hn _ ‹om› e
 | cons x r=>
  have hx:=hw (p % 3) ‹om› x (by rw [e];exact Qq)
  rw [e] at h
  have:x=45:=(List.cons.inj h).1
  rw [this] at hx;revert hx;decide
theorem b3E {wd:Nat→List Nat} (hw:∀k,k < 5→∀x∈wd k,x∈a2S) (hn:∀k,k < 5→wd k≠[]) (hi:∀j k,j < 5→k < 5→wd j=wd k→j=k) {m:Nat} (hm:m≤18):((Xz m).map (plG wd)).Nodup:=by
 unfold Xg
 rw [Jt]
 refine List.nodup_range.imp_of_mem fun {i j} hi' hj' hne e=>hne ?_
 rw [Jm] at hi' hj'
 unfold plG at e
 by_cases a:i % 2=0
 ·by_cases b:j % 2=0
  ·rw [if_pos a,if_pos b] at e
   have:=b4O hw hi ‹om› ‹om› (a5V e);omega
  ·rw [if_pos a,if_neg b] at e
   exact absurd (a5V e) (b9S hw hn _ _)
 ·by_cases b:j % 2=0
  ·rw [if_neg a,if_pos b] at e
   exact absurd (a5V e).symm (b9S hw hn _ _)
  ·rw [if_neg a,if_neg b] at e
   have:=b4O hw hi ‹om› ‹om› (List.cons.inj (a5V e)).2;omega
def a0D (z:Str):Str:=if Jv z "-"=true then Ve z (some 1) none else "-"++z
theorem a5S (l:List Nat):a0D (mk l)=if l[0]?=some 45 then mk (l.drop 1) else mk (45::l):=by
 unfold a0D
 rw [show ("-":Str)=mk [45] by decide+kernel,a9h]
 by_cases h:l[0]?=some 45
 ·rw [if_pos (decide_eq_true h),if_pos h,a9E _ ‹dc› (by have:=(Qn.mp h).1;omega)];rfl
 ·rw [if_neg (by simpa using h),if_neg h,a2E];rfl
theorem b2H {l:List Nat} (h:l[0]?=some 45→l[1]?≠some 45):a0D (a0D (mk l))=mk l:=by
 rw [a5S l]
 by_cases c:l[0]?=some 45
 ·rw [if_pos c,a5S]
  cases l with
  | nil=>cases c
  | cons x l=>
   rw [if_neg (by have:=h c;simpa using this)]
   have:x=45:=by simpa using c
   rw [this];rfl
 ·rw [if_neg c,a5S,if_pos (show (45::l)[0]?=some 45 from rfl)];rfl
theorem b9d {wd:Nat→List Nat} (hw:∀k,k < 5→∀x∈wd k,x∈a2S) (hn:∀k,k < 5→wd k≠[]) (j:Nat):a0D (a0D (plG wd j))=plG wd j:=by
 have h0:∀k,(nmL wd k)[0]?≠some 45:=fun k z=>by
  unfold nmL at z
  cases e:wd (k % 3) with
  | nil=>exact hn _ ‹om› e
  | cons x r=>
   have hx:=hw (k % 3) ‹om› x (by rw [e];exact Qq)
   rw [e] at z
   have:x=45:=by simpa using z
   rw [this] at hx;revert hx;decide
 unfold plG
 split
 ·exact b2H fun z=>absurd z (h0 _)
 ·exact b2H fun _=>h0 _
def a8y (c:Int):List Str:=(Xz (2 * (1+c % 9).toNat)).map (plG fun (i:Nat)=>a2y (c / 9) (i:Int) a2S)
theorem b3Z {c:Int} {z:Str} (h:z∈a8y c):a0D z∈a8y c:=by
 obtain ⟨j,hj,rfl⟩:=Qk.mp h
 rw [Jm] at hj
 have h0:∀k,(nmL (fun (i:Nat)=>a2y (c / 9) (i:Int) a2S) k)[0]?≠some 45:=fun k z=>by
  unfold nmL at z
  cases e:a2y (c / 9) ((k % 3:Nat):Int) a2S with
  | nil=>have:=(a2z (c / 9) ((k % 3:Nat):Int) a2S).1;rw [e] at this;simp at this
  | cons x r=>
   have hx:=a3o (c:=c / 9) (k:=((k % 3:Nat):Int)) (sg:=a2S) ‹dc› x (by rw [e];exact Qq)
   have z':(a2y (c / 9) ((k % 3:Nat):Int) a2S++pcl (fun (i:Nat)=>a2y (c / 9) (i:Int) a2S) (k / 3))[0]?=some 45:=z
   rw [e] at z'
   have:x=45:=by simpa using z'
   rw [this] at hx;revert hx;decide
 refine Qk.mpr ⟨if j % 2=0 then j+1 else j - 1,Jm.mpr (by split<;>omega),?_⟩
 unfold plG
 by_cases e:j % 2=0
 ·rw [if_pos e,if_pos e,if_neg ‹om›,a5S,if_neg (h0 _),show (j+1) / 2=j / 2 by omega]
 ·rw [if_neg e,if_neg e,if_pos ‹om›,a5S,if_pos (by rfl:(45::nmL (fun (i:Nat)=>a2y (c / 9) (i:Int) a2S) (j / 2))[0]?=some 45),show (j - 1) / 2=j / 2 by omega];rfl
def b8E:Sp:=fun vs H Q _=>∃(c k:Int) (sg:List Nat),vs=[.int c,.int k,sv sg]∧(0 < sg.length∧sg.length≤100)∧Q (sv (a2y c k sg)) H
def b9k:Sp:=fun vs H Q _=>∃(c:Int),vs=[.int c]∧∀(D:Addr) (pl:List Str) (H':Hp),a0h H H'→H D=none→H' D=some (.lst (pl.map V.str))→2≤pl.length→pl.length≤18→(∀z∈pl,OkS z)→pl.Nodup→(∀z∈pl,a0D (a0D z)=z)→pl=a8y c→Q (.ref D) H'
def b3p:Sp:=fun vs H Q _=>∃(c:Int),vs=[.int c]∧∀(D:Addr) (ls:List Str) (H':Hp),a0h H H'→H D=none→H' D=some (.lst (ls.map V.str))→ls.length=12→(∀z∈ls,OkS z)→Q (.ref D) H'
def c5q (pl:List Str) (H:Hp) (Q:VK):Prop:=∀(p t:Addr) (r:Rw) (H':Hp),a0h H H'→H p=none→H t=none→a1E r∧c0m pl r→H' p=some (.tup [.str (a2h r.1),.str r.2.1,.str r.2.2.1,.ref t])→H' t=some (.tup (r.2.2.2.map V.str))→Q (.ref p) H'
def c2Q:Sp:=fun vs H Q _=>∃(m k st:Int) (P L:Addr) (pl ls:List Str),vs=[.int m,.int k,.ref P,.ref L,.int st]∧H P=some (.lst (pl.map V.str))∧2≤pl.length∧pl.length≤18∧(∀z∈pl,OkS z)∧H L=some (.lst (ls.map V.str))∧ls.length=12∧(∀z∈ls,OkS z)∧c5q pl H Q
def c2W:Sp:=fun vs H Q _=>∃(m:Int) (P L:Addr) (pl ls:List Str),vs=[.int m,.ref P,.ref L]∧H P=some (.lst (pl.map V.str))∧2≤pl.length∧pl.length≤18∧(∀z∈pl,OkS z)∧H L=some (.lst (ls.map V.str))∧ls.length=12∧(∀z∈ls,OkS z)∧c5q pl H Q
def c1X (K:Qe):Sp:=fun vs H Q _=>∃(a:Addr) (ns:List Int) (st:Int),vs=[.ref a,.int st]∧SqL K H a (ns.map V.int)∧ns.length≤63∧(0≤st∧st≤10)∧∀(D:Addr) (xs:List V) (rs:List Rw) (H':Hp),a0h H H'→H D=none→H' D=some (.lst xs)→a1V H' xs rs→rs.length+st.toNat≤63→(∀r∈rs,a1E r∧c0m (a8y (ns.getD 0 0)) r)→Q (.ref D) H'
theorem a2Z {P:Str→Prop} {pl:List Str} (hl:2≤pl.length) (hok:∀z∈pl,P z) (n:Int):∃z,atI (pl.map V.str) (n % (pl.length:Int))=some (.str z)∧P z:=by
 have m1:=Zj n (b:=(pl.length:Int)) ‹om›
 have m2:=Zc n (b:=(pl.length:Int)) ‹om›
 obtain ⟨v,e,hv,_⟩:=a3E (xs:=pl.map V.str) (i:=n % (pl.length:Int)) m1 (by simpa using m2)
 obtain ⟨z,hz,rfl⟩:=Qk.mp hv
 exact ⟨z,e,hok z hz⟩
theorem b1H {ls:List Str} (hl:ls.length=12) (hok:∀z∈ls,OkS z) (n:Int):∃z,atI (ls.map V.str) (n % 12)=some (.str z)∧OkS z:=by
 obtain ⟨z,e,h⟩:=a2Z (pl:=ls) ‹om› hok n
 rw [hl] at e
 exact ⟨z,e,h⟩
theorem a7s {P:Str→Prop} {ys:List V} (h:∀(i:Nat) (v:V),ys[i]?=some v→∃z,v=V.str z∧P z):∃zs:List Str,ys=zs.map V.str∧∀z∈zs,P z:=by
 induction ys with
 | nil=>exact ⟨[],rfl,by simp⟩
 | cons y ys ih=>
  obtain ⟨zs,e,ho⟩:=ih fun i v e=>h (i+1) v e
  obtain ⟨z,ez,hz⟩:=h 0 y rfl
  refine ⟨z::zs,by rw [e,ez];rfl,fun x hx=>?_⟩
  rcases Qw.mp hx with w | w
  ·rw [w];exact hz
  ·exact ho x w
def dv (d:List (Str×Nat)):List (Key×V):=d.map fun p=>(Sum.inr p.1,V.int p.2)
theorem a8H (d:List (Str×Nat)):(dv d).length=d.length:=Qd _
theorem b7N (d:List (Str×Nat)) (x:Str) (m:Nat):dv (d++[(x,m)])=dv d++[(Sum.inr x,V.int m)]:=by unfold dv;rw [Xe];rfl
theorem a4u (x:Str):∀d:List (Str×Nat),a0T (dv d) (Sum.inr x:Key)=(lk d x).map fun m:Nat=>V.int m
 | []=>rfl
 | p::r=>by
  by_cases e:p.1=x
  ·rw [show dv (p::r)=(Sum.inr p.1,V.int p.2)::dv r from rfl,a0I (by rw [e])]
   unfold lk;rw [Zi,decide_eq_true e];rfl
  ·rw [show dv (p::r)=(Sum.inr p.1,V.int p.2)::dv r from rfl,a0x (fun z=>e (Sum.inr.inj z)),a4u x r]
   unfold lk;rw [Zi,decide_eq_false e]
theorem a2B {H:Hp} {S:Addr} {d:List (Key×V)} (h:H S=some (.dK d)):IsD H S:=.inl ⟨_,.inl h⟩
def bv (S:List Str):List (Key×V):=S.map fun x=>(Sum.inr x,V.bl true)
theorem a2s (x:Str):∀S:List Str,a0T (bv S) (Sum.inr x:Key)=if x∈S then some (V.bl true) else none
 | []=>rfl
 | y::r=>by
  have ih:=a2s x r
  by_cases e:y=x
  ·rw [show bv (y::r)=(Sum.inr y,V.bl true)::bv r from rfl,a0I (by rw [e]),if_pos (by rw [e];exact Qq)]
  ·rw [show bv (y::r)=(Sum.inr y,V.bl true)::bv r from rfl,a0x (fun z=>e (Sum.inr.inj z)),ih]
   by_cases h:x∈r
   ·rw [if_pos h,if_pos (Qt _ h)]
   ·rw [if_neg h,if_neg (by simp [h];exact fun z=>e z.symm)]
theorem c0w (S:List Str) (x:Str):a2F (bv S) (Sum.inr x:Key) (V.bl true)=bv (a0O S x):=by
 unfold a2F a0O
 rw [a2d,a2s]
 by_cases h:x∈S
 ·rw [if_pos h,if_pos (by rfl),if_pos h]
  unfold bv
  rw [Xf]
  refine Uz fun y _=>?_
  simp only [Function.comp]
  split<;>rfl
 ·rw [if_neg h,if_neg (by simp),if_neg h]
  unfold bv;rw [Xe];rfl
theorem c2D {H:Hp} {D:Addr} {S:List Str} (h:H D=some (.dK (bv S))) (x:Str):a2w H D (.str x) (if x∈S then some (V.bl true) else none):=by
 have:=a2w.k (k:=(Sum.inr x:Key)) h
 rw [a2s] at this;exact this
theorem b3d {H:Hp} {D:Addr} {S:List Str} (h:H D=some (.dK (bv S))) (hl:S.length≤100000) (x:Str):a5Q H D (.str x) (V.bl true) (upd H D (.dK (bv (a0O S x)))):=by
 have:=a5Q.k (k:=(Sum.inr x:Key)) (v:=V.bl true) h (by unfold bv;rw [Qd];exact Xj hl ‹dc›)
 rw [c0w] at this;exact this
theorem b8T {R:List (Str×Nat)} (hn:(R.map (·.1)).Nodup) {x:Str} {n:Nat} (h:lk R x=none∨lk R x=some n):a2F (dv R) (Sum.inr x:Key) (V.int n)=dv (a3H n R x):=by
 unfold a3H
 rcases h with h | h
 ·rw [h,if_neg (by simp),a5v _ (by rw [a4u,h];rfl),b7N]
 ·rw [h,if_pos (by simp)]
  unfold a2F
  rw [a2d,a4u,h,if_pos (by rfl)]
  unfold dv
  rw [Xf]
  refine Uz fun p hp=>?_
  simp only [Function.comp]
  by_cases e:p.1=x
  ·have:=a7k hn hp
   rw [e,h] at this
   rw [if_pos (by rw [e]),Option.some.inj this]
  ·rw [if_neg (fun z=>e (Sum.inr.inj z))]
theorem c5u {H:Hp} {D:Addr} {R:List (Str×Nat)} (h:H D=some (.dK (dv R))) (hl:R.length≤100000) (hn:(R.map (·.1)).Nodup) {x:Str} {n:Nat} (hx:lk R x=none∨lk R x=some n):a5Q H D (.str x) (V.int n) (upd H D (.dK (dv (a3H n R x)))):=by
 have:=a5Q.k (k:=(Sum.inr x:Key)) (v:=V.int n) h (by rw [a8H];exact Xj hl ‹dc›)
 rw [b8T hn hx] at this;exact this
def srW (r:Rw):SR Str:=(decide (r.1 < 2),r.2.2.1,r.2.2.2)
theorem c3p:∀zs:List Str,(∀z∈zs,Xp z=true)→Zh (zs.map Yj)=true∧Zt (zs.map Yj)=0
 | [],_=>⟨rfl,rfl⟩
 | z::zs,h=>by
  obtain ⟨a,b⟩:=c3p zs fun p hp=>h p (Qt _ hp)
  refine ⟨?_,?_⟩
  ·show (Xm (.str z) && _)=true
   rw [a,Gd];exact h z Qq
  ·show max (Yt (.str z)) _=0
   rw [b];rfl
theorem a5x {zs:List Str} (h:∀z∈zs,Xp z=true):Ys (.list (zs.map Yj))=true:=by
 obtain ⟨a,b⟩:=c3p zs h
 unfold Ys
 simp only [Xm,Yt,a,b]
 decide
theorem b0Q (zs:List Str):Xu (.list (zs.map Yj)) (.list [])=decide (zs=[]):=by
 cases zs with
 | nil=>rfl
 | cons z zs=>rfl
theorem a9K {K:Qe} {H:Hp} {Q:VK} {a b:Addr} {zs:List Str} (ha:SqL K H a (zs.map V.str)) (hb:SqL K H b []) (ho:∀z∈zs,Xp z=true) (q:Q (.bl (decide (zs=[]))) H):b7m K (.ref a) (.ref b) H Q:=
 .inr ⟨_,_,.lst ha (a3v zs),.lst hb .nil,a5x ho,by decide,by rw [b0Q];exact q⟩
theorem b2i {K:Qe} {H:Hp} {Q:VK} {a b:Addr} {zs:List Str} (ha:SqL K H a (zs.map V.str)) (hb:SqL K H b []) (ho:∀z∈zs,Xp z=true) (q:Q (.bl (!decide (zs=[]))) H):b5Y K (.ref a) (.ref b) H Q:=
 .inr ⟨_,_,.lst ha (a3v zs),.lst hb .nil,a5x ho,by decide,by rw [b0Q];exact q⟩
def a3r (K:Qe) (H:Hp) (v:V) (kn:List Str):Prop:=(∃a,v=.ref a∧H a=some (.lst (kn.map V.str)))∨∃a kvs,v=.ref a∧H a=some (.dK kvs)∧kvs.map (·.1)=kn.map (Sum.inr:Str→Key)
theorem a3r.at {K:Qe} {H:Hp} {v:V} {kn:List Str} (h:a3r K H v kn):∃a o,v=.ref a∧H a=some o:=by
 rcases h with ⟨a,e,b⟩ | ⟨a,_,e,b,_⟩
 ·exact ⟨a,_,e,b⟩
 ·exact ⟨a,_,e,b⟩
theorem a3r.same {K:Qe} {H H':Hp} {v:V} {kn:List Str} (s:a0h H H') (h:a3r K H v kn):a3r K H' v kn:=h.imp (fun ⟨a,e,b⟩=>⟨a,e,s _ _ b⟩) fun ⟨a,k,e,b,c⟩=>⟨a,k,e,s _ _ b,c⟩
def b8g (K:Qe):Sp:=fun vs H Q _=>∃(v:V) (kn:List Str),vs=[v]∧a3r K H v kn∧kn.length≤1000∧∀D H',a0h H H'→H D=none→H' D=some (.dK (bv (kn.foldl a0O [])))→Q (.ref D) H'
def b1W (K:Qe):Sp:=fun vs H Q _=>∃(a b:Addr) (xs:List V) (rs:List Rw) (kn:List Str),vs=[.ref a,.ref b]∧H a=some (.lst xs)∧a1V H xs rs∧(∀r∈rs,a1E r)∧rs.length≤100∧SqL K H b (kn.map V.str)∧kn.length≤100∧
 ∀D H',a0h H H'→H D=none→H' D=some (.dK (dv (FIN (rs.map srW) (kn.foldl a0O []))))→Q (.ref D) H'
def b0H:Sp:=fun vs H Q _=>∃i:Int,vs=[.int i]∧Q (.bl true) H
theorem a8I {i:Int} {H:Hp} {Q:VK} {E:XK}:b0H [.int i] H Q E↔Q (.bl true) H:=⟨by rintro ⟨_,e,q⟩;cases e;exact q,fun q=>⟨_,rfl,q⟩⟩
theorem a7l {K:Qe}:Yc K (.type "int") (.type "int")=some true:=rfl
theorem a6I {K:Qe}:Yc K (.type "int") (.type "bool")=some false:=rfl
theorem b8p {K:Qe} {H:Hp} {Q:VK} {z:Str} {a:Addr} {r:List Str} (h:SqT K H a (r.map V.str)) (q:Q (.bl (decide (z∈r))) H):b8u K (.str z) (.ref a) H Q:=
 .inr ⟨a,_,rfl,.inr h,rfl,a6e _,by rw [if_neg Qx,b0f];exact q⟩
theorem b0h {n:Nat} (h:n < 4):decide (a2h n∈(["fact","sure"]:List Str))=decide (n < 2):=by
 match n,h with
 | 0,_=>decide+kernel
 | 1,_=>decide+kernel
 | 2,_=>decide+kernel
 | 3,_=>decide+kernel
def a9H (lb hd:V) (t:Addr):List (Str×V):=a1B "body" (.ref t) (a1B "head" hd (a1B "label" lb []))
theorem a4Q (lb hd:V) (t:Addr):(a9H lb hd t).lookup ("label":Str)=some lb:=by
 unfold a9H;rw [a0g,if_neg ‹dk›,a0g,if_neg ‹dk›,a0g,if_pos rfl]
theorem a1v (lb hd:V) (t:Addr):(a9H lb hd t).lookup ("head":Str)=some hd:=by
 unfold a9H;rw [a0g,if_neg ‹dk›,a0g,if_pos rfl]
theorem a1U (lb hd:V) (t:Addr):(a9H lb hd t).lookup ("body":Str)=some (.ref t):=by
 unfold a9H;rw [a0g,if_pos rfl]
theorem b7K (lb hd:V) (t:Addr) {m:Str} (h1:¬m="body") (h2:¬m="head") (h3:¬m="label"):(a9H lb hd t).lookup m=none:=by
 unfold a9H;rw [a0g,if_neg h1,a0g,if_neg h2,a0g,if_neg h3];rfl
def a2e (H:Hp) (r C:Addr) (lb hd:V) (bs:List V):Prop:=∃dx t,H r=some (.ins C dx (a9H lb hd t))∧H t=some (.tup bs)
theorem a2e.same {H H':Hp} {r C:Addr} {lb hd:V} {bs:List V} (s:a0h H H') (h:a2e H r C lb hd bs):a2e H' r C lb hd bs:=let ⟨d,t,a,b⟩:=h;⟨d,t,s _ _ a,s _ _ b⟩
def c0c (K:Qe):Sp:=fun vs H Q _=>∃x C dx lb hd b bs,vs=[.ref x,lb,hd,.ref b]∧H x=some (.ins C dx [])∧(Cls K C∧a0E K C "label"∧a0E K C "head"∧a0E K C "body")∧(SqL K H b bs∨SqT K H b bs∧H b=some (.tup bs))∧
 ∀H',(∀c o,H c=some o→c≠x→H' c=some o)→a2e H' x C lb hd bs→Q .non H'
def b6u (K:Qe) (C:Addr):Sp:=fun vs H Q _=>∃x dx hd,vs=[.ref x,hd]∧H x=some (.ins C dx [])∧
 ∀H',(∀c o,H c=some o→c≠x→H' c=some o)→a2e H' x C (.str "") hd []→Q .non H'
def a4H (t:Adr):Nat→Addr
 | 0=>t.C_Fact
 | 1=>t.C_Sure
 | 2=>t.C_Most
 | _=>t.C_Block
def a1i (b:Bool):Sp:=fun vs H Q _=>∃x,vs=[x]∧Q (.bl b) H
theorem a4M {b:Bool} {x:V} {H:Hp} {Q:VK} {E:XK}:a1i b [x] H Q E↔Q (.bl b) H:=⟨by rintro ⟨_,e,q⟩;cases e;exact q,fun q=>⟨_,rfl,q⟩⟩
structure c9Z (K:Qe) (t:Adr) (C:Addr):Prop where
 cl:Cls K C
 ty:TyI K C
 nl:a0E K C "label"
 nh:a0E K C "head"
 nb:a0E K C "body"
 kr:Yc K (.ref C) (.ref t.C_Rule)=some true
theorem a9j {K:Qe} {mg:Str→Option Value} {t:Adr} (T:Txt K mg t) {kind:Nat} (h:kind < 4):c9Z K t (a4H t kind):=by
 match kind,h with
 | 0,_=>exact ⟨T.cl_Fact,T.ty_Fact,T.nf_Fact_label,T.nf_Fact_head,T.nf_Fact_body,T.ki_Fact_Rule⟩
 | 1,_=>exact ⟨T.cl_Sure,T.ty_Sure,T.nf_Sure_label,T.nf_Sure_head,T.nf_Sure_body,T.ki_Sure_Rule⟩
 | 2,_=>exact ⟨T.cl_Most,T.ty_Most,T.nf_Most_label,T.nf_Most_head,T.nf_Most_body,T.ki_Most_Rule⟩
 | 3,_=>exact ⟨T.cl_Block,T.ty_Block,T.nf_Block_label,T.nf_Block_head,T.nf_Block_body,T.ki_Block_Rule⟩
def b6Q (kind:Nat) (a b c d:Sp):Sp:=match kind with
 | 0=>a
 | 1=>b
 | 2=>c
 | _=>d
theorem b0U {kind:Nat} (h:kind < 4):b6Q kind (a1i true) (a1i true) (a1i false) (a1i false)=a1i (decide ((kind:Int) < 2)):=by
 match kind,h with
 | 0,_=>rfl
 | 1,_=>rfl
 | 2,_=>rfl
 | 3,_=>rfl
theorem c7j {t:Adr} {m:Str} {s0 s1 s2 s3:Sp} {ta:TE} {σ:St} {H:Hp} {Q:VK} {r:Addr} {kind:Nat} {lb hd:V} {bs:List V} (hk:kind < 4) (hta:∀R:VK,R (.ref r) H→ta σ H R) (hR:a2e H r (a4H t kind) lb hd bs)
  (hm:¬m="body"∧¬m="head"∧¬m="label") (q:b6Q kind s0 s1 s2 s3 [.ref r] H Q E0):
  b9n (a1M t.C_Fact m s0 [] E0 ta a0q) (b9n (a1M t.C_Sure m s1 [] E0 ta a0q) (b9n (a1M t.C_Most m s2 [] E0 ta a0q) (a1M t.C_Block m s3 [] E0 ta a0q))) σ H Q:=by
 obtain ⟨dx,t0,h1,_⟩:=hR
 have hn:=b7K lb hd t0 hm.1 hm.2.1 hm.2.2
 match kind,hk with
 | 0,_=>exact .inl (hta _ ⟨r,dx,_,rfl,h1,hn,q⟩)
 | 1,_=>exact .inr (.inl (hta _ ⟨r,dx,_,rfl,h1,hn,q⟩))
 | 2,_=>exact .inr (.inr (.inl (hta _ ⟨r,dx,_,rfl,h1,hn,q⟩)))
 | 3,_=>exact .inr (.inr (.inr (hta _ ⟨r,dx,_,rfl,h1,hn,q⟩)))
theorem a0J {i:Nat} {σ:St} {H:Hp} {v:V} (h:σ[i]?=some (some v)):∀R:VK,R v H→a0k i σ H R:=fun R q=>⟨v,h,q⟩
def b2v (t:Adr) (H:Hp) (v:V) (r:Rw):Prop:=∃p,v=.ref p∧a2e H p (a4H t r.1) (.str r.2.1) (.str r.2.2.1) (r.2.2.2.map V.str)
theorem b2v.same {t:Adr} {H H':Hp} {v:V} {r:Rw} (s:a0h H H') (h:b2v t H v r):b2v t H' v r:=let ⟨p,a,b⟩:=h;⟨p,a,b.same s⟩
structure a1S (t:Adr) (H:Hp) (xs:List V) (rs:List Rw):Prop where
 len:xs.length=rs.length
 get:∀(i:Nat) (r:Rw),rs[i]?=some r→∃x,xs[i]?=some x∧b2v t H x r
theorem a1S.same {t:Adr} {H H':Hp} {xs:List V} {rs:List Rw} (s:a0h H H') (h:a1S t H xs rs):a1S t H' xs rs:=⟨h.len,fun i r e=>let ⟨x,a,b⟩:=h.get i r e;⟨x,a,b.same s⟩⟩
theorem a1S.at {t:Adr} {H:Hp} {xs:List V} {rs:List Rw} (h:a1S t H xs rs) {i:Nat} (hi:i < xs.length):∃(hi':i < rs.length) (p:Addr),xs[i]=.ref p∧a2e H p (a4H t rs[i].1) (.str rs[i].2.1) (.str rs[i].2.2.1) (rs[i].2.2.2.map V.str):=by
 have hi':i < rs.length:=by rw [←h.len];exact hi
 obtain ⟨x,e,p,rfl,hp⟩:=h.get i rs[i] (Qc hi')
 rw [Qc hi] at e
 exact ⟨hi',p,Option.some.inj e,hp⟩
def a7i (K:Qe) (t:Adr):Sp:=fun vs H Q _=>∃(p b:Addr) (r:Rw),vs=[.ref p]∧a1E r∧H p=some (.tup [.str (a2h r.1),.str r.2.1,.str r.2.2.1,.ref b])∧H b=some (.tup (r.2.2.2.map V.str))∧
 ∀x H',a0h H H'→a2e H' x (a4H t r.1) (.str r.2.1) (.str r.2.2.1) (r.2.2.2.map V.str)→Q (.ref x) H'
def c3q (RS:List (SR Str)) (k0:List Str) (H:Hp) (Q:VK):Prop:=∀D H',a0h H H'→H D=none→H' D=some (.dK (dv (FIN RS k0)))→Q (.ref D) H'
def b8F (K:Qe) (t:Adr):Sp:=fun vs H Q _=>∃(a:Addr) (kv:V) (xs:List V) (rs:List Rw) (kn:List Str),vs=[.ref a,kv]∧H a=some (.lst xs)∧a1S t H xs rs∧(∀r∈rs,a1E r)∧rs.length≤126∧((kv=.non∧kn=[])∨∃b,kv=.ref b∧H b=some (.lst (kn.map V.str)))∧kn.length≤100∧c3q (rs.map srW) (kn.foldl a0O []) H Q
abbrev VR:=V×Rw
def a9G (t:Adr) (H:Hp) (ws:List VR):Prop:=∀p∈ws,b2v t H p.1 p.2∧a1E p.2
theorem a9G.same {t:Adr} {H H':Hp} {ws:List VR} (s:a0h H H') (h:a9G t H ws):a9G t H' ws:=fun p hp=>⟨(h p hp).1.same s,(h p hp).2⟩
theorem a1S.zip {t:Adr} {H:Hp}:∀{xs:List V} {rs:List Rw},a1S t H xs rs→(∀r∈rs,a1E r)→∃zr:List VR,zr.map (·.1)=xs∧zr.map (·.2)=rs∧a9G t H zr
 | [],[],_,_=>⟨[],rfl,rfl,fun _ h=>by cases h⟩
 | [],_::_,h,_=>by have:=h.len;simp at this
 | _::_,[],h,_=>by have:=h.len;simp at this
 | x::xs,r::rs,h,ho=>by
  have h':a1S t H xs rs:=⟨by have:=h.len;simpa using this,fun i r e=>h.get (i+1) r e⟩
  obtain ⟨zr,e1,e2,hz⟩:=a1S.zip h' fun r hr=>ho r (Qt _ hr)
  obtain ⟨x',ex,hx⟩:=h.get 0 r rfl
  cases ex
  refine ⟨(x,r)::zr,by rw [Xk,e1],by rw [Xk,e2],fun p hp=>?_⟩
  rcases Qw.mp hp with z | z
  ·rw [z];exact ⟨hx,ho r Qq⟩
  ·exact hz p z
theorem a2j {K:Qe} {t:Adr} {a:Addr} {js:List (Option Nat)} {tt:TT} {te:TE} {σ:St} {H:Hp} {Q:VK} (ws:List VR) (hW:H a=some (.lst (ws.map (·.1)))) (hl:ws.length≤1000) (hz:a9G t H ws) (σr:St) (hσ:a1H js σ=none::σr) (P:Rw→Bool) (g:VR→V)
  (hs:∀(x:Addr) (r:Rw) H' (R:Bool→Hp→Prop),a1E r→a2e H' x (a4H t r.1) (.str r.2.1) (.str r.2.2.1) (r.2.2.2.map V.str)→a0h H H'→(∀H'',a0h H' H''→R (P r) H'')→tt (some (.ref x)::σr) H' R)
  (he:∀(x:Addr) (r:Rw) H' (R:V→Hp→Prop),a1E r→a2e H' x (a4H t r.1) (.str r.2.1) (.str r.2.2.1) (r.2.2.2.map V.str)→a0h H H'→(∀H'',a0h H' H''→R (g (.ref x,r)) H'')→te (some (.ref x)::σr) H' R)
  (hd:∀D H',H D=none→a0h H H'→H' D=some (.lst ((ws.filter fun p=>P p.2).map g))→Q (.ref D) H'):a4g (Itl K a) js (a0l 0) tt te σ H Q:=by
 let d0:VR:=(.non,0,"","",[])
 refine a3G (a2q (xs:=ws.map (·.1))) (Qi (show (ws.map (·.1)).length≤1000 by simpa using hl) ‹dc›) σr hσ (fun i=>P ((ws[i]?).getD d0).2) (fun i=>g ((ws[i]?).getD d0)) (fun H' s=>SqL.of (s _ _ hW)) (fun i H' R hi s hR=>?_) (fun i H' R hi s hR=>?_) (fun D H' hD s h=>?_)
 ·have hi':i < ws.length:=by simpa using hi
  obtain ⟨⟨x,ex,hx⟩,ho⟩:=hz _ (Xa hi')
  have e2:((ws.map (·.1))[i]?).getD .non=.ref x:=by rw [Ql,Qc hi'];exact ex
  rw [e2]
  rw [Qc hi',Xh] at hR
  exact hs x _ H' R ho (hx.same s) s hR
 ·have hi':i < ws.length:=by simpa using hi
  obtain ⟨⟨x,ex,hx⟩,ho⟩:=hz _ (Xa hi')
  have e2:((ws.map (·.1))[i]?).getD .non=.ref x:=by rw [Ql,Qc hi'];exact ex
  rw [e2]
  rw [Qc hi',Xh] at hR
  refine he x _ H' R ho (hx.same s) s ?_
  rw [show ((V.ref x,ws[i].2):VR)=ws[i] from by rw [←ex]]
  exact hR
 ·rw [show (ws.map (·.1)).length=ws.length by simp,a1f d0 (fun p:VR=>P p.2) g ws] at h
  exact hd D H' hD s h
def wat (zr:List VR) (S:List Str):List VR:=zr.filter fun p=>(srW p.2).1 && decide ((srW p.2).2.1∉S)
theorem b0F {t:Adr} {H:Hp} {zr:List VR} {S:List Str} (h:a9G t H zr):a9G t H (wat zr S):=fun p hp=>h p (Qs.mp hp).1
theorem a6S (zr:List VR) (S:List Str):(wat zr S).length≤zr.length:=Qy _ _
theorem b9i (zr:List VR) {S S':List Str} (h:∀x,x∈S→x∈S'):(wat zr S).filter (fun p=>decide ((srW p.2).2.1∉S'))=wat zr S':=by
 unfold wat
 rw [Jh]
 refine Jk fun p _=>?_
 by_cases c:(srW p.2).2.1∈S'
 ·rw [decide_eq_false (by simpa using c),Wu,Jb]
 ·rw [decide_eq_true c,decide_eq_true (show ¬(srW p.2).2.1∈S from fun z=>c (h _ z)),Gd,Ua]
theorem a8n (zr:List VR) (S:List Str):((wat zr S).filter fun p=>(srW p.2).2.2.all fun q=>decide (q∈S)).map (fun p=>V.str (srW p.2).2.1)=(frs ((zr.map (·.2)).map srW) S).map V.str:=by
 unfold wat frs
 rw [Jh,Xf,Zs,Xf,Zs,Xf]
 refine congrArg (Gs _) (Jk fun p _=>?_)
 simp only [Function.comp]
 rw [Uk]
def RuD (t:Adr) (D:Addr) (v:V) (r:Rw) (H:Hp):Prop:=∃p dx t0,v=.ref p∧p≠D∧t0≠D∧H p=some (.ins (a4H t r.1) dx (a9H (.str r.2.1) (.str r.2.2.1) t0))∧H t0=some (.tup (r.2.2.2.map V.str))
theorem c1Y {t:Adr} {D:Addr} {H:Hp} {ys:List V} {rs:List Rw} (hl:ys.length=rs.length) (h:∀(i:Nat) v,ys[i]?=some v→∃hi:i < rs.length,RuD t D v rs[i] H):a1S t H ys rs:=by
 refine ⟨hl,fun i r e=>?_⟩
 obtain ⟨hi,e'⟩:=Qn.mp e
 have hy:i < ys.length:=by rw [hl];exact hi
 obtain ⟨_,p,dx,t0,ev,_,_,h1,h2⟩:=h i ys[i] (Qc hy)
 rw [e'] at h1 h2
 exact ⟨ys[i],Qc hy,p,ev,dx,t0,h1,h2⟩
theorem a1N (RS:List (SR Str)) (k0:List Str):((FIN RS k0).map (·.1)).Nodup:=a1e _
def a6g (r:Rw):PyData:=.tuple [.str (a2h r.1),.str r.2.1,.str r.2.2.1,.tuple (r.2.2.2.map Yj)]
theorem b8J {n:Nat} (h:n < 4):Xp (a2h n)=true:=by
 match n,h with
 | 0,_=>decide+kernel
 | 1,_=>decide+kernel
 | 2,_=>decide+kernel
 | 3,_=>decide+kernel
theorem b8b {r:Rw} (h:a1E r):Xm (a6g r)=true∧Yt (a6g r)≤2:=by
 obtain ⟨h1,_,h2,h3,h4,_⟩:=h
 obtain ⟨a,b⟩:=c3p r.2.2.2 fun q hq=>(h4 q hq).1
 unfold a6g
 refine ⟨?_,?_⟩
 ·show Zh [.str (a2h r.1),.str r.2.1,.str r.2.2.1,.tuple (r.2.2.2.map Yj)]=true
  show (Xm (.str (a2h r.1)) && (Xm (.str r.2.1) && (Xm (.str r.2.2.1) && (Xm (.tuple (r.2.2.2.map Yj)) && true))))=true
  rw [show Xm (.tuple (r.2.2.2.map Yj))=true from a,show Xm (.str (a2h r.1))=true from b8J h1,show Xm (.str r.2.1)=true from h2.1,show Xm (.str r.2.2.1)=true from h3.1];rfl
 ·simp [Yt,Zt,b]
theorem a5u:∀{rs:List Rw},(∀r∈rs,a1E r)→Zh (rs.map a6g)=true∧Zt (rs.map a6g)≤2
 | [],_=>⟨rfl,Xb _⟩
 | r::rs,h=>by
  obtain ⟨a,b⟩:=a5u (rs:=rs) fun x hx=>h x (Qt _ hx)
  obtain ⟨c,d⟩:=b8b (h r Qq)
  refine ⟨?_,?_⟩
  ·show (Xm (a6g r) && Zh (rs.map a6g))=true
   rw [c,a];rfl
  ·show max (Yt (a6g r)) (Zt (rs.map a6g))≤2
   exact Nat.max_le.mpr ⟨d,b⟩
theorem a7e {K:Qe} {H:Hp}:∀{ws:List (V×Rw)},(∀p∈ws,a5F H p.1 p.2)→DenAll K H (ws.map (·.1)) ((ws.map (·.2)).map a6g)
 | [],_=>.nil
 | p::ws,h=>by
  obtain ⟨a,t,e,h1,h2⟩:=h p Qq
  refine .cons ?_ (a7e fun x hx=>h x (Qt _ hx))
  show Den K H p.1 (a6g p.2)
  rw [e]
  exact .tup (SqT.of h1) (.cons (.str _) (.cons (.str _) (.cons (.str _) (.cons (.tup (SqT.of h2) (a3v _)) .nil))))
theorem a5m {K:Qe} {H:Hp} {Q:VK} {a b:Addr} {ws:List (V×Rw)} (ha:H a=some (.lst (ws.map (·.1)))) (hb:SqL K H b []) (hz:∀p∈ws,a5F H p.1 p.2∧a1E p.2) (q:Q (.bl (decide (ws=[]))) H):b7m K (.ref a) (.ref b) H Q:=by
 obtain ⟨c,d⟩:=a5u (rs:=ws.map (·.2)) fun r hr=>by obtain ⟨p,hp,rfl⟩:=Qk.mp hr;exact (hz p hp).2
 refine .inr ⟨_,_,.lst (SqL.of ha) (a7e fun p hp=>(hz p hp).1),.lst hb .nil,?_,by decide,?_⟩
 ·unfold Ys
  rw [Xq]
  refine ⟨c,?_⟩
  have:Yt (.list ((ws.map (·.2)).map a6g))=Zt ((ws.map (·.2)).map a6g)+1:=by first | rfl | simp [Yt,Gi]
  rw [this]
  exact decide_eq_true ‹om›
 ·have:Xu (.list ((ws.map (·.2)).map a6g)) (.list [])=decide (ws=[]):=by
   cases ws with
   | nil=>rfl
   | cons p ws=>rfl
  rw [this];exact q
theorem a7E {K:Qe} {H:Hp} {Q:VK} {a b:Addr} {ws:List (V×Rw)} (ha:H a=some (.lst (ws.map (·.1)))) (hb:SqL K H b []) (hz:∀p∈ws,a5F H p.1 p.2∧a1E p.2) (q:Q (.bl (!decide (ws=[]))) H):b5Y K (.ref a) (.ref b) H Q:=by
 obtain ⟨c,d⟩:=a5u (rs:=ws.map (·.2)) fun r hr=>by obtain ⟨p,hp,rfl⟩:=Qk.mp hr;exact (hz p hp).2
 refine .inr ⟨_,_,.lst (SqL.of ha) (a7e fun p hp=>(hz p hp).1),.lst hb .nil,?_,by decide,?_⟩
 ·unfold Ys
  rw [Xq]
  refine ⟨c,?_⟩
  have:Yt (.list ((ws.map (·.2)).map a6g))=Zt ((ws.map (·.2)).map a6g)+1:=by first | rfl | simp [Yt,Gi]
  rw [this]
  exact decide_eq_true ‹om›
 ·have:Xu (.list ((ws.map (·.2)).map a6g)) (.list [])=decide (ws=[]):=by
   cases ws with
   | nil=>rfl
   | cons p ws=>rfl
  rw [this];exact q
theorem a1V.zip {H:Hp}:∀{xs:List V} {rs:List Rw},a1V H xs rs→(∀r∈rs,a1E r)→∃zr:List (V×Rw),zr.map (·.1)=xs∧zr.map (·.2)=rs∧∀p∈zr,a5F H p.1 p.2∧a1E p.2
 | [],[],_,_=>⟨[],rfl,rfl,fun _ h=>by cases h⟩
 | [],_::_,h,_=>by have:=h.len;simp at this
 | _::_,[],h,_=>by have:=h.len;simp at this
 | x::xs,r::rs,h,ho=>by
  have h':a1V H xs rs:=⟨by have:=h.len;simpa using this,fun i r e=>h.get (i+1) r e⟩
  obtain ⟨zr,e1,e2,hz⟩:=a1V.zip h' fun r hr=>ho r (Qt _ hr)
  obtain ⟨x',ex,hx⟩:=h.get 0 r rfl
  cases ex
  refine ⟨(x,r)::zr,by rw [Xk,e1],by rw [Xk,e2],fun p hp=>?_⟩
  rcases Qw.mp hp with z | z
  ·rw [z];exact ⟨hx,ho r Qq⟩
  ·exact hz p z
theorem a2R {K:Qe} {β:Type} (At:Hp→V→β→Prop) (d0:β) {a:Addr} {js:List (Option Nat)} {tt:TT} {te:TE} {σ:St} {H:Hp} {Q:VK} (ws:List (V×β)) (hW:H a=some (.lst (ws.map (·.1)))) (hl:ws.length≤1000) (hz:∀H',a0h H H'→∀p∈ws,At H' p.1 p.2) (σr:St) (hσ:a1H js σ=none::σr) (P:β→Bool) (g:V×β→V)
  (hs:∀(x:V) (b:β) H' (R:Bool→Hp→Prop),At H' x b→a0h H H'→(∀H'',a0h H' H''→R (P b) H'')→tt (some x::σr) H' R)
  (he:∀(x:V) (b:β) H' (R:V→Hp→Prop),At H' x b→a0h H H'→(∀H'',a0h H' H''→R (g (x,b)) H'')→te (some x::σr) H' R)
  (hd:∀D H',H D=none→a0h H H'→H' D=some (.lst ((ws.filter fun p=>P p.2).map g))→Q (.ref D) H'):a4g (Itl K a) js (a0l 0) tt te σ H Q:=by
 let d1:V×β:=(.non,d0)
 refine a3G (a2q (xs:=ws.map (·.1))) (Qi (show (ws.map (·.1)).length≤1000 by simpa using hl) ‹dc›) σr hσ (fun i=>P ((ws[i]?).getD d1).2) (fun i=>g ((ws[i]?).getD d1)) (fun H' s=>SqL.of (s _ _ hW)) (fun i H' R hi s hR=>?_) (fun i H' R hi s hR=>?_) (fun D H' hD s h=>?_)
 ·have hi':i < ws.length:=by simpa using hi
  have e2:((ws.map (·.1))[i]?).getD .non=ws[i].1:=by rw [Ql,Qc hi'];rfl
  rw [e2]
  rw [Qc hi',Xh] at hR
  exact hs _ _ H' R (hz _ s _ (Xa hi')) s hR
 ·have hi':i < ws.length:=by simpa using hi
  have e2:((ws.map (·.1))[i]?).getD .non=ws[i].1:=by rw [Ql,Qc hi'];rfl
  rw [e2]
  rw [Qc hi',Xh] at hR
  exact he _ _ H' R (hz _ s _ (Xa hi')) s hR
 ·rw [show (ws.map (·.1)).length=ws.length by simp,a1f d1 (fun p:V×β=>P p.2) g ws] at h
  exact hd D H' hD s h
def gfl (io bh pr:Addr):List (Str×V):=a1B "pairs" (.ref pr) (a1B "by_head" (.ref bh) (a1B "in_order" (.ref io) []))
theorem b4Z (io bh pr:Addr):(gfl io bh pr).lookup ("in_order":Str)=some (.ref io):=by
 unfold gfl;rw [a0g,if_neg ‹dk›,a0g,if_neg ‹dk›,a0g,if_pos rfl]
theorem b9V (io bh pr:Addr):(gfl io bh pr).lookup ("by_head":Str)=some (.ref bh):=by
 unfold gfl;rw [a0g,if_neg ‹dk›,a0g,if_pos rfl]
theorem a2C (io bh pr:Addr) {m:Str} (h1:¬m="pairs") (h2:¬m="by_head") (h3:¬m="in_order"):(gfl io bh pr).lookup m=none:=by
 unfold gfl;rw [a0g,if_neg h1,a0g,if_neg h2,a0g,if_neg h3];rfl
def hdF (rs:List Rw) (h:Str):List Rw:=rs.filter fun r=>decide (r.2.2.1=h)
def c2G (t:Adr) (H:Hp) (kvs:List (Key×V)) (rs:List Rw):Prop:=∀h:Str,(a0T kvs (Sum.inr h:Key)=none∧hdF rs h=[])∨∃L ys,a0T kvs (Sum.inr h:Key)=some (.ref L)∧H L=some (.lst ys)∧a1S t H ys (hdF rs h)
theorem c2G.same {t:Adr} {H H':Hp} {kvs:List (Key×V)} {rs:List Rw} (s:a0h H H') (h:c2G t H kvs rs):c2G t H' kvs rs:=fun x=>(h x).imp id fun ⟨L,ys,a,b,c⟩=>⟨L,ys,a,s _ _ b,c.same s⟩
def c3n (kvs:List (List Key×V)) (pl:List (Str×Str)):Prop:=∀a b:Str,a0T kvs [Sum.inr a,Sum.inr b]=if (a,b)∈pl then some (V.bl true) else none
def a3R (t:Adr) (H:Hp) (g:Addr) (rs:List Rw) (pl:List (Str×Str)):Prop:=∃dx io bh pr xs kvs kps,H g=some (.ins t.C_Ground dx (gfl io bh pr))∧H io=some (.tup xs)∧a1S t H xs rs∧H bh=some (.dK kvs)∧c2G t H kvs rs∧H pr=some (.dT kps)∧c3n kps pl
theorem a3R.same {t:Adr} {H H':Hp} {g:Addr} {rs:List Rw} {pl:List (Str×Str)} (s:a0h H H') (h:a3R t H g rs pl):a3R t H' g rs pl:=let ⟨dx,io,bh,pr,xs,kvs,kps,a,b,c,d,e,f,k⟩:=h;⟨dx,io,bh,pr,xs,kvs,kps,s _ _ a,s _ _ b,c.same s,s _ _ d,e.same s,s _ _ f,k⟩
theorem a1S.refs {t:Adr} {H H':Hp} {xs:List V} {rs:List Rw} (h:a1S t H xs rs) {x dx:Addr} {C:Addr} (hx:H x=some (.ins C dx [])) (k:∀c o,H c=some o→c≠x→H' c=some o):a1S t H' xs rs:=⟨h.len,fun i r e=>by
 obtain ⟨v,a,p,rfl,dx',t0,h1,h2⟩:=h.get i r e
 have hp:p≠x:=fun z=>by
  rw [z,hx] at h1
  injection h1 with h1
  injection h1 with _ _ h3
  have:=a1v (.str r.2.1) (.str r.2.2.1) t0
  rw [←h3] at this;cases this
 have ht:t0≠x:=a0u h2 hx ‹iz›
 exact ⟨_,a,p,rfl,dx',t0,k _ _ h1 hp,k _ _ h2 ht⟩⟩
theorem b5i (io bh pr:Addr):(gfl io bh pr).lookup ("pairs":Str)=some (.ref pr):=by
 unfold gfl;rw [a0g,if_pos rfl]
theorem a0y.same {H H':Hp} {xs:List V} {pl:List (Str×Str)} (s:a0h H H') (h:a0y H xs pl):a0y H' xs pl:=let ⟨as,a,b,c⟩:=h;⟨as,a,b,fun i x p e1 e2=>s _ _ (c i x p e1 e2)⟩
def c1k (t:Adr):Sp:=fun vs H Q _=>∃(x dx b pb:Addr) (xs:List V) (rs:List Rw) (ps:List V) (pl:List (Str×Str)),vs=[.ref x,.ref b,.ref pb]∧H x=some (.ins t.C_Ground dx [])∧H b=some (.lst xs)∧a1S t H xs rs∧(∀r∈rs,a1E r)∧rs.length≤126∧H pb=some (.lst ps)∧a0y H ps pl∧pl.length≤200∧
 ∀H',(∀c o,H c=some o→c≠x→H' c=some o)→a3R t H' x rs pl→Q .non H'
def a9q (t:Adr):Sp:=fun vs H Q _=>∃(g:Addr) (h:Str) (rs:List Rw) (pl:List (Str×Str)),vs=[.ref g,.str h]∧a3R t H g rs pl∧∀D ys H',a0h H H'→H D=none→H' D=some (.lst ys)→a1S t H' ys (hdF rs h)→Q (.ref D) H'
def b6k:Sp:=fun vs H Q _=>∃z:Str,vs=[.str z]∧z.length≤100∧Q (.str (a0D z)) H
def a3a (b S:List Str):Bool:=b.any fun q=>decide (q∈S)
def spk (r:Rw):Bool:=decide (r.1 < 3)
def btn (pl:List (Str×Str)) (bs:List Rw) (r:Rw):Bool:=bs.any fun b=>decide ((b.2.1,r.2.1)∈pl)
def a2p (rs:List Rw) (U:List Str) (q:Str):List Rw:=((hdF rs q).filter spk).filter fun r=>a3i r.2.2.2 U
def unf (rs:List Rw) (D:List Str) (q:Str):List Rw:=((hdF rs q).filter spk).filter fun r=>!a3a r.2.2.2 D
def a1Y (rs:List Rw) (pl:List (Str×Str)) (S U D:List Str) (q:Str):Bool:=if q∈S then true else if a2p rs U q=[]∨a0D q∈S then false else (hdF rs (a0D q)).all fun r=>a3a r.2.2.2 D || btn pl (a2p rs U q) r
def a6Y (rs:List Rw) (pl:List (Str×Str)) (S U D:List Str) (q:Str):Bool:=if q∈S then false else if unf rs D q=[]∨a0D q∈S then true else (hdF rs (a0D q)).any fun r=>a3i r.2.2.2 U && !btn pl (unf rs D q) r
def a1F (H:Hp) (v:V) (S:List Str):Prop:=(∃a,v=.ref a∧H a=some (.lst (S.map V.str)))∨∃a kvs,v=.ref a∧H a=some (.dK kvs)∧∀x:Str,(a0T kvs (Sum.inr x:Key)).isSome=decide (x∈S)
theorem a1F.same {H H':Hp} {v:V} {S:List Str} (s:a0h H H') (h:a1F H v S):a1F H' v S:=h.imp (fun ⟨a,e,b⟩=>⟨a,e,s _ _ b⟩) fun ⟨a,k,e,b,c⟩=>⟨a,k,e,s _ _ b,c⟩
theorem b1T {K:Qe} {tl tr:TE} {σ:St} {H:Hp} {Q:VK} {v:V} {S:List Str} {x:Str} (h:a1F H v S) (hl:∀R:VK,R (.str x) H→tl σ H R) (hr:∀R:VK,R v H→tr σ H R) (q:Q (.bl (decide (x∈S))) H):b9n (a8V tl tr) (tOp (b8u K) tl tr) σ H Q:=by
 rcases h with ⟨a,rfl,ha⟩ | ⟨a,kvs,rfl,ha,hk⟩
 ·exact .inr (hl _ (hr _ (b1Y (SqL.of ha) q)))
 ·refine .inl (hl _ (hr _ ⟨a,_,rfl,a2w.k (k:=(Sum.inr x:Key)) ha,?_⟩))
  rw [hk];exact q
theorem a3N {K:Qe} {tl tr:TE} {σ:St} {H:Hp} {Q:Bool→Hp→Prop} {v:V} {S:List Str} {x:Str} (h:a1F H v S) (hl:∀R:VK,R (.str x) H→tl σ H R) (hr:∀R:VK,R v H→tr σ H R) (q:Q (decide (x∈S)) H):c0q (tB (a8V tl tr)) (a1h (tOp (b8u K) tl tr)) σ H Q:=by
 rcases h with ⟨a,rfl,ha⟩ | ⟨a,kvs,rfl,ha,hk⟩
 ·exact .inr (hl _ (hr _ (b1Y (SqL.of ha) ⟨_,rfl,q⟩)))
 ·refine .inl (hl _ (hr _ ⟨a,_,rfl,a2w.k (k:=(Sum.inr x:Key)) ha,_,rfl,?_⟩))
  rw [hk];exact q
def a7V:Sp:=fun vs H Q _=>∃(t:Addr) (v:V) (bd S:List Str),vs=[.ref t,v]∧H t=some (.tup (bd.map V.str))∧bd.length≤1000∧a1F H v S∧∀H',a0h H H'→Q (.bl (a3i bd S)) H'
def b9r:Sp:=fun vs H Q _=>∃(t:Addr) (v:V) (bd S:List Str),vs=[.ref t,v]∧H t=some (.tup (bd.map V.str))∧bd.length≤1000∧a1F H v S∧∀H',a0h H H'→Q (.bl (a3a bd S)) H'
def b6J (t:Adr):Sp:=fun vs H Q _=>∃(g x y:Addr) (rs:List Rw) (pl:List (Str×Str)) (r1 r2:Rw),vs=[.ref g,.ref x,.ref y]∧a3R t H g rs pl∧b2v t H (.ref x) r1∧b2v t H (.ref y) r2∧a1E r1∧a1E r2∧∀H',a0h H H'→Q (.bl (decide ((r1.2.1,r2.2.1)∈pl))) H'
def b4p (t:Adr):Sp:=fun vs H Q _=>∃(g x L:Addr) (rs:List Rw) (pl:List (Str×Str)) (r:Rw) (zr:List VR),vs=[.ref g,.ref x,.ref L]∧a3R t H g rs pl∧b2v t H (.ref x) r∧a1E r∧H L=some (.lst (zr.map (·.1)))∧a9G t H zr∧zr.length≤126∧∀H',a0h H H'→Q (.bl (btn pl (zr.map (·.2)) r)) H'
def a8Y (t:Adr):Sp:=fun vs H Q _=>∃(g:Addr) (h:Str) (rs:List Rw) (pl:List (Str×Str)),vs=[.ref g,.str h]∧a3R t H g rs pl∧(∀r∈rs,a1E r)∧rs.length≤126∧∀D (zr:List VR) H',a0h H H'→H D=none→H' D=some (.lst (zr.map (·.1)))→a9G t H' zr→zr.map (·.2)=(hdF rs h).filter spk→Q (.ref D) H'
def b1j (t:Adr):Sp:=fun vs H Q _=>∃(g:Addr) (h:Str) (rs:List Rw) (pl:List (Str×Str)),vs=[.ref g,.str h]∧a3R t H g rs pl∧(∀r∈rs,a1E r)∧h.length≤100∧∀D (zr:List VR) H',a0h H H'→H D=none→H' D=some (.lst (zr.map (·.1)))→a9G t H' zr→zr.map (·.2)=hdF rs (a0D h)→Q (.ref D) H'
def b0j (t:Adr) (f:List Rw→List (Str×Str)→List Str→List Str→List Str→Str→Bool):Sp:=fun vs H Q _=>∃(g:Addr) (v1 v2 v3:V) (q:Str) (rs:List Rw) (pl:List (Str×Str)) (S U D:List Str),vs=[.ref g,v1,v2,v3,.str q]∧a3R t H g rs pl∧(∀r∈rs,a1E r)∧rs.length≤126∧a1F H v1 S∧a1F H v2 U∧a1F H v3 D∧q.length≤100∧∀H',a0h H H'→Q (.bl (f rs pl S U D q)) H'
theorem a6X {kind:Nat} (h:kind < 4):b6Q kind (a1i true) (a1i true) (a1i true) (a1i false)=a1i (decide (kind < 3)):=by
 match kind,h with
 | 0,_=>rfl
 | 1,_=>rfl
 | 2,_=>rfl
 | 3,_=>rfl
theorem b2O:bootBuiltins "max"=some (.builtin "max"):=by decide+kernel
def b8v (H:Hp) (d:Addr) (rs:List Rw):Prop:=∃kvs,H d=some (.dK kvs)∧∀h:Str,(a0T kvs (Sum.inr h:Key)=none∧hdF rs h=[])∨∃L ys,a0T kvs (Sum.inr h:Key)=some (.ref L)∧H L=some (.lst ys)∧a1V H ys (hdF rs h)
theorem b8v.same {H H':Hp} {d:Addr} {rs:List Rw} (s:a0h H H') (h:b8v H d rs):b8v H' d rs:=let ⟨k,a,b⟩:=h;⟨k,s _ _ a,fun x=>(b x).imp id fun ⟨L,ys,c,d,e⟩=>⟨L,ys,c,s _ _ d,e.same s⟩⟩
def c9h:Sp:=fun vs H Q _=>∃(a:Addr) (xs:List V) (rs:List Rw),vs=[.ref a]∧H a=some (.lst xs)∧a1V H xs rs∧rs.length≤126∧∀D H',a0h H H'→H D=none→b8v H' D rs→Q (.ref D) H'
abbrev RR:=V×Rw
def b2G (H:Hp) (ws:List RR):Prop:=∀p∈ws,a5F H p.1 p.2∧a1E p.2
theorem b2G.same {H H':Hp} {ws:List RR} (s:a0h H H') (h:b2G H ws):b2G H' ws:=fun p hp=>⟨(h p hp).1.same s,(h p hp).2⟩
def DAt (H:Hp) (a:Addr) (S:List Str):Prop:=∃kvs,H a=some (.dK kvs)∧∀x:Str,(a0T kvs (Sum.inr x:Key)).isSome=decide (x∈S)
theorem DAt.same {H H':Hp} {a:Addr} {S:List Str} (s:a0h H H') (h:DAt H a S):DAt H' a S:=let ⟨k,b,c⟩:=h;⟨k,s _ _ b,c⟩
theorem DAt.some {H:Hp} {a:Addr} {S:List Str} (h:DAt H a S):a1F H (.ref a) S:=let ⟨k,b,c⟩:=h;.inr ⟨a,k,rfl,b,c⟩
theorem DAt.get {H:Hp} {a:Addr} {S:List Str} (h:DAt H a S) (x:Str):∃o,a2w H a (.str x) o∧o.isSome=decide (x∈S):=let ⟨k,b,c⟩:=h;⟨_,a2w.k (k:=(Sum.inr x:Key)) b,c x⟩
def b4v:Sp:=fun vs H Q _=>∃(v:V) (a:Addr) (r:Rw) (U:List Str),vs=[v,.ref a]∧a5F H v r∧a1E r∧DAt H a U∧∀H',a0h H H'→Q (.bl (a3i r.2.2.2 U)) H'
def b8n:Sp:=fun vs H Q _=>∃(v:V) (a:Addr) (r:Rw) (U:List Str),vs=[v,.ref a]∧a5F H v r∧a1E r∧DAt H a U∧∀H',a0h H H'→Q (.bl (a3a r.2.2.2 U)) H'
def b4e (pl:List (Str×Str)):Prop:=∀p∈pl,Xp p.1=true∧Xp p.2=true
def b1p:Sp:=fun vs H Q _=>∃(P G:Addr) (v:V) (ps:List V) (pl:List (Str×Str)) (r:Rw) (zs:List RR),vs=[.ref P,v,.ref G]∧H P=some (.lst ps)∧a0y H ps pl∧b4e pl∧a5F H v r∧a1E r∧H G=some (.lst (zs.map (·.1)))∧b2G H zs∧zs.length≤126∧∀H',a0h H H'→Q (.bl (btn pl (zs.map (·.2)) r)) H'
def a7t (f:List Rw→List (Str×Str)→List Str→List Str→List Str→Str→Bool):Sp:=fun vs H Q _=>∃(B P a1 a2 a3:Addr) (q:Str) (rs:List Rw) (ps:List V) (pl:List (Str×Str)) (S U D:List Str),vs=[.ref B,.ref P,.ref a1,.ref a2,.ref a3,.str q]∧b8v H B rs∧(∀r∈rs,a1E r)∧rs.length≤126∧H P=some (.lst ps)∧a0y H ps pl∧b4e pl∧DAt H a1 S∧DAt H a2 U∧DAt H a3 D∧q.length≤100∧∀H',a0h H H'→Q (.bl (f rs pl S U D q)) H'
def iv (S:List Str):List (Key×V):=S.map fun x=>(Sum.inr x,V.int 0)
def b4V (H:Hp) (Q:VK):Prop:=∀(D:Addr) (ps:List V) (pl:List (Str×Str)) H',a0h H H'→H D=none→H' D=some (.lst ps)→a0y H' ps pl→pl.length≤200→b4e pl→Q (.ref D) H'
def b7u:Sp:=fun vs H Q _=>∃(c m:Int),vs=[.int c,.int m]∧(0≤m∧m≤30)∧b4V H Q
def b3P (K:Qe):Sp:=fun vs H Q _=>∃(a:Addr) (ns:List Int),vs=[.ref a]∧SqL K H a (ns.map V.int)∧ns.length≤63∧b4V H Q
theorem a5K {H:Hp} {xs:List V} {pl:List (Str×Str)} {a:Addr} {p:Str×Str} (h:a0y H xs pl) (ha:H a=some (.tup [.str p.1,.str p.2])):a0y H (xs++[.ref a]) (pl++[p]):=by
 obtain ⟨as,rfl,hl,hat⟩:=h
 refine ⟨as++[a],by rw [Xe];rfl,by simp [hl],fun i b q e1 e2=>?_⟩
 by_cases hi:i < as.length
 ·rw [Yi hi] at e1
  rw [Yi ‹om›] at e2
  exact hat i b q e1 e2
 ·have hi2:=(Qn.mp e1).1
  have ei:i=as.length:=by simp at hi2;omega
  subst ei
  rw [Yg (Qj _),Uu] at e1
  rw [Yg ‹om›,hl,Uu] at e2
  cases e1;cases e2;exact ha
theorem a5I {H H':Hp} {xs:List V} {pl:List (Str×Str)} {D:Addr} (h:a0y H xs pl) (hD:∃ys,H D=some (.lst ys)) (up:∀b o,b≠D→H b=some o→H' b=some o):a0y H' xs pl:=by
 obtain ⟨as,e,hl,hat⟩:=h
 obtain ⟨ys,hD⟩:=hD
 refine ⟨as,e,hl,fun i b q e1 e2=>?_⟩
 have:=hat i b q e1 e2
 exact up _ _ (a0u this hD ‹iz›) this
theorem a8b {H:Hp} {B N:Addr} {rs:List Rw} (h:b8v H B rs) (hN:H N=some (.lst [])) (hO:∀r∈rs,a1E r) (q:Str):IsD H B∧∃o,a2w H B (.str q) o∧∃(L:Addr) (zr:List RR),o.getD (.ref N)=.ref L∧H L=some (.lst (zr.map (·.1)))∧b2G H zr∧zr.map (·.2)=hdF rs q:=by
 obtain ⟨kvs,hk,hh⟩:=h
 refine ⟨a2B hk,_,a2w.k (k:=(Sum.inr q:Key)) hk,?_⟩
 rcases hh q with ⟨e,g⟩ | ⟨L,ys,e,g2,g3⟩
 ·rw [e];exact ⟨N,[],rfl,hN,(fun _ h=>by cases h),g.symm⟩
 ·rw [e]
  obtain ⟨zr,ez1,ez2,hz⟩:=g3.zip (fun r hr=>hO r (Qs.mp hr).1)
  subst ez1
  exact ⟨L,zr,rfl,g2,hz,ez2⟩
theorem a7N {r:Rw} (h:r.1 < 4) (c:¬a2h r.1="block"):spk r=true:=by
 unfold spk
 obtain ⟨n,x⟩:=r
 match n,h with
 | 0,_=>rfl
 | 1,_=>rfl
 | 2,_=>rfl
 | 3,_=>exact absurd rfl c
theorem a8p {r:Rw} (h:r.1 < 4) (c:¬¬a2h r.1="block"):spk r=false:=by
 unfold spk
 obtain ⟨n,x⟩:=r
 match n,h with
 | 0,_=>exact absurd (show ¬a2h 0="block" by decide+kernel) c
 | 1,_=>exact absurd (show ¬a2h 1="block" by decide+kernel) c
 | 2,_=>exact absurd (show ¬a2h 2="block" by decide+kernel) c
 | 3,_=>rfl
theorem b4K {β:Type} {P R:β→Bool} {l:List β}:decide ((l.filter fun p=>!P p).filter (fun p=>!R p)=[])=l.all fun p=>P p || R p:=by
 rw [Xn,decide_eq_true_eq,Jh,Jf,Zm]
 refine forall_congr' fun p=>forall_congr' fun _=>?_
 cases P p<;>cases R p<;>simp
theorem b3s {β:Type} {P R:β→Bool} {l:List β}:(!decide ((l.filter fun p=>P p).filter (fun p=>!R p)=[]))=l.any fun p=>P p && !R p:=by
 rw [Xn,Ye,decide_eq_false_iff_not,Jh,Jf,Yx]
 constructor
 ·intro h
  cases Classical.em (∃x∈l,(P x && !R x)=true) with
  | inl z=>exact z
  | inr z=>exact absurd (fun p hp hh=>z ⟨p,hp,by rw [Uk];exact hh⟩) h
 ·rintro ⟨x,hx,e⟩ h
  exact h x hx (by rw [Uk];exact e)
def b3I (H:Hp) (v:V) (S:List Str):Prop:=(∃a,v=.ref a∧H a=some (.lst (S.map V.str)))∨∃a,v=.ref a∧H a=some (.dK (iv S))
theorem b7P (S:List Str) (x:Str):(a0T (iv S) (Sum.inr x:Key)).isSome=decide (x∈S):=by
 induction S with
 | nil=>rfl
 | cons y S ih=>
  rw [show iv (y::S)=(Sum.inr y,V.int 0)::iv S from rfl]
  by_cases e:y=x
  ·rw [a0I (by rw [e]),decide_eq_true (by rw [e];exact Qq)];rfl
  ·rw [a0x (fun z=>e (Sum.inr.inj z)),ih,Xn,decide_eq_true_eq,decide_eq_true_eq,Qw]
   exact ⟨.inr,fun z=>z.elim (fun w=>absurd w.symm e) id⟩
theorem b3I.some {H:Hp} {v:V} {S:List Str} (h:b3I H v S):a1F H v S:=h.imp id fun ⟨a,e,b⟩=>⟨a,_,e,b,b7P S⟩
theorem b3I.list {K:Qe} {H:Hp} {v:V} {S:List Str} {Q:VK} (h:b3I H v S) (q:∀l,H l=none→Q (.ref l) (upd H l (.lst (S.map V.str)))):b1a K [v] H Q:=by
 rcases h with ⟨a,rfl,ha⟩ | ⟨a,rfl,ha⟩
 ·exact .inl ⟨a,_,rfl,.inl (SqL.of ha),q⟩
 ·refine .inr ⟨a,_,rfl,.inl ha,fun l hl=>?_⟩
  rw [show ((iv S).map fun kv=>kV kv.1)=S.map V.str from by unfold iv;rw [Xf];rfl]
  exact q l hl
theorem b3J:∀(zs ys:List Str),Xu (.list (zs.map Yj)) (.list (ys.map Yj))=decide (zs=ys):=by
 have all:∀(zs ys:List Str),Jr (zs.map Yj) (ys.map Yj)=decide (zs=ys):=by
  intro zs
  induction zs with
  | nil=>intro ys;cases ys<;>rfl
  | cons z zs ih=>
   intro ys
   cases ys with
   | nil=>rfl
   | cons y ys=>
    have e:Jr ((z::zs).map Yj) ((y::ys).map Yj)=(Xu (.str z) (.str y) && Jr (zs.map Yj) (ys.map Yj)):=rfl
    have e2:Xu (.str z) (.str y)=decide (z=y):=by first | rfl | simp [Xu]
    rw [e,e2,ih]
    by_cases h1:z=y
    ·by_cases h2:zs=ys
     ·simp [h1,h2]
     ·simp [h1,h2]
    ·simp [h1]
 intro zs ys
 have e:Xu (.list (zs.map Yj)) (.list (ys.map Yj))=Jr (zs.map Yj) (ys.map Yj):=by first | rfl | simp [Xu]
 rw [e];exact all zs ys
theorem b4o {K:Qe} {H:Hp} {Q:VK} {a b:Addr} {zs ys:List Str} (ha:SqL K H a (zs.map V.str)) (hb:SqL K H b (ys.map V.str)) (ho:∀z∈zs,Xp z=true) (ho':∀z∈ys,Xp z=true) (q:Q (.bl (!decide (zs=ys))) H):b5Y K (.ref a) (.ref b) H Q:=
 .inr ⟨_,_,.lst ha (a3v zs),.lst hb (a3v ys),a5x ho,a5x ho',by rw [b3J];exact q⟩
def b1d (t:Adr):Sp:=fun vs H Q _=>∃(g:Addr) (rs:List Rw) (pl:List (Str×Str)),vs=[.ref g]∧a3R t H g rs pl∧∀D xs H',a0h H H'→H D=none→H' D=some (.lst xs)→a1S t H' xs rs→Q (.ref D) H'
theorem a5G {rs:List (SR Str)}:∀n x,x∈sS rs [] n→∃b,(true,x,b)∈rs
 | 0,x,h=>by cases h
 | n+1,x,h=>by
  rcases a3h.mp h with z | z
  ·exact a5G n x z
  ·obtain ⟨_,b,hr,_⟩:=a2r.mp z
   exact ⟨b,hr⟩
theorem b1S (rs:List Rw):(FIN (rs.map srW) []).length≤rs.length:=by
 have:=b0r (rs:=rs.map srW) (kn:=[]) (by simp) (rs.map srW).length
 show (sR (rs.map srW) [] (rs.map srW).length).length≤rs.length
 simpa using this
theorem b5X {rs:List Rw} {po:List Str} (h:∀r∈rs,r.2.2.1∈po):(FIN (rs.map srW) []).length≤po.length:=by
 have h2:=a1s (m:=po) (a1N (rs.map srW) []) fun x hx=>by
  obtain ⟨b,hb⟩:=a5G _ x ((b0Z x).mp hx)
  obtain ⟨r,hr,e⟩:=Qk.mp hb
  have e2:r.2.2.1=x:=congrArg (fun z:SR Str=>z.2.1) e
  rw [←e2];exact h r hr
 rw [Qd] at h2;exact h2
theorem b6D (F:List (Str×Nat)):(dv F).map (·.1)=(F.map (·.1)).map Sum.inr:=by unfold dv;rw [Xf,Xf];rfl
theorem b9J {a b:V}:atI [a,b] 1=some b:=rfl
def gF (RS:List (SR Str)) (x:Str):Int:=(((lk (FIN RS []) x).getD 0:Nat):Int)
def a4p (RS:List (SR Str)) (l:List Str):Prop:=l.Perm ((FIN RS []).map (·.1))∧l.Pairwise (fun x y=>ltG (gF RS) x y=true)
theorem b5E {A B:List (Str×Nat)} (ha:(A.map (·.1)).Nodup) (hx:∀x,lk A x=lk B x) (x:Str) (hm:x∈A.map (·.1)):x∈B.map (·.1):=by
 obtain ⟨p,hp,rfl⟩:=Qk.mp hm
 have e:=a7k ha hp
 rw [hx] at e
 exact Qk.mpr ⟨_,b1A e,rfl⟩
theorem b4H {RS RS':List (SR Str)} {l m:List Str} (hr:∀r,r∈RS↔r∈RS') (hl:RS.length=RS'.length) (h:a4p RS l) (h':a4p RS' m):l=m:=by
 have hk:=b3r (kn:=[]) (kn':=[]) hr (fun _=>Iff.rfl) hl
 have hg:gF RS=gF RS':=funext fun x=>by unfold gF;rw [hk]
 have hp:=(List.perm_ext_iff_of_nodup (a1N RS []) (a1N RS' [])).mpr fun x=>⟨b5E (a1N _ _) hk x,b5E (a1N _ _) (fun y=>(hk y).symm) x⟩
 refine b9T (lt:=ltG (gF RS)) (fun x y a b=>b4x a b) (h.1.trans (hp.trans h'.1.symm)) h.2 ?_
 rw [hg];exact h'.2
theorem b7J {rs:List Rw} {l:List Str} (h:a4p (rs.map srW) l):l.length≤rs.length:=by
 have:=h.1.length_eq
 rw [Qd] at this
 rw [this];exact b1S rs
theorem b0l {RS:List (SR Str)} {ps:List (Int×Str)} (hp:ps.Perm ((FIN RS []).map fun p=>((p.2:Int),p.1))) (hs:ps.Pairwise (fun x y=>ltP x y=true)):a4p RS (ps.map (·.2)):=by
 refine ⟨?_,?_⟩
 ·have:=hp.map (·.2)
  rw [Xf] at this
  exact this
 ·rw [Jt]
  have hg:∀x∈ps,x=(gF RS x.2,x.2):=fun x hx=>by
   obtain ⟨p,hp',rfl⟩:=Qk.mp (hp.mem_iff.mp hx)
   unfold gF
   show ((p.2:Int),p.1)=((((lk (FIN RS []) p.1).getD 0:Nat):Int),p.1)
   rw [a7k (a1N RS []) hp'];rfl
  refine hs.imp_of_mem fun {x y} hx hy h=>?_
  rw [hg x hx,hg y hy] at h
  exact h
def b3g (T:Addr) (H:Hp):Hp:=fun a=>if a=T then none else H a
theorem a0G {T x:Addr} {H:Hp} {o:HO} {ps:Array Value} (hT:H T=some (.tbl ps)) (h:H x=some o) (n:∀ps,o≠.tbl ps):b3g T H x=some o:=by
 unfold b3g
 rw [if_neg (fun z=>by rw [z,hT] at h;cases h;exact n _ rfl)]
 exact h
theorem a3S {T:Addr} {H H':Hp} (k:∀a o,a≠T→H a=some o→H' a=some o):a0h (b3g T H) H':=fun a o e=>by
 unfold b3g at e
 by_cases z:a=T
 ·rw [if_pos z] at e;cases e
 ·rw [if_neg z] at e;exact k a o z e
section
variable {T:Addr} {H:Hp} {pt:Array Value} (hT:H T=some (.tbl pt))
include hT
theorem b6S {K:Qe} {a:Addr} {xs:List V} (h:SqL K H a xs):SqL K (b3g T H) a xs:=by
 rcases h with (h | ⟨o,h⟩) | h
 ·exact .inl (.inl (a0G hT h ‹nz›))
 ·exact .inl (.inr ⟨o,a0G hT h ‹nz›⟩)
 ·exact .inr h
theorem b5h {xs:List V} {rs:List Rw} (h:a1V H xs rs):a1V (b3g T H) xs rs:=⟨h.len,fun i r e=>let ⟨x,a,p,t,b,c,d⟩:=h.get i r e;⟨x,a,p,t,b,a0G hT c ‹nz›,a0G hT d ‹nz›⟩⟩
theorem b5o {t:Adr} {xs:List V} {rs:List Rw} (h:a1S t H xs rs):a1S t (b3g T H) xs rs:=⟨h.len,fun i r e=>let ⟨x,a,p,b,d,t0,c,f⟩:=h.get i r e;⟨x,a,p,b,d,t0,a0G hT c ‹nz›,a0G hT f ‹nz›⟩⟩
theorem b7U {xs:List V} {pl:List (Str×Str)} (h:a0y H xs pl):a0y (b3g T H) xs pl:=let ⟨as,a,b,c⟩:=h;⟨as,a,b,fun i x p e1 e2=>a0G hT (c i x p e1 e2) ‹nz›⟩
theorem c0s {t:Adr} {g:Addr} {rs:List Rw} {pl:List (Str×Str)} (h:a3R t H g rs pl):a3R t (b3g T H) g rs pl:=by
 obtain ⟨dx,io,bh,pr,xs,kvs,kps,a,b,c,d,e,f,k⟩:=h
 refine ⟨dx,io,bh,pr,xs,kvs,kps,a0G hT a ‹nz›,a0G hT b ‹nz›,b5o hT c,a0G hT d ‹nz›,fun h=>?_,a0G hT f ‹nz›,k⟩
 rcases e h with z | ⟨L,ys,z1,z2,z3⟩
 ·exact .inl z
 ·exact .inr ⟨L,ys,z1,a0G hT z2 ‹nz›,b5o hT z3⟩
end
theorem b9D {t:Adr} {T:Addr} {q:Str} {H H':Hp} {g:Addr} {rs:List Rw} {pl:List (Str×Str)} (lt:a3Q T q H) (k:∀a o,a≠T→H a=some o→H' a=some o) (h:a3R t H g rs pl):a3R t H' g rs pl:=by
 obtain ⟨pt,hT,_⟩:=lt
 exact (c0s hT h).same (a3S k)
theorem a7F {T:Addr} {q:Str} {H H':Hp} {x:Addr} {o:HO} (lt:a3Q T q H) (k:∀a o,a≠T→H a=some o→H' a=some o) (h:H x=some o) (n:∀ps,o≠.tbl ps):H' x=some o:=by
 obtain ⟨pt,hT,_⟩:=lt
 exact a3S k _ _ (a0G hT h n)
def b6m (t:Adr):Sp:=fun vs H Q _=>∃(g:Addr) (rs:List Rw) (pl:List (Str×Str)) (po:List Str),vs=[.ref g]∧a3R t H g rs pl∧(∀r∈rs,a1E r)∧rs.length≤126∧(∀r∈rs,r.2.2.1∈po)∧po.length≤63∧a3Q t.TB_z0u a1K H∧
 ∀l ss H',a3Q t.TB_z0u a1K H'→(∀a o,a≠t.TB_z0u→H a=some o→H' a=some o)→H l=none→H' l=some (.lst (ss.map V.str))→a4p (rs.map srW) ss→Q (.ref l) H'
theorem a3c {K:Qe}:Yc K (.type "list") (.type "list")=some true:=rfl
theorem b0y {t:Adr} {H:Hp} {R:Addr→Hp→Prop} {E:XK} {L Pr:Addr} {zs ps:List V} {rs:List Rw} {pl:List (Str×Str)} (hL:H L=some (.lst zs)) (hU:a1S t H zs rs) (hO:∀r∈rs,a1E r) (hl:rs.length≤126) (hP:H Pr=some (.lst ps)) (hQ:a0y H ps pl) (hp:pl.length≤200)
  (q:∀g H',a0h H H'→H g=none→a3R t H' g rs pl→R g H'):∀x dx,H x=none→H dx=none→dx≠x→c1k t [.ref x,.ref L,.ref Pr] (upd (upd H dx (.own x)) x (.ins t.C_Ground dx [])) (fun v H2=>v=.non∧R x H2) E:=by
 intro g dx ng ndx ne
 obtain ⟨H4,e4,s4,h4⟩:∃H4,upd (upd H dx (.own g)) g (.ins t.C_Ground dx [])=H4∧a0h H H4∧H4 g=some (.ins t.C_Ground dx []):=⟨_,rfl,fun c o e=>by rw [a0a (a0b e ng),a0a (a0b e ndx)];exact e,a0d⟩
 rw [e4]
 exact ⟨g,dx,L,Pr,zs,rs,ps,pl,rfl,h4,s4 _ _ hL,hU.same s4,hO,hl,s4 _ _ hP,a0y.same s4 hQ,hp,fun H5 k5 hG5=>⟨rfl,q g H5 (fun c o e=>k5 c o (s4 _ _ e) (a0b e ng)) ng hG5⟩⟩
/-! ### rounds -/
def stt (rs:List Rw) (pl:List (Str×Str)) (S U D:List Str) (q:Str):Option Bool:=if a1Y rs pl S U D q=true then some true else if a6Y rs pl S U D q=true then some false else none
def tch (rs:List Rw) (came:List Str) (q:Str):Prop:=∃r∈rs,(∃p∈r.2.2.2,p∈came)∧(q=r.2.2.1∨q=a0D r.2.2.1)
def Ext (U came U':List Str):Prop:=∀x,x∉came→(x∈U'↔x∈U)
theorem a7T {b U U' came:List Str} (h:Ext U came U') (hb:∀p∈b,p∉came):a3i b U'=a3i b U:=by
 unfold a3i
 rw [Xn,Zm,Zm]
 exact ⟨fun z p hp=>decide_eq_true ((h p (hb p hp)).mp (of_decide_eq_true (z p hp))),fun z p hp=>decide_eq_true ((h p (hb p hp)).mpr (of_decide_eq_true (z p hp)))⟩
theorem a8C {b U U' came:List Str} (h:Ext U came U') (hb:∀p∈b,p∉came):a3a b U'=a3a b U:=by
 unfold a3a
 rw [Xn,Yx,Yx]
 exact ⟨fun ⟨p,hp,z⟩=>⟨p,hp,decide_eq_true ((h p (hb p hp)).mp (of_decide_eq_true z))⟩,fun ⟨p,hp,z⟩=>⟨p,hp,decide_eq_true ((h p (hb p hp)).mpr (of_decide_eq_true z))⟩⟩
theorem b1f {rs:List Rw} {pl:List (Str×Str)} {S U U' D D' came:List Str} {q:Str} (hU:Ext U came U') (hD:Ext D came D') (ho:a0D (a0D q)=q) (hn:¬tch rs came q):stt rs pl S U' D' q=stt rs pl S U D q:=by
 have h1:∀r∈hdF rs q,∀p∈r.2.2.2,p∉came:=fun r hr p hp hc=>by
  have:=Qs.mp hr
  exact hn ⟨r,this.1,⟨p,hp,hc⟩,.inl (of_decide_eq_true this.2).symm⟩
 have h2:∀r∈hdF rs (a0D q),∀p∈r.2.2.2,p∉came:=fun r hr p hp hc=>by
  have:=Qs.mp hr
  exact hn ⟨r,this.1,⟨p,hp,hc⟩,.inr (by rw [of_decide_eq_true this.2,ho])⟩
 have e1:a2p rs U' q=a2p rs U q:=by
  unfold a2p
  exact Jk fun r hr=>a7T hU (h1 r (Qs.mp hr).1)
 have e2:unf rs D' q=unf rs D q:=by
  unfold unf
  exact Jk fun r hr=>by rw [a8C hD (h1 r (Qs.mp hr).1)]
 have all_congr:∀(l:List Rw) (f g:Rw→Bool),(∀r∈l,f r=g r)→l.all f=l.all g:=fun l f g h=>by
  induction l with
  | nil=>rfl
  | cons a l ih=>rw [Vh,Vh,h a Qq,ih fun r hr=>h r (Qt _ hr)]
 have any_congr:∀(l:List Rw) (f g:Rw→Bool),(∀r∈l,f r=g r)→l.any f=l.any g:=fun l f g h=>by
  induction l with
  | nil=>rfl
  | cons a l ih=>rw [Jq,Jq,h a Qq,ih fun r hr=>h r (Qt _ hr)]
 have e3:a1Y rs pl S U' D' q=a1Y rs pl S U D q:=by
  unfold a1Y
  rw [e1,all_congr _ _ (fun r=>a3a r.2.2.2 D || btn pl (a2p rs U q) r) fun r hr=>by rw [a8C hD (h2 r hr)]]
 have e4:a6Y rs pl S U' D' q=a6Y rs pl S U D q:=by
  unfold a6Y
  rw [e2,any_congr _ _ (fun r=>a3i r.2.2.2 U && !btn pl (unf rs D q) r) fun r hr=>by rw [a7T hU (h2 r hr)]]
 unfold stt
 rw [e3,e4]
structure RdS where
 T:List (Str×Bool×Nat)
 U:List Str
 D:List Str
def fresh (rs:List Rw) (pl:List (Str×Str)) (S some:List Str) (s:RdS):List (Str×Bool):=some.filterMap fun q=>if q∈s.T.map (·.1) then none else (stt rs pl S s.U s.D q).map fun w=>(q,w)
def ups (F:List (Str×Bool)):List Str:=(F.filter (·.2)).map (·.1)
def a1j (F:List (Str×Bool)):List Str:=(F.filter fun p=>!p.2).map (·.1)
def next (n:Nat) (s:RdS) (F:List (Str×Bool)):RdS:=⟨s.T++F.map fun p=>(p.1,p.2,n),s.U++ups F,s.D++a1j F⟩
def rds (rs:List Rw) (pl:List (Str×Str)) (S some U D:List Str):Nat→RdS
 | 0=>⟨[],U,D⟩
 | n+1=>next (n+1) (rds rs pl S some U D n) (fresh rs pl S some (rds rs pl S some U D n))
theorem a0P {rs:List Rw} {pl:List (Str×Str)} {S some:List Str} {s:RdS} {q:Str} {w:Bool}:(q,w)∈fresh rs pl S some s↔q∈some∧q∉s.T.map (·.1)∧stt rs pl S s.U s.D q=Option.some w:=by
 unfold fresh
 rw [Uf]
 constructor
 ·rintro ⟨x,hx,e⟩
  split at e
  ·cases e
  ·rename_i hn
   obtain ⟨y,hy,e⟩:=Js.mp e
   cases e
   exact ⟨hx,hn,hy⟩
 ·rintro ⟨h1,h2,h3⟩
  exact ⟨q,h1,by rw [if_neg h2,h3];rfl⟩
theorem a2X {F:List (Str×Bool)} {q:Str}:q∈ups F↔(q,true)∈F:=by
 unfold ups
 rw [Qk]
 constructor
 ·rintro ⟨⟨x,b⟩,h,rfl⟩
  have:=Qs.mp h
  have hb:b=true:=this.2
  subst hb;exact this.1
 ·exact fun h=>⟨_,Qs.mpr ⟨h,rfl⟩,rfl⟩
theorem a1Z {F:List (Str×Bool)} {q:Str}:q∈a1j F↔(q,false)∈F:=by
 unfold a1j
 rw [Qk]
 constructor
 ·rintro ⟨⟨x,b⟩,h,rfl⟩
  have:=Qs.mp h
  have hb:b=false:=by simpa using this.2
  subst hb;exact this.1
 ·exact fun h=>⟨_,Qs.mpr ⟨h,rfl⟩,rfl⟩
theorem a9Q {rs:List Rw} {pl:List (Str×Str)} {S some U D:List Str} (n:Nat) {q:Str} {w:Bool} (ho:∀q∈some,a0D (a0D q)=q) (h:(q,w)∈fresh rs pl S some (rds rs pl S some U D (n+1))):tch rs ((fresh rs pl S some (rds rs pl S some U D n)).map (·.1)) q:=by
 obtain ⟨h1,h2,h3⟩:=a0P.mp h
 refine Classical.byContradiction fun hn=>?_
 have hT:q∉(rds rs pl S some U D n).T.map (·.1)∧∀w,(q,w)∉fresh rs pl S some (rds rs pl S some U D n):=by
  constructor
  ·intro z
   exact h2 (by show q∈((rds rs pl S some U D n).T++_).map _;rw [Xe];exact Zf _ z)
  ·intro w' z
   refine h2 ?_
   show q∈((rds rs pl S some U D n).T++_).map _
   rw [Xe]
   exact Xc _ (Qk.mpr ⟨_,Qk.mpr ⟨_,z,rfl⟩,rfl⟩)
 have hE:∀(F:List (Str×Bool)) (A B:List Str),(∀x∈B,x∈F.map (·.1))→Ext A (F.map (·.1)) (A++B):=fun F A B hB x hx=>by
  rw [Qv]
  exact ⟨fun z=>z.resolve_right fun y=>hx (hB x y),.inl⟩
 have e:=b1f (pl:=pl) (S:=S) (U:=(rds rs pl S some U D n).U) (D:=(rds rs pl S some U D n).D) (U':=(rds rs pl S some U D (n+1)).U) (D':=(rds rs pl S some U D (n+1)).D) (q:=q)
  (hE _ _ _ fun x hx=>Qk.mpr ⟨_,a2X.mp hx,rfl⟩) (hE _ _ _ fun x hx=>Qk.mpr ⟨_,a1Z.mp hx,rfl⟩) (ho q h1) hn
 rw [h3] at e
 exact hT.2 w (a0P.mpr ⟨h1,hT.1,e.symm⟩)
theorem a4s {rs:List Rw} {pl:List (Str×Str)} {S some U D:List Str} {n:Nat} (h:fresh rs pl S some (rds rs pl S some U D n)=[]):∀k,rds rs pl S some U D (n+k)=rds rs pl S some U D n
 | 0=>rfl
 | k+1=>by
  have ih:=a4s h k
  show next _ (rds rs pl S some U D (n+k)) (fresh rs pl S some (rds rs pl S some U D (n+k)))=_
  rw [ih,h]
  unfold next ups a1j
  simp
def b8k (TB:Addr) (K:Qe):Sp:=fun vs H Q _=>∃(a:Addr) (ns:List Int),vs=[.ref a]∧SqL K H a (ns.map V.int)∧ns.length≤63∧a3Q TB a1K H∧∀H',Q (.bl true) H'
theorem b4q {TB:Addr} {K:Qe} {H:Hp} {a:Addr} {ns:List Int} (hl:ns.length≤63) (hO:b3O TB H) (hS:SqL K H a (ns.map V.int)):b8k TB K [.ref a] H (fun v _=>v=.bl true) fun _ _ _=>False:=⟨a,ns,rfl,hS,hl,a3Q.start hO.1,fun _=>rfl⟩
/-! ### walks of lists and dicts -/
structure a2v (H:Hp) (v:V) (H0:Hp):Prop where
 keep:∀b o,H b=some o→v≠.ref b→H0 b=some o
 non:∀b,H0 b=none→H b=none
 new:∀b,H b=none→H0 b=none
theorem a2v.refl (H:Hp) (v:V):a2v H v H:=⟨fun _ _ e _=>e,fun _ e=>e,fun _ e=>e⟩
theorem a2v.frz {H:Hp} {a:Addr} {o:HO} {x:HO} (h:H a=some o):a2v H (.ref a) (upd H a x):=⟨fun b o e n=>by rw [a0a (fun z=>n (by rw [z]))];exact e,fun b e=>by
 by_cases z:b=a
 ·rw [z,a0d] at e;cases e
 ·rw [a0a z] at e;exact e,fun b e=>by rw [a0a (fun z=>by rw [z,h] at e;cases e)];exact e⟩
def a3p (H:Hp) (D:Addr) (H':Hp):Prop:=∀b o,H b=some o→b≠D→H' b=some o
theorem a3p.refl (H:Hp) (D:Addr):a3p H D H:=fun _ _ e _=>e
theorem b2z {te:TE} {g:TG} {tb:TS} {E:a8c} {σ:St} {H:Hp} {a:Addr} {kvs:List (Key×V)} {kn:List Str} (Pv:Hp→Nat→St→Hp→Prop) (hH:H a=some (.dK kvs)) (hk:kvs.map (·.1)=kn.map (Sum.inr:Str→Key)) (hte:∀R:VK,R (.ref a) H→te σ H R)
  (h0:∀o,Pv (upd H a (.frz o (.dK kvs))) 0 σ (upd H a (.frz o (.dK kvs))))
  (hp:∀o i σ' H',Pv (upd H a (.frz o (.dK kvs))) i σ' H'→H' a=some (.frz o (.dK kvs)))
  (hs:∀o i (hi:i < kn.length) σ' H' rt bk,Pv (upd H a (.frz o (.dK kvs))) i σ' H'→g (.str kn[i]) σ' H' fun σ2 H2=>tb ⟨Pv (upd H a (.frz o (.dK kvs))) (i+1),rt,bk,Pv (upd H a (.frz o (.dK kvs))) (i+1)⟩ σ2 H2)
  (hd:∀o σ' H',Pv (upd H a (.frz o (.dK kvs))) kn.length σ' H'→E.nx σ' (upd H' a (.dK kvs))):b3m (b8t (a8Q te) g tb) E σ H:=by
 have hlen:kvs.length=kn.length:=by have:=congrArg Yp hk;simpa using this
 refine ⟨a,kvs,hH,?_⟩
 rw [a0t]
 refine hte _ ⟨a,kvs,rfl,hH,fun o=>?_⟩
 refine ⟨fun i m σ' H'=>m=kn.length - i∧i≤kn.length∧Pv (upd H a (.frz o (.dK kvs))) i σ' H',⟨_,rfl,Xb _,h0 o⟩,?_⟩
 rintro i m σ' H' ⟨rfl,hi,p⟩
 have hf:=hp o i σ' H' p
 by_cases hlt:i < kn.length
 ·refine .inr ⟨⟨hf,by omega⟩,Pv (upd H a (.frz o (.dK kvs))) (i+1),fun σ2 H2 p2=>⟨kn.length - (i+1),by omega,rfl,hlt,p2⟩,?_⟩
  rintro x H2 ⟨rfl,k,v,e,rfl⟩
  have ek:k=Sum.inr kn[i]:=by
   have e1:(kvs.map (·.1))[i]?=some k:=by rw [Ql,e];rfl
   rw [hk,Ql,Qc hlt] at e1
   exact (Option.some.inj e1).symm
  rw [ek]
  exact hs o i hlt σ' _ _ _ p
 ·have ei:i=kn.length:=by omega
  subst ei
  exact .inl ⟨⟨hf,by omega⟩,o,hf,hd o σ' H' p⟩
theorem a5a {K:Qe} {te:TE} {g:TG} {tb:TS} {E:a8c} {σ:St} {H:Hp} {v:V} {kn:List Str} (Pv:Hp→Nat→St→Hp→Prop) (h:a3r K H v kn) (hte:∀R:VK,R v H→te σ H R)
  (h0:∀H0,a2v H v H0→Pv H0 0 σ H0) (hk:∀H0 i σ' H' b o,Pv H0 i σ' H'→v=.ref b→H0 b=some o→H' b=some o)
  (hs:∀H0 i (hi:i < kn.length) σ' H' rt bk,a2v H v H0→Pv H0 i σ' H'→g (.str kn[i]) σ' H' fun σ2 H2=>tb ⟨Pv H0 (i+1),rt,bk,Pv H0 (i+1)⟩ σ2 H2)
  (hd:∀H0 σ' H' H'',a2v H v H0→Pv H0 kn.length σ' H'→(∀b o,H' b=some o→v≠.ref b→H'' b=some o)→(∀b o,v=.ref b→H b=some o→H'' b=some o)→E.nx σ' H''):c4x (b3m (b8t (a8Q te) g tb)) (b8t (a1p K te) g tb) E σ H:=by
 rcases h with ⟨a,rfl,ha⟩ | ⟨a,kvs,rfl,ha,hkn⟩
 ·refine .inr ?_
  rw [a0t]
  refine hte _ ⟨a,rfl,⟨_,SqL.of ha⟩,?_⟩
  have hP:∀i σ' H',i≤(kn.map V.str).length→Pv H i σ' H'→SqL K H' a (kn.map V.str):=fun i σ' H' _ p=>by
   exact SqL.of (hk H i σ' H' a _ p rfl ha)
  refine a0S (K:=K) (a:=a) (xs:=kn.map V.str) (Pv H) (h0 H (a2v.refl _ _)) hP (fun i x σ' H' hi p=>?_) (fun σ' H' p=>?_)
  ·have hil:i < kn.length:=by simpa using (Qn.mp hi).1
   have ex:x=V.str kn[i]:=by
    rw [Ql,Qc hil] at hi
    exact (Option.some.inj hi).symm
   subst ex
   exact hs H i hil σ' H' _ _ (a2v.refl _ _) p
  ·rw [Qd] at p
   exact hd H σ' H' H' (a2v.refl _ _) p (fun _ _ e _=>e) fun b o z e=>hk H _ σ' H' b o p z e
 ·refine .inl (b2z Pv ha hkn hte (fun o=>h0 _ (a2v.frz ha)) (fun o i σ' H' p=>hk _ i σ' H' a _ p rfl a0d) (fun o i hi σ' H' rt bk p=>hs _ i hi σ' H' rt bk (a2v.frz ha) p) (fun o σ' H' p=>hd _ σ' H' _ (a2v.frz ha) p (fun b o e n=>?_) fun b o z e=>?_))
  ·rw [a0a (fun z=>n (by rw [z]))];exact e
  ·cases z;rw [a0d,←ha];exact e
theorem a3l {te:TE} {js:List (Option Nat)} {tt:TT} {σ:St} {H:Hp} {Q:VK} {a:Addr} {kvs:List (Key×V)} {kn:List Str} (hH:H a=some (.dK kvs)) (hk:kvs.map (·.1)=kn.map (Sum.inr:Str→Key)) (hl:kn.length≤1000) (hte:∀R:VK,R (.ref a) H→te σ H R) (σr:St) (hσ:a1H js σ=none::σr) (P:Str→Bool)
  (hs:∀q H0 H' (R:Bool→Hp→Prop),q∈kn→a2v H (.ref a) H0→Rd H' a (.dK kvs)→a0h H0 H'→(∀H'',a0h H' H''→R (P q) H'')→tt (some (.str q)::σr) H' R)
  (hd:∀D H',H D=none→a0h H H'→H' D=some (.lst ((kn.filter P).map V.str))→Q (.ref D) H'):b6t (b2C js (a8Q te) (a0l 0) tt (a0k 0)) σ H Q:=by
 have hlen:kvs.length=kn.length:=by have:=congrArg Yp hk;simpa using this
 refine ⟨a,kvs,hH,?_⟩
 rw [a0o]
 refine hte _ ⟨a,kvs,rfl,hH,fun o=>?_⟩
 have hO:a2v H (.ref a) (upd H a (.frz o (.dK kvs))):=a2v.frz hH
 have hf:upd H a (.frz o (.dK kvs)) a=some (.frz o (.dK kvs)):=a0d
 generalize upd H a (.frz o (.dK kvs))=H0 at hO hf
 have ef:∀i,i < kvs.length→∃hi:i < kn.length,((kvs[i]?.map fun p=>kV p.1).getD .non)=.str kn[i]:=fun i hi=>by
  have hi':i < kn.length:=by omega
  refine ⟨hi',?_⟩
  have e1:(kvs.map (·.1))[i]?=some (Sum.inr kn[i]):=by rw [hk,Ql,Qc hi'];rfl
  rw [Ql] at e1
  rw [Qc hi] at e1 ⊢
  have e2:=Option.some.inj e1
  show kV kvs[i].1=_
  rw [show kvs[i].1=Sum.inr kn[i] from e2];rfl
 refine a3G (a5s (o:=o) (a:=a) (kvs:=kvs)) (Qi (show kvs.length≤1000 by omega) ‹dc›) σr hσ (fun i=>P ((kn[i]?).getD "")) (fun i=>V.str ((kn[i]?).getD "")) (fun H' s=>s _ _ hf) (fun i H' R hi s hR=>?_) (fun i H' R hi s hR=>?_) (fun D H' hD s h=>?_)
 ·obtain ⟨hi',e⟩:=ef i hi
  rw [e]
  rw [Qc hi',Xh] at hR
  exact hs _ H0 H' R (Xa hi') hO (.inr ⟨o,s _ _ hf⟩) s hR
 ·obtain ⟨hi',e⟩:=ef i hi
  rw [e]
  rw [Qc hi',Xh] at hR
  exact ⟨_,rfl,hR _ (a0h.refl _)⟩
 ·rw [hlen,a1f ("":Str) P V.str kn] at h
  refine ⟨o,s _ _ hf,hd D _ (hO.non _ hD) (fun b u e=>?_) ?_⟩
  ·by_cases z:b=a
   ·rw [z,a0d,←hH,←z];exact e
   ·rw [a0a z];exact s _ _ (hO.keep _ _ e fun w=>z (by cases w;rfl))
  ·rw [a0a (fun z=>by rw [z,hf] at hD;cases hD)];exact h
theorem c9R {H:Hp} {a:Addr} {S:List Str} (h:H a=some (.dK (bv S))):a1F H (.ref a) S:=.inr ⟨a,_,rfl,h,fun x=>by
 rw [a2s]
 by_cases z:x∈S
 ·rw [if_pos z,decide_eq_true z];rfl
 ·rw [if_neg z,decide_eq_false z];rfl⟩
theorem a3b (S:List Str):(bv S).map (·.1)=S.map (Sum.inr:Str→Key):=by
 unfold bv;rw [Xf];rfl
theorem a9O {js:List (Option Nat)} {tt:TT} {Q':VK} {σ:St} {H H1:Hp} {a:Addr} {kvs:List (Key×V)} {kn:List Str} (hH:H1 a=some (.dK kvs)) (hk:kvs.map (·.1)=kn.map (Sum.inr:Str→Key)) (hl:kn.length≤1000) (hs1:a0h H H1) (σr:St) (hσ:a1H js σ=none::σr) (P:Str→Bool)
  (hs:∀q H0 H' (R:Bool→Hp→Prop),q∈kn→a2v H1 (.ref a) H0→a0h H0 H'→(∀H'',a0h H' H''→R (P q) H'')→tt (some (.str q)::σr) H' R)
  (hd:∀D H',H1 D=none→a0h H1 H'→H' D=some (.lst ((kn.filter P).map V.str))→Q' (.ref D) H'):∃(a':Addr) (kvs':List (Key×V)),V.ref a=.ref a'∧H1 a'=some (.dK kvs')∧∀o,a4g (Itk o a' kvs') js (a0l 0) tt (a0k 0) σ (upd H1 a' (.frz o (.dK kvs'))) fun v H'=>a6l H (Q' v) H':=by
 have hlen:kvs.length=kn.length:=by have:=congrArg Yp hk;simpa using this
 refine ⟨a,kvs,rfl,hH,fun o=>?_⟩
 have hO:a2v H1 (.ref a) (upd H1 a (.frz o (.dK kvs))):=a2v.frz hH
 have hf:upd H1 a (.frz o (.dK kvs)) a=some (.frz o (.dK kvs)):=a0d
 generalize upd H1 a (.frz o (.dK kvs))=H0 at hO hf
 have ef:∀i,i < kvs.length→∃hi:i < kn.length,((kvs[i]?.map fun p=>kV p.1).getD .non)=.str kn[i]:=fun i hi=>by
  have hi':i < kn.length:=by omega
  refine ⟨hi',?_⟩
  have e1:(kvs.map (·.1))[i]?=some (Sum.inr kn[i]):=by rw [hk,Ql,Qc hi'];rfl
  rw [Ql] at e1
  rw [Qc hi] at e1 ⊢
  have e2:=Option.some.inj e1
  show kV kvs[i].1=_
  rw [show kvs[i].1=Sum.inr kn[i] from e2];rfl
 refine a3G (a5s (o:=o) (a:=a) (kvs:=kvs)) (Qi (show kvs.length≤1000 by omega) ‹dc›) σr hσ (fun i=>P ((kn[i]?).getD "")) (fun i=>V.str ((kn[i]?).getD "")) (fun H' s=>s _ _ hf) (fun i H' R hi s hR=>?_) (fun i H' R hi s hR=>?_) (fun D H' hD s h=>?_)
 ·obtain ⟨hi',e⟩:=ef i hi
  rw [e]
  rw [Qc hi',Xh] at hR
  exact hs _ H0 H' R (Xa hi') hO s hR
 ·obtain ⟨hi',e⟩:=ef i hi
  rw [e]
  rw [Qc hi',Xh] at hR
  exact ⟨_,rfl,hR _ (a0h.refl _)⟩
 ·rw [hlen,a1f ("":Str) P V.str kn] at h
  refine ⟨a,o,kvs,fun ob u z=>?_,s _ _ hf,hd D _ (hO.non _ hD) (fun b u e=>?_) ?_⟩
  ·have:=hs1 _ _ z;rw [hH] at this;cases this
  ·by_cases z:b=a
   ·rw [z,a0d,←hH,←z];exact e
   ·rw [a0a z];exact s _ _ (hO.keep _ _ e fun w=>z (by cases w;rfl))
  ·rw [a0a (fun z=>by rw [z,hf] at hD;cases hD)];exact h
/-! ### the words of a round -/
def wd:Bool→Str
 | true=>"held"
 | false=>"refused"
def wv (F:List (Str×Bool)):List (Key×V):=F.map fun p=>(Sum.inr p.1,V.str (wd p.2))
theorem a3t (F:List (Str×Bool)):(wv F).map (·.1)=(F.map (·.1)).map (Sum.inr:Str→Key):=by
 unfold wv;rw [Xf,Xf];rfl
theorem b1Z {F:List (Str×Bool)} (hn:(F.map (·.1)).Nodup) {q:Str} {b:Bool} (h:(q,b)∈F):a0T (wv F) (Sum.inr q:Key)=some (.str (wd b)):=by
 induction F with
 | nil=>cases h
 | cons p F ih=>
  rw [Xk,Za] at hn
  rcases Qw.mp h with z | z
  ·subst z;exact a0I rfl
  ·rw [show wv (p::F)=(Sum.inr p.1,V.str (wd p.2))::wv F from rfl,a0x (fun w=>hn.1 (by rw [Sum.inr.inj w];exact Qk.mpr ⟨_,z,rfl⟩)),ih hn.2 z]
theorem b7E {F:List (Str×Bool)} {q:Str} (h:q∉F.map (·.1)):a0T (wv F) (Sum.inr q:Key)=none:=by
 induction F with
 | nil=>rfl
 | cons p F ih=>
  rw [Xk,Qw] at h
  rw [show wv (p::F)=(Sum.inr p.1,V.str (wd p.2))::wv F from rfl,a0x (fun w=>h (.inl (Sum.inr.inj w).symm)),ih fun z=>h (.inr z)]
theorem c8b {H:Hp} {D:Addr} {F:List (Str×Bool)} (h:H D=some (.dK (wv F))) (hl:F.length≤100000) {x:Str} (hx:x∉F.map (·.1)) (b:Bool):a5Q H D (.str x) (V.str (wd b)) (upd H D (.dK (wv (F++[(x,b)])))):=by
 have:=a5Q.k (k:=(Sum.inr x:Key)) (v:=V.str (wd b)) h (by unfold wv;rw [Qd];exact Xj hl ‹dc›)
 rw [a5v _ (b7E hx)] at this
 rw [show wv (F++[(x,b)])=wv F++[(Sum.inr x,V.str (wd b))] from by unfold wv;rw [Xe];rfl]
 exact this
def wds (rs:List Rw) (pl:List (Str×Str)) (S U D ask:List Str):List (Str×Bool):=ask.filterMap fun q=>(stt rs pl S U D q).map fun w=>(q,w)
theorem a7d {rs:List Rw} {pl:List (Str×Str)} {S U D ask:List Str} {q:Str} {w:Bool}:(q,w)∈wds rs pl S U D ask↔q∈ask∧stt rs pl S U D q=some w:=by
 unfold wds
 rw [Uf]
 constructor
 ·rintro ⟨x,hx,e⟩
  obtain ⟨y,hy,e⟩:=Js.mp e
  cases e
  exact ⟨hx,hy⟩
 ·rintro ⟨h1,h2⟩
  exact ⟨q,h1,by rw [h2];rfl⟩
theorem b3z {rs:List Rw} {pl:List (Str×Str)} {S U D ask:List Str} {q:Str} (h:q∈(wds rs pl S U D ask).map (·.1)):q∈ask:=by
 obtain ⟨⟨x,w⟩,hx,rfl⟩:=Qk.mp h
 exact (a7d.mp hx).1
theorem a5t (rs:List Rw) (pl:List (Str×Str)) (S U D:List Str):∀ask:List Str,((wds rs pl S U D ask).map (·.1)).Sublist ask
 | []=>List.Sublist.refl _
 | q::ask=>by
  have ih:=a5t rs pl S U D ask
  unfold wds at ih ⊢
  rw [Zk]
  cases stt rs pl S U D q with
  | none=>exact ih.cons q
  | some w=>exact ih.cons₂ q
theorem b4D (rs:List Rw) (pl:List (Str×Str)) (S U D ask:List Str) (q:Str):wds rs pl S U D (ask++[q])=wds rs pl S U D ask++((stt rs pl S U D q).map fun w=>(q,w)).toList:=by
 unfold wds
 rw [Wv,Zk]
 cases stt rs pl S U D q<;>rfl
def Off (H:Hp) (v:V) (H':Hp):Prop:=∀b o,H b=some o→v≠.ref b→H' b=some o
theorem Off.same {H H1 H':Hp} {a:Addr} (h:Off H1 (.ref a) H') (s:a0h H H1) (n:H a=none):a0h H H':=fun b o e=>h b o (s _ _ e) fun z=>by cases z;rw [n] at e;cases e
def b6a (K:Qe) (t:Adr):Sp:=fun vs H Q _=>∃(g:Addr) (v1 v2 v3 va:V) (rs:List Rw) (pl:List (Str×Str)) (S U D ask:List Str),vs=[.ref g,v1,v2,v3,va]∧(∀H',Off H va H'→a3R t H' g rs pl∧a1F H' v1 S∧a1F H' v2 U∧a1F H' v3 D)∧(∀r∈rs,a1E r)∧rs.length≤126∧a3r K H va ask∧ask.Nodup∧ask.length≤1000∧(∀q∈ask,q.length≤100)∧∀W H',a0h H H'→H W=none→H' W=some (.dK (wv (wds rs pl S U D ask)))→Q (.ref W) H'
/-! ### premises and heads -/
def a4B (H:Hp) (d:Addr) (rs:List Rw):Prop:=∃kvs,H d=some (.dK kvs)∧∀p:Str,(a0T kvs (Sum.inr p:Key)=none∧∀r∈rs,p∉r.2.2.2)∨∃(L:Addr) (hs:List Str),a0T kvs (Sum.inr p:Key)=some (.ref L)∧H L=some (.lst (hs.map V.str))∧hs.length≤600∧∀h:Str,h∈hs↔∃r∈rs,p∈r.2.2.2∧r.2.2.1=h
theorem a4B.same {H H':Hp} {d:Addr} {rs:List Rw} (s:a0h H H') (h:a4B H d rs):a4B H' d rs:=let ⟨k,a,b⟩:=h;⟨k,s _ _ a,fun p=>(b p).imp id fun ⟨L,hs,c,d,e⟩=>⟨L,hs,c,s _ _ d,e⟩⟩
def b6e (t:Adr):Sp:=fun vs H Q _=>∃(g:Addr) (rs:List Rw) (pl:List (Str×Str)),vs=[.ref g]∧a3R t H g rs pl∧(∀r∈rs,a1E r)∧rs.length≤126∧∀D H',a0h H H'→H D=none→a4B H' D rs→Q (.ref D) H'
def b2r:Sp:=fun vs H Q _=>∃(hd cm:Addr) (rs:List Rw) (F:List (Str×Bool)),vs=[.ref hd,.ref cm]∧(∀H',Off H (.ref cm) H'→a4B H' hd rs)∧H cm=some (.dK (wv F))∧F.length≤80∧(∀r∈rs,a1E r)∧rs.length≤126∧
 ∀D kn H',a0h H H'→H D=none→H' D=some (.dK (bv kn))→kn.Nodup→kn.length≤1000→(∀x,x∈kn↔tch rs (F.map (·.1)) x)→Q (.ref D) H'
def a8J (L:List (Str×Str)) (p:Str):List Str:=(L.filter fun x=>decide (x.1=p)).map (·.2)
theorem b4t (L:List (Str×Str)) (p:Str):(a8J L p).length≤L.length:=by
 unfold a8J;rw [Qd];exact Qy _ _
theorem a6f (L:List (Str×Str)) (p h x:Str):a8J (L++[(p,h)]) x=a8J L x++if p=x then [h] else []:=by
 unfold a8J
 rw [Zd,Xe,Yq]
 by_cases e:p=x
 ·rw [if_pos e,if_pos (decide_eq_true e)];rfl
 ·rw [if_neg e,if_neg (by simpa using e)];rfl
structure a8L (H H':Hp) (D:Addr) (kvs:List (Key×V)) (L:List (Str×Str)):Prop where
 d:H' D=some (.dK kvs)
 len:kvs.length≤L.length
 at_:∀p:Str,(a0T kvs (Sum.inr p:Key)=none∧a8J L p=[])∨∃N,a0T kvs (Sum.inr p:Key)=some (.ref N)∧H N=none∧H' N=some (.lst ((a8J L p).map V.str))
 inj:∀(p p':Str) (N:Addr),a0T kvs (Sum.inr p:Key)=some (.ref N)→a0T kvs (Sum.inr p':Key)=some (.ref N)→p=p'
theorem a8L.same {H H' H'':Hp} {D:Addr} {kvs:List (Key×V)} {L:List (Str×Str)} (s:a0h H' H'') (h:a8L H H' D kvs L):a8L H H'' D kvs L:=⟨s _ _ h.d,h.len,fun p=>(h.at_ p).imp id fun ⟨N,a,b,c⟩=>⟨N,a,b,s _ _ c⟩,h.inj⟩
theorem a8L.old {H H':Hp} {D N:Addr} {kvs:List (Key×V)} {L:List (Str×Str)} {p h:Str} (I:a8L H H' D kvs L) (e:a0T kvs (Sum.inr p:Key)=some (.ref N)):H' N=some (.lst ((a8J L p).map V.str))∧H N=none∧a8L H (upd H' N (.lst ((a8J L p).map V.str++[V.str h]))) D kvs (L++[(p,h)]):=by
 rcases I.at_ p with ⟨z,_⟩ | ⟨N',e',n',hN⟩
 ·rw [z] at e;cases e
 rw [e] at e';cases e'
 refine ⟨hN,n',⟨by rw [a0a (a0u hN I.d ‹iz›).symm];exact I.d,by have:=I.len;simp;omega,fun x=>?_,I.inj⟩⟩
 rw [a6f]
 by_cases z:p=x
 ·subst z
  rw [if_pos rfl]
  exact .inr ⟨N,e,n',by rw [a0d,Xe];rfl⟩
 ·rw [if_neg z,Qh]
  rcases I.at_ x with w | ⟨M,a,b,c⟩
  ·exact .inl w
  ·exact .inr ⟨M,a,b,by rw [a0a (fun w=>z (I.inj p x N e (by rw [←w];exact a)))];exact c⟩
theorem a8L.new {H H':Hp} {D N:Addr} {kvs:List (Key×V)} {L:List (Str×Str)} {p h:Str} (I:a8L H H' D kvs L) (e:a0T kvs (Sum.inr p:Key)=none) (hN:H' N=none) (n:H N=none) (o:HO):a8L H (upd (upd (upd H' N o) D (.dK (a2F kvs (Sum.inr p) (.ref N)))) N (.lst ([]++[V.str h]))) D (a2F kvs (Sum.inr p) (.ref N)) (L++[(p,h)]):=by
 have hDN:D≠N:=fun z=>by rw [←z,I.d] at hN;cases hN
 have hk:=a0K kvs (Sum.inr p:Key) (V.ref N)
 refine ⟨by rw [a0a hDN,a0d],by have:=I.len;simp;omega,fun x=>?_,fun x y M a b=>?_⟩
 ·rw [a6f,a1I]
  by_cases z:p=x
  ·subst z
   rw [if_pos rfl,if_pos rfl]
   rcases I.at_ p with ⟨_,w⟩ | ⟨M,a,_⟩
   ·rw [w];exact .inr ⟨N,rfl,n,a0d⟩
   ·rw [e] at a;cases a
  ·rw [if_neg (fun w=>z (Sum.inr.inj w).symm),if_neg z,Qh]
   rcases I.at_ x with w | ⟨M,a,b,c⟩
   ·exact .inl w
   ·have hMN:M≠N:=fun w=>by rw [w,hN] at c;cases c
    exact .inr ⟨M,a,b,by rw [a0a hMN,a0a (a0u c I.d ‹iz›),a0a hMN];exact c⟩
 ·have nope:∀y:Str,a0T kvs (Sum.inr y:Key)≠some (.ref N):=fun y w=>by
   rcases I.at_ y with ⟨c,_⟩ | ⟨M',c,_,d⟩
   ·rw [c] at w;cases w
   ·rw [c] at w;cases w;rw [hN] at d;cases d
  rw [a1I] at a b
  by_cases z1:(Sum.inr x:Key)=Sum.inr p
  ·by_cases z2:(Sum.inr y:Key)=Sum.inr p
   ·rw [Sum.inr.inj z1,Sum.inr.inj z2]
   ·rw [if_pos z1] at a;cases a
    rw [if_neg z2] at b;exact absurd b (nope y)
  ·rw [if_neg z1] at a
   by_cases z2:(Sum.inr y:Key)=Sum.inr p
   ·rw [if_pos z2] at b;cases b;exact absurd a (nope x)
   ·rw [if_neg z2] at b;exact I.inj x y M a b
def phs (rs:List Rw):List (Str×Str):=rs.flatMap fun r=>r.2.2.2.map fun p=>(p,r.2.2.1)
theorem a7b:∀{rs:List Rw},(∀r∈rs,a1E r)→(phs rs).length≤4 * rs.length
 | [],_=>Qj _
 | r::rs,h=>by
  have h1:=a7b (rs:=rs) fun x hx=>h x (Qt _ hx)
  have h2:=(h r Qq).2.2.2.2.2
  unfold phs at h1 ⊢
  rw [List.flatMap_cons,Xx,Qd,Qm]
  omega
theorem a8L.hds {H H':Hp} {D:Addr} {kvs:List (Key×V)} {rs:List Rw} (I:a8L H H' D kvs (phs rs)) (hO:∀r∈rs,a1E r) (hl:rs.length≤126):a4B H' D rs:=by
 have hm:∀p h,h∈a8J (phs rs) p↔∃r∈rs,p∈r.2.2.2∧r.2.2.1=h:=fun p h=>by
  unfold a8J phs
  rw [Qk]
  constructor
  ·rintro ⟨⟨x,y⟩,hx,rfl⟩
   obtain ⟨h1,h2⟩:=Qs.mp hx
   obtain ⟨r,hr,h3⟩:=Ze.mp h1
   obtain ⟨p',hp,e⟩:=Qk.mp h3
   cases e
   have:x=p:=of_decide_eq_true h2
   exact ⟨r,hr,this ▸ hp,rfl⟩
  ·rintro ⟨r,hr,hp,rfl⟩
   exact ⟨(p,r.2.2.1),Qs.mpr ⟨Ze.mpr ⟨r,hr,Qk.mpr ⟨p,hp,rfl⟩⟩,decide_eq_true rfl⟩,rfl⟩
 refine ⟨kvs,I.d,fun p=>?_⟩
 rcases I.at_ p with ⟨a,b⟩ | ⟨N,a,_,c⟩
 ·refine .inl ⟨a,fun r hr hp=>?_⟩
  have:=(hm p r.2.2.1).mpr ⟨r,hr,hp,rfl⟩
  rw [b] at this;cases this
 ·refine .inr ⟨N,_,a,c,?_,hm p⟩
  have h1:(a8J (phs rs) p).length≤(phs rs).length:=by
   unfold a8J;rw [Qd];exact Qy _ _
  have:=a7b hO
  omega
theorem b1R:∀rs:List Rw,(rs.flatMap fun r=>[r.2.2.1,a0D r.2.2.1]).length=2 * rs.length
 | []=>rfl
 | r::rs=>by rw [List.flatMap_cons,Xx,b1R rs];simp;omega
/-! ### the rounds told -/
abbrev Tr:=Str×Bool×Nat
def TAt (H:Hp) (D:Addr) (T:List Tr):Prop:=∃A:List (Addr×Tr),A.map (·.2)=T∧H D=some (.dK (A.map fun e=>(Sum.inr e.2.1,.ref e.1)))∧∀e∈A,H e.1=some (.tup [.str (wd e.2.2.1),.int e.2.2.2])
theorem TAt.same {H H':Hp} {D:Addr} {T:List Tr} (s:a0h H H') (h:TAt H D T):TAt H' D T:=let ⟨A,a,b,c⟩:=h;⟨A,a,s _ _ b,fun e he=>s _ _ (c e he)⟩
theorem b1h {A:List (Addr×Tr)} {q:Str} (h:q∉A.map fun e=>e.2.1):a0T (A.map fun e=>((Sum.inr e.2.1:Key),V.ref e.1)) (Sum.inr q:Key)=none:=by
 induction A with
 | nil=>rfl
 | cons p A ih=>
  rw [Xk,Qw] at h
  rw [Xk,a0x (fun w=>h (.inl (Sum.inr.inj w).symm)),ih fun z=>h (.inr z)]
theorem b0o {A:List (Addr×Tr)} (hn:(A.map fun e=>e.2.1).Nodup) {e:Addr×Tr} (h:e∈A):a0T (A.map fun e=>((Sum.inr e.2.1:Key),V.ref e.1)) (Sum.inr e.2.1:Key)=some (.ref e.1):=by
 induction A with
 | nil=>cases h
 | cons p A ih=>
  rw [Xk,Za] at hn
  rcases Qw.mp h with z | z
  ·subst z;exact a0I rfl
  ·rw [Xk,a0x (fun w=>hn.1 (by rw [Sum.inr.inj w];exact Qk.mpr ⟨_,z,rfl⟩)),ih hn.2 z]
theorem TAt.keys {H:Hp} {D:Addr} {T:List Tr} (h:TAt H D T):∃kvs,H D=some (.dK kvs)∧kvs.map (·.1)=(T.map (·.1)).map (Sum.inr:Str→Key)∧∀x:Str,(a0T kvs (Sum.inr x:Key)).isSome=decide (x∈T.map (·.1)):=by
 obtain ⟨A,rfl,hD,_⟩:=h
 refine ⟨_,hD,by rw [Xf,Xf,Xf];rfl,fun x=>?_⟩
 rw [←a2d,Xn,Yx,decide_eq_true_eq,Xf]
 constructor
 ·rintro ⟨p,hp,e⟩
  obtain ⟨y,hy,rfl⟩:=Qk.mp hp
  exact Qk.mpr ⟨y,hy,Sum.inr.inj (of_decide_eq_true e)⟩
 ·intro h
  obtain ⟨y,hy,e⟩:=Qk.mp h
  exact ⟨_,Qk.mpr ⟨y,hy,rfl⟩,decide_eq_true (by rw [←e];rfl)⟩
theorem TAt.put {H H1:Hp} {D p:Addr} {T:List Tr} {q:Str} {b:Bool} {n:Nat} (h:TAt H D T) (s:a0h H H1) (hp:H1 p=some (.tup [.str (wd b),.int n])) (hq:q∉T.map (·.1)) (hl:T.length≤100000):∃kvs',a5Q H1 D (.str q) (.ref p) (upd H1 D (.dK kvs'))∧TAt (upd H1 D (.dK kvs')) D (T++[(q,b,n)]):=by
 obtain ⟨A,rfl,hD,hA⟩:=h
 have hq':q∉A.map fun e=>e.2.1:=by rw [Xf] at hq;exact hq
 have hD1:=s _ _ hD
 refine ⟨(A.map fun e=>((Sum.inr e.2.1:Key),V.ref e.1))++[(Sum.inr q,V.ref p)],?_,A++[(p,q,b,n)],by rw [Xe];rfl,by rw [a0d,Xe];rfl,fun e he=>?_⟩
 ·have:=a5Q.k (k:=(Sum.inr q:Key)) (v:=V.ref p) hD1 (by rw [Qd];rw [Qd] at hl;exact Xj hl ‹dc›)
  rw [a5v _ (b1h hq')] at this
  exact this
 ·rcases Qv.mp he with z | z
  ·rw [a0a (a0u (s _ _ (hA e z)) hD1 ‹iz›)];exact s _ _ (hA e z)
  ·rw [Xo.mp z,a0a (a0u hp hD1 ‹iz›)];exact hp
theorem a9p {H:Hp} {a:Addr} {S S':List Str} (h:H a=some (.dK (bv S'))) (hs:∀x,x∈S'↔x∈S):DAt H a S:=⟨_,h,fun x=>by
 rw [a2s]
 by_cases z:x∈S
 ·rw [if_pos ((hs x).mpr z),decide_eq_true z];rfl
 ·rw [if_neg (fun w=>z ((hs x).mp w)),decide_eq_false z];rfl⟩
theorem a4P (k:Key):∀(more kvs:List (Key×V)),(a0T (a1u kvs more) k).isSome=((a0T kvs k).isSome || (a0T more k).isSome)
 | [],kvs=>by rw [show a1u kvs []=kvs from rfl,show a0T ([]:List (Key×V)) k=none from rfl];simp
 | p::r,kvs=>by
  rw [show a1u kvs (p::r)=a1u (a2F kvs p.1 p.2) r from rfl,a4P k r,a1I]
  by_cases e:k=p.1
  ·rw [if_pos e,show p::r=(p.1,p.2)::r from rfl,a0I e.symm];simp
  ·rw [if_neg e,show p::r=(p.1,p.2)::r from rfl,a0x (fun z=>e z.symm)]
/-! ### the rounds by what is in them -/
section
variable {rs:List Rw} {pl:List (Str×Str)} {S W U D:List Str}
def IsF (rs:List Rw) (pl:List (Str×Str)) (S W U D:List Str) (n:Nat) (F:List (Str×Bool)):Prop:=∀e,e∈F↔e∈fresh rs pl S W (rds rs pl S W U D n)
def IsT (rs:List Rw) (pl:List (Str×Str)) (S W U D:List Str) (n:Nat) (T:List Tr):Prop:=∀e,e∈T↔e∈(rds rs pl S W U D n).T
theorem a3w {α β:Type} {l m:List (α×β)} (h:∀e,e∈l↔e∈m) (x:α):x∈l.map (·.1)↔x∈m.map (·.1):=by
 constructor
 ·intro z;obtain ⟨e,he,rfl⟩:=Qk.mp z;exact Qk.mpr ⟨e,(h e).mp he,rfl⟩
 ·intro z;obtain ⟨e,he,rfl⟩:=Qk.mp z;exact Qk.mpr ⟨e,(h e).mpr he,rfl⟩
theorem a8v {n:Nat} {T:List Tr} {F:List (Str×Bool)} (hT:IsT rs pl S W U D n T) (hF:IsF rs pl S W U D n F):IsT rs pl S W U D (n+1) (T++F.map fun p=>(p.1,p.2,n+1)):=fun e=>by
 show e∈_↔e∈(rds rs pl S W U D n).T++(fresh rs pl S W (rds rs pl S W U D n)).map fun p=>(p.1,p.2,n+1)
 rw [Qv,Qv,hT e]
 refine or_congr Iff.rfl ?_
 constructor
 ·intro z;obtain ⟨p,hp,rfl⟩:=Qk.mp z;exact Qk.mpr ⟨p,(hF p).mp hp,rfl⟩
 ·intro z;obtain ⟨p,hp,rfl⟩:=Qk.mp z;exact Qk.mpr ⟨p,(hF p).mpr hp,rfl⟩
theorem b3D {n:Nat} {F:List (Str×Bool)} (hF:IsF rs pl S W U D n F) (x:Str):x∈(rds rs pl S W U D (n+1)).U↔x∈(rds rs pl S W U D n).U∨(x,true)∈F:=by
 show x∈(rds rs pl S W U D n).U++ups _↔_
 rw [Qv,a2X,hF]
theorem b4s {n:Nat} {F:List (Str×Bool)} (hF:IsF rs pl S W U D n F) (x:Str):x∈(rds rs pl S W U D (n+1)).D↔x∈(rds rs pl S W U D n).D∨(x,false)∈F:=by
 show x∈(rds rs pl S W U D n).D++a1j _↔_
 rw [Qv,a1Z,hF]
theorem b3W:IsF rs pl S W U D 0 (wds rs pl S U D W):=fun ⟨q,w⟩=>by
 rw [a7d,a0P]
 exact ⟨fun ⟨a,b⟩=>⟨a,(fun z=>by cases z),b⟩,fun ⟨a,_,b⟩=>⟨a,b⟩⟩
theorem b4F {n:Nat} {T:List Tr} {F:List (Str×Bool)} {ask:List Str} (ho:∀q∈W,a0D (a0D q)=q) (hT:IsT rs pl S W U D (n+1) T) (hF:IsF rs pl S W U D n F) (ha:∀q,q∈ask↔tch rs (F.map (·.1)) q∧q∈W∧q∉T.map (·.1)):
  IsF rs pl S W U D (n+1) (wds rs pl S (rds rs pl S W U D (n+1)).U (rds rs pl S W U D (n+1)).D ask):=fun ⟨q,w⟩=>by
 rw [a7d,a0P,ha,←a3w hT]
 refine ⟨fun ⟨⟨_,b,c⟩,d⟩=>⟨b,c,d⟩,fun ⟨b,c,d⟩=>⟨⟨?_,b,c⟩,d⟩⟩
 obtain ⟨r,hr,⟨p,hp,hm⟩,hz⟩:=a9Q n ho (a0P.mpr ⟨b,(by rw [←a3w hT];exact c),d⟩)
 exact ⟨r,hr,⟨p,hp,(a3w hF p).mpr hm⟩,hz⟩
theorem b8d {n:Nat} (hF:IsF rs pl S W U D n []):fresh rs pl S W (rds rs pl S W U D n)=[]:=by
 cases e:fresh rs pl S W (rds rs pl S W U D n) with
 | nil=>rfl
 | cons x l=>exact absurd ((hF x).mpr (by rw [e];exact Qq)) (by simp)
theorem a3P:∀(n:Nat) (q:Str),q∈(rds rs pl S W U D n).T.map (·.1)→q∈W
 | 0,q,h=>by cases h
 | n+1,q,h=>by
  have h':q∈((rds rs pl S W U D n).T++(fresh rs pl S W (rds rs pl S W U D n)).map fun p=>(p.1,p.2,n+1)).map (·.1):=h
  rw [Xe,Qv] at h'
  rcases h' with z | z
  ·exact a3P n q z
  ·rw [Xf] at z
   obtain ⟨⟨x,w⟩,hp,rfl⟩:=Qk.mp z
   exact (a0P.mp hp).1
end
def b4y (K:Qe) (t:Adr):Sp:=fun vs H Q _=>∃(g:Addr) (v1 v2:V) (kd:Addr) (rs:List Rw) (pl:List (Str×Str)) (sm S:List Str) (kn:List (Str×Bool)),vs=[.ref g,v1,v2,.ref kd]∧a3R t H g rs pl∧(∀r∈rs,a1E r)∧rs.length≤126∧a3r K H v1 sm∧a3r K H v2 S∧H kd=some (.dK (wv kn))∧(kn.map (·.1)).Nodup∧sm.length≤80∧S.length≤100∧kn.length≤100∧(∀q∈sm,q.length≤100∧a0D (a0D q)=q)∧
 ∀D T n H',a0h H H'→H D=none→TAt H' D T→(T.map (·.1)).Nodup→fresh rs pl S (sm.foldl a0O []) (rds rs pl S (sm.foldl a0O []) (ups kn) (a1j kn) n)=[]→IsT rs pl S (sm.foldl a0O []) (ups kn) (a1j kn) n T→Q (.ref D) H'
theorem b1r {b c:Bool} (h:wd b=wd c):b=c:=by
 cases b<;>cases c
 ·rfl
 ·exact absurd h ‹dk›
 ·exact absurd h ‹dk›
 ·rfl
theorem a3j {K:Qe} {b:Bool} {F:List (Str×Bool)} (hn:(F.map (·.1)).Nodup) {q0:Str} {cm:Addr} {H':Hp} {R:Bool→Hp→Prop} (hq:q0∈F.map (·.1)) (hR:Rd H' cm (.dK (wv F))) (hR':∀H'',a0h H' H''→R (decide ((q0,b)∈F)) H''):a1h (tOp (b7m K) (b1O (a0k 1) (a0k 0)) (tC (V.str (wd b)))) [some (V.str q0),some (V.ref cm)] H' R:=by
 obtain ⟨⟨x,c⟩,hm,rfl⟩:=Qk.mp hq
 have hv:=b1Z hn hm
 refine ⟨_,rfl,_,rfl,cm,_,rfl,.inl ⟨_,Sum.inr x,hR,rfl,hv.symm⟩,a1J.mpr ⟨_,rfl,?_⟩⟩
 have:=hR' _ (a0h.refl _)
 rw [show decide (wd c=wd b)=decide ((x,b)∈F) from by
  rw [Xn,decide_eq_true_eq,decide_eq_true_eq]
  refine ⟨fun z=>b1r z ▸ hm,fun z=>?_⟩
  have e:=b1Z hn z
  rw [hv] at e
  exact V.str.inj (Option.some.inj e)]
 exact this
theorem a5O {F:List (Str×Bool)} {b:Bool} {x:Str}:x∈((F.map (·.1)).filter fun q=>decide ((q,b)∈F)).foldl a0O []↔(x,b)∈F:=by
 rw [a1o,Qs,decide_eq_true_eq]
 exact ⟨fun h=>h.elim (fun z=>(by cases z)) (·.2),fun h=>.inr ⟨Qk.mpr ⟨_,h,rfl⟩,h⟩⟩
theorem a5p (F:List (Str×Bool)) (b:Bool):((F.map (·.1)).filter fun q=>decide ((q,b)∈F)).length≤F.length:=by
 have:=Qy (fun q=>decide ((q,b)∈F)) (F.map (·.1))
 rw [Qd] at this;exact this
theorem a4B.keep {H H':Hp} {d:Addr} {rs:List Rw} (h:a4B H d rs) (k:∀b o,H b=some o→(b=d∨∃xs,o=.lst xs)→H' b=some o):a4B H' d rs:=let ⟨kv,a,b⟩:=h;⟨kv,k _ _ a (.inl rfl),fun p=>(b p).imp id fun ⟨L,hs,c,d,e⟩=>⟨L,hs,c,k _ _ d (.inr ⟨_,rfl⟩),e⟩⟩
theorem TAt.keep {H H':Hp} {D:Addr} {T:List Tr} (h:TAt H D T) (k:∀b o,H b=some o→(b=D∨∃xs,o=.tup xs)→H' b=some o):TAt H' D T:=let ⟨A,a,b,c⟩:=h;⟨A,a,k _ _ b (.inl rfl),fun e he=>k _ _ (c e he) (.inr ⟨_,rfl⟩)⟩
theorem DAt.merge {kvs:List (Key×V)} {S S':List Str} {F:List (Str×Bool)} {b:Bool} (h:∀x:Str,(a0T kvs (Sum.inr x:Key)).isSome=decide (x∈S)) (hs:∀x,x∈S'↔x∈S∨(x,b)∈F) (x:Str):(a0T (a1u kvs (bv (((F.map (·.1)).filter fun q=>decide ((q,b)∈F)).foldl a0O []))) (Sum.inr x:Key)).isSome=decide (x∈S'):=by
 rw [a4P,h,a2s,Xn,Bool.or_eq_true,decide_eq_true_eq,decide_eq_true_eq,hs]
 refine or_congr Iff.rfl ?_
 by_cases z:(x,b)∈F
 ·rw [if_pos (a5O.mpr z)];exact ⟨fun _=>z,fun _=>rfl⟩
 ·rw [if_neg (fun w=>z (a5O.mp w))];exact ⟨fun w=>(by cases w),fun w=>absurd w z⟩
/-! ### the pairs of a dict walked,its values walked -/
theorem b7j {te:TE} {g:TG} {tb:TS} {E:a8c} {σ:St} {H:Hp} {a:Addr} {kn:List (Str×Bool)} (Pv:Hp→Nat→St→Hp→Prop) (hH:H a=some (.dK (wv kn))) (hte:∀R:VK,R (.ref a) H→te σ H R)
  (h0:∀o,Pv (upd H a (.frz o (.dK (wv kn)))) 0 σ (upd H a (.frz o (.dK (wv kn)))))
  (hp:∀o i σ' H',Pv (upd H a (.frz o (.dK (wv kn)))) i σ' H'→H' a=some (.frz o (.dK (wv kn))))
  (hs:∀o i (hi:i < kn.length) σ' H' p rt bk,Pv (upd H a (.frz o (.dK (wv kn)))) i σ' H'→H' p=none→g (.ref p) σ' (upd H' p (.tup [.str kn[i].1,.str (wd kn[i].2)])) fun σ2 H2=>tb ⟨Pv (upd H a (.frz o (.dK (wv kn)))) (i+1),rt,bk,Pv (upd H a (.frz o (.dK (wv kn)))) (i+1)⟩ σ2 H2)
  (hd:∀o σ' H',Pv (upd H a (.frz o (.dK (wv kn)))) kn.length σ' H'→E.nx σ' (upd H' a (.dK (wv kn)))):b3m (b8t (b1x te) g tb) E σ H:=by
 have hlen:(wv kn).length=kn.length:=by unfold wv;rw [Qd]
 refine ⟨a,wv kn,hH,?_⟩
 rw [a0t]
 refine hte _ ⟨a,wv kn,rfl,hH,fun o=>?_⟩
 refine ⟨fun i m σ' H'=>m=kn.length - i∧i≤kn.length∧Pv (upd H a (.frz o (.dK (wv kn)))) i σ' H',⟨_,rfl,Xb _,h0 o⟩,?_⟩
 rintro i m σ' H' ⟨rfl,hi,p⟩
 have hf:=hp o i σ' H' p
 by_cases hlt:i < kn.length
 ·refine .inr ⟨⟨hf,by omega⟩,Pv (upd H a (.frz o (.dK (wv kn)))) (i+1),fun σ2 H2 p2=>⟨kn.length - (i+1),by omega,rfl,hlt,p2⟩,?_⟩
  rintro x H2 ⟨q,k,v,hq,e,rfl,rfl⟩
  have e1:(wv kn)[i]?=some (Sum.inr kn[i].1,V.str (wd kn[i].2)):=by unfold wv;rw [Ql,Qc hlt];rfl
  rw [e1] at e;cases e
  exact hs o i hlt σ' H' q _ _ p hq
 ·have ei:i=kn.length:=by omega
  subst ei
  exact .inl ⟨⟨hf,by omega⟩,o,hf,hd o σ' H' p⟩
def a6O (H:Hp) (a:Addr) (S:List Str) (n:Nat):Prop:=∃kvs,H a=some (.dK kvs)∧(∀x:Str,(a0T kvs (Sum.inr x:Key)).isSome=decide (x∈S))∧kvs.length≤n
theorem a6O.dat {H:Hp} {a:Addr} {S:List Str} {n:Nat} (h:a6O H a S n):DAt H a S:=let ⟨k,b,c,_⟩:=h;⟨k,b,c⟩
theorem a6O.keep {H H':Hp} {a:Addr} {S:List Str} {n m:Nat} (k:∀o,H a=some o→H' a=some o) (hm:n≤m) (h:a6O H a S n):a6O H' a S m:=let ⟨v,b,c,d⟩:=h;⟨v,k _ b,c,Qi d hm⟩
theorem a6O.put {H:Hp} {a:Addr} {S:List Str} {n:Nat} (h:a6O H a S n) (hn:n≤100000) (q:Str) (v:V):∃kvs',a5Q H a (.str q) v (upd H a (.dK kvs'))∧a6O (upd H a (.dK kvs')) a (S++[q]) (n+1):=by
 obtain ⟨kvs,b,c,d⟩:=h
 refine ⟨_,a5Q.k (k:=(Sum.inr q:Key)) b (Xj (Qi d hn) ‹dc›),_,a0d,fun x=>?_,?_⟩
 ·rw [a1I]
  by_cases e:x=q
  ·rw [if_pos (by rw [e])];simp [e]
  ·rw [if_neg (fun z=>e (Sum.inr.inj z)),c];simp [e]
 ·have:=a0K kvs (Sum.inr q:Key) v
  omega
theorem a3U (F:List (Str×Bool)) (q:Str) (b:Bool):ups (F++[(q,b)])=ups F++if b=true then [q] else []:=by
 unfold ups;rw [Zd,Xe];cases b<;>rfl
theorem a2J (F:List (Str×Bool)) (q:Str) (b:Bool):a1j (F++[(q,b)])=a1j F++if b=true then [] else [q]:=by
 unfold a1j;rw [Zd,Xe];cases b<;>rfl
theorem a9s {rs:List Rw} {pl:List (Str×Str)} {S:List Str} (l:List Str) (q:Str) (s:RdS):fresh rs pl S (l++[q]) s=fresh rs pl S l s++(if q∈s.T.map (·.1) then none else (stt rs pl S s.U s.D q).map fun w=>(q,w)).toList:=by
 unfold fresh
 rw [Wv,Zk]
 cases (if q∈s.T.map (·.1) then none else (stt rs pl S s.U s.D q).map fun w=>(q,w))<;>rfl
theorem a3k {rs:List Rw} {pl:List (Str×Str)} {S:List Str} (s:RdS):∀l:List Str,((fresh rs pl S l s).map (·.1)).Sublist l
 | []=>List.Sublist.refl _
 | q::l=>by
  have ih:=a3k (rs:=rs) (pl:=pl) (S:=S) s l
  unfold fresh at ih ⊢
  rw [Zk]
  by_cases h:q∈s.T.map (·.1)
  ·rw [if_pos h];exact ih.cons q
  ·rw [if_neg h]
   cases stt rs pl S s.U s.D q with
   | none=>exact ih.cons q
   | some w=>exact ih.cons₂ q
section
variable {rs:List Rw} {pl:List (Str×Str)} {S U D:List Str}
theorem b4L {U' D':List Str} {q:Str} (hU:∀x,x∈U'↔x∈U) (hD:∀x,x∈D'↔x∈D) (ho:a0D (a0D q)=q):stt rs pl S U' D' q=stt rs pl S U D q:=b1f (came:=[]) (fun x _=>hU x) (fun x _=>hD x) ho (fun ⟨r,_,⟨p,_,z⟩,_⟩=>by cases z)
theorem a7D {W W':List Str} (hW:∀x,x∈W↔x∈W') (ho:∀q∈W,a0D (a0D q)=q):∀n,(∀e,e∈(rds rs pl S W U D n).T↔e∈(rds rs pl S W' U D n).T)∧(∀x,x∈(rds rs pl S W U D n).U↔x∈(rds rs pl S W' U D n).U)∧(∀x,x∈(rds rs pl S W U D n).D↔x∈(rds rs pl S W' U D n).D)
 | 0=>⟨fun _=>Iff.rfl,fun _=>Iff.rfl,fun _=>Iff.rfl⟩
 | n+1=>by
  obtain ⟨hT,hU,hD⟩:=a7D hW ho n
  have hF:∀e,e∈fresh rs pl S W (rds rs pl S W U D n)↔e∈fresh rs pl S W' (rds rs pl S W' U D n):=fun ⟨q,w⟩=>by
   rw [a0P,a0P,a3w hT q,hW q]
   refine and_congr_right fun hq=>and_congr_right fun _=>?_
   rw [b4L hU hD (ho q ((hW q).mpr hq))]
  refine ⟨fun e=>?_,fun x=>?_,fun x=>?_⟩
  ·show e∈(rds rs pl S W U D n).T++_↔e∈(rds rs pl S W' U D n).T++_
   rw [Qv,Qv,hT e]
   refine or_congr Iff.rfl ?_
   constructor
   ·intro z;obtain ⟨p,hp,rfl⟩:=Qk.mp z;exact Qk.mpr ⟨p,(hF p).mp hp,rfl⟩
   ·intro z;obtain ⟨p,hp,rfl⟩:=Qk.mp z;exact Qk.mpr ⟨p,(hF p).mpr hp,rfl⟩
  ·show x∈(rds rs pl S W U D n).U++ups _↔x∈(rds rs pl S W' U D n).U++ups _
   rw [Qv,Qv,hU x,a2X,a2X,hF]
  ·show x∈(rds rs pl S W U D n).D++a1j _↔x∈(rds rs pl S W' U D n).D++a1j _
   rw [Qv,Qv,hD x,a1Z,a1Z,hF]
theorem b8q {W W':List Str} (hW:∀x,x∈W↔x∈W') (ho:∀q∈W,a0D (a0D q)=q) {n n':Nat} (h:fresh rs pl S W (rds rs pl S W U D n)=[]) (h':fresh rs pl S W' (rds rs pl S W' U D n')=[]) {T T':List Tr} (hT:IsT rs pl S W U D n T) (hT':IsT rs pl S W' U D n' T'):∀e,e∈T↔e∈T':=fun e=>by
 have a1:=a4s h n'
 have a2:=a4s h' n
 rw [hT e,hT' e,←a1,←a2,Gi n' n]
 exact (a7D hW ho (n+n')).1 e
end
def b6z:Sp:=fun vs H Q _=>∃(R P F So kd:Addr) (xs ps:List V) (rs:List Rw) (pl:List (Str×Str)) (S sm:List Str) (kn:List (Str×Bool)),vs=[.ref R,.ref P,.ref F,.ref So,.ref kd]∧H R=some (.lst xs)∧a1V H xs rs∧(∀r∈rs,a1E r)∧rs.length≤126∧H P=some (.lst ps)∧a0y H ps pl∧b4e pl∧DAt H F S∧H So=some (.lst (sm.map V.str))∧sm.Nodup∧sm.length≤18∧(∀q∈sm,q.length≤100)∧H kd=some (.dK (wv kn))∧kn.length≤100∧
 ∀D T n H',a0h H H'→H D=none→TAt H' D T→(T.map (·.1)).Nodup→fresh rs pl S sm (rds rs pl S sm (ups kn) (a1j kn) n)=[]→IsT rs pl S sm (ups kn) (a1j kn) n T→Q (.ref D) H'
theorem a4C {rs:List Rw} {pl:List (Str×Str)} {S W U D:List Str} (hn:W.Nodup):∀n,((rds rs pl S W U D n).T.map (·.1)).Nodup
 | 0=>Zg
 | n+1=>by
  show (((rds rs pl S W U D n).T++(fresh rs pl S W (rds rs pl S W U D n)).map fun p=>(p.1,p.2,n+1)).map (·.1)).Nodup
  rw [Xe,Zw]
  refine ⟨a4C hn n,by rw [Xf];exact hn.sublist (a3k _ _),fun x hx y hy z=>?_⟩
  rw [Xf] at hy
  obtain ⟨⟨y',w⟩,hy',rfl⟩:=Qk.mp hy
  exact (a0P.mp hy').2.1 (by rw [show x=y' from z] at hx;exact hx)
theorem b6p {rs:List Rw} {pl:List (Str×Str)} {S W U D:List Str} (hn:W.Nodup) (n:Nat):(rds rs pl S W U D n).T.length≤W.length:=by
 have:=a1s (a4C (rs:=rs) (pl:=pl) (S:=S) (U:=U) (D:=D) hn n) fun x hx=>a3P n x hx
 rw [Qd] at this;exact this
theorem a8s {H H':Hp} {xs:List V} {pl:List (Str×Str)} (h:a0y H xs pl) (up:∀b ys,H b=some (.tup ys)→H' b=some (.tup ys)):a0y H' xs pl:=let ⟨as,a,b,c⟩:=h;⟨as,a,b,fun i x p e1 e2=>up _ _ (c i x p e1 e2)⟩
/-! ### what lies about -/
theorem a3r.list {K:Qe} {H:Hp} {v:V} {S:List Str} {Q:VK} (h:a3r K H v S) (q:∀l,H l=none→Q (.ref l) (upd H l (.lst (S.map V.str)))):b1a K [v] H Q:=by
 rcases h with ⟨a,rfl,ha⟩ | ⟨a,kvs,rfl,ha,hk⟩
 ·exact .inl ⟨a,_,rfl,.inl (SqL.of ha),q⟩
 ·refine .inr ⟨a,_,rfl,.inl ha,fun l hl=>?_⟩
  have:kvs.map (fun kv=>kV kv.1)=S.map V.str:=by
   have:=congrArg (Gs kV) hk
   rw [Xf,Xf] at this;exact this
  rw [this];exact q l hl
/-! ### words that grow,never both,as few as can be -/
/-! ### the statements of the rules,and a pool about them -/
def sts (rs:List Rw):List Str:=rs.flatMap fun r=>(r.2.2.1::r.2.2.2).flatMap fun q=>[q,a0D q]
theorem a1a {rs:List Rw} {x:Str}:x∈sts rs↔∃r∈rs,∃q∈r.2.2.1::r.2.2.2,x=q∨x=a0D q:=by
 unfold sts
 constructor
 ·intro h
  obtain ⟨r,hr,h⟩:=Ze.mp h
  obtain ⟨q,hq,h⟩:=Ze.mp h
  exact ⟨r,hr,q,hq,by simpa using h⟩
 ·rintro ⟨r,hr,q,hq,h⟩
  exact Ze.mpr ⟨r,hr,Ze.mpr ⟨q,hq,by simpa using h⟩⟩
/-! ### Answers -/
theorem a4R:∀(l m:List Str),(m++l).Nodup→l.foldl a0O m=m++l
 | [],m,_=>(Qh m).symm
 | x::l,m,h=>by
  have hx:x∉m:=fun z=>(Zw.mp h).2.2 x z x Qq rfl
  rw [Ue,b3x hx,a4R l (m++[x]) (by rw [Yu];exact h),Yu];rfl
theorem a3V {l:List Str} (h:l.Nodup):l.foldl a0O []=l:=a4R l [] h
def c3k (t:Adr):Sp:=fun vs H Q _=>∃(g:Addr) (rs:List Rw) (pl:List (Str×Str)) (po:List Str),vs=[.ref g]∧a3R t H g rs pl∧(∀r∈rs,a1E r)∧rs.length≤126∧(∀x∈sts rs,x∈po)∧po.length≤18∧
 ∀D St H',a0h H H'→H D=none→H' D=some (.lst (St.map V.str))→St.Perm ((sts rs).foldl a0O [])→PyProof.Rows.sortedS St=true→Q (.ref D) H'
def afl (st sk cm:Addr):List (Str×V):=a1B "came" (.ref cm) (a1B "sure_keys" (.ref sk) (a1B "standing" (.ref st) []))
theorem b5u (st sk cm:Addr):(afl st sk cm).lookup ("standing":Str)=some (.ref st):=by
 unfold afl;rw [a0g,if_neg ‹dk›,a0g,if_neg ‹dk›,a0g,if_pos rfl]
theorem b5x (st sk cm:Addr):(afl st sk cm).lookup ("sure_keys":Str)=some (.ref sk):=by
 unfold afl;rw [a0g,if_neg ‹dk›,a0g,if_pos rfl]
theorem b9Y (st sk cm:Addr):(afl st sk cm).lookup ("came":Str)=some (.ref cm):=by
 unfold afl;rw [a0g,if_pos rfl]
theorem a3y (st sk cm:Addr) {m:Str} (h1:m≠"came") (h2:m≠"sure_keys") (h3:m≠"standing"):(afl st sk cm).lookup m=none:=by
 unfold afl;rw [a0g,if_neg h1,a0g,if_neg h2,a0g,if_neg h3];rfl
def b1g (rs:List Rw) (pl:List (Str×Str)) (ss:List Str) (T:List Tr):Prop:=(T.map (·.1)).Nodup∧∃n W,(∀q,q∈W↔q∈sts rs)∧fresh rs pl ss W (rds rs pl ss W [] [] n)=[]∧IsT rs pl ss W [] [] n T
def a5B (t:Adr) (H:Hp) (x:Addr) (rs:List Rw) (ss:List Str) (T:List Tr):Prop:=∃dx st sk cm St,H x=some (.ins t.C_Answers dx (afl st sk cm))∧Rd H st (.dK (bv St))∧(St.Perm ((sts rs).foldl a0O [])∧PyProof.Rows.sortedS St=true)∧H sk=some (.dK (bv ss))∧TAt H cm T
theorem a5B.same {t:Adr} {H H':Hp} {x:Addr} {rs:List Rw} {ss:List Str} {T:List Tr} (s:a0h H H') (h:a5B t H x rs ss T):a5B t H' x rs ss T:=let ⟨dx,st,sk,cm,St,a,b,c,d,e⟩:=h;⟨dx,st,sk,cm,St,s _ _ a,b.elim (fun e=>.inl (s _ _ e)) (fun ⟨o,e⟩=>.inr ⟨o,s _ _ e⟩),c,s _ _ d,e.same s⟩
def a7L (t:Adr) (H:Hp) (x:Addr) (rs:List Rw) (ss:List Str) (T:List Tr):Prop:=∃dx st sk cm St,H x=some (.ins t.C_Answers dx (afl st sk cm))∧H st=some (.dK (bv St))∧((St.Perm ((sts rs).foldl a0O [])∧PyProof.Rows.sortedS St=true)∧st≠sk∧st≠cm)∧H sk=some (.dK (bv ss))∧TAt H cm T
theorem a7L.weak {t:Adr} {H:Hp} {x:Addr} {rs:List Rw} {ss:List Str} {T:List Tr} (h:a7L t H x rs ss T):a5B t H x rs ss T:=let ⟨dx,st,sk,cm,St,a,b,c,d,e⟩:=h;⟨dx,st,sk,cm,St,a,.inl b,c.1,d,e⟩
theorem a7L.same {t:Adr} {H H':Hp} {x:Addr} {rs:List Rw} {ss:List Str} {T:List Tr} (s:a0h H H') (h:a7L t H x rs ss T):a7L t H' x rs ss T:=let ⟨dx,st,sk,cm,St,a,b,c,d,e⟩:=h;⟨dx,st,sk,cm,St,s _ _ a,s _ _ b,c,s _ _ d,e.same s⟩
theorem a7I {rs:List Rw} {St:List Str} (h:St.Perm ((sts rs).foldl a0O [])∧PyProof.Rows.sortedS St=true) (q:Str):q∈St↔q∈sts rs:=h.1.mem_iff.trans (by rw [a1o];exact ⟨fun h=>h.elim (fun z=>(by cases z)) id,.inr⟩)
def b5D (t:Adr):Sp:=fun vs H Q _=>∃(x dx g:Addr) (rs:List Rw) (pl:List (Str×Str)) (po:List Str) (H0:Hp),vs=[.ref x,.ref g]∧H x=some (.ins t.C_Answers dx [])∧a0h H0 H∧H0 x=none∧a3R t H0 g rs pl∧(∀r∈rs,a1E r)∧rs.length≤126∧(∀z∈sts rs,z∈po)∧po.length≤18∧(∀q∈po,q.length≤100∧a0D (a0D q)=q)∧a3Q t.TB_z0u a1K H0∧
 ∀H' ss T,(∀c o,c≠t.TB_z0u→H0 c=some o→H' c=some o)→a3Q t.TB_z0u a1K H'→a4p (rs.map srW) ss→b1g rs pl ss T→a7L t H' x rs ss T→Q .non H'
def wr (rs:List Rw) (T:List Tr) (q:Str):Str×Nat:=if q∈sts rs then ((T.find? fun e=>decide (e.1=q)).map fun e=>(wd e.2.1,e.2.2)).getD (("":Str),0) else (("refused":Str),1)
def c8H (t:Adr):Sp:=fun vs H Q _=>∃(x:Addr) (q:Str) (rs:List Rw) (ss:List Str) (T:List Tr),vs=[.ref x,.str q]∧a5B t H x rs ss T∧(T.map (·.1)).Nodup∧∀p H',a0h H H'→H' p=some (.tup [.str (wr rs T q).1,.int ((wr rs T q).2:Nat)])→Q (.ref p) H'
def b1J (t:Adr) (f:List Rw→List Str→List Tr→Str→V):Sp:=fun vs H Q _=>∃(x:Addr) (q:Str) (rs:List Rw) (ss:List Str) (T:List Tr),vs=[.ref x,.str q]∧a5B t H x rs ss T∧(T.map (·.1)).Nodup∧∀H',a0h H H'→Q (f rs ss T q) H'
def b6F (K:Qe) (t:Adr):Sp:=fun vs H Q _=>∃(x:Addr) (rs:List Rw) (ss:List Str) (T:List Tr),vs=[.ref x]∧a5B t H x rs ss T∧∀D H',a0h H H'→H D=none→H' D=some (.lst (ss.map V.str))→Q (.ref D) H'
theorem b7a {T:List Tr} (hn:(T.map (·.1)).Nodup) {e:Tr} (he:e∈T):T.find? (fun x=>decide (x.1=e.1))=some e:=by
 induction T with
 | nil=>cases he
 | cons p T ih=>
  rw [Xk,Za] at hn
  rcases Qw.mp he with z | z
  ·subst z;rw [Wp (by simp)]
  ·rw [Wq (by
    intro w
    have w':p.1=e.1:=by simpa using w
    exact hn.1 (Qk.mpr ⟨e,z,w'.symm⟩)),ih hn.2 z]
theorem b0J {T x C dx:Addr} {q:Str} {H:Hp} {fs:List (Str×V)} {o:HO} (h:a3Q T q H) (hx:H x=some (.ins C dx fs)):a3Q T q (upd H x o):=by
 obtain ⟨ps,a,b,c⟩:=h
 refine ⟨ps,by rw [a0a (a0u a hx ‹iz›)];exact a,b,fun pos cv e=>?_⟩
 obtain ⟨c',o',vs,t,z1,z2,z3⟩:=c pos cv e
 exact ⟨c',o',vs,t,z1,by rw [a0a (a0u z2 hx ‹iz›)];exact z2,z3⟩
theorem b7o (rs:List Rw) (T:List Tr) (q:Str):(wr rs T q).1="held"∨(wr rs T q).1="refused"∨(wr rs T q).1="":=by
 unfold wr
 split
 ·cases T.find? (fun e=>decide (e.1=q)) with
  | none=>exact .inr (.inr rfl)
  | some e=>
   obtain ⟨x,b,n⟩:=e
   cases b
   ·exact .inr (.inl rfl)
   ·exact .inl rfl
 ·exact .inr (.inl rfl)
/-! ### what the law writes down of the answers -/
def rk (rs:List Rw) (T:List Tr) (q:Str):Option Tr:=if (wr rs T q).1="" then none else some (q,decide ((wr rs T q).1="held"),(wr rs T q).2)
theorem b6j {rs:List Rw} {ss:List Str} (h:a4p (rs.map srW) ss):∀z∈ss,z∈sts rs:=fun z hz=>by
 have h1:=(b0Z z).mp (h.1.mem_iff.mp hz)
 obtain ⟨b,hb⟩:=a5G _ z h1
 obtain ⟨r,hr,e⟩:=Qk.mp hb
 have e2:r.2.2.1=z:=congrArg (fun x:SR Str=>x.2.1) e
 exact a1a.mpr ⟨r,hr,_,Qq,.inl e2.symm⟩
def leT (a b:Str):Prop:=¬b.cps.toList < a.cps.toList
theorem b0c {a b c:Str} (h1:leT a b) (h2:leT b c):leT a c:=List.le_trans (show a.cps.toList≤b.cps.toList from h1) (show b.cps.toList≤c.cps.toList from h2)
theorem b4A {a b:Str} (h1:leT a b) (h2:leT b a):a=b:=by
 have e:a.cps.toList=b.cps.toList:=List.le_antisymm (show a.cps.toList≤b.cps.toList from h1) (show b.cps.toList≤a.cps.toList from h2)
 obtain ⟨⟨a⟩⟩:=a
 obtain ⟨⟨b⟩⟩:=b
 have e':a=b:=e
 rw [e']
theorem a6C:∀(l:List Str) (p:Str),PyProof.Rows.risingS p l=true→(p::l).Pairwise leT
 | [],p,_=>by simp
 | x::r,p,h=>by
  have h':(!PySem.Spec.ltCps x.cps.toList p.cps.toList && PyProof.Rows.risingS x r)=true:=h
  rw [Xq,Ye,PyProof.Rows.ltCps_eq,decide_eq_false_iff_not] at h'
  have ih:=a6C r x h'.2
  refine Ji.mpr ⟨fun y hy=>?_,ih⟩
  rcases Qw.mp hy with e | e
  ·rw [e];exact h'.1
  ·exact b0c h'.1 ((Ji.mp ih).1 y e)
theorem a5R:∀{l:List Str},PyProof.Rows.sortedS l=true→l.Pairwise leT
 | [],_=>.nil
 | x::r,h=>a6C r x h
theorem a3W:∀{a b:List Str},a.Perm b→a.Pairwise leT→b.Pairwise leT→a=b
 | [],b,h,_,_=>(h.symm.eq_nil).symm
 | x::a,[],h,_,_=>by have:=h.length_eq;simp at this
 | x::a,y::b,h,ha,hb=>by
  have e:x=y:=by
   rcases Qw.mp (h.mem_iff.mp (Qq (a:=x) (l:=a))) with z | z
   ·exact z
   ·rcases Qw.mp (h.mem_iff.mpr (Qq (a:=y) (l:=b))) with w | w
    ·exact w.symm
    ·exact b4A ((Ji.mp ha).1 y w) ((Ji.mp hb).1 x z)
  subst e
  rw [a3W (List.Perm.cons_inv h) (Ji.mp ha).2 (Ji.mp hb).2]
def a8S (b:Bool) (w:Str):Str:=if b then "surely" else if w=("held":Str) then "mostly" else if w=("refused":Str) then "no" else "open"
def b6b:Sp:=fun vs H Q _=>∃(b:Bool) (w:Str),vs=[.bl b,.str w]∧Q (.str (a8S b w)) H
theorem a6T {α:Type} {l m:List α} (h:∀r,r∈l↔r∈m):l=[]↔m=[]:=by
 rw [Uw,Uw]
 exact ⟨fun a x hx=>a x ((h x).mpr hx),fun a x hx=>a x ((h x).mp hx)⟩
theorem a7u {α:Type} {l m:List α} {f g:α→Bool} (h:∀r,r∈l↔r∈m) (e:∀r,f r=g r):l.any f=m.any g:=by
 rw [Xn,Yx,Yx]
 exact ⟨fun ⟨r,a,b⟩=>⟨r,(h r).mp a,by rw [←e];exact b⟩,fun ⟨r,a,b⟩=>⟨r,(h r).mpr a,by rw [e];exact b⟩⟩
theorem b2D {α:Type} {l m:List α} {f g:α→Bool} (h:∀r,r∈l↔r∈m) (e:∀r,f r=g r):l.all f=m.all g:=by
 rw [Xn,Zm,Zm]
 exact ⟨fun a r b=>by rw [←e];exact a r ((h r).mpr b),fun a r b=>by rw [e];exact a r ((h r).mp b)⟩
theorem a5M {rs rs':List Rw} (h:∀r,r∈rs↔r∈rs') (q:Str) (r:Rw):r∈hdF rs q↔r∈hdF rs' q:=by
 unfold hdF;rw [Qs,Qs,h]
theorem a7U {b U U':List Str} (hU:∀x,x∈U↔x∈U'):a3i b U=a3i b U':=b2D (fun _=>Iff.rfl) fun r=>by rw [Xn,decide_eq_true_eq,decide_eq_true_eq,hU]
theorem a8E {b U U':List Str} (hU:∀x,x∈U↔x∈U'):a3a b U=a3a b U':=a7u (fun _=>Iff.rfl) fun r=>by rw [Xn,decide_eq_true_eq,decide_eq_true_eq,hU]
theorem a6q {rs rs':List Rw} {U U':List Str} (h:∀r,r∈rs↔r∈rs') (hU:∀x,x∈U↔x∈U') (q:Str) (r:Rw):r∈a2p rs U q↔r∈a2p rs' U' q:=by
 unfold a2p;rw [Qs,Qs,Qs,Qs,a5M h,a7U hU]
theorem b2U {rs rs':List Rw} {D D':List Str} (h:∀r,r∈rs↔r∈rs') (hD:∀x,x∈D↔x∈D') (q:Str) (r:Rw):r∈unf rs D q↔r∈unf rs' D' q:=by
 unfold unf;rw [Qs,Qs,Qs,Qs,a5M h,a8E hD]
theorem b1Q {pl pl':List (Str×Str)} {l m:List Rw} (hp:∀z,z∈pl↔z∈pl') (h:∀r,r∈l↔r∈m) (r:Rw):btn pl l r=btn pl' m r:=a7u h fun b=>by rw [Xn,decide_eq_true_eq,decide_eq_true_eq,hp]
theorem b7s {rs rs':List Rw} {pl pl':List (Str×Str)} {S S' U U' D D':List Str} (h:∀r,r∈rs↔r∈rs') (hp:∀z,z∈pl↔z∈pl') (hS:∀x,x∈S↔x∈S') (hU:∀x,x∈U↔x∈U') (hD:∀x,x∈D↔x∈D') (q:Str):stt rs pl S U D q=stt rs' pl' S' U' D' q:=by
 have e1:a1Y rs pl S U D q=a1Y rs' pl' S' U' D' q:=by
  unfold a1Y
  rw [b2D (g:=fun r=>a3a r.2.2.2 D' || btn pl' (a2p rs' U' q) r) (a5M h (a0D q)) fun r=>by rw [a8E hD,b1Q hp (a6q h hU q)]]
  simp only [hS,a6T (a6q h hU q)]
 have e2:a6Y rs pl S U D q=a6Y rs' pl' S' U' D' q:=by
  unfold a6Y
  rw [a7u (g:=fun r=>a3i r.2.2.2 U' && !btn pl' (unf rs' D' q) r) (a5M h (a0D q)) fun r=>by rw [a7U hU,b1Q hp (b2U h hD q)]]
  simp only [hS,a6T (b2U h hD q)]
 unfold stt;rw [e1,e2]
theorem a6H {rs rs':List Rw} {pl pl':List (Str×Str)} {S S' W W':List Str} {s s':RdS} (h:∀r,r∈rs↔r∈rs') (hp:∀z,z∈pl↔z∈pl') (hS:∀x,x∈S↔x∈S') (hW:∀x,x∈W↔x∈W') (hT:∀e,e∈s.T↔e∈s'.T) (hU:∀x,x∈s.U↔x∈s'.U) (hD:∀x,x∈s.D↔x∈s'.D) (e:Str×Bool):e∈fresh rs pl S W s↔e∈fresh rs' pl' S' W' s':=by
 obtain ⟨q,w⟩:=e
 have hk:q∈s.T.map (·.1)↔q∈s'.T.map (·.1):=by
  rw [Qk,Qk]
  exact ⟨fun ⟨e,a,b⟩=>⟨e,(hT e).mp a,b⟩,fun ⟨e,a,b⟩=>⟨e,(hT e).mpr a,b⟩⟩
 rw [a0P,a0P,hW,hk,b7s h hp hS hU hD]
theorem b0n {rs rs':List Rw} {pl pl':List (Str×Str)} {S S' W W' U D:List Str} (h:∀r,r∈rs↔r∈rs') (hp:∀z,z∈pl↔z∈pl') (hS:∀x,x∈S↔x∈S') (hW:∀x,x∈W↔x∈W'):∀n,(∀e,e∈(rds rs pl S W U D n).T↔e∈(rds rs' pl' S' W' U D n).T)∧(∀x,x∈(rds rs pl S W U D n).U↔x∈(rds rs' pl' S' W' U D n).U)∧(∀x,x∈(rds rs pl S W U D n).D↔x∈(rds rs' pl' S' W' U D n).D)
 | 0=>⟨fun _=>Iff.rfl,fun _=>Iff.rfl,fun _=>Iff.rfl⟩
 | n+1=>by
  obtain ⟨hT,hU,hD⟩:=b0n (U:=U) (D:=D) h hp hS hW n
  have hF:=a6H h hp hS hW hT hU hD
  refine ⟨fun e=>?_,fun x=>?_,fun x=>?_⟩
  ·show e∈_++_↔e∈_++_
   rw [Qv,Qv,hT,Qk,Qk]
   exact or_congr Iff.rfl ⟨fun ⟨p,a,b⟩=>⟨p,(hF p).mp a,b⟩,fun ⟨p,a,b⟩=>⟨p,(hF p).mpr a,b⟩⟩
  ·show x∈_++_↔x∈_++_
   rw [Qv,Qv,hU,a2X,a2X,hF]
  ·show x∈_++_↔x∈_++_
   rw [Qv,Qv,hD,a1Z,a1Z,hF]
theorem b6l {rs rs':List Rw} {pl pl':List (Str×Str)} {ss ss':List Str} {T T':List Tr} (h:∀r,r∈rs↔r∈rs') (hp:∀z,z∈pl↔z∈pl') (hS:∀x,x∈ss↔x∈ss') (ho:∀q∈sts rs,a0D (a0D q)=q) (hT:b1g rs pl ss T) (hT':b1g rs' pl' ss' T') (e:Tr):e∈T↔e∈T':=by
 obtain ⟨_,n,W,hW,hf,hI⟩:=hT
 obtain ⟨_,n',W',hW',hf',hI'⟩:=hT'
 have hs:∀q,q∈sts rs↔q∈sts rs':=fun q=>by
  rw [a1a,a1a]
  exact ⟨fun ⟨r,a,b⟩=>⟨r,(h r).mp a,b⟩,fun ⟨r,a,b⟩=>⟨r,(h r).mpr a,b⟩⟩
 obtain ⟨aT,aU,aD⟩:=b0n (U:=[]) (D:=[]) h hp hS (W:=W') (W':=W') (fun _=>Iff.rfl) n'
 have g:fresh rs pl ss W' (rds rs pl ss W' [] [] n')=[]:=(a6T (a6H h hp hS (fun _=>Iff.rfl) aT aU aD)).mpr hf'
 have gI:IsT rs pl ss W' [] [] n' T':=fun e=>(hI' e).trans (aT e).symm
 exact b8q (fun x=>(hW x).trans ((hs x).trans (hW' x).symm)) (fun q hq=>ho q ((hW q).mp hq)) hf g hI gI e
theorem a8q {T:List Tr} (hn:(T.map (·.1)).Nodup) {e:Tr} (he:e∈T):(T.find? fun x=>decide (x.1=e.1))=some e:=by
 induction T with
 | nil=>cases he
 | cons y T ih=>
  rw [Xk,Za] at hn
  rcases Qw.mp he with rfl | m
  ·exact Wp (by simp)
  ·rw [Wq (by
    intro z
    have z':y.1=e.1:=of_decide_eq_true z
    exact hn.1 (by rw [z'];exact Qk.mpr ⟨e,m,rfl⟩))]
   exact ih hn.2 m
theorem b3i {T T':List Tr} (hn:(T.map (·.1)).Nodup) (hn':(T'.map (·.1)).Nodup) (h:∀e,e∈T↔e∈T') (q:Str):(T.find? fun x=>decide (x.1=q))=T'.find? fun x=>decide (x.1=q):=by
 cases e:T.find? fun x=>decide (x.1=q) with
 | none=>
  cases e':T'.find? fun x=>decide (x.1=q) with
  | none=>rfl
  | some y=>
   have m:=Ud e'
   have z:=Wi e'
   exact absurd z (Ui.mp e y ((h y).mpr m))
 | some y=>
  have m:=Ud e
  have z0:=Wi e
  have z:y.1=q:=of_decide_eq_true z0
  have:=a8q hn' ((h y).mp m)
  rw [z] at this
  exact this.symm
theorem c0Z {rs rs':List Rw} {T T':List Tr} (h:∀r,r∈rs↔r∈rs') (hn:(T.map (·.1)).Nodup) (hn':(T'.map (·.1)).Nodup) (hT:∀e,e∈T↔e∈T') (q:Str):wr rs T q=wr rs' T' q:=by
 have hs:q∈sts rs↔q∈sts rs':=by
  rw [a1a,a1a]
  exact ⟨fun ⟨r,a,b⟩=>⟨r,(h r).mp a,b⟩,fun ⟨r,a,b⟩=>⟨r,(h r).mpr a,b⟩⟩
 unfold wr
 rw [b3i hn hn' hT]
 by_cases c:q∈sts rs
 ·rw [if_pos c,if_pos (hs.mp c)]
 ·rw [if_neg c,if_neg fun z=>c (hs.mpr z)]
/-! ### what is due,by the law's own rounds -/
def wo (x:Str×Nat):Str×Nat:=if x.1=("":Str) then (("open":Str),0) else x
def RkO (H:Hp) (R:Addr) (n:Nat) (g:Str→Option (Str×Nat)):Prop:=∃kvs,H R=some (.dK kvs)∧kvs.length≤n∧∀q,(a0T kvs (Sum.inr q:Key)=none∧g q=none)∨∃p w,a0T kvs (Sum.inr q:Key)=some (.ref p)∧g q=some w∧H p=some (.tup [.str w.1,.int (w.2:Nat)])
theorem RkO.same {H H':Hp} {R:Addr} {n:Nat} {g:Str→Option (Str×Nat)} (s:a0h H H') (h:RkO H R n g):RkO H' R n g:=let ⟨k,a,l,b⟩:=h;⟨k,s _ _ a,l,fun q=>(b q).imp id fun ⟨p,w,c,d,e⟩=>⟨p,w,c,d,s _ _ e⟩⟩
def b2d (rs:List Rw) (T:List Tr) (q:Str):Option (Str×Nat):=if q∈sts rs then some (wo (wr rs T q)) else none
def a2Y (rs:List Rw):List Str:=(FIN (rs.map srW) []).map (·.1)
def c0V (rs:List Rw) (St:List Str):Prop:=St.Perm ((sts rs).foldl a0O [])∧PyProof.Rows.sortedS St=true
def a9c (H:Hp) (d:Addr) (rs:List Rw) (pl:List (Str×Str)) (St:List Str) (T:List Tr):Prop:=∃F L R,H d=some (.tup [.ref F,.ref L,.ref R])∧H F=some (.dK (dv (FIN (rs.map srW) [])))∧H L=some (.lst (St.map V.str))∧c0V rs St∧RkO H R 100 (b2d rs T)∧b1g rs pl (a2Y rs) T
theorem a9c.same {H H':Hp} {d:Addr} {rs:List Rw} {pl:List (Str×Str)} {St:List Str} {T:List Tr} (s:a0h H H') (h:a9c H d rs pl St T):a9c H' d rs pl St T:=let ⟨F,L,R,a,b,c,e,f,g⟩:=h;⟨F,L,R,s _ _ a,s _ _ b,s _ _ c,e,f.same s,g⟩
def b7n (K:Qe):Sp:=fun vs H Q _=>∃(a:Addr) (xs:List V) (rs:List Rw) (po:List Str),vs=[.ref a]∧H a=some (.lst xs)∧a1V H xs rs∧(∀r∈rs,a1E r)∧rs.length≤100∧(∀x∈sts rs,x∈po)∧po.length≤18∧∀D St H',a0h H H'→H D=none→H' D=some (.lst (St.map V.str))→c0V rs St→Q (.ref D) H'
def c0z:Sp:=fun vs H Q _=>∃(F R:Addr) (q:Str) (S:List Str) (n:Nat) (rs:List Rw) (T:List Tr),vs=[.ref F,.ref R,.str q]∧DAt H F S∧RkO H R n (b2d rs T)∧∀H',a0h H H'→Q (.str (a8S (decide (q∈S)) (wr rs T q).1)) H'
def b8Q (K:Qe):Sp:=fun vs H Q _=>∃(R P:Addr) (xs ps:List V) (rs:List Rw) (pl:List (Str×Str)) (po:List Str),vs=[.ref R,.ref P]∧H R=some (.lst xs)∧a1V H xs rs∧(∀r∈rs,a1E r)∧rs.length≤100∧H P=some (.lst ps)∧a0y H ps pl∧b4e pl∧(∀x∈sts rs,x∈po)∧po.length≤18∧(∀q∈po,q.length≤100)∧∀d St T H',a0h H H'→H d=none→a9c H' d rs pl St T→Q (.ref d) H'
def c2z (t:Adr):Sp:=fun vs H Q _=>∃(x d:Addr) (q:Str) (rs:List Rw) (pl:List (Str×Str)) (ss St:List Str) (T T':List Tr),vs=[.ref x,.ref d,.str q]∧a5B t H x rs ss T∧(T.map (·.1)).Nodup∧a9c H d rs pl St T'∧(q∈ss↔q∈a2Y rs)∧wr rs T q=wr rs T' q∧∀H',a0h H H'→Q (.bl true) H'
def b3T (t:Adr):Sp:=fun vs H Q _=>∃(x d s:Addr) (rs:List Rw) (pl:List (Str×Str)) (ss St sm:List Str) (T T':List Tr),vs=[.ref x,.ref d,.ref s]∧a7L t H x rs ss T∧(T.map (·.1)).Nodup∧a9c H d rs pl St T'∧H s=some (.lst (sm.map V.str))∧sm.length≤100∧(∀q,q∈ss↔q∈a2Y rs)∧(∀q,wr rs T q=wr rs T' q)∧a4p (rs.map srW) ss∧(∀z∈sts rs,Xp z=true)∧St.length≤18∧rs.length≤63∧((sts rs).foldl a0O []).length≤18∧∀H',a0h H H'→Q (.bl true) H'
def b4w (t:Adr):Sp:=fun vs H Q _=>∃(x:Addr) (rs:List Rw) (ss:List Str) (T:List Tr),vs=[.ref x]∧a7L t H x rs ss T∧(T.map (·.1)).Nodup∧((sts rs).foldl a0O []).length≤18∧∀D zs St H',a0h H H'→H D=none→H' D=some (.lst zs)→c0V rs St→a0y H' zs (St.map fun q=>(q,a8S (decide (q∈ss)) (wr rs T q).1))→Q (.ref D) H'
theorem c2K {rs:List Rw} {T:List Tr} (hn:(T.map (·.1)).Nodup) {q:Str} {b:Bool} {n:Nat} (hk:q∈sts rs) (h:(q,b,n)∈T):wr rs T q=(wd b,n):=by
 have:=a8q hn h
 dsimp only at this
 unfold wr;rw [if_pos hk,this];rfl
theorem b7C {rs:List Rw} {T:List Tr} {q:Str} (hk:q∈sts rs) (h:q∉T.map (·.1)):wr rs T q=(("":Str),0):=by
 unfold wr;rw [if_pos hk,Ui.mpr fun x hx z=>h (Qk.mpr ⟨x,hx,of_decide_eq_true z⟩)];rfl
theorem c0d (b:Bool) (n:Nat):wo (wd b,n)=(wd b,n):=by unfold wo;rw [if_neg (show ¬(wd b:Str)="" from by cases b<;>decide+kernel)]
theorem a8G {H:Hp} {D:Addr} {F:List (Str×Nat)} (h:H D=some (.dK (dv F))):DAt H D (F.map (·.1)):=by
 refine ⟨_,h,fun x=>?_⟩
 rw [a4u,Uj]
 cases e:lk F x with
 | none=>symm;rw [Option.isSome_none];exact decide_eq_false fun z=>by obtain ⟨p,hp,ep⟩:=Qk.mp z;exact a7x e hp ep
 | some m=>symm;rw [Gh];exact decide_eq_true (Qk.mpr ⟨_,b1A e,rfl⟩)
def b3e (rs:List Rw) (T:List Tr) (l:List Str) (q:Str):Option (Str×Nat):=if q∈T.map (·.1) then some (wo (wr rs T q)) else if q∈l then some (("open":Str),0) else none
theorem b4G {H:Hp} {D:Addr} {rs:List Rw} {T:List Tr} (h:TAt H D T) (hn:(T.map (·.1)).Nodup) (hk:∀q∈T.map (·.1),q∈sts rs):RkO H D T.length (b3e rs T []):=by
 obtain ⟨A,rfl,hD,hA⟩:=id h
 refine ⟨_,hD,by rw [Qd,Qd];exact Qj _,fun q=>?_⟩
 unfold b3e
 by_cases m:q∈(A.map (·.2)).map (·.1)
 ·rw [if_pos m]
  obtain ⟨e,he,rfl⟩:=Qk.mp m
  obtain ⟨a,ha,rfl⟩:=Qk.mp he
  refine .inr ⟨a.1,_,b0o (by rw [Xf] at hn;exact hn) ha,rfl,?_⟩
  rw [c2K (b:=a.2.2.1) (n:=a.2.2.2) hn (hk _ m) he,c0d]
  exact hA a ha
 ·rw [if_neg m,if_neg ‹iz›]
  refine .inl ⟨?_,rfl⟩
  obtain ⟨kvs,e1,_,e3⟩:=h.keys
  rw [hD] at e1;cases e1
  have:=e3 q
  rw [decide_eq_false m] at this
  exact Option.not_isSome_iff_eq_none.mp (by rw [this];decide)
theorem b7I {rs:List Rw} {T:List Tr} {St:List Str} (hS:∀q,q∈St↔q∈sts rs) (hk:∀q∈T.map (·.1),q∈sts rs):b3e rs T St=b2d rs T:=by
 funext q
 unfold b3e b2d
 by_cases m:q∈T.map (·.1)
 ·rw [if_pos m,if_pos (hk q m)]
 ·rw [if_neg m]
  by_cases z:q∈sts rs
  ·rw [if_pos ((hS q).mpr z),if_pos z,b7C z m];rfl
  ·rw [if_neg fun w=>z ((hS q).mp w),if_neg z]
theorem b1s {rs:List Rw} {pl:List (Str×Str)} {ss:List Str} {T:List Tr} (h:b1g rs pl ss T):∀q∈T.map (·.1),q∈sts rs:=fun q hq=>by
 obtain ⟨_,n,W,hW,_,hI⟩:=h
 obtain ⟨e,he,z⟩:=Qk.mp hq
 exact (hW q).mp (a3P n q (Qk.mpr ⟨e,(hI e).mp he,z⟩))
theorem b6E {te ty:TE} {js:List (Option Nat)} {σ:St} {H:Hp} {Q:VK} {a:Addr} {kvs:List (Key×V)} {kn:List Str} (hH:H a=some (.dK kvs)) (hk:kvs.map (·.1)=kn.map (Sum.inr:Str→Key)) (hl:kn.length≤1000) (hte:∀R:VK,R (.ref a) H→te σ H R) (σr:St) (hσ:a1H js σ=none::σr) (f:Str→Str×Str)
  (hs:∀q o H' (R:V→Hp→Prop),q∈kn→a0h (upd H a (.frz o (.dK kvs))) H'→(∀p H'',a0h H' H''→H' p=none→H'' p=some (.tup [.str (f q).1,.str (f q).2])→R (.ref p) H'')→ty (some (.str q)::σr) H' R)
  (hd:∀D H' zs,H D=none→a0h H H'→H' D=some (.lst zs)→a0y H' zs (kn.map f)→Q (.ref D) H'):b6t (b2C js (a8Q te) (a0l 0) b4z ty) σ H Q:=by
 have hlen:kvs.length=kn.length:=by have:=congrArg Yp hk;simpa using this
 refine ⟨a,kvs,hH,?_⟩
 rw [a0o]
 refine hte _ ⟨a,kvs,rfl,hH,fun o=>?_⟩
 have hf:upd H a (.frz o (.dK kvs)) a=some (.frz o (.dK kvs)):=a0d
 have ef:∀i,i < kvs.length→∃hi:i < kn.length,((kvs[i]?.map fun p=>kV p.1).getD .non)=.str kn[i]:=fun i hi=>by
  have hi':i < kn.length:=by omega
  refine ⟨hi',?_⟩
  have e1:(kvs.map (·.1))[i]?=some (Sum.inr kn[i]):=by rw [hk,Ql,Qc hi'];rfl
  rw [Ql] at e1
  rw [Qc hi] at e1 ⊢
  have e2:=Option.some.inj e1
  show kV kvs[i].1=_
  rw [show kvs[i].1=Sum.inr kn[i] from e2];rfl
 refine a5z (a5s (o:=o) (a:=a) (kvs:=kvs)) (Qi (show kvs.length≤1000 by omega) ‹dc›) σr hσ (fun D i v H'=>∃(hi:i < kn.length) (p:Addr),v=.ref p∧p≠D∧H' p=some (.tup [.str (f kn[i]).1,.str (f kn[i]).2])) (fun D i v Ha Hb up ⟨hi,p,e,n,g⟩=>⟨hi,p,e,n,up _ _ n g⟩) (fun H' s=>s _ _ hf) (fun D i H' R hi hDn s hD hR=>?_) (fun D H' zs hDn s hD hzl hv=>?_)
 ·obtain ⟨hi',e⟩:=ef i hi
  rw [e]
  obtain ⟨ys,hD⟩:=hD
  exact hs _ o H' R (Xa hi') s fun p H'' s' hp g=>hR _ _ s' ⟨hi',p,rfl,(fun z=>by rw [z,hD] at hp;cases hp),g⟩
 ·have hDa:D≠a:=fun z=>by rw [z,a0d] at hDn;cases hDn
  have hDH:H D=none:=by rw [a0a hDa] at hDn;exact hDn
  refine ⟨o,s _ _ hf,hd D _ zs hDH (fun b u e=>?_) (by rw [a0a hDa];exact hD) ?_⟩
  ·by_cases z:b=a
   ·rw [z,a0d,←hH,←z];exact e
   ·rw [a0a z];exact s _ _ (by rw [a0a z];exact e)
  have hg:∀(i:Nat) (hi:i < zs.length),∃p,zs[i]=.ref p∧p≠a∧H' p=some (.tup [.str (f (kn[i]'‹om›)).1,.str (f (kn[i]'‹om›)).2]):=fun i hi=>by
   obtain ⟨_,p,e,_,g⟩:=hv i _ (Qc hi)
   exact ⟨p,e,(fun z=>by rw [z,s _ _ hf] at g;cases g),g⟩
  refine ⟨(Xz zs.length).map fun i=>match (zs[i]?).getD .non with | .ref p=>p | _=>0,?_,by simp;omega,fun i p w h1 h2=>?_⟩
  ·refine Jc (by simp) fun i h1 h2=>?_
   obtain ⟨p,e,_⟩:=hg i h1
   rw [Yd,Yd,Gj,Qc h1,Xh,e]
  ·have hi:i < zs.length:=by have:=(Qn.mp h1).1;simpa using this
   obtain ⟨p',e,n,g⟩:=hg i hi
   rw [Ql,Ub hi,Zr,Qc hi,Xh,e] at h1
   cases h1
   rw [Ql,Qc ‹om›] at h2
   cases h2
   rw [a0a n];exact g
theorem RkO.look {H H1:Hp} {R p:Addr} {n:Nat} {rs:List Rw} {T:List Tr} (hR:RkO H R n (b2d rs T)) (s:a0h H H1) (hp:H1 p=some (.tup [.str "refused",.int 1])) (z:Str):∃(o:Option V) (b:Addr),a2w H1 R (.str z) o∧o.getD (.ref p)=.ref b∧H1 b=some (.tup [.str (wo (wr rs T z)).1,.int ((wo (wr rs T z)).2:Nat)]):=by
 obtain ⟨kvs,hk,_,hkv⟩:=hR.same s
 refine ⟨a0T kvs (Sum.inr z:Key),?_⟩
 rcases hkv z with ⟨a1,a2⟩ | ⟨b,w,a1,a2,a3⟩
 ·have hz:z∉sts rs:=fun m=>by unfold b2d at a2;rw [if_pos m] at a2;cases a2
  have g:=a2w.k (k:=(Sum.inr z:Key)) hk
  refine ⟨p,g,by rw [a1];rfl,?_⟩
  have e:wo (wr rs T z)=(("refused":Str),1):=by unfold wr;rw [if_neg hz];exact c0d false 1
  rw [e];exact hp
 ·have g:=a2w.k (k:=(Sum.inr z:Key)) hk
  refine ⟨b,g,by rw [a1];rfl,?_⟩
  have hz:z∈sts rs:=Gp.mp fun m=>by unfold b2d at a2;rw [if_neg m] at a2;cases a2
  have ew:w=wo (wr rs T z):=by unfold b2d at a2;rw [if_pos hz] at a2;exact (Option.some.inj a2).symm
  rw [←ew];exact a3
theorem c0I (x:Str×Nat):decide ((wo x).1="held")=decide (x.1="held")∧decide ((wo x).1="refused")=decide (x.1="refused"):=by
 unfold wo
 by_cases h:x.1=""
 ·rw [if_pos h,h];decide+kernel
 ·rw [if_neg h];exact ⟨rfl,rfl⟩
theorem b6T (rs:List Rw) (T:List Tr) (q:Str):(wo (wr rs T q)).2=(wr rs T q).2:=by
 unfold wo
 by_cases h:(wr rs T q).1=""
 ·rw [if_pos h]
  unfold wr at h ⊢
  by_cases m:q∈sts rs
  ·rw [if_pos m] at h ⊢
   cases e:T.find? fun e=>decide (e.1=q) with
   | none=>rfl
   | some y=>rw [e] at h;exact absurd h (by show ¬(wd y.2.1:Str)="";cases y.2.1<;>decide+kernel)
  ·rw [if_neg m] at h;exact absurd h ‹dk›
 ·rw [if_neg h]
theorem a7o {K:Qe} {H:Hp}:∀{zs:List V} {pl:List (Str×Str)},a0y H zs pl→DenAll K H zs (pl.map fun p=>Vz [.str p.1,.str p.2])
 | [],pl,h=>by
  obtain ⟨as,e,l,_⟩:=h
  cases as with
  | nil=>cases pl with
   | nil=>exact .nil
   | cons p pl=>simp at l
  | cons a as=>cases e
 | z::zs,pl,h=>by
  obtain ⟨as,e,l,g⟩:=h
  cases as with
  | nil=>cases e
  | cons a as=>
   rw [Xk] at e
   injection e with e1 e2
   cases pl with
   | nil=>simp at l
   | cons p pl=>
    rw [e1]
    exact .cons (.tup (SqT.of (g 0 a p rfl rfl)) (.cons (.str _) (.cons (.str _) .nil))) (a7o ⟨as,e2,by simpa using l,fun i b q h1 h2=>g (i+1) b q (by simpa using h1) (by simpa using h2)⟩)
theorem b0N:∀pl:List (Str×Str),(∀p∈pl,Xp p.1=true∧Xp p.2=true)→Zh (pl.map fun p=>Vz [.str p.1,.str p.2])=true∧Zt (pl.map fun p=>Vz [.str p.1,.str p.2])≤1
 | [],_=>⟨rfl,Xb _⟩
 | p::pl,h=>by
  obtain ⟨a,b⟩:=b0N pl fun p hp=>h p (Qt _ hp)
  obtain ⟨c,d⟩:=h p Qq
  refine ⟨?_,?_⟩
  ·show (Xm (.tuple [.str p.1,.str p.2]) && _)=true
   rw [a,Gd]
   simp only [Xm,Zh,c,d];rfl
  ·show max (Yt (.tuple [.str p.1,.str p.2])) _≤1
   exact Nat.max_le.mpr ⟨Qj 1,b⟩
theorem a8Z {pl:List (Str×Str)} (h:∀p∈pl,Xp p.1=true∧Xp p.2=true):Ys (.list (pl.map fun p=>Vz [.str p.1,.str p.2]))=true:=by
 obtain ⟨a,b⟩:=b0N pl h
 unfold Ys
 rcases Nat.le_one_iff_eq_zero_or_eq_one.mp b with e | e
 ·simp only [Xm,Yt,a,e];decide+kernel
 ·simp only [Xm,Yt,a,e];decide+kernel
theorem b7W (b:Bool) (w:Str):Xp (a8S b w)=true:=by
 unfold a8S
 split
 ·decide+kernel
 ·split
  ·decide+kernel
  ·split<;>decide+kernel
theorem b9b {H:Hp} {zs:List V} {pl:List (Str×Str)} (hl:zs.length=pl.length) (hg:∀(i:Nat) (hi:i < zs.length),∃p,zs[i]=.ref p∧H p=some (.tup [.str (pl[i]'‹om›).1,.str (pl[i]'‹om›).2])):a0y H zs pl:=by
 refine ⟨(Xz zs.length).map fun i=>match (zs[i]?).getD .non with | .ref p=>p | _=>0,?_,by simp;omega,fun i p w h1 h2=>?_⟩
 ·refine Jc (by simp) fun i h1 h2=>?_
  obtain ⟨p,e,_⟩:=hg i h1
  rw [Yd,Yd,Gj,Qc h1,Xh,e]
 ·have hi:i < zs.length:=by have:=(Qn.mp h1).1;simpa using this
  obtain ⟨p',e,g⟩:=hg i hi
  rw [Ql,Ub hi,Zr,Qc hi,Xh,e] at h1
  cases h1
  rw [Qc ‹om›] at h2
  cases h2
  exact g
theorem b6V {T x:Addr} {t:Adr} {H:Hp} {ps:Array Value} {rs:List Rw} {ss:List Str} {T0:List Tr} (hT:H T=some (.tbl ps)) (h:a7L t H x rs ss T0):a7L t (b3g T H) x rs ss T0:=by
 obtain ⟨dx,st,sk,cm,St,a,b,c,d,A,e,f,g⟩:=h
 exact ⟨dx,st,sk,cm,St,a0G hT a ‹nz›,a0G hT b ‹nz›,c,a0G hT d ‹nz›,A,e,a0G hT f ‹nz›,fun u hu=>a0G hT (g u hu) ‹nz›⟩
theorem a7L.on {t:Adr} {H H':Hp} {rs:List Rw} {T x:Addr} {q:Str} {ss:List Str} {T0:List Tr} (lt:a3Q T q H) (k:∀a o,a≠T→H a=some o→H' a=some o) (h:a7L t H x rs ss T0):a7L t H' x rs ss T0:=let ⟨_,hT,_⟩:=id lt;(b6V hT h).same (a3S k)
structure Lx (K:Qe) (H:Hp) (a R M Pa Pr:Addr) (ns:List Int) (xs ys ps:List V) (rs ms:List Rw) (pl:List (Str×Str)) (po:List Str):Prop where
 S:SqL K H a (ns.map V.int)
 B:H R=some (.lst xs)
 A:a1V H xs rs
 M:H M=some (.lst ys)
 N:a1V H ys ms
 P:H Pa=some (.lst (po.map V.str))
 R:H Pr=some (.lst ps)
 Q:a0y H ps pl
section
variable {K:Qe} {H H':Hp} {a R M Pa Pr:Addr} {ns:List Int} {xs ys ps:List V} {rs ms:List Rw} {pl:List (Str×Str)} {po:List Str}
theorem Lx.same (s:a0h H H') (h:Lx K H a R M Pa Pr ns xs ys ps rs ms pl po):Lx K H' a R M Pa Pr ns xs ys ps rs ms pl po:=⟨s.seq h.S,s _ _ h.B,h.A.same s,s _ _ h.M,h.N.same s,s _ _ h.P,s _ _ h.R,a0y.same s h.Q⟩
theorem Lx.on {T:Addr} {q:Str} (lt:a3Q T q H) (k:∀a o,a≠T→H a=some o→H' a=some o) (h:Lx K H a R M Pa Pr ns xs ys ps rs ms pl po):Lx K H' a R M Pa Pr ns xs ys ps rs ms pl po:=by
 obtain ⟨p,hT,_⟩:=id lt
 have s:=a3S k
 exact ⟨s.seq (b6S hT h.S),s _ _ (a0G hT h.B ‹nz›),(b5h hT h.A).same s,s _ _ (a0G hT h.M ‹nz›),(b5h hT h.N).same s,s _ _ (a0G hT h.P ‹nz›),s _ _ (a0G hT h.R ‹nz›),a0y.same s (b7U hT h.Q)⟩
end
theorem b6X {H:Hp} {xs:List V} {rs:List Rw} (h:a1V H xs rs) (n:Nat):a1V H (xs.take n) (rs.take n):=by
 refine ⟨by rw [Yb,Yb,h.len],fun i r e=>?_⟩
 rw [Gk] at e
 by_cases hi:i < n
 ·rw [if_pos hi] at e
  obtain ⟨x,a,b⟩:=h.get i r e
  exact ⟨x,by rw [Gk,if_pos hi];exact a,b⟩
 ·rw [if_neg hi] at e;cases e
theorem a7R {rs:List Rw} {pl:List (Str×Str)} {ss:List Str} {T T':List Tr} (ho:∀q∈sts rs,a0D (a0D q)=q) (d:a4p (rs.map srW) ss) (hT:b1g rs pl ss T) (hT':b1g rs pl (a2Y rs) T'):(∀q,q∈ss↔q∈a2Y rs)∧∀q,wr rs T q=wr rs T' q:=by
 have hS:∀q,q∈ss↔q∈a2Y rs:=fun q=>d.1.mem_iff
 exact ⟨hS,fun q=>c0Z (fun _=>Iff.rfl) hT.1 hT'.1 (b6l (fun _=>Iff.rfl) (fun _=>Iff.rfl) hS ho hT hT') q⟩
theorem b2m {rs:List Rw} {po:List Str} (h:∀x∈sts rs,x∈po) (hl:po.length≤18):((sts rs).foldl a0O []).length≤18:=Qi (a1s (a0Z (sts rs) Zg) (m:=po) fun x hx=>by
 rcases a1o.mp hx with z | z
 ·cases z
 ·exact h x z) hl
theorem a8x {K:Qe} {t:Adr} {H:Hp} {R:Addr} {xs:List V} {rs:List Rw} {js:List (Option Nat)} {σ:St} {Q:VK} (hR:H R=some (.lst xs)) (hA:a1V H xs rs) (hO:∀r∈rs,a1E r) (hl:rs.length≤126) (hj:a1H js σ=[none]) (q:∀Ru H' ys,a0h H H'→H' Ru=some (.lst ys)→a1S t H' ys rs→Q (.ref Ru) H'):a4g (Itl K R) js (a0l 0) b4z (a0v (a7i K t) [] E0 (a0i (a0k 0) a0q)) σ H Q:=by
 refine a5z (a2q (xs:=xs)) (Qi (show xs.length≤1000 by rw [hA.len];omega) ‹dc›) [] hj (fun D i v H'=>∃hi:i < rs.length,RuD t D v rs[i] H') ?_ (fun H' s=>SqL.of (s _ _ hR)) (fun D i H' R hi hDn s hD hR=>?_) (fun Ru H4 ys hRn s4 hR4 hyl hv=>q Ru H4 ys s4 hR4 (c1Y (hyl.trans hA.len) hv))
 ·rintro D i v Ha Hb up ⟨hi,p,dx,t0,e,n1,n2,g1,g2⟩
  exact ⟨hi,p,dx,t0,e,n1,n2,up _ _ n1 g1,up _ _ n2 g2⟩
 ·have hi':i < rs.length:=by rw [←hA.len];exact hi
  obtain ⟨x,ex,p,t1,rfl,g1,g2⟩:=hA.get i rs[i] (Qc hi')
  rw [ex,Xh]
  obtain ⟨zs,hD⟩:=hD
  refine ⟨_,rfl,?_⟩
  show a7i K t [V.ref p] H' R E0
  refine ⟨p,t1,rs[i],rfl,hO _ (Xa hi'),s _ _ g1,s _ _ g2,fun x H' s' hx=>?_⟩
  obtain ⟨dx,t0,f1,f2⟩:=hx
  have hD':=s' _ _ hD
  exact hR _ _ s' ⟨hi',x,dx,t0,rfl,a0u f1 hD' ‹iz›,a0u f2 hD' ‹iz›,f1,f2⟩
theorem a7W {t:Adr} {H:Hp} {g:Addr} {rs:List Rw} {pl:List (Str×Str)} {po:List Str} {R:Addr→Hp→Prop} {E:XK} (hG:a3R t H g rs pl) (hO:∀r∈rs,a1E r) (hl:rs.length≤126) (hpo:∀z∈sts rs,z∈po) (hp:po.length≤18) (hqs:∀q∈po,q.length≤100∧a0D (a0D q)=q) (lt:a3Q t.TB_z0u a1K H)
  (q:∀x H' ss T,(∀c o,c≠t.TB_z0u→H c=some o→H' c=some o)→a3Q t.TB_z0u a1K H'→a4p (rs.map srW) ss→b1g rs pl ss T→a7L t H' x rs ss T→R x H'):∀x dx,H x=none→H dx=none→dx≠x→b5D t [.ref x,.ref g] (upd (upd H dx (.own x)) x (.ins t.C_Answers dx [])) (fun v H2=>v=.non∧R x H2) E:=by
 intro x dx nx ndx ne
 obtain ⟨H4,e4,s4,h4⟩:∃H4,upd (upd H dx (.own x)) x (.ins t.C_Answers dx [])=H4∧a0h H H4∧H4 x=some (.ins t.C_Answers dx []):=⟨_,rfl,fun c o e=>by rw [a0a (a0b e nx),a0a (a0b e ndx)];exact e,a0d⟩
 rw [e4]
 exact ⟨x,dx,g,rs,pl,po,H,rfl,h4,s4,nx,hG,hO,hl,hpo,hp,hqs,lt,fun H' ss T k l d a b=>⟨rfl,q x H' ss T k l d a b⟩⟩
end K43
namespace K43
open PySem L2 Tx
local macro_rules
 | `(‹$n:num›)=>`(@pv _ $n _ _ (by rfl) (by first | exact d0l rfl | exact c9i rfl | exact d0s rfl) ‹dc› ‹dc›)
local macro_rules | `(tactic| trivial)=>`(tactic| first | exact Or.inl rfl | exact Or.inr rfl | assumption)
set_option hygiene false
local macro_rules
 | `(‹($x)›)=>`(‹$x›)
 | `(‹A0 $a $b›)=>`(@b0W _ _ _ _ _ ‹$a› ‹$b› (by rfl))
 | `(‹A1›)=>`(@b5f _)
 | `(‹A2 $a $b›)=>`(@b4I _ _ _ _ _ ‹$a› ‹$b›)
 | `(‹A3 $a›)=>`(@b7B _ _ _ ‹$a›)
 | `(‹A4›)=>`(@c0R _ _ _ _)
 | `(‹A5 $a $b›)=>`(@b6O _ _ $a _ $b rfl (by trivial) (by trivial))
 | `(‹A6 $a $b $c›)=>`(@c3b _ _ _ _ _ _ _ _ $a ‹$b› ‹$c›)
 | `(‹A7 $a $b $c›)=>`(@c1G _ _ $a _ _ _ _ $b rfl (by trivial) ‹$c› (by rfl) (by trivial))
 | `(‹A8 $a $b $c $d $e $f›)=>`(@b7l _ _ _ _ _ _ _ _ _ _ _ _ _ _ _ _ $a (hr.mono ‹dc›) rfl $b $c $d $e a9Z ‹$f› ‹dc› (by rfl) (by rfl))
 | `(‹A9 $a›)=>`(@c1B _ _ _ _ ‹$a›)
 | `(‹B0›)=>`(@c1Q _ _ _ _)
 | `(‹B1 $a $b $c $d›)=>`(@b7d _ _ _ _ _ _ _ _ $a ‹$b› ‹$c› $d)
 | `(‹B2 $a $b $c $d›)=>`(@b0t _ $a $b $c $d _ rfl rfl ‹dk›)
 | `(‹B3 $a $b $c›)=>`(@c2Z _ _ _ _ _ _ _ _ ‹$a› ‹$b› ‹$c›)
 | `(‹B4 $a›)=>`(@b7g _ _ _ _ ‹$a›)
 | `(‹B5›)=>`(@c2Y _ _ _ _)
 | `(‹B6 $a $b $c›)=>`(@c3m _ _ _ _ _ _ _ $a ‹$b› ‹$c› (fun _ _=>rfl))
 | `(‹B7 $a›)=>`(@c1R _ _ _ _ ‹$a›)
 | `(‹B8›)=>`(@b7V _)
 | `(‹B9 $a $b $c›)=>`(@c0P _ _ _ _ _ _ _ _ PassesOwn.never rfl ‹$a› ‹$b› ‹$c› (by intro _;rfl))
 | `(‹C0 $a›)=>`(@c1W _ _ _ _ _ ‹$a›)
 | `(‹C1 $a $b $c $d $e›)=>`(@b8c _ _ _ _ _ _ _ _ _ _ _ _ _ ‹$a› rfl ‹$b› (fun _ _ _ _ _=>‹$c›) (fun _ _ _ _ _=>‹$d›) (fun _ _ _ _ _=>‹$e›) (by intro _;rfl))
 | `(‹C2 $a›)=>`(@c1f _ _ _ ‹$a› (by intro _;rfl))
 | `(‹C3 $a $b›)=>`(@b4C _ _ _ _ _ ‹$a› ‹$b› (by rfl))
 | `(‹C4 $a $b $c $d›)=>`(@b4B _ _ _ _ _ _ _ _ _ $a rfl $b $c ‹$d› ‹dc› ‹dc› (by rfl) (by rfl))
 | `(‹C5 $a $b $c›)=>`(@b6d _ _ _ _ _ _ _ _ _ (a2k hr) ‹$a› ‹$b› ‹$c› rfl)
 | `(‹C6 $a›)=>`(@b7p _ _ _ ‹$a›)
 | `(‹C7 $a›)=>`(@b5v _ _ _ _ _ ‹$a› rfl)
 | `(‹C8 $a›)=>`(@b9A _ _ _ _ _ _ $a (by with_unfolding_all rfl))
 | `(‹C9 $a $b $c $d $e $f›)=>`(@b8i _ _ _ _ _ _ _ _ _ _ _ _ _ _ _ _ _ _ _ _ ‹$a› $b $c $d (hr.mono ‹dc›) $e .nil a9Z ‹$f› (by rfl) (by rfl) (by rfl))
 | `(‹D0 $a $b $c $d $e $f›)=>`(@c2O _ _ _ _ _ _ _ _ _ _ _ _ $a $b $c $d ‹$e› ‹$f› (by rfl) (by rfl) (by rfl) (by rfl) (by rfl))
 | `(‹D1›)=>`(@b3o _ _)
 | `(‹D2 $a›)=>`(@b7O _ _ _ _ ‹$a› (by rfl))
 | `(‹D3›)=>`(@b6I _)
 | `(‹D4 $a›)=>`(@PW.pt _ _ _ ‹$a›)
 | `(‹D5 $a $b $c $d $e›)=>`(@b3N _ _ _ _ _ _ _ _ _ _ _ _ _ _ _ _ _ ‹$a› $b $c $d (hr.mono ‹dc›) $e .nil a9Z (by rfl))
 | `(‹D6 $a $b $c›)=>`(@b7Y _ _ $a _ _ rfl $b $c ‹dc›)
 | `(‹D7 $a $b $c $d›)=>`(@b7F _ _ _ _ _ _ _ _ $a ‹$b› ‹$c› $d)
 | `(‹D8 $a $b›)=>`(@b7v _ _ _ _ _ ‹$a› ‹$b›)
 | `(‹D9 $a›)=>`(@b9j _ _ _ _ ‹$a›)
 | `(‹E0 $a $b $c $d $e $f $g›)=>`(@a9d _ _ _ _ _ _ _ _ _ _ _ _ _ $a _ _ _ ‹$b› rfl ‹$c› (fun _ _ _ _ _=>‹$d›) (fun _ _ _ _ _=>‹$e›) (fun _ _ _ _ _=>‹$f›) $g rfl (by trivial) rfl (by intro _;rfl) (by trivial))
 | `(‹E1 $a›)=>`(@b7y _ _ _ _ ‹$a›)
 | `(‹E2 $a›)=>`(@b8r _ (K) _ _ _ _ rfl ‹$a› rfl)
 | `(‹E3›)=>`(@b7x _)
 | `(‹E4 $a›)=>`(@a9X _ _ _ _ _ _ rfl T.z_range ‹$a› (by rfl))
 | `(‹E5 $a›)=>`(@c1J _ _ _ _ ‹$a›)
 | `(‹E6 $a $b $c $d›)=>`(@b2W _ _ _ _ _ _ _ _ _ $a rfl $b $c ‹$d› ‹dc› ‹dc› (by rfl) (by rfl))
 | `(‹E7 $a $b $c›)=>`(@b3l _ _ _ _ _ _ _ _ _ (a2k hr) ‹$a› ‹$b› ‹$c› ⟨rfl,rfl,rfl,rfl⟩)
 | `(‹E8 $a $b›)=>`(@b0m _ _ _ _ _ (a2k hr) ‹$a› ‹$b›)
 | `(‹E9 $a $b›)=>`(@c2h _ _ _ _ _ _ _ _ ‹$a› ‹$b› rfl)
 | `(‹F0 $a $b›)=>`(@b9M _ _ _ _ ‹$a› ‹$b›)
 | `(‹F1 $a $b›)=>`(@c2S _ _ _ _ _ _ _ ‹$a› ‹$b›)
 | `(‹F2 $a›)=>`(@c2t _ _ _ _ ‹$a›)
 | `(‹F3 $a $b›)=>`(@b8M _ _ _ _ _ _ _ ‹$a› ‹$b›)
 | `(‹F4 $a›)=>`(@b5k _ _ _ _ _ _ rfl ‹$a› (by rfl) (by rfl))
 | `(‹F5 $a $b $c $d $e›)=>`(@b7X _ _ _ _ _ _ _ _ _ _ _ _ _ _ _ _ _ $a $b (hr.mono ‹dc›) rfl $c $d .nil a9Z ‹$e› ‹dc› (by rfl) (by rfl))
 | `(‹F6 $a $b›)=>`(@b6r _ _ _ _ _ _ (a2k hr) ‹$a› ‹$b› (fun _ _=>rfl))
 | `(‹F7 $a›)=>`(@b6M _ _ _ _ ‹$a›)
 | `(‹F8 $a›)=>`(@b7r _ _ _ ‹$a›)
 | `(‹F9 $a›)=>`(@b6K _ _ _ ‹$a›)
 | `(‹G0 $a›)=>`(@b7c _ _ _ ‹$a›)
 | `(‹G1 $a›)=>`(@c1u _ _ _ _ _ _ $a (by with_unfolding_all rfl))
 | `(‹G2 $a $b $c›)=>`(@b7f _ _ $a _ _ rfl $b $c rfl ‹dc› ‹dc›)
 | `(‹G3 $a $b $c›)=>`(@b4r _ _ _ _ _ _ _ _ _ _ c0X ‹$a› ‹$b› ‹$c›)
 | `(‹G4 $a $b $c›)=>`(@b3C _ _ _ _ _ _ _ _ _ ‹$a› ‹$b› ‹$c› ⟨rfl,rfl,rfl,rfl⟩)
 | `(‹G5 $a $b›)=>`(@c2s _ _ _ _ ‹$a› ‹$b›)
 | `(‹G6 $a $b›)=>`(@b4M _ _ _ _ _ _ PassesOwn.never ‹$a› ‹$b›)
 | `(‹G7 $a $b›)=>`(@c0r _ _ _ _ _ _ ‹$a› ‹$b› (by rfl) (by rfl) (by rfl))
 | `(‹G8 $a $b $c›)=>`(@b3y _ _ _ _ _ _ _ _ ‹$a› ‹$b› ‹$c›)
 | `(‹G9›)=>`(@b6L _)
 | `(‹H0 $a›)=>`(@b9f _ _ _ _ _ ‹$a›)
 | `(‹H1 $a $b $c›)=>`(@b4d _ _ _ _ _ _ _ _ _ ‹$a› ‹$b› ‹$c›)
 | `(‹H2 $a $b›)=>`(@b8O _ _ _ _ ‹$a› ‹$b›)
 | `(‹H3 $a $b›)=>`(@c2u _ _ _ _ _ _ _ ‹$a› ‹$b›)
 | `(‹H4 $a›)=>`(@c0u _ _ _ _ ‹$a›)
 | `(‹H5 $a›)=>`(@b3u _ _ _ _ _ _ _ _ ‹$a› (by rfl) (by rfl))
 | `(‹H6 $a $b $c›)=>`(@c1S _ _ $a _ _ _ _ _ _ $b rfl (by trivial) ‹$c› c0Q (by trivial))
 | `(‹H7 $a›)=>`(@b7i _ (K) _ _ _ _ (2) rfl rfl ‹$a› (by rfl) (by rfl))
 | `(‹H8 $a $b›)=>`(@c2X _ _ _ _ _ _ _ ‹$a› ‹$b›)
 | `(‹H9 $a›)=>`(@b3M _ _ _ ‹$a›)
 | `(‹J0›)=>`(@b8Y _ _ _)
 | `(‹J1 $a $b $c $d $e $f $g $h $i $j $k $l $m $n $o $p $q $r $s $t $u›)=>`(@b3L _ _ _ _ _ _ _ $a _ _ _ _ _ $b $c _ $d $e $f $g $h $i $j $k $l ‹$m› ‹$n› $o $p $q $r $s $t $u (by rfl))
 | `(‹J2›)=>`(@b3B _ _)
 | `(‹J3 $a $b $c $d $e $f $g $h›)=>`(@b3v _ _ _ _ _ _ _ _ _ _ _ _ _ _ _ _ _ _ _ _ ‹$a› $b $c $d $e $f $g ‹$h› (by rfl) (by rfl) (by rfl))
 | `(‹J4 $a $b $c›)=>`(@b0X _ _ _ _ _ _ _ $a $b ‹$c› (by rfl) (by rfl))
 | `(‹J5 $a $b $c›)=>`(@b6R _ _ _ _ _ ‹$a› $b $c (by simp) ‹dc›)
 | `(‹J6›)=>`(@b7A _ _)
 | `(‹J7 $a $b $c›)=>`(@b6A _ _ _ _ _ _ _ _ $a $b ‹$c› (by rfl))

section
variable {P:Program} {w:World} {K:Qe} {mg:Str→Option Value} {base:Heap} {t:Adr}
theorem a4o (T:Txt K mg t):a0R P w K mg base CX0 1 t.f_z1e t.fd_z1e ["statement"] b6k:=by
 refine T.F_z1e.ok b8X (fun vs H Q E h=>?_) (fun cdv A outer s H vs Q E hr h=>?_)
 ·obtain ⟨z,rfl,hz,q⟩:=h;rfl
 ·obtain ⟨z,rfl,hz,q⟩:=h
  refine ⟨_,‹A3 (A9 (G8 (C2 (D0 Wr Vf Vg a6u 0 (A0 B0 A1))) (G3 0 (F9 A4) G9) (A6 a0r B0 0)))›,?_⟩
  rw [show start c2y [V.str z]=[some (V.str z)] from rfl]
  unfold a0D at q
  simp only [a0X,tIf,tB,tBM,a0k,Qa,a0i,tC,a0q,tSl,b1m,a5A,b3k,a0e,a7Y,tOp,a1A,a5e,a1k,b0q]
  refine a1Q (fun c=>?_) (fun c=>?_)
  ·rw [if_pos c] at q
   exact ⟨a3O ‹om›,q⟩
  ·rw [if_neg c] at q
   exact ⟨Qi (Nat.add_le_add (show (Ut "-").length≤1 by decide+kernel) hz) ‹dc›,q⟩
theorem b5w (T:Txt K mg t):a0R P w K mg base CX0 2 t.f_z01 t.fd_z01 ["self"] (c3k t):=by
 refine T.F_z01.ok a7A (fun vs H Q E h=>?_) (fun cdv A outer s H vs Q E hr h=>?_)
 ·obtain ⟨g,rs,pl,po,rfl,hG,hO,hrl,hpo,hpl,q⟩:=h;rfl
 ·obtain ⟨g,rs,pl,po,rfl,hG,hO,hrl,hpo,hpl,q⟩:=h
  refine ⟨_,‹A2 (A7 1 a7A.nd D1) (A2 (B9 (E5 (C7 0)) (A5 2 a7A.nd) (A3 (B9 (E5 (A6 a0r (C0 (A0 (C7 2) A1)) (C7 2))) (A5 3 a7A.nd) (A2 (C5 1 3 B5) (A3 (C5 1 (A8 (a4o T) T.g_z1e T.F_z1e.kp T.b_z1e .nil (A0 3 A1)) B5)))))) (A3 (A9 (C4 (a3s rfl) T.z_sorted a2g (A0 1 A1)))))›,?_⟩
  rw [show start b9W [V.ref g]=[some (V.ref g),none,none,none] from rfl]
  obtain ⟨dx,io,bh,pr,xs,_,_,h1,h2,h3,_⟩:=id hG
  simp only [a1l,a1P,a1O,a0l,Qf,Qg,a0t,b3f,a3F,a0k,Qa,a0e]
  intro D hD
  obtain ⟨H1,e1,s1,hD1⟩:=a0N hD (.dK []);rw [e1]
  have hioD:io≠D:=a0b h2 hD
  have hsz:∀A:List Str,(∀x∈A,x∈po)→(A.foldl a0O []).length≤18:=fun A hA=>Qi (a1s (a0Z A Zg) (m:=po) fun x hx=>by
   rcases a1o.mp hx with z | z
   ·cases z
   ·exact hA x z) hpl
  refine ⟨g,_,dx,_,_,rfl,s1 _ _ h1,T.cl_Ground,T.nf_Ground_in_order,b4Z _ _ _,?_⟩
  simp only [a0s]
  refine ⟨⟨_,SqT.of (s1 _ _ h2)⟩,?_⟩
  refine a5q (K:=K) (a:=io) (xs:=xs) (fun i σ H'=>∃(x y:Option V),σ=[some (V.ref g),some (V.ref D),x,y]∧a3p H1 D H'∧H' D=some (.dK (bv ((sts (rs.take i)).foldl a0O []))))
   ⟨_,_,rfl,a3p.refl _ _,hD1⟩ (fun i σ H' _ ⟨_,_,_,k,_⟩=>SqT.of (k _ _ (s1 _ _ h2) hioD)) ?_ ?_
  ·rintro i v σ H3 hi ⟨x,y,rfl,k3,hD3⟩
   have hil:i < rs.length:=by rw [←h3.len];exact (Qn.mp hi).1
   obtain ⟨v',ev,p,rfl,hp⟩:=h3.get i rs[i] (Qc hil)
   rw [hi] at ev;cases ev
   have hrm:=Xa hil
   have hro:=hO _ hrm
   have CF:=a9j T hro.1
   have esn:sts (rs.take (i+1))=sts (rs.take i)++(rs[i].2.2.1::rs[i].2.2.2).flatMap fun q=>[q,a0D q]:=by
    unfold sts
    rw [Qp hil,Jp];simp
   have hA0:∀x∈sts (rs.take i),x∈po:=fun x hx=>hpo x (by
    obtain ⟨r,hr,z⟩:=a1a.mp hx
    exact a1a.mpr ⟨r,Yo hr,z⟩)
   have hA1:∀q∈rs[i].2.2.1::rs[i].2.2.2,q∈po∧a0D q∈po∧q.length≤100:=fun q hq=>⟨hpo q (a1a.mpr ⟨_,hrm,q,hq,.inl rfl⟩),hpo _ (a1a.mpr ⟨_,hrm,q,hq,.inr rfl⟩),by
    rcases Qw.mp hq with z | z
    ·rw [z];have:=hro.2.2.2.1.2;omega
    ·have:=(hro.2.2.2.2.1 q z).2;omega⟩
   generalize rs[i]=r at hp hro CF esn hA1
   generalize sts (rs.take i)=A0 at hD3 esn hA0
   rw [esn]
   clear esn
   obtain ⟨dx',t0,hp1,hp2⟩:=hp
   have hp1':=s1 _ _ hp1
   have hp2':=s1 _ _ hp2
   have hpD:p≠D:=a0b hp1 hD
   have htD:t0≠D:=a0b hp2 hD
   have hbl:=hro.2.2.2.2.2
   simp only [a0l,Qf,Qg,a0t,b3f,tOp,a3J,a0i,a3F,a0k,Qb,Qa,a0q,a0e]
   refine ⟨p,_,dx',_,_,rfl,k3 _ _ hp1' hpD,CF.cl,CF.nh,a1v _ _ _,by simp only [Qm,Qr];decide,fun c hc=>?_⟩
   obtain ⟨H4,e4,s4,h4⟩:=a0N hc (.tup [V.str r.2.2.1]);rw [e4]
   have walk:∀(c2:Addr) (H5:Hp),a0h H3 H5→H5 c2=some (.tup ((r.2.2.1::r.2.2.2).map V.str))→c6K (Itt K c2) (a0l 3) (a1l (a2U (a0k 1) (a0k 3) (tC (V.bl true))) (a2U (a0k 1) (a0v b6k [] E0 (a0i (a0k 3) a0q)) (tC (V.bl true)))) {nx:=fun σ H'=>∃(x y:Option V),σ=[some (V.ref g),some (V.ref D),x,y]∧a3p H1 D H'∧H' D=some (.dK (bv ((A0++(r.2.2.1::r.2.2.2).flatMap fun q=>[q,a0D q]).foldl a0O []))),rt:=Q,bk:=a0X (tCB (b5L K) (a0i (a0k 1) a0q)) {nx:=fun x H'=>Q V.non H',rt:=Q},ct:=fun σ H'=>∃(x y:Option V),σ=[some (V.ref g),some (V.ref D),x,y]∧a3p H1 D H'∧H' D=some (.dK (bv ((A0++(r.2.2.1::r.2.2.2).flatMap fun q=>[q,a0D q]).foldl a0O [])))} [some (V.ref g),some (V.ref D),some (V.ref p),y] H5:=fun c2 H5 s5 h5=>by
    have hcD:c2≠D:=a0u h5 (s5 _ _ hD3) ‹iz›
    generalize r.2.2.1::r.2.2.2=qs at h5 hA1
    refine a5q (K:=K) (a:=c2) (xs:=qs.map V.str) (fun j σ H'=>∃(y:Option V),σ=[some (V.ref g),some (V.ref D),some (V.ref p),y]∧a3p H5 D H'∧H' D=some (.dK (bv ((A0++(qs.take j).flatMap fun q=>[q,a0D q]).foldl a0O []))))
     ⟨_,rfl,a3p.refl _ _,by rw [Jd,List.flatMap_nil,Qh];exact s5 _ _ hD3⟩ (fun j σ H' _ ⟨_,_,k,_⟩=>SqT.of (k _ _ h5 hcD)) ?_ ?_
    ·rintro j v σ H6 hj ⟨y,rfl,k6,hD6⟩
     have hjl:j < qs.length:=by simpa using (Qn.mp hj).1
     have ex:v=V.str qs[j]:=by
      rw [Ql,Qc hjl] at hj
      exact (Option.some.inj hj).symm
     subst ex
     have hq1:=hA1 _ (Xa hjl)
     have hA2:∀x∈A0++(qs.take j).flatMap (fun q=>[q,a0D q]),x∈po:=fun x hx=>by
      rcases Qv.mp hx with z | z
      ·exact hA0 x z
      ·obtain ⟨q,hq,w⟩:=Ze.mp z
       have:=hA1 q (Yo hq)
       simp only [Qw,Zn,or_false] at w
       rcases w with w | w
       ·rw [w];exact this.1
       ·rw [w];exact this.2.1
     have ej:A0++(qs.take (j+1)).flatMap (fun q=>[q,a0D q])=(A0++(qs.take j).flatMap fun q=>[q,a0D q])++[qs[j],a0D qs[j]]:=by
      rw [Qp hjl,Jp,←Yu];simp
     rw [ej]
     generalize (A0++(qs.take j).flatMap fun q=>[q,a0D q])=A1 at hD6 hA2
     generalize qs[j]=q0 at hq1
     have l1:=hsz A1 hA2
     have l2:=hsz (A1++[q0]) fun x hx=>by
      rcases Qv.mp hx with z | z
      ·exact hA2 x z
      ·rw [Xo.mp z];exact hq1.1
     simp only [a0l,a1l,a2U,tC,a0k,Qf,Qg,Qb,Qa,a0v,a0i,a0q,Qh,a0e]
     refine ⟨D,_,rfl,b3d hD6 ‹om› q0,q0,rfl,hq1.2.2,D,_,rfl,b3d (x:=a0D q0) (S:=(A1++[q0]).foldl a0O []) (by rw [a0d,Ym];rfl) ‹om›,_,rfl,fun b o e n=>?_,?_⟩
     ·rw [a0a n,a0a n];exact k6 _ _ e n
     ·rw [a0d,Ym,Ym];rfl
    ·rintro σ H6 ⟨y,rfl,k6,hD6⟩
     rw [Qd,Xr] at hD6
     exact ⟨_,_,rfl,fun b o e n=>k6 _ _ (s5 _ _ (k3 _ _ e n)) n,hD6⟩
   refine ⟨p,_,dx',_,_,rfl,s4 _ _ (k3 _ _ hp1' hpD),CF.cl,CF.nb,a1U _ _ _,.inr (.inr (.inr ⟨c,t0,_,_,rfl,rfl,SqT.of h4,SqT.of (s4 _ _ (k3 _ _ hp2' htD)),by simp,Qi (show _≤1000 by simp;omega) ‹dc›,fun e=>?_,fun e c2 hc2=>?_⟩))⟩
   ·refine ⟨c,rfl,⟨_,SqT.of h4⟩,walk c H4 s4 ?_⟩
    rw [Xk,e];exact h4
   ·obtain ⟨H5,e5,s5,h5⟩:=a0N hc2 (.tup ([V.str r.2.2.1]++r.2.2.2.map V.str));rw [e5]
    exact ⟨c2,rfl,⟨_,SqT.of h5⟩,walk c2 H5 (s4.trans s5) h5⟩
  ·rintro σ H3 ⟨x,y,rfl,k3,hD3⟩
   rw [show rs.take xs.length=rs by rw [h3.len];exact Xr] at hD3
   have hl:=hsz (sts rs) hpo
   simp only [a0X,tCB,a0i,a0k,Qb,Qa,a0q,a0e]
   refine .inr (.inl ⟨D,_,_,rfl,.inl hD3,a3b _,by omega,fun l ss hl' hp hs=>?_⟩)
   have s3:a0h H H3:=fun b o e=>k3 _ _ (s1 _ _ e) (a0b e hD)
   obtain ⟨H4,e4,s4,h4⟩:=a0N hl' (.lst (ss.map V.str));rw [e4]
   exact q l ss H4 (s3.trans s4) (none_of s3 hl') h4 hp hs
theorem a3f (T:Txt K mg t):a0R P w K mg base CX0 1 t.f_z21 t.fd_z21 ["some"] (b8g K):=by
 refine T.F_z21.ok a7H (fun vs H Q E h=>?_) (fun cdv A outer s H vs Q E hr h=>?_)
 ·obtain ⟨v,kn,rfl,ha,hl,q⟩:=h;rfl
 ·obtain ⟨v,kn,rfl,ha,hl,q⟩:=h
  refine ⟨_,‹A2 (A7 1 a7H.nd D1) (A2 (H2 (G0 (B9 (E1 0) (A5 2 a7H.nd) (A3 (C5 1 2 B5)))) (B9 (B4 0) (A5 2 a7H.nd) (A3 (C5 1 2 B5)))) (A3 (A9 1)))›,?_⟩
  rw [show start c1I [v]=[some (v),none,none] from rfl]
  simp only [a1l,a1P,a1O,a0l,Qf,Qg]
  intro D hD
  obtain ⟨H1,e1,s1,h1⟩:=a0N hD (.dK []);rw [e1]
  have hvD:v≠.ref D:=fun z=>by
   obtain ⟨b,o,e,hb⟩:=ha.at
   rw [z] at e;cases e;rw [hD] at hb;cases hb
  refine a5a (fun H0 i σ' H'=>∃x,σ'=[some v,some (V.ref D),x]∧a3p H0 D H'∧H' D=some (.dK (bv ((kn.take i).foldl a0O [])))) (ha.same s1) (a0J rfl) (fun H0 h0=>⟨_,rfl,a3p.refl _ _,h0.keep _ _ h1 hvD⟩) ?_ ?_ ?_
  ·rintro H0 i σ' H' b o ⟨x,rfl,k,_⟩ z e
   exact k _ _ e fun w=>hvD (by rw [z,w])
  ·rintro H0 i hi σ' H' rt bk h0 ⟨x,rfl,k,hD'⟩
   have hlen:=a1b (kn.take i) []
   simp only [a0l,a2U,tC,a0k,Qf,Qg,Qb,Qa,a0e]
   refine ⟨D,_,rfl,b3d hD' (by simp at hlen;omega) kn[i],_,rfl,fun b o e n=>?_,?_⟩
   ·rw [a0a n];exact k _ _ e n
   ·rw [a0d,Qp hi,Ym];rfl
  ·rintro H0 σ' H' H'' h0 ⟨x,rfl,k,hD'⟩ k1 k2
   rw [Xr] at hD'
   simp only [a0X,a0k,Qb,Qa,a0e]
   refine q D H'' (fun b o e=>?_) hD (k1 _ _ hD' hvD)
   by_cases z:v=.ref b
   ·exact k2 b o z (s1 _ _ e)
   ·exact k1 b o (k b o (h0.keep _ _ (s1 _ _ e) z) (a0b e hD)) z
theorem b5m (T:Txt K mg t):a0R P w K mg base CX0 1 t.f_z0l t.fd_z0l ["self"] (b1d t):=by
 refine T.F_z0l.ok c1j (fun vs H Q E h=>?_) (fun cdv A outer s H vs Q E hr h=>?_)
 ·obtain ⟨g,rs,pl,rfl,hG,q⟩:=h;rfl
 ·obtain ⟨g,rs,pl,rfl,hG,q⟩:=h
  refine ⟨_,‹A3 (A9 (E6 a1W T.z_list a1G (A0 (C7 0) A1)))›,?_⟩
  rw [show start c2j [V.ref g]=[some (V.ref g)] from rfl]
  obtain ⟨dx,io,bh,pr,xs,kvs,kps,h1,h2,h3,h4,h5,h6',h7'⟩:=hG
  simp only [a0X,tCB,a0i,a3F,a0k,Qa,a0q,a0e]
  refine ⟨g,_,dx,_,_,rfl,h1,T.cl_Ground,T.nf_Ground_in_order,b4Z _ _ _,io,_,rfl,.inr (SqT.of h2),fun l hl=>?_⟩
  obtain ⟨H6,e6,s6,h6⟩:=a0N hl (.lst xs);rw [e6]
  exact q l xs _ s6 hl h6 (h3.same s6)
theorem b9I (T:Txt K mg t):a0R P w K mg base CX0 2 t.f_z03 t.fd_z03 ["ground"] (b6e t):=by
 refine T.F_z03.ok a8o (fun vs H Q E h=>?_) (fun cdv A outer s H vs Q E hr h=>?_)
 ·obtain ⟨g,rs,pl,rfl,hG,hO,hrl,q⟩:=h;rfl
 ·obtain ⟨g,rs,pl,rfl,hG,hO,hrl,q⟩:=h
  refine ⟨_,‹A2 (A7 1 a8o.nd D1) (A2 (B9 (B4 (D5 0 T.cl_Ground T.me_Ground_rules (b5m T) T.b_z0l)) (A5 2 a8o.nd) (A3 (B9 (E5 (C7 2)) (A5 3 a8o.nd) (A3 (D2 (D0 Xy Xv Xw a0H (G4 1 3 (B7 A1)) (A0 (C7 2) A1))))))) (A3 (A9 1)))›,?_⟩
  rw [show start c0n [V.ref g]=[some (V.ref g),none,none,none] from rfl]
  obtain ⟨dx,io,bh,pr,_,_,_,hg1,_⟩:=id hG
  simp only [a1l,a1P,a1O,a0l,Qf,Qg,a0t,a1p,a1M,a0k,Qa,a0q,Qh,a0e]
  intro D hD
  obtain ⟨H1,e1,s1,h1⟩:=a0N hD (.dK []);rw [e1]
  refine ⟨g,dx,_,rfl,s1 _ _ hg1,a2C _ _ _ ‹dk› ‹dk› ‹dk›,g,rs,pl,rfl,hG.same s1,fun W ys H2 s2 hWn hW2 hR2=>?_⟩
  have hWD:W≠D:=fun z=>by have e:=s2 _ _ h1;rw [←z,hW2] at e;cases e
  have s02:=s1.trans s2
  have hDn:=s2 _ _ h1
  have hyl:=hR2.len
  simp only [a0s]
  refine ⟨⟨_,SqL.of hW2⟩,?_⟩
  refine a0S (K:=K) (a:=W) (xs:=ys) (fun i σ H'=>∃(kvs:List (Key×V)) (x y:Option V),σ=[some (V.ref g),some (V.ref D),x,y]∧a3p H2 D H'∧a8L H2 H' D kvs (phs (rs.take i)))
   ⟨[],_,_,rfl,a3p.refl _ _,⟨hDn,Qj _,fun p=>.inl ⟨rfl,rfl⟩,fun p p' N e=>by cases e⟩⟩ (fun i σ H' _ h=>by obtain ⟨_,_,_,_,k,_⟩:=h;exact SqL.of (k _ _ hW2 hWD)) ?_ ?_
  ·rintro i v σ H3 hi ⟨kvs,x,y,rfl,k3,I3⟩
   have hil:i < rs.length:=by rw [←hyl];exact (Qn.mp hi).1
   obtain ⟨v',ev,p,rfl,hp⟩:=hR2.get i rs[i] (Qc hil)
   rw [hi] at ev;cases ev
   have hro:=hO _ (Xa hil)
   have CF:=a9j T hro.1
   have esn:phs (rs.take (i+1))=phs (rs.take i)++rs[i].2.2.2.map fun p=>(p,rs[i].2.2.1):=by
    unfold phs
    rw [Qp hil,Jp];simp
   have hphl:(phs (rs.take i)).length≤504:=by
    have:=a7b (rs:=rs.take i) (fun r hr=>hO r (Yo hr))
    rw [Yb] at this;omega
   generalize rs[i]=r at hp hro CF esn
   generalize phs (rs.take i)=L0 at I3 esn hphl
   obtain ⟨dx',t0,hp1,hp2⟩:=hp
   have hpD:p≠D:=a0u hp1 hDn ‹iz›
   have htD:t0≠D:=a0u hp2 hDn ‹iz›
   have hbl:=hro.2.2.2.2.2
   simp only [a0l,Qf,Qg,a0t,b3f,a3F,a0k,Qb,Qa,a0e]
   refine ⟨p,_,dx',_,_,rfl,k3 _ _ hp1 hpD,CF.cl,CF.nb,a1U _ _ _,?_⟩
   simp only [a0s]
   refine ⟨⟨_,SqT.of (k3 _ _ hp2 htD)⟩,?_⟩
   refine a5q (K:=K) (a:=t0) (xs:=r.2.2.2.map V.str) (fun j σ H'=>∃(kvs:List (Key×V)) (y:Option V),σ=[some (V.ref g),some (V.ref D),some (V.ref p),y]∧a3p H2 D H'∧a8L H2 H' D kvs (L0++(r.2.2.2.take j).map fun p=>(p,r.2.2.1)))
    ⟨kvs,_,rfl,k3,by rw [Jd,Jg,Qh];exact I3⟩ (fun i σ H' _ h=>by obtain ⟨_,_,_,k,_⟩:=h;exact SqT.of (k _ _ hp2 htD)) ?_ ?_
   ·clear I3 k3
    rintro j v σ H4 hj ⟨kvs,y,rfl,k4,I4⟩
    have hjl:j < r.2.2.2.length:=by simpa using (Qn.mp hj).1
    have ex:v=V.str r.2.2.2[j]:=by
     rw [Ql,Qc hjl] at hj
     exact (Option.some.inj hj).symm
    subst ex
    have ej:L0++(r.2.2.2.take (j+1)).map (fun p=>(p,r.2.2.1))=(L0++(r.2.2.2.take j).map fun p=>(p,r.2.2.1))++[(r.2.2.2[j],r.2.2.1)]:=by
     rw [Qp hjl,Xe,←Yu];rfl
    have hll:(L0++(r.2.2.2.take j).map fun p=>(p,r.2.2.1)).length≤508:=by
     rw [Xx,Qd,Yb];omega
    rw [ej]
    generalize (L0++(r.2.2.2.take j).map fun p=>(p,r.2.2.1))=L1 at I4 hll
    generalize r.2.2.2[j]=pq
    have hp4:=k4 _ _ hp1 hpD
    have hkl:=I4.len
    simp only [a0l,a3n,tBM,a6y,a0k,Qf,Qg,Qb,Qa,a2M,a0q,a0i,a3F,a0e,a0s]
    refine ⟨a2B I4.d,by decide,fun N hN=>?_⟩
    obtain ⟨H6,e6,s6,h6⟩:=a0N hN (.lst []);rw [e6]
    have hNn:H2 N=none:=by
     cases e:H2 N with
     | none=>rfl
     | some o=>
      by_cases z:N=D
      ·rw [z,I4.d] at hN;cases hN
      ·rw [k4 _ _ e z] at hN;cases hN
    have hND:N≠D:=fun z=>by rw [z,I4.d] at hN;cases hN
    have hNp:N≠p:=fun z=>by rw [z,hp4] at hN;cases hN
    refine ⟨kvs,Sum.inr pq,s6 _ _ I4.d,rfl,Xj (show kvs.length≤1000 by omega) ‹dc›,fun u hu=>?_,fun hu=>?_⟩
    ·rcases I4.at_ pq with ⟨e,_⟩ | ⟨M,e,_⟩
     ·rw [e] at hu;cases hu
     rw [e] at hu;cases hu
     obtain ⟨hM,hMn,I7⟩:=(I4.same s6).old (h:=r.2.2.1) e
     have hsz:=b4t L1 pq
     try skip
     refine ⟨.inl ⟨rfl,_,SqL.of hM⟩,p,_,dx',_,_,rfl,s6 _ _ hp4,CF.cl,CF.nh,a1v _ _ _,M,_,_,rfl,rfl,hM,Xj (show _≤1000 by rw [Qd];omega) ‹dc›,?_⟩
     exact ⟨kvs,_,rfl,fun b o e n=>by rw [a0a (a0b e hMn)];exact s6 _ _ (k4 _ _ e n),I7⟩
    ·have I7:=I4.new (h:=r.2.2.1) hu hN hNn (.lst [])
     rw [e6] at I7
     have hN7:upd H6 D (.dK (a2F kvs (Sum.inr pq) (V.ref N))) N=some (.lst []):=by rw [a0a hND];exact h6
     try skip
     refine ⟨.inl ⟨rfl,_,SqL.of hN7⟩,p,_,dx',_,_,rfl,(by rw [a0a hpD];exact s6 _ _ hp4),CF.cl,CF.nh,a1v _ _ _,N,_,_,rfl,rfl,hN7,by decide,?_⟩
     exact ⟨_,_,rfl,fun b o e n=>by rw [a0a (a0b e hNn),a0a n];exact s6 _ _ (k4 _ _ e n),I7⟩
   ·rintro σ H4 ⟨kvs,y,rfl,k4,I4⟩
    rw [Qd,Xr,←esn] at I4
    exact ⟨kvs,_,_,rfl,k4,I4⟩
  ·rintro σ H3 ⟨kvs,x,y,rfl,k3,I3⟩
   rw [show rs.take ys.length=rs by rw [hyl];exact Xr] at I3
   simp only [a0X,a0k,Qb,Qa,a0e]
   exact q D H3 (fun c o e=>k3 _ _ (s02 _ _ e) (a0b e hD)) hD (I3.hds hO hrl)
theorem c1z (T:Txt K mg t):a0R P w K mg base CX0 2 t.f_z1n t.fd_z1n ["heads","came"] b2r:=by
 refine T.F_z1n.ok a8B (fun vs H Q E h=>?_) (fun cdv A outer s H vs Q E hr h=>?_)
 ·obtain ⟨hd,cm,rs,F,rfl,hoff,hcm,hFl,hO,hrl,q⟩:=h;rfl
 ·obtain ⟨hd,cm,rs,F,rfl,hoff,hcm,hFl,hO,hrl,q⟩:=h
  refine ⟨_,‹A2 (A7 2 a8B.nd D1) (A2 (G0 (B9 (E1 1) (A5 3 a8B.nd) (A3 (B9 (B4 (E7 0 3 (B7 A1))) (A5 4 a8B.nd) (A2 (C5 2 4 B5) (A3 (C5 2 (A8 (a4o T) T.g_z1e T.F_z1e.kp T.b_z1e .nil (A0 4 A1)) B5))))))) (A3 (A9 2)))›,?_⟩
  rw [show start c2f [V.ref hd,V.ref cm]=[some (V.ref hd),some (V.ref cm),none,none,none] from rfl]
  simp only [a1l,a1P,a1O,a0l,Qf,Qg]
  intro D hD
  obtain ⟨H1,e1,s1,h1⟩:=a0N hD (.dK []);rw [e1]
  have hcD:cm≠D:=fun z=>by rw [z,hD] at hcm;cases hcm
  refine b2z (kn:=F.map (·.1)) (fun H0 i σ' H'=>∃(x y:Option V) (T:List Str),σ'=[some (V.ref hd),some (V.ref cm),some (V.ref D),x,y]∧a3p H0 D H'∧H' D=some (.dK (bv T))∧T.Nodup∧T.length≤1200 * i∧∀z,z∈T↔tch rs ((F.map (·.1)).take i) z) (s1 _ _ hcm) (a3t F) (a0J rfl) (fun o=>⟨_,_,[],rfl,a3p.refl _ _,by rw [a0a hcD.symm];exact h1,Zg,Xb _,fun z=>⟨fun w=>(by cases w),fun ⟨r,_,⟨p,_,w⟩,_⟩=>(by cases w)⟩⟩) ?_ ?_ ?_
  ·rintro o i σ' H' ⟨x,y,T,rfl,k,_⟩
   exact k _ _ a0d hcD
  ·rintro o i hi σ' H' rt bk ⟨x,y,T,rfl,k,hT,hnd,hTl,hTm⟩
   have hoff':∀H2,a3p H' D H2→a4B H2 hd rs:=fun H2 k2=>hoff H2 fun b o e n=>k2 _ _ (k _ _ (by rw [a0a (fun z=>n (by rw [z]))];exact s1 _ _ e) (a0b e hD)) (a0b e hD)
   have hi100:i < 80:=by rw [Qd] at hi;omega
   have esn:∀z,tch rs ((F.map (·.1)).take (i+1)) z↔tch rs ((F.map (·.1)).take i) z∨∃r∈rs,(F.map (·.1))[i]∈r.2.2.2∧(z=r.2.2.1∨z=a0D r.2.2.1):=fun z=>by
    rw [Qp hi]
    constructor
    ·rintro ⟨r,hr,⟨p,hp,hm⟩,hz⟩
     rcases Qv.mp hm with w | w
     ·exact .inl ⟨r,hr,⟨p,hp,w⟩,hz⟩
     ·exact .inr ⟨r,hr,Xo.mp w ▸ hp,hz⟩
    ·rintro (⟨r,hr,⟨p,hp,hm⟩,hz⟩ | ⟨r,hr,hp,hz⟩)
     ·exact ⟨r,hr,⟨p,hp,Zf _ hm⟩,hz⟩
     ·exact ⟨r,hr,⟨_,hp,Xc _ (Xo.mpr rfl)⟩,hz⟩
   generalize (F.map (·.1))[i]=pq at esn
   obtain ⟨kvs,hk,hv⟩:=hoff' H' (a3p.refl _ _)
   have hdD:hd≠D:=fun z=>by
    obtain ⟨kvs2,hk2,_⟩:=hoff H (fun _ _ e _=>e)
    rw [z,hD] at hk2;cases hk2
   simp only [a0l,Qf,Qg,a0t,a1p,a3C,a0k,Qa,Qb,a2M,a0q,a0e,a0s]
   refine ⟨a2B hk,by decide,fun N hN=>?_⟩
   obtain ⟨H2,e2,s2,h2⟩:=a0N hN (.lst []);rw [e2]
   refine ⟨_,a2w.k (k:=(Sum.inr pq:Key)) (s2 _ _ hk),?_⟩
   have hND:N≠D:=fun z=>by rw [z,hT] at hN;cases hN
   have hcase:∃(L:Addr) (hs:List Str),(a0T kvs (Sum.inr pq:Key)).getD (.ref N)=.ref L∧H2 L=some (.lst (hs.map V.str))∧hs.length≤600∧∀h:Str,h∈hs↔∃r∈rs,pq∈r.2.2.2∧r.2.2.1=h:=by
    rcases hv pq with ⟨e,g⟩ | ⟨L,hs,e,g1,g2,g3⟩
    ·rw [e];exact ⟨N,[],rfl,h2,Xb _,fun h=>⟨fun w=>(by cases w),fun ⟨r,hr,hp,_⟩=>absurd hp (g r hr)⟩⟩
    ·rw [e];exact ⟨L,hs,rfl,s2 _ _ g1,g2,g3⟩
   obtain ⟨L,hs,eL,hL,hsl,hsm⟩:=hcase
   have hT2:=s2 _ _ hT
   have hLD:L≠D:=a0u hL hT2 ‹iz›
   have hho:∀h∈hs,h.length≤40:=fun h hh=>by
    obtain ⟨r,hr,_,rfl⟩:=(hsm h).mp hh
    exact (hO r hr).2.2.2.1.2
   rw [eL]
   simp only [a0s]
   refine ⟨⟨_,SqL.of hL⟩,?_⟩
   refine a0S (K:=K) (a:=L) (xs:=hs.map V.str) (fun j σ H'=>∃(y:Option V) (T':List Str),σ=[some (V.ref hd),some (V.ref cm),some (V.ref D),some (V.str pq),y]∧a3p H2 D H'∧H' D=some (.dK (bv T'))∧T'.Nodup∧T'.length≤1200 * i+2 * j∧∀z,z∈T'↔z∈T∨∃h∈hs.take j,z=h∨z=a0D h)
    ⟨_,T,rfl,a3p.refl _ _,hT2,hnd,by omega,fun z=>⟨.inl,fun w=>w.elim id fun ⟨_,h,_⟩=>(by cases h)⟩⟩ (fun j σ H' _ h=>by obtain ⟨_,_,_,k,_⟩:=h;exact SqL.of (k _ _ hL hLD)) ?_ ?_
   ·rintro j v σ H3 hj ⟨y,T',rfl,k3,hT3,hnd3,hTl3,hTm3⟩
    have hjl:j < hs.length:=by simpa using (Qn.mp hj).1
    have ex:v=V.str hs[j]:=by
     rw [Ql,Qc hjl] at hj
     exact (Option.some.inj hj).symm
    subst ex
    have hho':=hho _ (Xa hjl)
    rw [Qp hjl]
    generalize hs[j]=h0 at hho'
    have l1:=a1b [h0] T'
    have l2:=a1b [a0D h0] (a0O T' h0)
    simp only [a0l,a1l,a2U,tC,a0k,Qf,Qg,Qb,Qa,a0v,a0i,a0q,Qh,a0e]
    refine ⟨D,_,rfl,b3d hT3 ‹om› h0,h0,rfl,by omega,?_⟩
    simp only []
    refine ⟨D,_,rfl,b3d a0d (by simp at l1;show (a0O T' h0).length≤_;omega) (a0D h0),_,a0O (a0O T' h0) (a0D h0),rfl,fun b o e n=>?_,a0d,?_,?_,fun z=>?_⟩
    ·rw [a0a n,a0a n];exact k3 _ _ e n
    ·exact a0Z [h0,a0D h0] hnd3
    ·have:=a1b [h0,a0D h0] T'
     simp at this
     show (a0O (a0O T' h0) (a0D h0)).length≤_
     omega
    ·rw [a5y,a5y,hTm3]
     constructor
     ·rintro (((w | ⟨h,hh,w⟩) | w) | w)
      ·exact .inl w
      ·exact .inr ⟨h,Zf _ hh,w⟩
      ·exact .inr ⟨h0,Xc _ (Xo.mpr rfl),.inl w⟩
      ·exact .inr ⟨h0,Xc _ (Xo.mpr rfl),.inr w⟩
     ·rintro (w | ⟨h,hh,w⟩)
      ·exact .inl (.inl (.inl w))
      ·rcases Qv.mp hh with m | m
       ·exact .inl (.inl (.inr ⟨h,m,w⟩))
       ·rw [Xo.mp m] at w
        exact w.elim (fun w=>.inl (.inr w)) .inr
   ·rintro σ H3 ⟨y,T',rfl,k3,hT3,hnd3,hTl3,hTm3⟩
    rw [Qd,Xr] at hTm3
    refine ⟨_,_,T',rfl,fun b o e n=>k3 _ _ (s2 _ _ (k _ _ e n)) n,hT3,hnd3,by rw [Qd] at hTl3;omega,fun z=>?_⟩
    rw [hTm3,hTm,esn]
    refine or_congr Iff.rfl ⟨fun ⟨h,hh,w⟩=>?_,fun ⟨r,hr,hp,w⟩=>⟨r.2.2.1,(hsm _).mpr ⟨r,hr,hp,rfl⟩,w⟩⟩
    obtain ⟨r,hr,hp,rfl⟩:=(hsm h).mp hh
    exact ⟨r,hr,hp,w⟩
  ·rintro o σ' H' ⟨x,y,T,rfl,k,hT,hnd,hTl,hTm⟩
   rw [Xr] at hTm
   simp only [a0X,a0k,Qb,Qa,a0e]
   refine q D T _ (fun b u e=>?_) hD (by rw [a0a hcD.symm];exact hT) hnd ?_ hTm
   ·by_cases z:b=cm
    ·subst z;rw [a0d,←hcm];exact e
    ·rw [a0a z];exact k _ _ (by rw [a0a z];exact s1 _ _ e) (a0b e hD)
   ·have:=a1s hnd (m:=rs.flatMap fun r=>[r.2.2.1,a0D r.2.2.1]) fun z hz=>by
     obtain ⟨r,hr,_,w⟩:=(hTm z).mp hz
     exact Ze.mpr ⟨r,hr,by simpa using w⟩
    have h2:=b1R rs
    omega
theorem b4X (T:Txt K mg t):a0R P w K mg base CX0 1 t.f_z0b t.fd_z0b ["self","statement"] (a9q t):=by
 refine T.F_z0b.ok c0C (fun vs H Q E h=>?_) (fun cdv A outer s H vs Q E hr h=>?_)
 ·obtain ⟨g,h,rs,pl,rfl,hG,q⟩:=h;rfl
 ·obtain ⟨g,h,rs,pl,rfl,hG,q⟩:=h
  refine ⟨_,‹A3 (A9 (E6 a1W T.z_list a1G (A0 (E7 (C7 0) 1 (B7 A1)) A1)))›,?_⟩
  rw [show start b9p [V.ref g,V.str h]=[some (V.ref g),some (V.str h)] from rfl]
  obtain ⟨dx,io,bh,pr,xs,kvs,kps,h1,h2,h3,h4,h5,_⟩:=hG
  simp only [a0X,tCB,a0i,a3C,a3F,a0k,Qa,Qb,a2M,a0q,a0e]
  refine ⟨g,_,dx,_,_,rfl,h1,T.cl_Ground,T.nf_Ground_by_head,b9V _ _ _,?_⟩
  simp only [a0s]
  refine ⟨a2B h4,by decide,fun N hN=>?_⟩
  obtain ⟨H6,e6,s6,h6⟩:=a0N hN (.lst []);rw [e6]
  refine ⟨_,a2w.k (k:=(Sum.inr h:Key)) (s6 _ _ h4),?_⟩
  rcases h5 h with ⟨e,g5⟩ | ⟨L,ys,e,g2,g4⟩
  ·rw [e]
   refine ⟨N,_,rfl,.inl (SqL.of h6),fun l hl=>?_⟩
   obtain ⟨H7,e7,s7,h7⟩:=a0N hl (.lst []);rw [e7]
   refine q l [] _ (s6.trans s7) (none_of s6 hl) h7 ?_
   rw [g5];exact ⟨rfl,fun i r e=>by simp at e⟩
  ·rw [e]
   refine ⟨L,_,rfl,.inl (SqL.of (s6 _ _ g2)),fun l hl=>?_⟩
   obtain ⟨H7,e7,s7,h7⟩:=a0N hl (.lst ys);rw [e7]
   exact q l ys _ (s6.trans s7) (none_of s6 hl) h7 (g4.same (s6.trans s7))
theorem b5t (T:Txt K mg t):a0R P w K mg base CX0 2 t.f_z09 t.fd_z09 ["self","statement"] (b1j t):=by
 refine T.F_z09.ok c2w (fun vs H Q E h=>?_) (fun cdv A outer s H vs Q E hr h=>?_)
 ·obtain ⟨g,h,rs,pl,rfl,hG,hO,hhl,q⟩:=h;rfl
 ·obtain ⟨g,h,rs,pl,rfl,hG,hO,hhl,q⟩:=h
  refine ⟨_,‹A3 (A9 (C9 0 T.cl_Ground T.me_Ground_ruling (b4X T) T.b_z0b (A0 (A8 (a4o T) T.g_z1e T.F_z1e.kp T.b_z1e .nil (A0 1 A1)) A1)))›,?_⟩
  rw [show start b9R [V.ref g,V.str h]=[some (V.ref g),some (V.str h)] from rfl]
  obtain ⟨dx,io,bh,pr,_,_,_,hg1,_⟩:=id hG
  simp only [a0X,a1M,a0k,Qa,a0i,a0v,Qb,a0q,Qh,a0e]
  refine ⟨g,dx,_,rfl,hg1,a2C _ _ _ ‹dk› ‹dk› ‹dk›,h,rfl,hhl,?_⟩
  refine ⟨g,a0D h,rs,pl,rfl,hG,fun W ys H3 s3 hWn hW3 hR3=>?_⟩
  obtain ⟨zr,ez1,ez2,hz⟩:=hR3.zip (fun r hr=>hO r (Qs.mp hr).1)
  subst ez1
  exact q W zr H3 s3 hWn hW3 hz ez2
theorem c2g (T:Txt K mg t):a0R P w K mg base CX0 1 t.f_z0k t.fd_z0k ["self"] (a1i false):=by
 refine T.F_z0k.ok b8D (fun vs H Q E h=>?_) (fun cdv A outer s H vs Q E hr h=>?_)
 ·obtain ⟨x,rfl,q⟩:=h;rfl
 ·obtain ⟨x,rfl,q⟩:=h
  refine ⟨_,‹A3 (A9 B5)›,?_⟩
  rw [show start c0J [x]=[some (x)] from rfl]
  simp only [a0X,tC]
  exact q
theorem b3c (T:Txt K mg t):a0R P w K mg base CX0 1 t.f_z0p t.fd_z0p ["self"] (a1i true):=by
 refine T.F_z0p.ok b9K (fun vs H Q E h=>?_) (fun cdv A outer s H vs Q E hr h=>?_)
 ·obtain ⟨x,rfl,q⟩:=h;rfl
 ·obtain ⟨x,rfl,q⟩:=h
  refine ⟨_,‹A3 (A9 B5)›,?_⟩
  rw [show start b9s [x]=[some (x)] from rfl]
  simp only [a0X,tC]
  exact q
theorem b5b (T:Txt K mg t):a0R P w K mg base CX0 2 t.f_z05 t.fd_z05 ["self","statement"] (a8Y t):=by
 refine T.F_z05.ok c2v (fun vs H Q E h=>?_) (fun cdv A outer s H vs Q E hr h=>?_)
 ·obtain ⟨g,h,rs,pl,rfl,hG,hO,hrl,q⟩:=h;rfl
 ·obtain ⟨g,h,rs,pl,rfl,hG,hO,hrl,q⟩:=h
  refine ⟨_,‹A3 (A9 (C1 (B2 (a0c a9x) b7D ["rule"] [none]) (B4 (C9 0 T.cl_Ground T.me_Ground_ruling (b4X T) T.b_z0b (A0 1 A1))) (A5 0 (show Xg (["rule"]:List Str) by decide+kernel)) (C6 (C2 (F0 (D5 0 T.cl_Fact T.me_Fact_speaks (b3c T) T.b_z0p) (F0 (D5 0 T.cl_Sure T.me_Sure_speaks (b3c T) T.b_z0p) (F0 (D5 0 T.cl_Most T.me_Most_speaks (b3c T) T.b_z0p) (D5 0 T.cl_Block T.me_Block_speaks (c2g T) T.b_z0k)))))) 0))›,?_⟩
  rw [show start b7D [V.ref g,V.str h]=[some (V.ref g),some (V.str h)] from rfl]
  obtain ⟨dx,io,bh,pr,_,_,_,hg1,_⟩:=id hG
  simp only [a0X,a0o,a1p,a1M,a0k,Qa,a0i,Qb,a0q,Qh,a0e]
  refine ⟨g,dx,_,rfl,hg1,a2C _ _ _ ‹dk› ‹dk› ‹dk›,g,h,rs,pl,rfl,hG,fun W ys H3 s3 hWn hW3 hR3=>?_⟩
  obtain ⟨zr,ez1,ez2,hz⟩:=hR3.zip (fun r hr=>hO r (Qs.mp hr).1)
  subst ez1
  have hzl:zr.length≤126:=by
   have:=congrArg Yp ez2
   rw [Qd] at this
   rw [this];exact Qi (Qy _ _) hrl
  simp only [a0s]
  refine ⟨⟨_,SqL.of hW3⟩,?_⟩
  refine a2j zr hW3 ‹om› hz [] rfl spk (fun p=>p.1) (fun x r H' R ho hr s' hR=>?_) (fun x r H' R ho hr s' hR=>?_) (fun W2 H4 hW2n s4 hW4=>?_)
  ·simp only [tB]
   refine c7j ho.1 (a0J rfl) hr ⟨by decide+kernel,by decide+kernel,by decide+kernel⟩ ?_
   rw [a6X ho.1]
   simp only [a4M,a1k]
   exact hR _ (a0h.refl _)
  ·simp only [a0k,Qa,a0e]
   exact hR _ (a0h.refl _)
  refine q W2 (zr.filter fun p=>spk p.2) H4 (s3.trans s4) (none_of s3 hW2n) hW4 (fun p hp=>(hz.same s4) p (Qs.mp hp).1) ?_
  rw [←ez2,Zs];rfl
theorem a8r (T:Txt K mg t):a0R P w K mg base CX0 1 t.f_z11 t.fd_z11 ["statements","some"] a7V:=by
 refine T.F_z11.ok b9h (fun vs H Q E h=>?_) (fun cdv A outer s H vs Q E hr h=>?_)
 ·obtain ⟨t0,v,bd,S,rfl,ht,hl,hD,q⟩:=h;rfl
 ·obtain ⟨t0,v,bd,S,rfl,ht,hl,hD,q⟩:=h
  refine ⟨_,‹A3 (A9 (C4 (a2P rfl) T.z_all a5Z (A0 (C1 (B2 (a0c a9u) b7L ["statement","some"] [none,some 1]) (E5 0) (A5 0 (show Xg (["statement","some"]:List Str) by decide+kernel)) D3 (F0 (G1 (a1R (a2k hr) ‹0› ‹1›)) (D7 (b5P (K:=K) rfl) 0 1 (by with_unfolding_all rfl)))) A1)))›,?_⟩
  rw [show start b7L [V.ref t0,v]=[some (V.ref t0),some (v)] from rfl]
  simp only [a0X,tCB,a0i,a0q,a0o,b3f,a0k,Qa,a0e,a0s]
  refine ⟨⟨_,SqT.of ht⟩,?_⟩
  refine a4j (a4c (xs:=bd.map V.str)) (Qi (show (bd.map V.str).length≤1000 by simpa using hl) ‹dc›) [some v] rfl (fun i v=>∃hi:i < bd.length,v=.bl (decide (bd[i]∈S))) (fun H' s=>SqT.of (s _ _ ht)) (fun i H' R hi s hR=>?_) (fun E1 H1 ys hEn s1 hE hl1 hv1=>?_)
  ·have hi':i < bd.length:=by simpa using hi
   have e2:((bd.map V.str)[i]?).getD .non=V.str bd[i]:=by rw [Ql,Qc hi'];rfl
   rw [e2]
   exact b1T (hD.same s) (a0J rfl) (a0J rfl) (hR _ _ (a0h.refl _) ⟨hi',rfl⟩)
  have eys:ys=(bd.map fun q=>decide (q∈S)).map V.bl:=by
   refine Vm fun i=>?_
   rw [Ql,Ql]
   by_cases hi:i < ys.length
   ·obtain ⟨hi',e⟩:=hv1 i _ (Qc hi)
    rw [Qc hi,e,Qc hi'];rfl
   ·rw [Yr ‹om›,Yr (by rw [Qd] at hl1;omega)];rfl
  subst eys
  refine ⟨E1,_,rfl,SqL.of hE,?_⟩
  have:=q _ s1
  rw [Wb];exact this
theorem b5q (T:Txt K mg t):a0R P w K mg base CX0 1 t.f_z12 t.fd_z12 ["statements","some"] b9r:=by
 refine T.F_z12.ok b9c (fun vs H Q E h=>?_) (fun cdv A outer s H vs Q E hr h=>?_)
 ·obtain ⟨t0,v,bd,S,rfl,ht,hl,hD,q⟩:=h;rfl
 ·obtain ⟨t0,v,bd,S,rfl,ht,hl,hD,q⟩:=h
  refine ⟨_,‹A3 (A9 (C4 (a2i rfl) T.z_any a3Z (A0 (C1 (B2 (a0c a9D) b6v ["statement","some"] [none,some 1]) (E5 0) (A5 0 (show Xg (["statement","some"]:List Str) by decide+kernel)) D3 (F0 (G1 (a1R (a2k hr) ‹0› ‹1›)) (D7 (b5P (K:=K) rfl) 0 1 (by with_unfolding_all rfl)))) A1)))›,?_⟩
  rw [show start b6v [V.ref t0,v]=[some (V.ref t0),some (v)] from rfl]
  simp only [a0X,tCB,a0i,a0q,a0o,b3f,a0k,Qa,a0e,a0s]
  refine ⟨⟨_,SqT.of ht⟩,?_⟩
  refine a4j (a4c (xs:=bd.map V.str)) (Qi (show (bd.map V.str).length≤1000 by simpa using hl) ‹dc›) [some v] rfl (fun i v=>∃hi:i < bd.length,v=.bl (decide (bd[i]∈S))) (fun H' s=>SqT.of (s _ _ ht)) (fun i H' R hi s hR=>?_) (fun E1 H1 ys hEn s1 hE hl1 hv1=>?_)
  ·have hi':i < bd.length:=by simpa using hi
   have e2:((bd.map V.str)[i]?).getD .non=V.str bd[i]:=by rw [Ql,Qc hi'];rfl
   rw [e2]
   exact b1T (hD.same s) (a0J rfl) (a0J rfl) (hR _ _ (a0h.refl _) ⟨hi',rfl⟩)
  have eys:ys=(bd.map fun q=>decide (q∈S)).map V.bl:=by
   refine Vm fun i=>?_
   rw [Ql,Ql]
   by_cases hi:i < ys.length
   ·obtain ⟨hi',e⟩:=hv1 i _ (Qc hi)
    rw [Qc hi,e,Qc hi'];rfl
   ·rw [Yr ‹om›,Yr (by rw [Qd] at hl1;omega)];rfl
  subst eys
  refine ⟨E1,_,rfl,SqL.of hE,?_⟩
  have:=q _ s1
  rw [Jo];exact this
theorem b9C (T:Txt K mg t):a0R P w K mg base CX0 1 t.f_z0m t.fd_z0m ["self","one","other"] (b6J t):=by
 refine T.F_z0m.ok c1x (fun vs H Q E h=>?_) (fun cdv A outer s H vs Q E hr h=>?_)
 ·obtain ⟨g,x,y,rs,pl,r1,r2,rfl,hG,h1,h2,o1,o2,q⟩:=h;rfl
 ·obtain ⟨g,x,y,rs,pl,r1,r2,rfl,hG,h1,h2,o1,o2,q⟩:=h
  refine ⟨_,‹A3 (A9 (G1 (a1R (a2k hr) ‹C0 (A0 (C7 1) (A0 (C7 2) A1))› ‹C7 0›)))›,?_⟩
  rw [show start c1M [V.ref g,V.ref x,V.ref y]=[some (V.ref g),some (V.ref x),some (V.ref y)] from rfl]
  obtain ⟨dx,io,bh,pr,_,_,kps,hg1,_,_,_,_,hk,hp⟩:=id hG
  obtain ⟨_,e1,dx1,t1,a1,b1⟩:=h1
  cases e1
  obtain ⟨_,e2,dx2,t2,a2,b2⟩:=h2
  cases e2
  have C1:=a9j T o1.1
  have C2:=a9j T o2.1
  simp only [a0X,a8V,a3J,a0i,a3F,a0k,Qb,Qa,a0q,a0e]
  refine ⟨x,_,dx1,_,_,rfl,a1,C1.cl,C1.nl,a4Q _ _ _,y,_,dx2,_,_,rfl,a2,C2.cl,C2.nl,a4Q _ _ _,by simp only [Qm,Qr];decide,fun c hc=>?_⟩
  obtain ⟨H1,e1,s1,h1⟩:=a0N hc (.tup [V.str r1.2.1,V.str r2.2.1]);rw [e1]
  refine ⟨g,_,dx,_,_,rfl,s1 _ _ hg1,T.cl_Ground,T.nf_Ground_pairs,b5i _ _ _,pr,_,rfl,a2w.t (k:=[Sum.inr r1.2.1,Sum.inr r2.2.1]) (s1 _ _ hk) h1,?_⟩
  have:=q _ s1
  rw [hp]
  by_cases z:(r1.2.1,r2.2.1)∈pl
  ·rw [if_pos z];rw [decide_eq_true z] at this;exact this
  ·rw [if_neg z];rw [decide_eq_false z] at this;exact this
theorem b4T (T:Txt K mg t):a0R P w K mg base CX0 2 t.f_z13 t.fd_z13 ["ground","rule","beaters"] (b4p t):=by
 refine T.F_z13.ok c0t (fun vs H Q E h=>?_) (fun cdv A outer s H vs Q E hr h=>?_)
 ·obtain ⟨g,x,L,rs,pl,r,zr,rfl,hG,hx,hro,hL,hz,hzl,q⟩:=h;rfl
 ·obtain ⟨g,x,L,rs,pl,r,zr,rfl,hG,hx,hro,hL,hz,hzl,q⟩:=h
  refine ⟨_,‹A3 (A9 (C4 (a2i rfl) T.z_any a3Z (A0 (C1 (B2 (a0c a8P) b7H ["beater","rule","ground"] [none,some 1,some 0]) (B4 2) (A5 0 (show Xg (["beater","rule","ground"]:List Str) by decide+kernel)) D3 (C9 2 T.cl_Ground T.me_Ground_beats (b9C T) T.b_z0m (A0 0 (A0 1 A1)))) A1)))›,?_⟩
  rw [show start b7H [V.ref g,V.ref x,V.ref L]=[some (V.ref g),some (V.ref x),some (V.ref L)] from rfl]
  simp only [a0X,tCB,a0i,a0q,a0o,a1p,a0k,Qb,Qa,a0e,a0s]
  refine ⟨⟨_,SqL.of hL⟩,?_⟩
  refine a2j zr hL ‹om› hz [some (V.ref x),some (V.ref g)] rfl (fun _=>true) (fun p=>V.bl (decide ((p.2.2.1,r.2.1)∈pl))) (fun y r' H' R ho hr s' hR=>hR _ (a0h.refl _)) (fun y r' H' R ho hr s' hR=>?_) (fun B H5 hBn s5 hB5=>?_)
  ·obtain ⟨dx,io,bh,pr,_,_,_,hg1,_⟩:=id (hG.same s')
   simp only [a1M,a0k,Qb,Qa,a0i,a0q,Qh,a0e]
   exact ⟨g,dx,_,rfl,hg1,a2C _ _ _ ‹dk› ‹dk› ‹dk›,g,y,x,rs,pl,r',r,rfl,hG.same s',⟨y,rfl,hr⟩,hx.same s',ho,hro,fun H'' s''=>hR _ s''⟩
  have hB5':H5 B=some (.lst ((zr.map fun p=>decide ((p.2.2.1,r.2.1)∈pl)).map V.bl)):=by
   rw [hB5,Va.mpr (fun _ _=>rfl),Xf];rfl
  refine ⟨B,_,rfl,SqL.of hB5',?_⟩
  have:=q _ s5
  rw [show ((zr.map fun p=>decide ((p.2.2.1,r.2.1)∈pl)).any id)=btn pl (zr.map (·.2)) r from by unfold btn;rw [Jo,Jo];rfl]
  exact this
theorem b5W (T:Txt K mg t):a0R P w K mg base CX0 3 t.f_z1f t.fd_z1f ["ground","sures","held","refused","q"] (b0j t a1Y):=by
 refine T.F_z1f.ok b5A (fun vs H Q E h=>?_) (fun cdv A outer s H vs Q E hr h=>?_)
 ·obtain ⟨g,v1,v2,v3,q0,rs,pl,S,U,D,rfl,hG,hO,hrl,h1,h2,h3,hql,q⟩:=h;rfl
 ·obtain ⟨g,v1,v2,v3,q0,rs,pl,S,U,D,rfl,hG,hO,hrl,h1,h2,h3,hql,q⟩:=h
  refine ⟨_,‹A2 (B3 (G5 (C8 (a1R (a2k hr) ‹4› ‹1›)) (B1 a4V 4 1 (by with_unfolding_all rfl))) (A3 (A9 B5)) B8) (A2 (A7 5 b5A.nd (C1 (B2 (a0c a7v) b3A ["rule","held"] [none,some 2]) (B4 (C9 0 T.cl_Ground T.me_Ground_speaking (b5b T) T.b_z05 (A0 4 A1))) (A5 0 (show Xg (["rule","held"]:List Str) by decide+kernel)) (C6 (C2 (A8 (a8r T) T.g_z11 T.F_z11.kp T.b_z11 .nil (A0 (E2 0) (A0 1 A1))))) 0)) (D8 (B3 (D4 (F1 (B1 (a0U hr.units) (C4 a1n T.z_len a1m (A0 5 A1)) A4 (a0p _)) (F2 (G5 (C8 (a1R (a2k hr) ‹A8 (a4o T) T.g_z1e T.F_z1e.kp T.b_z1e .nil (A0 4 A1)› ‹1›)) (B1 a4V (A8 (a4o T) T.g_z1e T.F_z1e.kp T.b_z1e .nil (A0 4 A1)) 1 (by with_unfolding_all rfl)))))) (A3 (A9 B5)) B8) (A3 (A9 (C4 (a2P rfl) T.z_all a5Z (A0 (C1 (B2 (a0c a7v) b3A ["rule","refused","ground","standing"] [none,some 3,some 0,some 5]) (B4 (C9 0 T.cl_Ground T.me_Ground_against (b5t T) T.b_z09 (A0 4 A1))) (A5 0 (show Xg (["rule","refused","ground","standing"]:List Str) by decide+kernel)) D3 (H8 (A8 (b5q T) T.g_z12 T.F_z12.kp T.b_z12 .nil (A0 (E2 0) (A0 1 A1))) (H0 (A8 (b4T T) T.g_z13 T.F_z13.kp T.b_z13 .nil (A0 2 (A0 0 (A0 3 A1))))))) A1))))))›,?_⟩
  rw [show start b3A [V.ref g,v1,v2,v3,V.str q0]=[some (V.ref g),some (v1),some (v2),some (v3),some (V.str q0),none] from rfl]
  obtain ⟨dx,io,bh,pr,_,_,_,hg1,_⟩:=id hG
  simp only [a1l,a2I,a0X,tC,a1q,a1P,a0l,Qf,Qg,a0o,a1p,a1M,a0k,Qa,a0i,Qb,a0q,Qh,a0e]
  refine a3N h1 (a0J rfl) (a0J rfl) ?_
  simp only [decide_eq_true_eq]
  refine a1Q (fun c0=>?_) (fun c0=>?_)
  ·have:=q H (a0h.refl _)
   unfold a1Y at this
   rw [if_pos c0] at this
   exact this
  refine ⟨g,dx,_,rfl,hg1,a2C _ _ _ ‹dk› ‹dk› ‹dk›,g,q0,rs,pl,rfl,hG,hO,hrl,fun W zr H3 s3 hWn hW3 hz ez=>?_⟩
  have hzl:zr.length≤126:=by
   have:=congrArg Yp ez
   rw [Qd] at this
   rw [this];exact Qi (Qy _ _) (Qi (Qy _ _) hrl)
  simp only [a0s]
  refine ⟨⟨_,SqL.of hW3⟩,?_⟩
  refine a2j zr hW3 ‹om› hz [some v2] rfl (fun r=>a3i r.2.2.2 U) (fun p=>p.1) (fun x r H' R ho hr s' hR=>?_) (fun x r H' R ho hr s' hR=>?_) (fun W2 H4 hW2n s4 hW4=>?_)
  ·have CF:=a9j T ho.1
   obtain ⟨dx',t0,g1,g2⟩:=hr
   simp only [tB,a0v,a0i,a3F,a0k,Qa,Qb,a0q,Qh,a0e]
   refine ⟨x,_,dx',_,_,rfl,g1,CF.cl,CF.nb,a1U _ _ _,t0,v2,r.2.2.2,U,rfl,g2,by have:=ho.2.2.2.2.2;omega,h2.same (s3.trans s'),fun H'' s''=>?_⟩
   simp only [a1k]
   exact hR _ s''
  ·simp only [a0k,Qa,a0e]
   exact hR _ (a0h.refl _)
  have s04:=s3.trans s4
  have hz4:a9G t H4 (zr.filter fun p=>a3i p.2.2.2.2 U):=fun p hp=>(hz.same s4) p (Qs.mp hp).1
  have hzl4:(zr.filter fun p=>a3i p.2.2.2.2 U).length≤126:=Qi (Qy _ _) hzl
  have est:(zr.filter fun p=>a3i p.2.2.2.2 U).map (·.2)=a2p rs U q0:=by
   unfold a2p
   rw [←ez,Zs];rfl
  generalize (zr.filter fun p=>a3i p.2.2.2.2 U)=zs at hW4 hz4 hzl4 est
  have hneed:∀H',a0h H H'→(a2p rs U q0=[]∨a0D q0∈S)→Q (.bl false) H':=fun H' s' hc=>by
   have:=q H' s'
   unfold a1Y at this
   rw [if_neg c0,if_pos hc] at this
   exact this
  refine ⟨fun σ' H'=>σ'=[some (V.ref g),some v1,some v2,some v3,some (V.str q0),some (V.ref W2)]∧H'=H4∧¬(a2p rs U q0=[]∨a0D q0∈S),?_,?_⟩
  ·simp only [a2I,tOr,a1h,tOp,tCB,a0i,a0k,Qb,Qa,a0q,tC,a0X,a1q,if_true,a0e]
   refine a1L (SqL.of hW4) ?_
   simp only [a2K,a1k,decide_eq_true_eq]
   refine a1Q (fun c1=>?_) (fun c1=>?_)
   ·refine hneed _ s04 (.inl ?_)
    rw [←est]
    have:zs.length=0:=by rw [Qd] at c1;omega
    rw [Zz.mp this];rfl
   refine a3N (h1.same s04) (x:=a0D q0) (fun R hR=>?_) (a0J rfl) ?_
   ·simp only [a0v,a0i,a0k,Qb,Qa,a0q,Qh,a0e]
    exact ⟨q0,rfl,hql,hR⟩
   simp only [decide_eq_true_eq]
   refine a1Q (fun c2=>hneed _ s04 (.inr c2)) (fun c2=>⟨(by trivial),(by trivial),fun z=>z.elim (fun w=>c1 ?_) c2⟩)
   rw [←est] at w
   have:zs.length=0:=by have:=congrArg Yp w;rw [Qd] at this;exact this
   rw [Qd,this];rfl
  rintro σ' H5 ⟨rfl,rfl,hc⟩
  simp only [a0X,tCB,a0i,a0q,a0o,a1p,a1M,a0k,Qa,Qb,Qh,a0e]
  refine ⟨g,dx,_,rfl,s04 _ _ hg1,a2C _ _ _ ‹dk› ‹dk› ‹dk›,g,q0,rs,pl,rfl,hG.same s04,hO,hql,fun B zb H6 s6 hBn hB6 hzb eb=>?_⟩
  have hbl:zb.length≤126:=by
   have:=congrArg Yp eb
   rw [Qd] at this
   rw [this];exact Qi (Qy _ _) hrl
  have s06:=s04.trans s6
  simp only [a0s]
  refine ⟨⟨_,SqL.of hB6⟩,?_⟩
  refine a2j zb hB6 ‹om› hzb [some v3,some (V.ref g),some (V.ref W2)] rfl (fun _=>true) (fun p=>V.bl (a3a p.2.2.2.2 D || btn pl (zs.map (·.2)) p.2)) (fun x r H' R ho hr s' hR=>hR _ (a0h.refl _)) (fun x r H' R ho hr s' hR=>?_) (fun C H7 hCn s7 hC7=>?_)
  ·have CF:=a9j T ho.1
   have hru:b2v t H' (.ref x) r:=⟨x,rfl,hr⟩
   obtain ⟨dx',t0,g1,g2⟩:=hr
   simp only [c3x,a0v,a0i,a3F,a0k,Qa,Qb,a0q,Qh,a0e]
   refine ⟨x,_,dx',_,_,rfl,g1,CF.cl,CF.nb,a1U _ _ _,t0,v3,r.2.2.2,D,rfl,g2,by have:=ho.2.2.2.2.2;omega,h3.same (s06.trans s'),fun H'' s''=>?_⟩
   have s48:=(s6.trans s').trans s''
   have hh:=fun H'' s''=>hR H'' s''
   simp only [a1k]
   refine a1Q (fun c5=>?_) (fun c5=>?_)
   ·have:=hR _ s''
    rw [c5,Bool.true_or] at this;exact this
   ·have c6:a3a r.2.2.2 D=false:=by simpa using c5
    rw [c6] at hR
    exact ⟨g,x,W2,rs,pl,r,zs,rfl,(hG.same s04).same s48,hru.same s'',ho,s48 _ _ hW4,hz4.same s48,hzl4,fun H9 s9=>hR _ (s''.trans s9)⟩
  have hC7':H7 C=some (.lst ((zb.map fun p=>(a3a p.2.2.2.2 D || btn pl (zs.map (·.2)) p.2)).map V.bl)):=by
   rw [hC7,Va.mpr (fun _ _=>rfl),Xf];rfl
  refine ⟨C,_,rfl,SqL.of hC7',?_⟩
  have:=q _ (s06.trans s7)
  unfold a1Y at this
  rw [if_neg c0,if_neg hc,←eb,Wb,←est] at this
  rw [Wb]
  exact this
theorem b5y (T:Txt K mg t):a0R P w K mg base CX0 3 t.f_z0v t.fd_z0v ["ground","sures","held","refused","q"] (b0j t a6Y):=by
 refine T.F_z0v.ok b5j (fun vs H Q E h=>?_) (fun cdv A outer s H vs Q E hr h=>?_)
 ·obtain ⟨g,v1,v2,v3,q0,rs,pl,S,U,D,rfl,hG,hO,hrl,h1,h2,h3,hql,q⟩:=h;rfl
 ·obtain ⟨g,v1,v2,v3,q0,rs,pl,S,U,D,rfl,hG,hO,hrl,h1,h2,h3,hql,q⟩:=h
  refine ⟨_,‹A2 (B3 (G5 (C8 (a1R (a2k hr) ‹4› ‹1›)) (B1 a4V 4 1 (by with_unfolding_all rfl))) (A3 (A9 B5)) B8) (A2 (A7 5 b5j.nd (C1 (B2 (a0c a6Q) b4u ["rule","refused"] [none,some 3]) (B4 (C9 0 T.cl_Ground T.me_Ground_speaking (b5b T) T.b_z05 (A0 4 A1))) (A5 0 (show Xg (["rule","refused"]:List Str) by decide+kernel)) (C6 (D9 (C2 (A8 (b5q T) T.g_z12 T.F_z12.kp T.b_z12 .nil (A0 (E2 0) (A0 1 A1)))))) 0)) (D8 (B3 (D4 (F1 (B1 (a0U hr.units) (C4 a1n T.z_len a1m (A0 5 A1)) A4 (a0p _)) (F2 (G5 (C8 (a1R (a2k hr) ‹A8 (a4o T) T.g_z1e T.F_z1e.kp T.b_z1e .nil (A0 4 A1)› ‹1›)) (B1 a4V (A8 (a4o T) T.g_z1e T.F_z1e.kp T.b_z1e .nil (A0 4 A1)) 1 (by with_unfolding_all rfl)))))) (A3 (A9 B5)) B8) (A3 (A9 (C4 (a2i rfl) T.z_any a3Z (A0 (C1 (B2 (a0c a6Q) b4u ["rule","held","ground","unfallen"] [none,some 2,some 0,some 5]) (B4 (C9 0 T.cl_Ground T.me_Ground_against (b5t T) T.b_z09 (A0 4 A1))) (A5 0 (show Xg (["rule","held","ground","unfallen"]:List Str) by decide+kernel)) D3 (H3 (A8 (a8r T) T.g_z11 T.F_z11.kp T.b_z11 .nil (A0 (E2 0) (A0 1 A1))) (H0 (H4 (A8 (b4T T) T.g_z13 T.F_z13.kp T.b_z13 .nil (A0 2 (A0 0 (A0 3 A1)))))))) A1))))))›,?_⟩
  rw [show start b4u [V.ref g,v1,v2,v3,V.str q0]=[some (V.ref g),some (v1),some (v2),some (v3),some (V.str q0),none] from rfl]
  obtain ⟨dx,io,bh,pr,_,_,_,hg1,_⟩:=id hG
  simp only [a1l,a2I,a0X,tC,a1q,a1P,a0l,Qf,Qg,a0o,a1p,a1M,a0k,Qa,a0i,Qb,a0q,Qh,a0e]
  refine a3N h1 (a0J rfl) (a0J rfl) ?_
  simp only [decide_eq_true_eq]
  refine a1Q (fun c0=>?_) (fun c0=>?_)
  ·have:=q H (a0h.refl _)
   unfold a6Y at this
   rw [if_pos c0] at this
   exact this
  refine ⟨g,dx,_,rfl,hg1,a2C _ _ _ ‹dk› ‹dk› ‹dk›,g,q0,rs,pl,rfl,hG,hO,hrl,fun W zr H3 s3 hWn hW3 hz ez=>?_⟩
  have hzl:zr.length≤126:=by
   have:=congrArg Yp ez
   rw [Qd] at this
   rw [this];exact Qi (Qy _ _) (Qi (Qy _ _) hrl)
  simp only [a0s]
  refine ⟨⟨_,SqL.of hW3⟩,?_⟩
  refine a2j zr hW3 ‹om› hz [some v3] rfl (fun r=>!a3a r.2.2.2 D) (fun p=>p.1) (fun x r H' R ho hr s' hR=>?_) (fun x r H' R ho hr s' hR=>?_) (fun W2 H4 hW2n s4 hW4=>?_)
  ·have CF:=a9j T ho.1
   obtain ⟨dx',t0,g1,g2⟩:=hr
   simp only [b2p,tB,a0v,a0i,a3F,a0k,Qa,Qb,a0q,Qh,a0e]
   refine ⟨x,_,dx',_,_,rfl,g1,CF.cl,CF.nb,a1U _ _ _,t0,v3,r.2.2.2,D,rfl,g2,by have:=ho.2.2.2.2.2;omega,h3.same (s3.trans s'),fun H'' s''=>?_⟩
   simp only [a1k]
   exact hR _ s''
  ·simp only [a0k,Qa,a0e]
   exact hR _ (a0h.refl _)
  have s04:=s3.trans s4
  have hz4:a9G t H4 (zr.filter fun p=>!a3a p.2.2.2.2 D):=fun p hp=>(hz.same s4) p (Qs.mp hp).1
  have hzl4:(zr.filter fun p=>!a3a p.2.2.2.2 D).length≤126:=Qi (Qy _ _) hzl
  have est:(zr.filter fun p=>!a3a p.2.2.2.2 D).map (·.2)=unf rs D q0:=by
   unfold unf
   rw [←ez,Zs];rfl
  generalize (zr.filter fun p=>!a3a p.2.2.2.2 D)=zs at hW4 hz4 hzl4 est
  have hneed:∀H',a0h H H'→(unf rs D q0=[]∨a0D q0∈S)→Q (.bl true) H':=fun H' s' hc=>by
   have:=q H' s'
   unfold a6Y at this
   rw [if_neg c0,if_pos hc] at this
   exact this
  refine ⟨fun σ' H'=>σ'=[some (V.ref g),some v1,some v2,some v3,some (V.str q0),some (V.ref W2)]∧H'=H4∧¬(unf rs D q0=[]∨a0D q0∈S),?_,?_⟩
  ·simp only [a2I,tOr,a1h,tOp,tCB,a0i,a0k,Qb,Qa,a0q,tC,a0X,a1q,if_true,a0e]
   refine a1L (SqL.of hW4) ?_
   simp only [a2K,a1k,decide_eq_true_eq]
   refine a1Q (fun c1=>?_) (fun c1=>?_)
   ·refine hneed _ s04 (.inl ?_)
    rw [←est]
    have:zs.length=0:=by rw [Qd] at c1;omega
    rw [Zz.mp this];rfl
   refine a3N (h1.same s04) (x:=a0D q0) (fun R hR=>?_) (a0J rfl) ?_
   ·simp only [a0v,a0i,a0k,Qb,Qa,a0q,Qh,a0e]
    exact ⟨q0,rfl,hql,hR⟩
   simp only [decide_eq_true_eq]
   refine a1Q (fun c2=>hneed _ s04 (.inr c2)) (fun c2=>⟨(by trivial),(by trivial),fun z=>z.elim (fun w=>c1 ?_) c2⟩)
   rw [←est] at w
   have:zs.length=0:=by have:=congrArg Yp w;rw [Qd] at this;exact this
   rw [Qd,this];rfl
  rintro σ' H5 ⟨rfl,rfl,hc⟩
  simp only [a0X,tCB,a0i,a0q,a0o,a1p,a1M,a0k,Qa,Qb,Qh,a0e]
  refine ⟨g,dx,_,rfl,s04 _ _ hg1,a2C _ _ _ ‹dk› ‹dk› ‹dk›,g,q0,rs,pl,rfl,hG.same s04,hO,hql,fun B zb H6 s6 hBn hB6 hzb eb=>?_⟩
  have hbl:zb.length≤126:=by
   have:=congrArg Yp eb
   rw [Qd] at this
   rw [this];exact Qi (Qy _ _) hrl
  have s06:=s04.trans s6
  simp only [a0s]
  refine ⟨⟨_,SqL.of hB6⟩,?_⟩
  refine a2j zb hB6 ‹om› hzb [some v2,some (V.ref g),some (V.ref W2)] rfl (fun _=>true) (fun p=>V.bl (a3i p.2.2.2.2 U && !btn pl (zs.map (·.2)) p.2)) (fun x r H' R ho hr s' hR=>hR _ (a0h.refl _)) (fun x r H' R ho hr s' hR=>?_) (fun C H7 hCn s7 hC7=>?_)
  ·have CF:=a9j T ho.1
   have hru:b2v t H' (.ref x) r:=⟨x,rfl,hr⟩
   obtain ⟨dx',t0,g1,g2⟩:=hr
   simp only [b6G,a0v,a0i,a3F,a0k,Qa,Qb,a0q,Qh,b6U,a0e]
   refine ⟨x,_,dx',_,_,rfl,g1,CF.cl,CF.nb,a1U _ _ _,t0,v2,r.2.2.2,U,rfl,g2,by have:=ho.2.2.2.2.2;omega,h2.same (s06.trans s'),fun H'' s''=>?_⟩
   have s48:=(s6.trans s').trans s''
   simp only [a1k]
   refine a1Q (fun c5=>?_) (fun c5=>?_)
   ·rw [c5,Ua] at hR
    refine ⟨g,x,W2,rs,pl,r,zs,rfl,(hG.same s04).same s48,hru.same s'',ho,s48 _ _ hW4,hz4.same s48,hzl4,fun H9 s9=>?_⟩
    simp only [a1k]
    exact hR _ (s''.trans s9)
   ·have c6:a3i r.2.2.2 U=false:=by simpa using c5
    have:=hR _ s''
    rw [c6,Jb] at this
    exact this
  have hC7':H7 C=some (.lst ((zb.map fun p=>(a3i p.2.2.2.2 U && !btn pl (zs.map (·.2)) p.2)).map V.bl)):=by
   rw [hC7,Va.mpr (fun _ _=>rfl),Xf];rfl
  refine ⟨C,_,rfl,SqL.of hC7',?_⟩
  have:=q _ (s06.trans s7)
  unfold a6Y at this
  rw [if_neg c0,if_neg hc,←eb,Jo,←est] at this
  rw [Jo]
  exact this
theorem b5e (T:Txt K mg t):a0R P w K mg base CX0 4 t.f_z14 t.fd_z14 ["ground","sures","held","refused","asked"] (b6a K t):=by
 refine T.F_z14.ok a8z (fun vs H Q E h=>?_) (fun cdv A outer s H vs Q E hr h=>?_)
 ·obtain ⟨g,v1,v2,v3,va,rs,pl,S,U,D,ask,rfl,hoff,hO,hrl,hA,hnd,hal,hql,q⟩:=h;rfl
 ·obtain ⟨g,v1,v2,v3,va,rs,pl,S,U,D,ask,rfl,hoff,hO,hrl,hA,hnd,hal,hql,q⟩:=h
  obtain ⟨_,k_HELD⟩:=T.k_HELD
  obtain ⟨_,k_REFUSED⟩:=T.k_REFUSED
  refine ⟨_,‹A2 (A7 5 a8z.nd D1) (A2 (H2 (G0 (B9 (E1 4) (A5 6 a8z.nd) (A3 (B3 (C2 (A8 (b5W T) T.g_z1f T.F_z1f.kp T.b_z1f .nil (A0 0 (A0 1 (A0 2 (A0 3 (A0 6 A1))))))) (A3 (C5 5 6 (D6 (.str "held") k_HELD ⟨_,rfl⟩))) (A3 (B3 (C2 (A8 (b5y T) T.g_z0v T.F_z0v.kp T.b_z0v .nil (A0 0 (A0 1 (A0 2 (A0 3 (A0 6 A1))))))) (A3 (C5 5 6 (D6 (.str "refused") k_REFUSED ⟨_,rfl⟩))) B8)))))) (B9 (B4 4) (A5 6 a8z.nd) (A3 (B3 (C2 (A8 (b5W T) T.g_z1f T.F_z1f.kp T.b_z1f .nil (A0 0 (A0 1 (A0 2 (A0 3 (A0 6 A1))))))) (A3 (C5 5 6 (D6 (.str "held") k_HELD ⟨_,rfl⟩))) (A3 (B3 (C2 (A8 (b5y T) T.g_z0v T.F_z0v.kp T.b_z0v .nil (A0 0 (A0 1 (A0 2 (A0 3 (A0 6 A1))))))) (A3 (C5 5 6 (D6 (.str "refused") k_REFUSED ⟨_,rfl⟩))) B8)))))) (A3 (A9 5)))›,?_⟩
  rw [show start c0B [V.ref g,v1,v2,v3,va]=[some (V.ref g),some (v1),some (v2),some (v3),some (va),none,none] from rfl]
  simp only [a1l,a1P,a1O,a0l,Qf,Qg]
  intro W hW
  obtain ⟨H1,e1,s1,h1⟩:=a0N hW (.dK []);rw [e1]
  have hvW:va≠.ref W:=fun z=>by
   obtain ⟨b,o,e,hb⟩:=hA.at
   rw [z] at e;cases e;rw [hW] at hb;cases hb
  refine a5a (fun H0 i σ' H'=>∃x,σ'=[some (V.ref g),some v1,some v2,some v3,some va,some (V.ref W),x]∧a3p H0 W H'∧H' W=some (.dK (wv (wds rs pl S U D (ask.take i))))) (hA.same s1) (a0J rfl) (fun H0 h0=>⟨_,rfl,a3p.refl _ _,h0.keep _ _ h1 hvW⟩) ?_ ?_ ?_
  ·rintro H0 i σ' H' b o ⟨x,rfl,k,_⟩ z e
   exact k _ _ e fun w=>hvW (by rw [z,w])
  ·rintro H0 i hi σ' H' rt bk h0 ⟨x,rfl,k,hW'⟩
   have off:∀H2,a0h H' H2→Off H va H2:=fun H2 s2 b o e n=>s2 _ _ (k _ _ (h0.keep _ _ (s1 _ _ e) n) (a0b e hW))
   have hiq:=hql _ (Xa hi)
   have hlen:(wds rs pl S U D (ask.take i)).length≤1000:=by
    have:=(a5t rs pl S U D (ask.take i)).length_le
    rw [Qd,Yb] at this;omega
   have hnew:ask[i]∉(wds rs pl S U D (ask.take i)).map (·.1):=fun z=>by
    have:=b3z z
    obtain ⟨j,hj,e⟩:=Yz this
    rw [Vn] at e
    rw [Yb] at hj
    have:=(Jn (h₀:=by omega) (h₁:=hi) hnd).mp e
    omega
   have hst:wds rs pl S U D (ask.take (i+1))=wds rs pl S U D (ask.take i)++((stt rs pl S U D ask[i]).map fun w=>(ask[i],w)).toList:=by rw [Qp hi,b4D]
   generalize wds rs pl S U D (ask.take i)=F at hW' hlen hnew hst
   generalize ask[i]=q0 at hiq hnew hst
   have hend:∀(b:Bool) (H2:Hp),a0h H' H2→stt rs pl S U D q0=some b→a5Q H2 W (.str q0) (V.str (wd b)) (upd H2 W (.dK (wv (F++[(q0,b)]))))∧(a3p H0 W (upd H2 W (.dK (wv (F++[(q0,b)]))))∧upd H2 W (.dK (wv (F++[(q0,b)]))) W=some (.dK (wv (wds rs pl S U D (ask.take (i+1)))))):=fun b H2 s2 e=>
    ⟨c8b (s2 _ _ hW') ‹om› hnew b,fun c o e n=>by rw [a0a n];exact s2 _ _ (k _ _ e n),by rw [a0d,hst,e];rfl⟩
   obtain ⟨hG,k1,k2,k3⟩:=hoff H' (off H' (a0h.refl _))
   simp only [a0l,a2I,tB,a0v,a0i,a0k,Qf,Qg,Qa,Qb,a0q,Qh,a2U,tC,a0e,a1q]
   refine ⟨g,v1,v2,v3,q0,rs,pl,S,U,D,rfl,hG,hO,hrl,k1,k2,k3,hiq,fun H2 s2=>?_⟩
   simp only [a1k]
   refine a1Q (fun c1=>?_) (fun c1=>?_)
   ·obtain ⟨a1,a2,a3⟩:=hend true H2 s2 (by unfold stt;rw [if_pos c1])
    exact ⟨W,_,rfl,a1,_,rfl,a2,a3⟩
   obtain ⟨hG,k1,k2,k3⟩:=hoff H2 (off H2 s2)
   refine ⟨g,v1,v2,v3,q0,rs,pl,S,U,D,rfl,hG,hO,hrl,k1,k2,k3,hiq,fun H3 s3=>?_⟩
   simp only [a1k]
   refine a1Q (fun c2=>?_) (fun c2=>?_)
   ·obtain ⟨a1,a2,a3⟩:=hend false H3 (s2.trans s3) (by unfold stt;rw [if_neg c1,if_pos c2])
    exact ⟨W,_,rfl,a1,_,rfl,a2,a3⟩
   ·refine ⟨_,rfl,fun c o e n=>s3 _ _ (s2 _ _ (k _ _ e n)),?_⟩
    rw [hst,show stt rs pl S U D q0=none from by unfold stt;rw [if_neg c1,if_neg c2]]
    show _=some (HO.dK (wv (F++[])))
    rw [Qh];exact s3 _ _ (s2 _ _ hW')
  ·rintro H0 σ' H' H'' h0 ⟨x,rfl,k,hW'⟩ k1 k2
   rw [Xr] at hW'
   simp only [a0X,a0k,Qb,Qa,a0e]
   refine q W H'' (fun b o e=>?_) hW (k1 _ _ hW' hvW)
   by_cases z:va=.ref b
   ·exact k2 b o z (s1 _ _ e)
   ·exact k1 b o (k b o (h0.keep _ _ (s1 _ _ e) z) (a0b e hW)) z
theorem b9g (T:Txt K mg t):a0R P w K mg base CX0 5 t.f_z0o t.fd_z0o ["ground","some","sures","known"] (b4y K t):=by
 refine T.F_z0o.ok a2l (fun vs H Q E h=>?_) (fun cdv A outer s H vs Q E hr h=>?_)
 ·obtain ⟨g,v1,v2,kd,rs,pl,sm,S,kn,rfl,hG,hO,hrl,h1,h2,hkd,hkn,hsl,hSl,hkl,hsm,q⟩:=h;rfl
 ·obtain ⟨g,v1,v2,kd,rs,pl,sm,S,kn,rfl,hG,hO,hrl,h1,h2,hkd,hkn,hsl,hSl,hkl,hsm,q⟩:=h
  obtain ⟨_,k_HELD⟩:=T.k_HELD
  obtain ⟨_,k_REFUSED⟩:=T.k_REFUSED
  refine ⟨_,‹A2 (A7 4 a2l.nd (A8 (a3f T) T.g_z21 T.F_z21.kp T.b_z21 .nil (A0 2 A1))) (A2 (A7 5 a2l.nd (A8 (a3f T) T.g_z21 T.F_z21.kp T.b_z21 .nil (A0 (F8 (C1 (B2 (a0c a4G) a6V ["q","known"] [none,some 3]) (E1 3) (A5 0 (show Xg (["q","known"]:List Str) by decide+kernel)) (C6 (B1 (a8m hr.units (K:=K) rfl) (F6 1 0) (D6 (.str "held") k_HELD ⟨_,rfl⟩) (a0p _))) 0)) A1))) (A2 (A7 6 a2l.nd (A8 (a3f T) T.g_z21 T.F_z21.kp T.b_z21 .nil (A0 (F8 (C1 (B2 (a0c a4G) a6V ["q","known"] [none,some 3]) (E1 3) (A5 0 (show Xg (["q","known"]:List Str) by decide+kernel)) (C6 (B1 (a8m hr.units (K:=K) rfl) (F6 1 0) (D6 (.str "refused") k_REFUSED ⟨_,rfl⟩) (a0p _))) 0)) A1))) (A2 (A7 7 a2l.nd (A8 (b9I T) T.g_z03 T.F_z03.kp T.b_z03 .nil (A0 0 A1))) (A2 (A7 8 a2l.nd (A8 (a3f T) T.g_z21 T.F_z21.kp T.b_z21 .nil (A0 1 A1))) (A2 (A7 9 a2l.nd D1) (A2 (A7 10 a2l.nd A4) (A2 (A7 11 a2l.nd (A8 (b5e T) T.g_z14 T.F_z14.kp T.b_z14 .nil (A0 0 (A0 4 (A0 5 (A0 6 (A0 8 A1))))))) (A2 (G6 (B1 b7h (C4 a1n T.z_len a1m (A0 11 A1)) A4 (a0p _)) (A2 (G0 (B9 (E1 11) (A5 12 a2l.nd) (A3 (C5 9 12 (C0 (A0 (F6 11 12) (A0 10 A1))))))) (A2 (D2 (D0 Zy Uh Wc a4U 5 (A0 (A8 (a3f T) T.g_z21 T.F_z21.kp T.b_z21 .nil (A0 (F8 (C1 (B2 (a0c a4G) a6V ["q","came"] [none,some 11]) (E1 11) (A5 0 (show Xg (["q","came"]:List Str) by decide+kernel)) (C6 (B1 (a8m hr.units (K:=K) rfl) (F6 1 0) (D6 (.str "held") k_HELD ⟨_,rfl⟩) (a0p _))) 0)) A1)) A1))) (A2 (D2 (D0 Zy Uh Wc a4U 6 (A0 (A8 (a3f T) T.g_z21 T.F_z21.kp T.b_z21 .nil (A0 (F8 (C1 (B2 (a0c a4G) a6V ["q","came"] [none,some 11]) (E1 11) (A5 0 (show Xg (["q","came"]:List Str) by decide+kernel)) (C6 (B1 (a8m hr.units (K:=K) rfl) (F6 1 0) (D6 (.str "refused") k_REFUSED ⟨_,rfl⟩) (a0p _))) 0)) A1)) A1))) (A2 (A7 10 a2l.nd (A6 a0r 10 A4)) (A2 (H9 (E0 13 (B2 (a0c a4G) a6V ["q","wanted","told"] [none,some 8,some 9]) (E1 (A8 (c1z T) T.g_z1n T.F_z1n.kp T.b_z1n .nil (A0 7 (A0 11 A1)))) (A5 0 (show Xg (["q","wanted","told"]:List Str) by decide+kernel)) (C6 (D4 (F3 (C8 (a1R (a2k hr) ‹0› ‹1›)) (F7 (C8 ‹E8 0 2›))))) 0 a2l.nd)) (A3 (A7 11 a2l.nd (A8 (b5e T) T.g_z14 T.F_z14.kp T.b_z14 .nil (A0 0 (A0 4 (A0 5 (A0 6 (A0 13 A1)))))))))))))) (A3 (A9 9))))))))))›,?_⟩
  rw [show start a6V [V.ref g,v1,v2,V.ref kd]=[some (V.ref g),some (v1),some (v2),some (V.ref kd),none,none,none,none,none,none,none,none,none,none] from rfl]
  simp only [a1l,a1P,a0v,a0i,a0k,Qb,Qa,a0q,Qh,a0l,Qf,Qg,a1O,tC,a0o,a8Q,a0e]
  refine ⟨v2,S,rfl,h2,by omega,fun Su H1 s1 hSn hSu=>?_⟩
  have f1:=a5p kn true
  have f2:=a5p kn false
  simp only []
  refine a3l (s1 _ _ hkd) (a3t kn) (by rw [Qd];omega) (a0J rfl) [some (V.ref kd)] rfl (fun q=>decide ((q,true)∈kn)) (fun q0 H0 H' R hq off hR s hR'=>a3j (b:=true) hkn hq hR hR') fun L1 H2 hL1 s2 hL2=>?_
  refine ⟨_,_,rfl,.inl ⟨L1,rfl,hL2⟩,by omega,fun He H3 s3 hHen hHe=>?_⟩
  have s13:=s2.trans s3
  simp only []
  refine a3l ((s1.trans s13) _ _ hkd) (a3t kn) (by rw [Qd];omega) (a0J rfl) [some (V.ref kd)] rfl (fun q=>decide ((q,false)∈kn)) (fun q0 H0 H' R hq off hR s hR'=>a3j (b:=false) hkn hq hR hR') fun L2 H4 hL2n s4 hL4=>?_
  refine ⟨_,_,rfl,.inl ⟨L2,rfl,hL4⟩,by omega,fun Re H5 s5 hRen hRe=>?_⟩
  have s35:=s4.trans s5
  have s05:=(s1.trans s13).trans s35
  simp only []
  refine ⟨g,rs,pl,rfl,hG.same s05,hO,hrl,fun Hd H6 s6 hHdn hHd=>?_⟩
  have s06:=s05.trans s6
  have hWl:(sm.foldl a0O []).length≤80:=Qi (a1b sm []) (by simpa using hsl)
  have hWn:(sm.foldl a0O []).Nodup:=a0Z sm (by simp)
  have hWm:∀x,x∈sm.foldl a0O []↔x∈sm:=fun x=>by rw [a1o];exact ⟨fun h=>h.elim (fun z=>(by cases z)) id,.inr⟩
  simp only []
  refine ⟨v1,sm,rfl,h1.same s06,by omega,fun Wa H7 s7 hWan hWa=>?_⟩
  generalize sm.foldl a0O []=W at hWl hWn hWm hWa q
  try skip
  intro To hTo
  obtain ⟨H8,e8,s8,hTo8⟩:=a0N hTo (.dK []);rw [e8]
  have s68:=s7.trans s8
  have s08:=s06.trans s68
  have hHe6:=s6 _ _ (s35 _ _ hHe)
  have hRe6:=s6 _ _ hRe
  have hSu6:=s6 _ _ (s35 _ _ (s13 _ _ hSu))
  have aSu:∀H',a0h H6 H'→a1F H' (.ref Su) S:=fun H' s=>(a9p (s _ _ hSu6) fun x=>by rw [a1o];exact ⟨fun h=>h.elim (fun z=>(by cases z)) id,.inr⟩).some
  have aHe:∀x,x∈((kn.map (·.1)).filter fun q=>decide ((q,true)∈kn)).foldl a0O []↔x∈ups kn:=fun x=>by rw [a5O,a2X]
  have aRe:∀x,x∈((kn.map (·.1)).filter fun q=>decide ((q,false)∈kn)).foldl a0O []↔x∈a1j kn:=fun x=>by rw [a5O,a1Z]
  have lHe:=a1b ((kn.map (·.1)).filter fun q=>decide ((q,true)∈kn)) []
  have lRe:=a1b ((kn.map (·.1)).filter fun q=>decide ((q,false)∈kn)) []
  refine ⟨g,_,_,_,_,rs,pl,S,ups kn,a1j kn,W,rfl,fun H' off=>?_,hO,hrl,.inr ⟨Wa,_,rfl,s8 _ _ hWa,a3b _⟩,hWn,by omega,fun q0 hq0=>(hsm q0 ((hWm q0).mp hq0)).1,fun Cm H9 s9 hCmn hCm=>?_⟩
  ·have s6':a0h H6 H':=off.same s68 hWan
   exact ⟨hG.same (s06.trans s6'),aSu _ s6',(a9p (s6' _ _ hHe6) aHe).some,(a9p (s6' _ _ hRe6) aRe).some⟩
  have hHe8:=s68 _ _ hHe6
  have hRe8:=s68 _ _ hRe6
  have nST:Su≠To:=fun z=>by have:=s7 _ _ hSu6;rw [z,hTo] at this;cases this
  have nSH:Su≠He:=fun z=>by rw [←z,s2 _ _ hSu] at hHen;cases hHen
  have nSR:Su≠Re:=fun z=>by rw [←z,s4 _ _ (s13 _ _ hSu)] at hRen;cases hRen
  have nHT:He≠To:=fun z=>by have:=s7 _ _ hHe6;rw [z,hTo] at this;cases this
  have nRT:Re≠To:=fun z=>by have:=s7 _ _ hRe6;rw [z,hTo] at this;cases this
  have nHR:He≠Re:=fun z=>by rw [←z,s4 _ _ hHe] at hRen;cases hRen
  have hHd6:∃o,H6 Hd=some o:=let ⟨k,a,_⟩:=hHd;⟨_,a⟩
  have nDT:Hd≠To:=fun z=>by obtain ⟨o,e⟩:=hHd6;have:=s7 _ _ e;rw [z,hTo] at this;cases this
  have nDH:Hd≠He:=fun z=>by rw [z,s35 _ _ hHe] at hHdn;cases hHdn
  have nDR:Hd≠Re:=fun z=>by rw [z,hRe] at hHdn;cases hHdn
  have nWT:Wa≠To:=fun z=>by rw [z,hTo] at hWa;cases hWa
  have nWH:Wa≠He:=fun z=>by rw [z,hHe6] at hWan;cases hWan
  have nWR:Wa≠Re:=fun z=>by rw [z,hRe6] at hWan;cases hWan
  simp only []
  obtain ⟨K3,eK3⟩:∃K3:Hp→Prop,K3=fun H'=>∀b o,H8 b=some o→b≠To→b≠He→b≠Re→H' b=some o:=⟨_,rfl⟩
  have k3of:∀H',K3 H'→∀b o,H8 b=some o→b≠To→b≠He→b≠Re→H' b=some o:=fun H' h=>by rw [eK3] at h;exact h
  have k3to:∀H',(∀b o,H8 b=some o→b≠To→b≠He→b≠Re→H' b=some o)→K3 H':=fun H' h=>by rw [eK3];exact h
  have k3H:∀H',K3 H'→a0h H H':=fun H' k b o e=>k3of _ k b o (s08 _ _ e) (a0b e (none_of s06 (none_of s7 hTo))) (a0b e (none_of (s1.trans s2) hHen)) (a0b e (none_of ((s1.trans s13).trans s4) hRen))
  have k3D:∀H',K3 H'→a4B H' Hd rs:=fun H' k=>(hHd.same s68).keep fun b o e hb=>by
   rcases hb with rfl | ⟨xs,rfl⟩
   ·exact k3of _ k _ _ e nDT nDH nDR
   ·exact k3of _ k _ _ e (a0u e hTo8 ‹iz›) (a0u e hHe8 ‹iz›) (a0u e hRe8 ‹iz›)
  have k3S:∀H',K3 H'→a1F H' (.ref Su) S:=fun H' k=>(a9p (k3of _ k _ _ (s68 _ _ hSu6) nST nSH nSR) fun x=>by rw [a1o];exact ⟨fun h=>h.elim (fun z=>(by cases z)) id,.inr⟩).some
  refine a5o (fun m σ H'=>∃(n:Nat) (T:List Tr) (F:List (Str×Bool)) (cm:Addr) (x12 x13:Option V) (kH kR:List (Key×V)),σ=[some (V.ref g),some v1,some v2,some (V.ref kd),some (V.ref Su),some (V.ref He),some (V.ref Re),some (V.ref Hd),some (V.ref Wa),some (V.ref To),some (V.int ((n:Int)+1)),some (V.ref cm),x12,x13]∧K3 H'∧TAt H' To T∧(T.map (·.1)).Nodup∧IsT rs pl S W (ups kn) (a1j kn) n T∧H' He=some (.dK kH)∧(∀x:Str,(a0T kH (Sum.inr x:Key)).isSome=decide (x∈(rds rs pl S W (ups kn) (a1j kn) n).U))∧kH.length≤100+T.length∧H' Re=some (.dK kR)∧(∀x:Str,(a0T kR (Sum.inr x:Key)).isSome=decide (x∈(rds rs pl S W (ups kn) (a1j kn) n).D))∧kR.length≤100+T.length∧H' cm=some (.dK (wv F))∧(cm≠To∧cm≠He∧cm≠Re∧cm≠Hd)∧(F.map (·.1)).Nodup∧IsF rs pl S W (ups kn) (a1j kn) n F∧m=W.length - T.length)
   W.length ⟨0,[],_,Cm,_,_,_,_,rfl,k3to _ fun b o e _ _ _=>s9 _ _ e,⟨[],rfl,s9 _ _ hTo8,fun _ h=>by cases h⟩,Zg,fun _=>Iff.rfl,s9 _ _ hHe8,(fun x=>by obtain ⟨k,e,h⟩:=a9p (H:=H8) hHe8 aHe;rw [hHe8] at e;cases e;exact h x),(by unfold bv;rw [Qd];simp at lHe;omega),s9 _ _ hRe8,(fun x=>by obtain ⟨k,e,h⟩:=a9p (H:=H8) hRe8 aRe;rw [hRe8] at e;cases e;exact h x),(by unfold bv;rw [Qd];simp at lRe;omega),hCm,⟨fun z=>(by rw [z,hTo8] at hCmn;cases hCmn),fun z=>(by rw [z,hHe8] at hCmn;cases hCmn),fun z=>(by rw [z,hRe8] at hCmn;cases hCmn),fun z=>(by obtain ⟨o,e⟩:=hHd6;rw [z,s68 _ _ e] at hCmn;cases hCmn)⟩,hWn.sublist (a5t _ _ _ _ _ _),b3W,rfl⟩ ?_
  clear hCm hCmn
  rintro m σ H10 ⟨n,T,F,cm,x12,x13,kH,kR,rfl,kk,hT,hTn,hIT,hH,hHm,hHl,hR,hRm,hRl,hC,⟨nCT,nCH,nCR,nCD⟩,hFn,hIF,hm⟩
  have hkey:∀x,x∈(T++F.map fun p=>(p.1,p.2,n+1)).map (·.1)→x∈W:=fun x hx=>by
   rw [a3w (a8v hIT hIF)] at hx
   exact a3P _ _ hx
  have hnew:∀x∈F.map (·.1),x∉T.map (·.1):=fun x hx=>by
   obtain ⟨⟨y,w⟩,hy,rfl⟩:=Qk.mp hx
   have:=(a0P.mp ((hIF _).mp hy)).2.1
   rw [a3w hIT];exact this
  have hnd:((T++F.map fun p=>(p.1,p.2,n+1)).map (·.1)).Nodup:=by
   rw [Xe,Zw]
   refine ⟨hTn,by rw [Xf];exact hFn,fun x hx y hy z=>hnew y (by rw [Xf] at hy;exact hy) (z ▸ hx)⟩
  have hTF:T.length+F.length≤W.length:=by
   have:=a1s hnd hkey
   simpa using this
  simp only [a1h,tOp,tCB,a0i,a0k,Qb,Qa,a0q,tC,a1l,a0X,a0e]
  refine .inr ⟨cm,_,rfl,hC,?_⟩
  rw [show (wv F).length=F.length from by unfold wv;rw [Qd]]
  simp only [a5w,a1k,decide_eq_true_eq]
  refine a1Q (fun c1=>?_) (fun c1=>?_)
  ·refine ⟨fun σ H'=>∃m',m' < m∧∃(n:Nat) (T:List Tr) (F:List (Str×Bool)) (cm:Addr) (x12 x13:Option V) (kH kR:List (Key×V)),σ=[some (V.ref g),some v1,some v2,some (V.ref kd),some (V.ref Su),some (V.ref He),some (V.ref Re),some (V.ref Hd),some (V.ref Wa),some (V.ref To),some (V.int ((n:Int)+1)),some (V.ref cm),x12,x13]∧K3 H'∧TAt H' To T∧(T.map (·.1)).Nodup∧IsT rs pl S W (ups kn) (a1j kn) n T∧H' He=some (.dK kH)∧(∀x:Str,(a0T kH (Sum.inr x:Key)).isSome=decide (x∈(rds rs pl S W (ups kn) (a1j kn) n).U))∧kH.length≤100+T.length∧H' Re=some (.dK kR)∧(∀x:Str,(a0T kR (Sum.inr x:Key)).isSome=decide (x∈(rds rs pl S W (ups kn) (a1j kn) n).D))∧kR.length≤100+T.length∧H' cm=some (.dK (wv F))∧(cm≠To∧cm≠He∧cm≠Re∧cm≠Hd)∧(F.map (·.1)).Nodup∧IsF rs pl S W (ups kn) (a1j kn) n F∧m'=W.length - T.length,fun _ _ h=>h,?_⟩
   refine b2z (kn:=F.map (·.1)) (fun H0 i σ' H'=>∃(x12:Option V),σ'=[some (V.ref g),some v1,some v2,some (V.ref kd),some (V.ref Su),some (V.ref He),some (V.ref Re),some (V.ref Hd),some (V.ref Wa),some (V.ref To),some (V.int ((n:Int)+1)),some (V.ref cm),x12,x13]∧a3p H0 To H'∧TAt H' To (T++(F.take i).map fun p=>(p.1,p.2,n+1))) hC (a3t F) (a0J rfl) (fun o=>⟨_,rfl,a3p.refl _ _,?_⟩) ?_ ?_ ?_
   ·rw [Jd,Jg,Qh]
    refine hT.keep fun b o e hb=>?_
    rcases hb with rfl | ⟨xs,rfl⟩
    ·rw [a0a nCT.symm];exact e
    ·rw [a0a (a0u e hC ‹iz›)];exact e
   ·rintro o i σ' H' ⟨_,rfl,k,_⟩
    exact k _ _ a0d nCT
   ·rintro o i hi σ' H' rt bk ⟨_,rfl,k,hT'⟩
    have hi':i < F.length:=by simpa using hi
    have hcm':H' cm=some (.frz o (.dK (wv F))):=k _ _ a0d nCT
    have hv:=b1Z hFn (show (F[i].1,F[i].2)∈F from Xa hi')
    have hq:F[i].1∉(T++(F.take i).map fun p=>(p.1,p.2,n+1)).map (·.1):=fun z=>by
     rw [Xe,Qv] at z
     rcases z with z | z
     ·exact hnew _ (Qk.mpr ⟨_,Xa hi',rfl⟩) z
     ·rw [Xf] at z
      obtain ⟨x,hx,e⟩:=Qk.mp z
      obtain ⟨j,hj,rfl⟩:=Yz hx
      rw [Yb] at hj
      have e':(F.map (·.1))[j]'(by rw [Qd];omega)=(F.map (·.1))[i]'hi:=by rw [Yd,Yd,←e,Vn];rfl
      have:=(Jn hFn).mp e'
      omega
    have hll:(T++(F.take i).map fun p=>(p.1,p.2,n+1)).length≤100000:=by
     rw [Xx,Qd,Yb];omega
    rw [Yd,Qp hi',Xe,←Yu]
    simp only [a0l,a2U,a3J,a0i,b1O,a0k,Qf,Qg,Qb,Qa,a0q,a0e]
    refine ⟨cm,_,rfl,.inl ⟨_,Sum.inr F[i].1,.inr ⟨o,hcm'⟩,rfl,hv.symm⟩,by simp only [Qm,Qr];decide,fun p hp=>?_⟩
    obtain ⟨H11,e11,s11,h11⟩:=a0N hp (.tup [V.str (wd F[i].2),V.int ((n:Int)+1)]);rw [e11]
    obtain ⟨kv,hput,hT2⟩:=hT'.put (n:=n+1) s11 h11 hq hll
    exact ⟨To,_,rfl,hput,_,rfl,fun b o e n=>by rw [a0a n];exact s11 _ _ (k _ _ e n),hT2⟩
   ·rintro o σ' H' ⟨y12,rfl,k,hT'⟩
    rw [Qd,Xr] at hT'
    have k11:∀b o',H10 b=some o'→b≠To→upd H' cm (.dK (wv F)) b=some o':=fun b o' e nb=>by
     by_cases z:b=cm
     ·rw [z,a0d,←hC,←z];exact e
     ·rw [a0a z];exact k _ _ (by rw [a0a z];exact e) nb
    have hT11:TAt (upd H' cm (.dK (wv F))) To (T++F.map fun p=>(p.1,p.2,n+1)):=hT'.keep fun b o' e hb=>by
     have hcf:H' cm=some (.frz o (.dK (wv F))):=k _ _ a0d nCT
     rcases hb with rfl | ⟨xs,rfl⟩
     ·rw [a0a nCT.symm];exact e
     ·rw [a0a (a0u e hcf ‹iz›)];exact e
    generalize upd H' cm (.dK (wv F))=H11 at k11 hT11
    clear hT' k
    have hC11:=k11 _ _ hC nCT
    have hH11:=k11 _ _ hH nHT
    have hR11:=k11 _ _ hR nRT
    have g1:=a5p F true
    have g2:=a5p F false
    have g3:=a1b ((F.map (·.1)).filter fun q=>decide ((q,true)∈F)) []
    have g4:=a1b ((F.map (·.1)).filter fun q=>decide ((q,false)∈F)) []
    have bvl:∀l:List Str,(bv l).length=l.length:=fun l=>by unfold bv;rw [Qd]
    simp only [a1l,a3n,tBM,a0k,Qb,Qa,a0i,a0v,a0q,Qh,a1P,tOp,tC,a0l,b5O,Qf,Qg,a0e,a1d]
    refine ⟨.inr (.inr (.inl ⟨rfl,.inl ⟨_,hH11⟩⟩)),a3l hC11 (a3t F) (by rw [Qd];omega) (a0J rfl) [some (V.ref cm)] rfl (fun q=>decide ((q,true)∈F)) (fun q0 H0 H' R hq off hR s hR'=>a3j (b:=true) hFn hq hR hR') fun L3 H12 hL3 s12 hL12=>?_⟩
    refine ⟨_,_,rfl,.inl ⟨L3,rfl,hL12⟩,by omega,fun KD H13 s13' hKn hKD=>?_⟩
    have s1113:=s12.trans s13'
    have nHK:He≠KD:=fun z=>by rw [←z,s12 _ _ hH11] at hKn;cases hKn
    refine ⟨He,KD,kH,_,rfl,rfl,nHK,s1113 _ _ hH11,hKD,Qi (show _≤1000 by rw [bvl];simp at g3;omega) ‹dc›,?_⟩
    have hml:=a1z (bv (((F.map (·.1)).filter fun q=>decide ((q,true)∈F)).foldl a0O [])) kH
    obtain ⟨H14,e14,k14,hH14⟩:∃H',upd H13 He (.dK (a1u kH (bv (((F.map (·.1)).filter fun q=>decide ((q,true)∈F)).foldl a0O []))))=H'∧(∀b o,H11 b=some o→b≠He→H' b=some o)∧H' He=some (.dK (a1u kH (bv (((F.map (·.1)).filter fun q=>decide ((q,true)∈F)).foldl a0O [])))):=⟨_,rfl,fun b o e n=>by rw [a0a n];exact s1113 _ _ e,a0d⟩
    rw [e14]
    have hC14:=k14 _ _ hC11 nCH
    have hR14:=k14 _ _ hR11 nHR.symm
    simp only []
    refine ⟨.inr (.inr (.inl ⟨rfl,.inl ⟨_,hR14⟩⟩)),a3l hC14 (a3t F) (by rw [Qd];omega) (a0J rfl) [some (V.ref cm)] rfl (fun q=>decide ((q,false)∈F)) (fun q0 H0 H' R hq off hR s hR'=>a3j (b:=false) hFn hq hR hR') fun L4 H15 hL4 s15 hL15=>?_⟩
    refine ⟨_,_,rfl,.inl ⟨L4,rfl,hL15⟩,by omega,fun KE H16 s16 hKEn hKE=>?_⟩
    have s1416:=s15.trans s16
    have nRK:Re≠KE:=fun z=>by rw [←z,s15 _ _ hR14] at hKEn;cases hKEn
    refine ⟨Re,KE,kR,_,rfl,rfl,nRK,s1416 _ _ hR14,hKE,Qi (show _≤1000 by rw [bvl];simp at g4;omega) ‹dc›,?_⟩
    have hml2:=a1z (bv (((F.map (·.1)).filter fun q=>decide ((q,false)∈F)).foldl a0O [])) kR
    obtain ⟨H17,e17,k17,hR17⟩:∃H',upd H16 Re (.dK (a1u kR (bv (((F.map (·.1)).filter fun q=>decide ((q,false)∈F)).foldl a0O []))))=H'∧(∀b o,H14 b=some o→b≠Re→H' b=some o)∧H' Re=some (.dK (a1u kR (bv (((F.map (·.1)).filter fun q=>decide ((q,false)∈F)).foldl a0O [])))):=⟨_,rfl,fun b o e n=>by rw [a0a n];exact s1416 _ _ e,a0d⟩
    rw [e17]
    rw [bvl] at hml hml2
    have hC17:=k17 _ _ hC14 nCR
    have hH17:=k17 _ _ hH14 nHR
    have hHm17:=DAt.merge hHm (b3D hIF)
    have hRm17:=DAt.merge hRm (b4s hIF)
    have hIT1:=a8v hIT hIF
    have hT17:TAt H17 To (T++F.map fun p=>(p.1,p.2,n+1)):=hT11.keep fun b o' e hb=>by
     rcases hb with rfl | ⟨xs,rfl⟩
     ·exact k17 _ _ (k14 _ _ e nHT.symm) nRT.symm
     ·exact k17 _ _ (k14 _ _ e (a0u e hH11 ‹iz›)) (a0u e hR11 ‹iz›)
    have kk17:K3 H17:=k3to _ fun b o e n1 n2 n3=>k17 _ _ (k14 _ _ (k11 _ _ (k3of _ kk _ _ e n1 n2 n3) n1) n2) n3
    generalize a1u kH (bv (((F.map (·.1)).filter fun q=>decide ((q,true)∈F)).foldl a0O []))=kH' at hml hH17 hHm17
    generalize a1u kR (bv (((F.map (·.1)).filter fun q=>decide ((q,false)∈F)).foldl a0O []))=kR' at hml2 hR17 hRm17
    have hTl1:(T++F.map fun p=>(p.1,p.2,n+1)).length=T.length+F.length:=by rw [Xx,Qd]
    generalize hTe:(T++F.map fun p=>(p.1,p.2,n+1))=T1 at hT17 hIT1 hnd hkey hTl1
    have hW17:=k3of _ kk17 _ _ (s8 _ _ hWa) nWT nWH nWR
    obtain ⟨kT,hkT,_,hkTm⟩:=hT17.keys
    simp only []
    refine ⟨Hd,cm,rs,F,rfl,fun H' off=>(k3D _ kk17).keep fun b o e hb=>off b o e fun z=>?_,hC17,by omega,hO,hrl,fun Dt kt H18 s18 hDtn hDt hktn hktl hktm=>?_⟩
    ·cases z
     rcases hb with w | ⟨xs,rfl⟩
     ·exact nCD w
     ·rw [hC17] at e;cases e
    refine a9O hDt (a3b kt) hktl s18 [some (V.ref Wa),some (V.ref To)] (by rfl) (fun q=>decide (q∈W) && decide (q∉T1.map (·.1))) (fun q0 H0 H' R hq off s hR'=>?_) fun As H19 hAsn s19 hAs=>?_
    ·have hW':=s _ _ (off.keep _ _ (s18 _ _ hW17) fun z=>by cases z;rw [hW17] at hDtn;cases hDtn)
     have hT':=s _ _ (off.keep _ _ (s18 _ _ hkT) fun z=>by cases z;rw [hkT] at hDtn;cases hDtn)
     have:=hR' _ (a0h.refl _)
     simp only [b7t,tB,a8V,a0k,Qa,Qb,a2t,a1k,a0e]
     refine ⟨Wa,_,rfl,a2w.k (k:=(Sum.inr q0:Key)) hW',?_⟩
     rw [a2s]
     by_cases z1:q0∈W
     ·rw [if_pos z1]
      rw [decide_eq_true z1,Ua] at this
      refine ⟨To,_,rfl,a2w.k (k:=(Sum.inr q0:Key)) hT',?_⟩
      rw [hkTm,show (!decide (q0∈T1.map (·.1)))=decide (q0∉T1.map (·.1)) from by simp]
      exact this
     ·rw [if_neg z1]
      rw [decide_eq_false z1,Jb] at this
      exact this
    simp only [a1P,a0v,a0i,a0k,Qa,Qb,a0q,Qh,a0l,Qf,Qg,a0e]
    have ha:∀x,x∈kt.filter (fun q=>decide (q∈W) && decide (q∉T1.map (·.1)))↔tch rs (F.map (·.1)) x∧x∈W∧x∉T1.map (·.1):=fun x=>by
     rw [Qs,hktm,Xq,decide_eq_true_eq,decide_eq_true_eq]
    have hfl:=Qy (fun q=>decide (q∈W) && decide (q∉T1.map (·.1))) kt
    have hfn:(kt.filter (fun q=>decide (q∈W) && decide (q∉T1.map (·.1)))).Nodup:=hktn.sublist List.filter_sublist
    generalize kt.filter (fun q=>decide (q∈W) && decide (q∉T1.map (·.1)))=ask at ha hfl hfn hAs
    have hlt:W.length - T1.length < m:=by
     have:0 < F.length:=by omega
     omega
    refine ⟨g,_,_,_,_,rs,pl,S,(rds rs pl S W (ups kn) (a1j kn) (n+1)).U,(rds rs pl S W (ups kn) (a1j kn) (n+1)).D,ask,rfl,fun H' off=>?_,hO,hrl,.inl ⟨As,rfl,hAs⟩,hfn,by omega,fun q0 hq0=>(hsm q0 ((hWm q0).mp ((ha q0).mp hq0).2.1)).1,fun C2 H20 s20 hC2n hC2=>?_⟩
    ·have s18':a0h H18 H':=off.same s19 hAsn
     have kk':K3 H':=k3to _ fun b o e n1 n2 n3=>s18' _ _ (s18 _ _ (k3of _ kk17 _ _ e n1 n2 n3))
     exact ⟨hG.same (k3H _ kk'),k3S _ kk',.inr ⟨He,_,rfl,s18' _ _ (s18 _ _ hH17),hHm17⟩,.inr ⟨Re,_,rfl,s18' _ _ (s18 _ _ hR17),hRm17⟩⟩
    have s1720:=(s18.trans s19).trans s20
    have hn19:∀{x:Addr} {o:HO},H17 x=some o→C2≠x:=fun {x o} e z=>by rw [z,s19 _ _ (s18 _ _ e)] at hC2n;cases hC2n
    refine ⟨_,hlt,n+1,T1,_,C2,_,_,kH',kR',rfl,k3to _ fun b o e n1 n2 n3=>s1720 _ _ (k3of _ kk17 _ _ e n1 n2 n3),hT17.same s1720,hnd,hIT1,s1720 _ _ hH17,hHm17,by simp at g3;omega,s1720 _ _ hR17,hRm17,by simp at g4;omega,hC2,⟨hn19 hkT,hn19 hH17,hn19 hR17,?_⟩,hfn.sublist (a5t _ _ _ _ _ _),b4F (fun q0 hq0=>(hsm q0 ((hWm q0).mp hq0)).2) hIT1 hIF ha,rfl⟩
    obtain ⟨kv,e,_⟩:=k3D _ kk17
    exact hn19 e
  ·have hF0:F=[]:=by
    cases F with
    | nil=>rfl
    | cons x l=>exact absurd (by simp only [Qm];omega) c1
   subst hF0
   try skip
   exact q To T n H10 (k3H _ kk) (none_of s06 (none_of s7 hTo)) hT hTn (b8d hIF) hIT
theorem c2b (T:Txt K mg t):a0R P w K mg base CX0 1 t.f_z0i t.fd_z0i ["self"] (a1i true):=by
 refine T.F_z0i.ok c1b (fun vs H Q E h=>?_) (fun cdv A outer s H vs Q E hr h=>?_)
 ·obtain ⟨x,rfl,q⟩:=h;rfl
 ·obtain ⟨x,rfl,q⟩:=h
  refine ⟨_,‹A3 (A9 B5)›,?_⟩
  rw [show start c1r [x]=[some (x)] from rfl]
  simp only [a0X,tC]
  exact q
theorem b5r (T:Txt K mg t):a0R P w K mg base CX0 1 t.f_z0g t.fd_z0g ["self"] (a1i false):=by
 refine T.F_z0g.ok c1o (fun vs H Q E h=>?_) (fun cdv A outer s H vs Q E hr h=>?_)
 ·obtain ⟨x,rfl,q⟩:=h;rfl
 ·obtain ⟨x,rfl,q⟩:=h
  refine ⟨_,‹A3 (A9 B5)›,?_⟩
  rw [show start c0G [x]=[some (x)] from rfl]
  simp only [a0X,tC]
  exact q
theorem c0N (T:Txt K mg t):a0R P w K mg base CX0 1 t.f_z0j t.fd_z0j ["self"] (a1i true):=by
 refine T.F_z0j.ok b8K (fun vs H Q E h=>?_) (fun cdv A outer s H vs Q E hr h=>?_)
 ·obtain ⟨x,rfl,q⟩:=h;rfl
 ·obtain ⟨x,rfl,q⟩:=h
  refine ⟨_,‹A3 (A9 B5)›,?_⟩
  rw [show start c1g [x]=[some (x)] from rfl]
  simp only [a0X,tC]
  exact q
theorem b8z (T:Txt K mg t):a0R P w K mg base CX0 3 t.f_z0n t.fd_z0n ["rules","known"] (b8F K t):=by
 refine T.F_z0n.ok a2Q (fun vs H Q E h=>?_) (fun cdv A outer s H vs Q E hr h=>?_)
 ·obtain ⟨a,kv,xs,rs,kn,rfl,ha,hA,hO,hrl,hk,hkl,q⟩:=h;rfl
 ·obtain ⟨a,kv,xs,rs,kn,rfl,ha,hA,hO,hrl,hk,hkl,q⟩:=h
  refine ⟨_,‹D8 (A7 2 a2Q.nd (A8 (a3f T) T.g_z21 T.F_z21.kp T.b_z21 .nil (A0 (G8 (B1 c1n 1 J0 (a0p _)) (B7 A1) 1) A1))) (A2 (E0 3 (B2 (a0c a2L) a8M ["rule","sure"] [none,some 2]) (B4 0) (A5 0 (show Xg (["rule","sure"]:List Str) by decide+kernel)) (C6 (D4 (F3 (C2 (F0 (D5 0 T.cl_Fact T.me_Fact_is_sure (c2b T) T.b_z0i) (F0 (D5 0 T.cl_Sure T.me_Sure_is_sure (c0N T) T.b_z0j) (F0 (D5 0 T.cl_Most T.me_Most_is_sure (b5r T) T.b_z0g) (D5 0 T.cl_Block T.me_Block_is_sure (b5r T) T.b_z0g))))) (F7 (C8 ‹E8 (E2 0) 1›))))) 0 a2Q.nd) (A2 (A7 4 a2Q.nd D1) (A2 (A7 5 a2Q.nd A4) (A2 (E0 6 (B2 (a0c a2L) a8M ["rule","sure"] [none,some 2]) (B4 3) (A5 0 (show Xg (["rule","sure"]:List Str) by decide+kernel)) (C6 (C2 (A8 (a8r T) T.g_z11 T.F_z11.kp T.b_z11 .nil (A0 (E2 0) (A0 1 A1))))) (E2 0) a2Q.nd) (A2 (G6 (B1 b7h (C4 a1n T.z_len a1m (A0 6 A1)) A4 (a0p _)) (A2 (B9 (B4 6) (A5 7 a2Q.nd) (A2 (C5 4 7 5) (A3 (C5 2 7 B5)))) (A2 (E0 3 (B2 (a0c a2L) a8M ["rule","sure"] [none,some 2]) (B4 3) (A5 0 (show Xg (["rule","sure"]:List Str) by decide+kernel)) (C6 (C8 ‹E8 (E2 0) 1›)) 0 a2Q.nd) (A2 (A7 5 a2Q.nd (A6 a0r 5 A4)) (A3 (E0 6 (B2 (a0c a2L) a8M ["rule","sure"] [none,some 2]) (B4 3) (A5 0 (show Xg (["rule","sure"]:List Str) by decide+kernel)) (C6 (C2 (A8 (a8r T) T.g_z11 T.F_z11.kp T.b_z11 .nil (A0 (E2 0) (A0 1 A1))))) (E2 0) a2Q.nd)))))) (A3 (A9 4)))))))›,?_⟩
  rw [show start a8M [V.ref a,kv]=[some (V.ref a),some (kv),none,none,none,none,none,none] from rfl]
  have hkl':(kn.foldl a0O []).length≤100:=Qi (a1b kn []) (by simpa using hkl)
  have hkn:(kn.foldl a0O []).Nodup:=a0Z kn (by simp)
  simp only [a0o,a1p,a0k]
  refine ⟨fun σ' H'=>∃D,σ'=[some (V.ref a),some kv,some (V.ref D),none,none,none,none,none]∧a0h H H'∧H D=none∧H' D=some (.dK (bv (kn.foldl a0O []))),?_,?_⟩
  ·rcases hk with ⟨rfl,rfl⟩ | ⟨b,rfl,hb⟩
   ·simp only [a1P,a0v,a0i,tIf,a1h,tOp,a0k,Qb,Qa,tC,a2M,a0q,Qh,a0l,Qf,Qg,a0e,b4j,a1k,if_true]
    refine ⟨by decide,fun p hp=>?_⟩
    obtain ⟨H1,e1,s1,h1⟩:=a0N hp (.lst []);rw [e1]
    exact ⟨_,[],rfl,.inl ⟨p,rfl,h1⟩,by decide,fun D H' s hD hD'=>⟨D,rfl,s1.trans s,none_of s1 hD,hD'⟩⟩
   ·simp only [a1P,a0v,a0i,tIf,a1h,tOp,a0k,Qb,Qa,tC,a2M,a0q,Qh,a0l,Qf,Qg,a0e,b3Q,a1k,a8F]
    exact ⟨_,kn,rfl,.inl ⟨b,rfl,hb⟩,by omega,fun D H' s hD hD'=>⟨D,rfl,s,hD,hD'⟩⟩
  rintro σ H1 ⟨D,rfl,s1,hD,hD1⟩
  generalize kn.foldl a0O []=k0 at hD1 hkl' hkn q
  obtain ⟨zr,ez1,ez2,hz⟩:=hA.zip hO
  subst ez1 ez2
  have hzl:zr.length≤126:=by simpa using hrl
  simp only [a1l,Qa,a1P,a1O,a0l,tC,Qf,Qg,Qb,a0e,a0s]
  refine ⟨⟨_,SqL.of (s1 _ _ ha)⟩,?_⟩
  refine a2j zr (s1 _ _ ha) ‹om› (hz.same s1) [some (V.ref D)] rfl (fun r=>(srW r).1 && decide ((srW r).2.1∉k0)) (fun p=>p.1) (fun x r H' R ho hr s hR=>?_) (fun x r H' R ho hr s hR=>?_) (fun W H2 hWn s2 hW2=>?_)
  ·simp only [b7t,tB,a2t,a3F,a0k,Qa,Qb,a1k,a0e]
   have CF:=a9j T ho.1
   refine c7j ho.1 (a0J rfl) hr ⟨by decide+kernel,by decide+kernel,by decide+kernel⟩ ?_
   rw [b0U ho.1]
   simp only [a4M,a1k,decide_eq_true_eq]
   obtain ⟨dx,t0,h1,h2⟩:=hr
   have:=hR _ (a0h.refl _)
   refine a1Q (fun c=>?_) (fun c=>?_)
   ·have e1:(srW r).1=true:=decide_eq_true (by have:=c;omega)
    refine ⟨x,_,dx,_,_,rfl,h1,CF.cl,CF.nh,a1v _ _ _,D,_,rfl,c2D (s _ _ hD1) _,?_⟩
    rw [e1,Ua] at this
    by_cases h:r.2.2.1∈k0
    ·rw [if_pos h];rw [decide_eq_false (show ¬¬(srW r).2.1∈k0 from fun z=>z h)] at this;exact this
    ·rw [if_neg h];rw [decide_eq_true (show ¬(srW r).2.1∈k0 from h)] at this;exact this
   ·have e1:(srW r).1=false:=decide_eq_false (by have:=c;omega)
    rw [e1,Jb] at this;exact this
  ·simp only [a0k,Qa,a0e]
   exact hR _ (a0h.refl _)
  simp only [a0s]
  obtain ⟨RS,eRS⟩:∃RS,(zr.map (·.2)).map srW=RS:=⟨_,rfl⟩
  rw [eRS] at q
  have hRl:RS.length≤126:=by rw [←eRS];simpa using hzl
  intro R hR0
  obtain ⟨H3,e3,s3,hR3⟩:=a0N hR0 (.dK []);rw [e3]
  have hD3:=s3 _ _ (s2 _ _ hD1)
  have hW3:=s3 _ _ hW2
  have s03:=(s1.trans s2).trans s3
  have hRn:H R=none:=none_of (s1.trans s2) hR0
  have hDR:D≠R:=fun z=>by have e:=s2 _ _ hD1;rw [z,hR0] at e;cases e
  refine ⟨⟨_,SqL.of hW3⟩,?_⟩
  have hAm:∀(S:List Str) (x:Addr) (r:Rw) (H':Hp) (R:Bool→Hp→Prop),a1E r→a2e H' x (a4H t r.1) (.str r.2.1) (.str r.2.2.1) (r.2.2.2.map V.str)→H' D=some (.dK (bv S))→(∀H'',a0h H' H''→R ((srW r).2.2.all fun q=>decide (q∈S)) H'')→tB (a0v a7V [] E0 (a0i (a3F K (a0k 0) "body") (a0i (a0k 1) a0q))) [some (V.ref x),some (V.ref D)] H' R:=by
   intro S x r H' R ho hr hD' hR
   have CF:=a9j T ho.1
   obtain ⟨dx,t0,h1,h2⟩:=hr
   simp only [tB,a0v,a0i,a3F,a0k,Qa,Qb,a0q,Qh,a0e]
   refine ⟨x,_,dx,_,_,rfl,h1,CF.cl,CF.nb,a1U _ _ _,?_⟩
   refine ⟨t0,_,r.2.2.2,S,rfl,h2,by have:=ho.2.2.2.2.2;omega,c9R hD',fun H'' s''=>?_⟩
   simp only [a1k]
   exact hR _ s''
  have hHd:∀(x:Addr) (r:Rw) (H':Hp) (R:V→Hp→Prop),a1E r→a2e H' x (a4H t r.1) (.str r.2.1) (.str r.2.2.1) (r.2.2.2.map V.str)→(∀H'',a0h H' H''→R (V.str (srW r).2.1) H'')→a3F K (a0k 0) "head" [some (V.ref x),some (V.ref D)] H' R:=by
   intro x r H' R ho hr hR
   have CF:=a9j T ho.1
   obtain ⟨dx,t0,h1,h2⟩:=hr
   simp only [a3F,a0k,Qa,a0e]
   exact ⟨x,_,dx,_,_,rfl,h1,CF.cl,CF.nh,a1v _ _ _,hR _ (a0h.refl _)⟩
  refine a2j (wat zr k0) hW3 (Qi (a6S _ _) ‹om›) ((b0F hz).same s03) [some (V.ref D)] rfl (fun r=>(srW r).2.2.all fun q=>decide (q∈k0)) (fun p=>V.str (srW p.2).2.1) (fun x r H' R ho hr s hR=>hAm k0 x r H' R ho hr (s _ _ hD3) hR) (fun x r H' R ho hr s hR=>hHd x r H' R ho hr hR) (fun F H4 hFn s4 hF4=>?_)
  rw [a8n,eRS] at hF4
  refine a5o (fun m σ H'=>∃(n:Nat) (W F:Addr) (x7:Option V),σ=[some (V.ref a),some kv,some (V.ref D),some (V.ref W),some (V.ref R),some (V.int ((n:Int)+1)),some (V.ref F),x7]∧a0h H H'∧H' D=some (.dK (bv (sS RS k0 n)))∧H' R=some (.dK (dv (sR RS k0 n)))∧H' W=some (.lst ((wat zr (sS RS k0 n)).map (·.1)))∧H' F=some (.lst ((frs RS (sS RS k0 n)).map V.str))∧m=b2j RS (sS RS k0 n))
   (b2j RS k0) ⟨0,W,F,_,rfl,s03.trans s4,s4 _ _ hD3,s4 _ _ hR3,s4 _ _ hW3,hF4,rfl⟩ ?_
  clear hF4 hFn s4 hW3 hW2 hWn
  rintro m σ H4 ⟨n,W,F,x7,rfl,s4,hD4,hR4,hW4,hF4,hm⟩
  have hfl:=a7z RS (sS RS k0 n)
  have hSl:=b2E (rs:=RS) hkn n
  have hRl':=b0r (rs:=RS) hkn n
  simp only [a1h,tOp,tCB,a0i,a0k,Qb,Qa,a0q,tC,a1l,a0t,a1p,a0e,a0s,a0X]
  refine a1L (SqL.of hF4) ?_
  rw [Qd]
  simp only [a5w,a1k,decide_eq_true_eq]
  refine a1Q (fun c1=>?_) (fun c1=>?_)
  ·have hne:frs RS (sS RS k0 n)≠[]:=fun z=>by rw [z] at c1;exact absurd c1 ‹dc›
   refine ⟨fun σ' H'=>∃m',m' < m∧∃(n:Nat) (W F:Addr) (x7:Option V),σ'=[some (V.ref a),some kv,some (V.ref D),some (V.ref W),some (V.ref R),some (V.int ((n:Int)+1)),some (V.ref F),x7]∧a0h H H'∧H' D=some (.dK (bv (sS RS k0 n)))∧H' R=some (.dK (dv (sR RS k0 n)))∧H' W=some (.lst ((wat zr (sS RS k0 n)).map (·.1)))∧H' F=some (.lst ((frs RS (sS RS k0 n)).map V.str))∧m'=b2j RS (sS RS k0 n),fun _ _ h=>h,⟨_,SqL.of hF4⟩,?_⟩
   have hFD:F≠D:=a0u hF4 hD4 ‹iz›
   have hFR:F≠R:=a0u hF4 hR4 ‹iz›
   have hWD:W≠D:=a0u hW4 hD4 ‹iz›
   have hWR:W≠R:=a0u hW4 hR4 ‹iz›
   refine a0S (K:=K) (a:=F) (xs:=(frs RS (sS RS k0 n)).map V.str) (fun j σ H'=>∃(x7:Option V),σ=[some (V.ref a),some kv,some (V.ref D),some (V.ref W),some (V.ref R),some (V.int ((n:Int)+1)),some (V.ref F),x7]∧a0h H H'∧H' D=some (.dK (bv (((frs RS (sS RS k0 n)).take j).foldl a0O (sS RS k0 n))))∧H' R=some (.dK (dv (((frs RS (sS RS k0 n)).take j).foldl (a3H (n+1)) (sR RS k0 n))))∧H' W=some (.lst ((wat zr (sS RS k0 n)).map (·.1)))∧H' F=some (.lst ((frs RS (sS RS k0 n)).map V.str)))
    ⟨_,rfl,s4,hD4,hR4,hW4,hF4⟩ (fun j σ H' _ h=>by obtain ⟨_,_,_,_,_,_,h⟩:=h;exact SqL.of h) ?_ ?_
   ·rintro j x σ H5 hj ⟨x9,rfl,s5,hD5,hR5,hW5,hF5⟩
    have hjl:j < (frs RS (sS RS k0 n)).length:=by simpa using (Qn.mp hj).1
    have ex:x=V.str (frs RS (sS RS k0 n))[j]:=by
     rw [Ql,Qc hjl] at hj
     exact (Option.some.inj hj).symm
    subst ex
    have hnew:=a4b (Xa hjl)
    rw [Qp hjl,Ym,Ym]
    have hlkt:lk (((frs RS (sS RS k0 n)).take j).foldl (a3H (n+1)) (sR RS k0 n)) (frs RS (sS RS k0 n))[j]=none∨lk (((frs RS (sS RS k0 n)).take j).foldl (a3H (n+1)) (sR RS k0 n)) (frs RS (sS RS k0 n))[j]=some (n+1):=by
     rw [a3M fun h hh=>.inl (a4b (Yo hh)),hnew]
     split
     ·exact .inr rfl
     ·exact .inl rfl
    have l1:=a1b ((frs RS (sS RS k0 n)).take j) (sS RS k0 n)
    have l2:=a4m (n+1) ((frs RS (sS RS k0 n)).take j) (sR RS k0 n)
    have l3:((frs RS (sS RS k0 n)).take j).length≤126:=by rw [Yb];omega
    have nd:=a2V (n+1) ((frs RS (sS RS k0 n)).take j) (a1e (rs:=RS) (kn:=k0) n)
    generalize ((frs RS (sS RS k0 n)).take j).foldl (a3H (n+1)) (sR RS k0 n)=R5 at hR5 l2 nd hlkt
    generalize ((frs RS (sS RS k0 n)).take j).foldl a0O (sS RS k0 n)=S5 at hD5 l1
    simp only [a0l,a1l,a2U,a0k,Qf,Qg,Qb,Qa,tC,a0e]
    refine ⟨R,_,rfl,c5u (n:=n+1) hR5 ‹om› nd hlkt,?_⟩
    refine ⟨D,_,rfl,b3d (by rw [a0a hDR];exact hD5) ‹om› _,_,rfl,?_,a0d,?_,?_,?_⟩
    ·intro b o e;rw [a0a (a0b e hD),a0a (a0b e hRn)];exact s5 _ _ e
    ·rw [a0a hDR.symm,a0d];rfl
    ·rw [a0a hWD,a0a hWR];exact hW5
    ·rw [a0a hFD,a0a hFR];exact hF5
   ·rintro σ H5 ⟨x9,rfl,s5,hD5,hR5,hW5,hF5⟩
    rw [Qd,Xr] at hD5 hR5
    have hD5':H5 D=some (.dK (bv (sS RS k0 (n+1)))):=hD5
    have hR5':H5 R=some (.dK (dv (sR RS k0 (n+1)))):=hR5
    clear hD5 hR5
    have hsub:∀x,x∈sS RS k0 n→x∈sS RS k0 (n+1):=fun x hx=>a3h.mpr (.inl hx)
    have hlack:=a4A hne
    simp only [a1l,Qb,Qa,a1P,tOp,a0k,Qf,Qg,tC,a0l,a0e,a1d,a0s]
    refine ⟨⟨_,SqL.of hW5⟩,?_⟩
    refine a2j (wat zr (sS RS k0 n)) hW5 (Qi (a6S _ _) ‹om›) ((b0F hz).same s5) [some (V.ref D)] rfl (fun r=>decide ((srW r).2.1∉sS RS k0 (n+1))) (fun p=>p.1) (fun x r H' R ho hr s hR=>?_) (fun x r H' R ho hr s hR=>?_) (fun W' H6 hWn s6 hW6=>?_)
    ·have CF:=a9j T ho.1
     obtain ⟨dx,t0,h1,h2⟩:=hr
     simp only [tB,a2t,a3F,a0k,Qa,Qb,a1k,a0e]
     refine ⟨x,_,dx,_,_,rfl,h1,CF.cl,CF.nh,a1v _ _ _,D,_,rfl,c2D (s _ _ hD5') _,?_⟩
     have:=hR _ (a0h.refl _)
     by_cases h:r.2.2.1∈sS RS k0 (n+1)
     ·rw [if_pos h];rw [decide_eq_false (show ¬¬(srW r).2.1∈sS RS k0 (n+1) from fun z=>z h)] at this;exact this
     ·rw [if_neg h];rw [decide_eq_true (show ¬(srW r).2.1∈sS RS k0 (n+1) from h)] at this;exact this
    ·simp only [a0k,Qa,a0e]
     exact hR _ (a0h.refl _)
    rw [b9i zr hsub] at hW6
    have hD6:=s6 _ _ hD5'
    simp only [a0s]
    refine ⟨⟨_,SqL.of hW6⟩,?_⟩
    refine a2j (wat zr (sS RS k0 (n+1))) hW6 (Qi (a6S _ _) ‹om›) ((b0F hz).same (s5.trans s6)) [some (V.ref D)] rfl (fun r=>(srW r).2.2.all fun q=>decide (q∈sS RS k0 (n+1))) (fun p=>V.str (srW p.2).2.1) (fun x r H' R ho hr s hR=>hAm _ x r H' R ho hr (s _ _ hD6) hR) (fun x r H' R ho hr s hR=>hHd x r H' R ho hr hR) (fun F' H7 hFn s7 hF7=>?_)
    rw [a8n,eRS] at hF7
    have s57:=s6.trans s7
    exact ⟨_,by rw [hm];exact hlack,n+1,W',F',_,rfl,s5.trans s57,s57 _ _ hD5',s57 _ _ hR5',s7 _ _ hW6,hF7,rfl⟩
  ·have he:frs RS (sS RS k0 n)=[]:=by
    cases e:frs RS (sS RS k0 n) with
    | nil=>rfl
    | cons x l=>rw [e] at c1;exact absurd (by simp only [Qm];omega) c1
   rw [b4R he] at hR4
   try skip
   exact q R H4 s4 hRn hR4
theorem b9B (T:Txt K mg t):a0R P w K mg base CX0 4 t.f_z0u t.fd_z0u ["ground"] (b6m t):=by
 refine T.F_z0u.okC b5a (fun vs H Q E h=>?_) (fun A outer s H vs Q E hr h=>?_)
 ·obtain ⟨g,rs,pl,po,rfl,hG,hO,hrl,hpo,hpl,lt,q⟩:=h;rfl
 ·obtain ⟨g,rs,pl,po,rfl,hG,hO,hrl,hpo,hpl,lt,q⟩:=h
  refine ⟨_,‹A2 (A7 1 b5a.nd (A8 (b8z T) T.g_z0n T.F_z0n.kp T.bd_z0n (.cons (show a0Q .non Value.none from rfl) .nil) (A0 (D5 0 T.cl_Ground T.me_Ground_rules (b5m T) T.b_z0l) A1))) (A3 (A9 (J1 ("statement") ["ranks"] [some 1] a1K 0 rfl rfl (hr.mono ‹dc›) rfl T.z_sorted T.L_z0u T.LB 1 (B2 (a0c a8K) b6Y ["statement","ranks"] [none,some 1]) rfl rfl rfl (fun _ _ _ _ _ _=>rfl) a2N rfl (fun _ _ _ _ _ _ hr=>‹C0 (A0 (F6 1 0) (A0 0 A1))›))))›,?_⟩
  rw [show start b6Y [V.ref g]=[some (V.ref g),none] from rfl]
  obtain ⟨dx,io,bh,pr,_,_,_,hg1,_⟩:=id hG
  simp only [a1l,a1P,a0v,a0i,a1M,a0k,Qa,a0q,Qh,Jx,Uv,a0l,a0X,b4Y,Qf,Qg,Qb,a0e]
  refine ⟨g,dx,_,rfl,hg1,a2C _ _ _ ‹dk› ‹dk› ‹dk›,g,rs,pl,rfl,hG,fun W ys H1 s1 hWn hW1 hR1=>?_⟩
  refine ⟨W,_,ys,rs,[],rfl,hW1,hR1,hO,by omega,.inl ⟨rfl,rfl⟩,by decide,fun Fd H2 s2 hFn hF2=>?_⟩
  obtain ⟨F,eF⟩:∃F,FIN (rs.map srW) []=F:=⟨_,rfl⟩
  have hF2':H2 Fd=some (.dK (dv F)):=by rw [←eF];exact hF2
  have hFn':(F.map (·.1)).Nodup:=by rw [←eF];exact a1N _ _
  have hFl:F.length≤63:=by rw [←eF];exact Qi (b5X hpo) hpl
  have lt2:=lt.mono (s1.trans s2)
  try skip
  refine ⟨Fd,dv F,F.map (·.1),gF (rs.map srW),rfl,hF2',b6D F,by rw [Qd];omega,hFn',lt2,fun z hz H3 k3=>?_,fun l H' ss lt' k' hln hl' hp hs=>?_⟩
  ·have hF3:=a7F lt2 k3 hF2' (by intro _ z;cases z)
   simp only [a3J,a0i,b1O,a0k,Qb,Qa,a0q,a0s,a0e]
   obtain ⟨p0,hp0,rfl⟩:=Qk.mp hz
   have hlk:=a7k hFn' hp0
   have hg:gF (rs.map srW) p0.1=(p0.2:Int):=by unfold gF;rw [eF,hlk];rfl
   have hd:=a2w.k (k:=(Sum.inr p0.1:Key)) hF3
   rw [a4u,hlk] at hd
   exact ⟨_,rfl,Fd,_,rfl,hd,by simp only [Qm,Qr];decide,fun p hp=>⟨by rw [a0d,hg],a0h.upd hp⟩⟩
  ·exact q l ss H' lt' (fun a o n e=>k' a o n (s2 _ _ (s1 _ _ e))) (none_of (s1.trans s2) hln) hl' ⟨by rw [eF];exact hp,hs⟩
theorem b5l (T:Txt K mg t):a0R P w K mg base CX0 6 t.f_z0c t.fd_z0c ["self","ground"] (b5D t):=by
 refine T.F_z0c.ok c1p (fun vs H Q E h=>?_) (fun cdv A outer s H vs Q E hr h=>?_)
 ·obtain ⟨x,dx,g,rs,pl,po,H0,rfl,hx,s0,hxn,hG0,hO,hrl,hpo,hpl,hqs,lt0,q⟩:=h;rfl
 ·obtain ⟨x,dx,g,rs,pl,po,H0,rfl,hx,s0,hxn,hG0,hO,hrl,hpo,hpl,hqs,lt0,q⟩:=h
  refine ⟨_,‹A2 (E9 0 (A8 (a3f T) T.g_z21 T.F_z21.kp T.b_z21 .nil (A0 (D5 1 T.cl_Ground T.me_Ground_statements (b5w T) T.b_z01) A1))) (A2 (E9 0 (A8 (a3f T) T.g_z21 T.F_z21.kp T.b_z21 .nil (A0 (A8 (b9B T) T.g_z0u T.F_z0u.kp T.b_z0u .nil (A0 1 A1)) A1))) (A3 (E9 0 (A8 (b9g T) T.g_z0o T.F_z0o.kp T.b_z0o .nil (A0 1 (A0 (D5 1 T.cl_Ground T.me_Ground_statements (b5w T) T.b_z01) (A0 (C7 0) (A0 D1 A1))))))))›,?_⟩
  rw [show start b8W [V.ref x,V.ref g]=[some (V.ref x),some (V.ref g)] from rfl]
  obtain ⟨gx,io,bh,pr,_,_,_,hg0,_⟩:=id hG0
  have ngx:g≠x:=a0b hg0 hxn
  simp only [a1l,c2x,a0v,a0i,a1M,a0k,Qb,Qa,a0q,Qh,a3F,a1O,a0e]
  refine ⟨g,gx,_,rfl,s0 _ _ hg0,a2C _ _ _ ‹dk› ‹dk› ‹dk›,g,rs,pl,po,rfl,hG0.same s0,hO,hrl,hpo,hpl,fun S1 St H1 s1 hS1n hS1 hSp hSs=>?_⟩
  have mem0:∀{l:List Str},l.Perm ((sts rs).foldl a0O [])→(∀q,q∈l↔q∈sts rs)∧l.Nodup∧l.length≤18:=fun {l} h=>by
   have h1:∀q,q∈l↔q∈sts rs:=fun q=>h.mem_iff.trans (by rw [a1o];exact ⟨fun h=>h.elim (fun z=>(by cases z)) id,.inr⟩)
   have h2:=h.nodup_iff.mpr (a0Z (sts rs) Zg)
   exact ⟨h1,h2,Qi (a1s h2 fun x hx=>hpo x ((h1 x).mp hx)) hpl⟩
  obtain ⟨hStm,hStn,hStl⟩:=mem0 hSp
  refine ⟨_,St,rfl,.inl ⟨S1,rfl,hS1⟩,by omega,fun st H2 s2 hstn hst=>?_⟩
  rw [a3V hStn] at hst
  have s02:=s1.trans s2
  have nstx:st≠x:=fun z=>by rw [z,s1 _ _ hx] at hstn;cases hstn
  refine ⟨x,t.C_Answers,dx,_,rfl,s02 _ _ hx,T.cl_Answers,T.nf_Answers_standing,by show 0 < 1000;decide,?_⟩
  obtain ⟨H3,e3,s3,h3x,h3st⟩:∃H3,upd H2 x (.ins t.C_Answers dx (a1B "standing" (.ref st) []))=H3∧a0h H0 H3∧H3 x=some (.ins t.C_Answers dx (a1B "standing" (.ref st) []))∧H3 st=some (.dK (bv St)):=⟨_,rfl,fun c o e=>by rw [a0a (a0b e hxn)];exact s02 _ _ (s0 _ _ e),a0d,by rw [a0a nstx];exact hst⟩
  rw [e3]
  have lt3:=lt0.mono s3
  refine ⟨g,rs,pl,po,rfl,hG0.same s3,hO,hrl,fun r hr=>hpo _ (a1a.mpr ⟨r,hr,_,Qq,.inl rfl⟩),by omega,lt3,fun Fo ss H4 lt4 k4 hFn hF4 hdue=>?_⟩
  have hssn:ss.Nodup:=hdue.1.nodup_iff.mpr (a1e _)
  have hssl:ss.length≤18:=by rw [hdue.1.length_eq,Qd];exact Qi (b5X fun r hr=>hpo _ (a1a.mpr ⟨r,hr,_,Qq,.inl rfl⟩)) hpl
  refine ⟨_,ss,rfl,.inl ⟨Fo,rfl,hF4⟩,by omega,fun sk H5 s5 hskn hsk=>?_⟩
  rw [a3V hssn] at hsk
  have h4x:=a7F lt3 k4 h3x ‹nz›
  have h4st:=a7F lt3 k4 h3st ‹nz›
  have nskx:sk≠x:=fun z=>by rw [z,h4x] at hskn;cases hskn
  refine ⟨x,t.C_Answers,dx,_,rfl,s5 _ _ h4x,T.cl_Answers,T.nf_Answers_sure_keys,by show 1 < 1000;decide,?_⟩
  obtain ⟨H6,e6,k6,lt6,h6x,h6st,h6sk⟩:∃H6,upd H5 x (.ins t.C_Answers dx (a1B "sure_keys" (.ref sk) (a1B "standing" (.ref st) [])))=H6∧(∀c o,c≠t.TB_z0u→H0 c=some o→H6 c=some o)∧a3Q t.TB_z0u a1K H6∧H6 x=some (.ins t.C_Answers dx (a1B "sure_keys" (.ref sk) (a1B "standing" (.ref st) [])))∧H6 st=some (.dK (bv St))∧H6 sk=some (.dK (bv ss)):=⟨_,rfl,fun c o n e=>by rw [a0a (a0b e hxn)];exact s5 _ _ (k4 _ _ n (s3 _ _ e)),b0J (lt4.mono s5) (s5 _ _ h4x),a0d,by rw [a0a nstx];exact s5 _ _ h4st,by rw [a0a nskx];exact hsk⟩
  rw [e6]
  try skip
  refine ⟨g,gx,_,rfl,a7F lt0 k6 hg0 ‹nz›,a2C _ _ _ ‹dk› ‹dk› ‹dk›,g,rs,pl,po,rfl,b9D lt0 k6 hG0,hO,hrl,hpo,hpl,fun S2 St2 H7 s7 hS2n hS2 hSp2 hSs2=>?_⟩
  obtain ⟨hStm2,hStn2,hStl2⟩:=mem0 hSp2
  refine ⟨x,_,dx,_,_,rfl,s7 _ _ h6x,T.cl_Answers,T.nf_Answers_sure_keys,by rw [a0g,if_pos rfl],fun kd hkd=>?_⟩
  obtain ⟨H8,e8,s8,h8⟩:=a0N hkd (.dK []);rw [e8]
  have s68:=s7.trans s8
  have k8:∀c o,c≠t.TB_z0u→H0 c=some o→H8 c=some o:=fun c o n e=>s68 _ _ (k6 c o n e)
  refine ⟨g,V.ref S2,V.ref sk,kd,rs,pl,St2,ss,[],rfl,b9D lt0 k8 hG0,hO,hrl,.inl ⟨S2,rfl,s8 _ _ hS2⟩,.inr ⟨sk,_,rfl,s68 _ _ h6sk,a3b _⟩,h8,Zg,by omega,by omega,by decide,fun q hq=>hqs q (hpo q ((hStm2 q).mp hq)),fun cm T0 n H9 s9 hcmn hTA hTn hfr hIT=>?_⟩
  have s69:=s68.trans s9
  have h9x:=s69 _ _ h6x
  refine ⟨x,t.C_Answers,dx,_,rfl,h9x,T.cl_Answers,T.nf_Answers_came,by show 2 < 1000;decide,?_⟩
  have hW:∀q,q∈St2.foldl a0O []↔q∈sts rs:=fun q=>by rw [a3V hStn2];exact hStm2 q
  refine q _ ss T0 (fun c o n e=>?_) (b0J (lt6.mono s69) h9x) hdue ⟨hTn,n,_,hW,hfr,hIT⟩ ⟨dx,st,sk,cm,St,a0d,?_,⟨⟨hSp,hSs⟩,a0b h4st hskn,a0b (s68 _ _ h6st) hcmn⟩,?_,hTA.keep fun b o e hb=>?_⟩
  ·rw [a0a (a0b e hxn)];exact s69 _ _ (k6 c o n e)
  ·rw [a0a nstx];exact s69 _ _ h6st
  ·rw [a0a nskx];exact s69 _ _ h6sk
  ·rcases hb with rfl | ⟨xs,rfl⟩
   ·rw [a0a (fun z=>by rw [z,s68 _ _ h6x] at hcmn;cases hcmn)];exact e
   ·rw [a0a (a0u e h9x ‹iz›)];exact e
theorem b5Z (T:Txt K mg t):a0R P w K mg base CX0 1 t.f_z0s t.fd_z0s ["self","rules","pairs"] (c1k t):=by
 refine T.F_z0s.ok b0T (fun vs H Q E h=>?_) (fun cdv A outer s H vs Q E hr h=>?_)
 ·obtain ⟨x,dx,b,pb,xs,rs,ps,pl,rfl,hx,hb,hA,hO,hrl,hpb,hPr,hpll,q⟩:=h;rfl
 ·obtain ⟨x,dx,b,pb,xs,rs,ps,pl,rfl,hx,hb,hA,hO,hrl,hpb,hPr,hpll,q⟩:=h
  refine ⟨_,‹A2 (E9 0 (E6 a2G T.z_tuple a2o (A0 1 A1))) (A2 (E9 0 D1) (A2 (B9 (E5 (C7 0)) (A5 3 b0T.nd) (A3 (D2 (D0 Xy Xv Xw a0H (G4 (C7 0) (C7 3) (B7 A1)) (A0 3 A1))))) (A2 (E9 0 J2) (A3 (B9 (B4 2) (A5 4 b0T.nd) (A3 (C5 (C7 0) (C0 (A0 (B6 a0z 4 A4) (A0 (B6 a0z 4 A4) A1))) B5)))))))›,?_⟩
  rw [show start c2d [V.ref x,V.ref b,V.ref pb]=[some (V.ref x),some (V.ref b),some (V.ref pb),none,none] from rfl]
  have hxl:=hA.len
  simp only [a1l,c2x,tCB,a0i,a0k,Qb,Qa,a0q,a1O,a0t,b3f,a3F,a0e]
  refine ⟨b,xs,rfl,.inl ⟨SqL.of hb,fun io hio=>?_⟩⟩
  obtain ⟨H1,e1,s1,h1⟩:=a0N hio (.tup xs);rw [e1]
  have hiox:io≠x:=fun z=>by rw [z,hx] at hio;cases hio
  refine ⟨x,t.C_Ground,dx,_,rfl,s1 _ _ hx,T.cl_Ground,T.nf_Ground_in_order,by show 0 < 1000;decide,?_⟩
  obtain ⟨H2,e2,k2,h2x,h2io⟩:∃H',upd H1 x (.ins t.C_Ground dx (a1B "in_order" (.ref io) []))=H'∧(∀c o,H c=some o→c≠x→H' c=some o)∧H' x=some (.ins t.C_Ground dx (a1B "in_order" (.ref io) []))∧H' io=some (.tup xs):=⟨_,rfl,fun c o e hc=>by rw [a0a hc];exact s1 _ _ e,a0d,by rw [a0a hiox];exact h1⟩
  rw [e2]
  intro bh hbh
  obtain ⟨H3,e3,s3,h3⟩:=a0N hbh (.dK []);rw [e3]
  have hbhx:bh≠x:=fun z=>by rw [z,h2x] at hbh;cases hbh
  have hbhn:H bh=none:=by
   cases e:H bh with
   | none=>rfl
   | some o=>rw [k2 _ _ e hbhx] at hbh;cases hbh
  refine ⟨x,t.C_Ground,dx,_,rfl,s3 _ _ h2x,T.cl_Ground,T.nf_Ground_by_head,by show 1 < 1000;decide,?_⟩
  have e2f:a1B "by_head" (V.ref bh) (a1B "in_order" (V.ref io) [])=([("in_order",V.ref io),("by_head",V.ref bh)]:List (Str×V)):=by
   show (if ("in_order":Str)="by_head" then _ else _)=_
   rw [if_neg ‹dk›];rfl
  obtain ⟨H4,e4,k4,h4x,h4io,h4bh⟩:∃H',upd H3 x (.ins t.C_Ground dx (a1B "by_head" (.ref bh) (a1B "in_order" (.ref io) [])))=H'∧(∀c o,H c=some o→c≠x→H' c=some o)∧H' x=some (.ins t.C_Ground dx (a1B "by_head" (.ref bh) (a1B "in_order" (.ref io) [])))∧H' io=some (.tup xs)∧H' bh=some (.dK []):=
   ⟨_,rfl,fun c o e hc=>by rw [a0a hc];exact s3 _ _ (k2 c o e hc),a0d,by rw [a0a hiox];exact s3 _ _ h2io,by rw [a0a hbhx];exact h3⟩
  rw [e4]
  have lio:(a1B "by_head" (V.ref bh) (a1B "in_order" (V.ref io) [])).lookup ("in_order":Str)=some (V.ref io):=by rw [a0g,if_neg ‹dk›,a0g,if_pos rfl]
  have lbh:(a1B "by_head" (V.ref bh) (a1B "in_order" (V.ref io) [])).lookup ("by_head":Str)=some (V.ref bh):=by rw [a0g,if_pos rfl]
  refine ⟨x,_,dx,_,_,rfl,h4x,T.cl_Ground,T.nf_Ground_in_order,lio,?_⟩
  simp only [a0s]
  refine ⟨⟨_,SqT.of h4io⟩,?_⟩
  refine a5q (K:=K) (a:=io) (xs:=xs) (fun i σ H'=>∃(kvs:List (Key×V)) (y3:Option V),σ=[some (V.ref x),some (V.ref b),some (V.ref pb),y3,none]∧(∀c o,H c=some o→c≠x→H' c=some o)∧H' x=some (.ins t.C_Ground dx (a1B "by_head" (.ref bh) (a1B "in_order" (.ref io) [])))∧H' io=some (.tup xs)∧H' bh=some (.dK kvs)∧kvs.length≤i∧
    (∀h:Str,(a0T kvs (Sum.inr h:Key)=none∧hdF (rs.take i) h=[])∨∃L ys,a0T kvs (Sum.inr h:Key)=some (.ref L)∧H L=none∧H' L=some (.lst ys)∧ys.length≤i∧a1S t H ys (hdF (rs.take i) h))∧
    (∀(h h':Str) (L:Addr),a0T kvs (Sum.inr h:Key)=some (.ref L)→a0T kvs (Sum.inr h':Key)=some (.ref L)→h=h'))
   ⟨[],_,rfl,k4,h4x,h4io,h4bh,Qj _,fun h=>.inl ⟨rfl,rfl⟩,fun h h' L e=>by cases e⟩ (fun i σ H' _ h=>by obtain ⟨_,_,_,_,_,h,_⟩:=h;exact SqT.of h) ?_ ?_
  ·rintro i v σ H5 hi ⟨kvs,y3,rfl,k5,h5x,h5io,h5bh,hkl,hF,hinj⟩
   have hil:i < rs.length:=by rw [←hA.len];exact (Qn.mp hi).1
   obtain ⟨v',ev,p,rfl,hp⟩:=hA.get i rs[i] (Qc hil)
   rw [hi] at ev;cases ev
   have hro:=hO _ (Xa hil)
   have CF:=a9j T hro.1
   have hru:b2v t H (.ref p) rs[i]:=⟨p,rfl,hp⟩
   have esn:∀h,hdF (rs.take (i+1)) h=hdF (rs.take i) h++(if rs[i].2.2.1=h then [rs[i]] else []):=fun h=>by
    unfold hdF
    rw [Qp hil,Zd,Yq]
    by_cases z:rs[i].2.2.1=h
    ·rw [if_pos z,if_pos (decide_eq_true z)];rfl
    ·rw [if_neg z,if_neg (by simpa using z)];rfl
   generalize rs[i]=r at hp hro CF hru esn
   obtain ⟨dx',t0,hp1,hp2⟩:=hp
   have hpx:p≠x:=fun z=>by
    rw [z,hx] at hp1
    injection hp1 with hp1
    injection hp1 with _ _ h3
    have:=a1v (.str r.2.1) (.str r.2.2.1) t0
    rw [←h3] at this;cases this
   have hp5:=k5 _ _ hp1 hpx
   simp only [a0l,a3n,tBM,a6y,a3F,a0k,Qf,Qg,Qa,Qb,a2M,a0q,a0i,a0e]
   refine ⟨x,_,dx,_,_,rfl,h5x,T.cl_Ground,T.nf_Ground_by_head,lbh,?_⟩
   simp only [a0s]
   refine ⟨a2B h5bh,p,_,dx',_,_,rfl,hp5,CF.cl,CF.nh,a1v _ _ _,by decide,fun N hN=>?_⟩
   obtain ⟨H6,e6,s6,h6⟩:=a0N hN (.lst []);rw [e6]
   have hNx:N≠x:=fun z=>by rw [z,h5x] at hN;cases hN
   have hNio:N≠io:=fun z=>by rw [z,h5io] at hN;cases hN
   have hNbh:N≠bh:=fun z=>by rw [z,h5bh] at hN;cases hN
   have hNn:H N=none:=by
    cases e:H N with
    | none=>rfl
    | some o=>rw [k5 _ _ e hNx] at hN;cases hN
   refine ⟨kvs,Sum.inr r.2.2.1,s6 _ _ h5bh,rfl,Xj (show kvs.length≤1000 by omega) ‹dc›,fun u hu=>?_,fun hu=>?_⟩
   ·rcases hF r.2.2.1 with ⟨e,_⟩ | ⟨L,ys,e,hLn,hL5,hyl,hR⟩
    ·rw [e] at hu;cases hu
    rw [e] at hu;cases hu
    have hL6:=s6 _ _ hL5
    have hLx:L≠x:=a0u hL5 h5x ‹iz›
    have hLio:L≠io:=a0u hL5 h5io ‹iz›
    have hLbh:L≠bh:=a0u hL5 h5bh ‹iz›
    try skip
    refine ⟨.inl ⟨rfl,_,SqL.of hL6⟩,L,_,_,rfl,rfl,hL6,Xj (show ys.length≤1000 by omega) ‹dc›,?_⟩
    refine ⟨kvs,_,rfl,fun c o e hc=>?_,?_,?_,?_,by omega,fun h=>?_,hinj⟩
    ·rw [a0a (a0b e hLn)];exact s6 _ _ (k5 c o e hc)
    ·rw [a0a hLx.symm];exact s6 _ _ h5x
    ·rw [a0a hLio.symm];exact s6 _ _ h5io
    ·rw [a0a hLbh.symm];exact s6 _ _ h5bh
    ·rw [esn]
     by_cases z:r.2.2.1=h
     ·subst z
      rw [if_pos rfl]
      refine .inr ⟨L,ys++[V.ref p],e,hLn,a0d,by simp;omega,?_⟩
      refine ⟨by simp [hR.len],fun j r' ej=>?_⟩
      by_cases hj:j < (hdF (rs.take i) r.2.2.1).length
      ·rw [Yi hj] at ej
       rw [Yi (by rw [hR.len];exact hj)]
       exact hR.get j r' ej
      ·rw [Yg ‹om›] at ej
       rw [Yg (by rw [hR.len];omega),hR.len]
       have hj0:=(Qn.mp ej).1
       have ej0:j - (hdF (rs.take i) r.2.2.1).length=0:=by simp at hj0;omega
       rw [ej0] at ej ⊢
       cases ej
       exact ⟨_,rfl,hru⟩
     ·rw [if_neg z,Qh]
      rcases hF h with ⟨e',g⟩ | ⟨L',ys',e',g1,g2,g3,g4⟩
      ·exact .inl ⟨e',g⟩
      ·refine .inr ⟨L',ys',e',g1,?_,by omega,g4⟩
       have:L'≠L:=fun w=>z (hinj _ _ L e (by rw [←w];exact e'))
       rw [a0a this];exact s6 _ _ g2
   ·try skip
    have hbN:bh≠N:=hNbh.symm
    refine ⟨.inl ⟨rfl,_,SqL.of (show upd H6 bh (.dK (a2F kvs (Sum.inr r.2.2.1) (V.ref N))) N=some (.lst []) by rw [a0a hNbh];exact h6)⟩,N,_,_,rfl,rfl,(by rw [a0a hNbh];exact h6),by decide,?_⟩
    have kvl:=a0K kvs (Sum.inr r.2.2.1:Key) (V.ref N)
    refine ⟨a2F kvs (Sum.inr r.2.2.1) (V.ref N),_,rfl,fun c o e hc=>?_,?_,?_,?_,by omega,fun h=>?_,fun h h' L e1 e2=>?_⟩
    ·rw [a0a (a0b e hNn),a0a (a0b e hbhn)];exact s6 _ _ (k5 c o e hc)
    ·rw [a0a hNx.symm,a0a hbhx.symm];exact s6 _ _ h5x
    ·rw [a0a hNio.symm,a0a (a0u h5io h5bh ‹iz›)];exact s6 _ _ h5io
    ·rw [a0a hbN,a0d]
    ·rw [esn,a1I]
     by_cases z:r.2.2.1=h
     ·subst z
      rw [if_pos rfl,if_pos rfl]
      rcases hF r.2.2.1 with ⟨e',g⟩ | ⟨L',ys',e',_⟩
      ·rw [g]
       refine .inr ⟨N,[V.ref p],rfl,hNn,a0d,by simp,⟨rfl,fun j r' ej=>?_⟩⟩
       cases j with
       | zero=>cases ej;exact ⟨_,rfl,hru⟩
       | succ j=>simp at ej
      ·rw [e'] at hu;cases hu
     ·rw [if_neg z,Qh,if_neg (fun w=>z (Sum.inr.inj w).symm)]
      rcases hF h with ⟨e',g⟩ | ⟨L',ys',e',g1,g2,g3,g4⟩
      ·exact .inl ⟨e',g⟩
      ·refine .inr ⟨L',ys',e',g1,?_,by omega,g4⟩
       have hLN:L'≠N:=fun w=>by rw [w,hN] at g2;cases g2
       rw [a0a hLN,a0a (a0u g2 h5bh ‹iz›)];exact s6 _ _ g2
    ·rw [a1I] at e1 e2
     by_cases z1:(Sum.inr h:Key)=Sum.inr r.2.2.1
     ·by_cases z2:(Sum.inr h':Key)=Sum.inr r.2.2.1
      ·rw [Sum.inr.inj z1,Sum.inr.inj z2]
      ·rw [if_pos z1] at e1;cases e1
       rw [if_neg z2] at e2
       rcases hF h' with ⟨e',_⟩ | ⟨L',ys',e',_,g2,_⟩
       ·rw [e'] at e2;cases e2
       ·rw [e'] at e2;cases e2;rw [hN] at g2;cases g2
     ·rw [if_neg z1] at e1
      by_cases z2:(Sum.inr h':Key)=Sum.inr r.2.2.1
      ·rw [if_pos z2] at e2;cases e2
       rcases hF h with ⟨e',_⟩ | ⟨L',ys',e',_,g2,_⟩
       ·rw [e'] at e1;cases e1
       ·rw [e'] at e1;cases e1;rw [hN] at g2;cases g2
      ·rw [if_neg z2] at e2
       exact hinj _ _ L e1 e2
  rintro σ H5 ⟨kvs,y3,rfl,k5,h5x,h5io,h5bh,hkl,hF,hinj⟩
  rw [show rs.take xs.length=rs by rw [hxl];exact Xr] at hF
  simp only [a1l,c2x,a0k,Qa,a0t,a1p,Qb,a0e,a0s]
  intro pr hpr
  obtain ⟨H6,e6,s6,h6⟩:=a0N hpr (.dT []);rw [e6]
  have hprx:pr≠x:=fun z=>by rw [z,h5x] at hpr;cases hpr
  have hprn:H pr=none:=by
   cases e:H pr with
   | none=>rfl
   | some o=>rw [k5 _ _ e hprx] at hpr;cases hpr
  refine ⟨x,t.C_Ground,dx,_,rfl,s6 _ _ h5x,T.cl_Ground,T.nf_Ground_pairs,by rw [e2f];show 2 < 1000;decide,?_⟩
  rw [show a1B "pairs" (V.ref pr) (a1B "by_head" (V.ref bh) (a1B "in_order" (V.ref io) []))=gfl io bh pr from rfl]
  obtain ⟨as,eas,hal,hat⟩:=hPr
  have hiopr:io≠pr:=fun z=>by rw [z,hpr] at h5io;cases h5io
  have hbhpr:bh≠pr:=fun z=>by rw [z,hpr] at h5bh;cases h5bh
  have base:∀H',(∀c o,upd H6 x (.ins t.C_Ground dx (gfl io bh pr)) c=some o→c≠pr→H' c=some o)→(∀c o,H c=some o→c≠x→H' c=some o)∧(∀kps,H' pr=some (.dT kps)→c3n kps pl→a3R t H' x rs pl):=fun H' kk=>by
   have k7:∀c o,H c=some o→c≠x→H' c=some o:=fun c o e hc=>kk c o (by rw [a0a hc];exact s6 _ _ (k5 c o e hc)) (a0b e hprn)
   refine ⟨k7,fun kps hk hp=>⟨dx,io,bh,pr,xs,kvs,kps,kk _ _ a0d hprx.symm,kk _ _ (by rw [a0a hiox];exact s6 _ _ h5io) hiopr,hA.refs hx k7,kk _ _ (by rw [a0a hbhx];exact s6 _ _ h5bh) hbhpr,fun h=>?_,hk,hp⟩⟩
   rcases hF h with z | ⟨L,ys,e,_,g2,_,g4⟩
   ·exact .inl z
   ·exact .inr ⟨L,ys,e,kk _ _ (by rw [a0a (a0u g2 h5x ‹iz›)];exact s6 _ _ g2) (fun z=>by rw [z,hpr] at g2;cases g2),g4.refs hx k7⟩
  have hpb7:upd H6 x (.ins t.C_Ground dx (gfl io bh pr)) pb=some (.lst ps):=by
   have hpx:=a0u hpb hx ‹iz›
   rw [a0a hpx];exact s6 _ _ (k5 _ _ hpb hpx)
  have hpr7:upd H6 x (.ins t.C_Ground dx (gfl io bh pr)) pr=some (.dT []):=by rw [a0a hprx];exact h6
  have hx7:upd H6 x (.ins t.C_Ground dx (gfl io bh pr)) x=some (.ins t.C_Ground dx (gfl io bh pr)):=a0d
  have hpbpr:pb≠pr:=a0b hpb hprn
  obtain ⟨H7,e7⟩:∃H7,upd H6 x (.ins t.C_Ground dx (gfl io bh pr))=H7:=⟨_,rfl⟩
  rw [e7] at base hpb7 hpr7 hx7 ⊢
  refine ⟨⟨_,SqL.of hpb7⟩,?_⟩
  refine a0S (K:=K) (a:=pb) (xs:=ps) (fun i σ H'=>∃(kps:List (List Key×V)) (y4:Option V),σ=[some (V.ref x),some (V.ref b),some (V.ref pb),y3,y4]∧(∀c o,H7 c=some o→c≠pr→H' c=some o)∧H' pr=some (.dT kps)∧kps.length≤i∧c3n kps (pl.take i))
   ⟨[],_,rfl,fun c o e _=>e,hpr7,Qj _,fun a b=>by rw [Jd,if_neg (by simp)];rfl⟩ (fun i σ H' _ h=>by obtain ⟨_,_,_,kk,_⟩:=h;exact SqL.of (kk _ _ hpb7 hpbpr)) ?_ ?_
  ·rintro i v σ H8 hi ⟨kps,y4,rfl,kk,h8,hkl8,hpo⟩
   have hil:i < as.length:=by
    have:=(Qn.mp hi).1
    rw [eas,Qd] at this;exact this
   have hil':i < pl.length:=by omega
   have ev:v=V.ref as[i]:=by
    rw [eas,Ql,Qc hil] at hi
    exact (Option.some.inj hi).symm
   subst ev
   have hp:=hat i _ _ (Qc hil) (Qc hil')
   have hp8:=(base H8 kk).1 _ _ hp (a0u hp hx ‹iz›)
   have hx8:=kk _ _ hx7 hprx.symm
   rw [Qp hil']
   generalize pl[i]=pp at hp hp8
   generalize pl.take i=pt at hpo
   simp only [a0l,a2U,tC,a3F,a0k,Qf,Qg,Qa,a3J,a0i,tOp,Qb,a0q,a0e]
   refine ⟨x,_,dx,_,_,rfl,hx8,T.cl_Ground,T.nf_Ground_pairs,b5i _ _ _,?_⟩
   refine a1t (SqT.of hp8) rfl (a1t (SqT.of hp8) rfl ⟨by simp only [Qm,Qr];decide,fun c hc=>?_⟩)
   obtain ⟨H9,e9,s9,h9⟩:=a0N hc (.tup [V.str pp.1,V.str pp.2]);rw [e9]
   refine ⟨pr,_,rfl,a5Q.t (k:=[Sum.inr pp.1,Sum.inr pp.2]) (s9 _ _ h8) h9 (Xj (show kps.length≤1000 by omega) ‹dc›),a2F kps [Sum.inr pp.1,Sum.inr pp.2] (V.bl true),_,rfl,?_,a0d,by have:=a0K kps ([Sum.inr pp.1,Sum.inr pp.2]:List Key) (V.bl true);omega,fun a b=>?_⟩
   ·intro d o e hd;rw [a0a hd];exact s9 _ _ (kk d o e hd)
   ·rw [a1I,hpo]
    by_cases z:(a,b)=pp
    ·rw [if_pos (by rw [←z]),if_pos (by rw [←z];simp)]
    ·rw [if_neg (fun w=>z (by
      have w1:=congrArg (fun l:List Key=>l.head?) w
      have w2:=congrArg (fun l:List Key=>l.getLast?) w
      simp at w1 w2
      exact Prod.ext w1 w2))]
     by_cases y:(a,b)∈pt
     ·rw [if_pos y,if_pos (Zf _ y)]
     ·rw [if_neg y,if_neg (by simp [y,z])]
  ·rintro σ H8 ⟨kps,y4,rfl,kk,h8,hkl8,hpo⟩
   rw [show pl.take ps.length=pl by rw [eas,Qd,hal,Xr]] at hpo
   simp only []
   obtain ⟨b1,b2⟩:=base H8 kk
   exact q _ b1 (b2 kps h8 hpo)
theorem a3g (T:Txt K mg t):a0R P w K mg base CX0 1 t.f_z1c t.fd_z1c ["_law_script","_law_k"] (b9O K):=by
 refine T.F_z1c.ok c1y (fun vs H Q E h=>?_) (fun cdv A outer s H vs Q E hr h=>?_)
 ·obtain ⟨a,ns,k,rfl,hS,hl,k0,k1,q⟩:=h;rfl
 ·obtain ⟨a,ns,k,rfl,hS,hl,k0,k1,q⟩:=h
  refine ⟨_,‹A2 (B3 (B1 b5M 1 (C4 a1n T.z_len a1m (A0 0 A1)) (a0p _)) (A3 (A9 (B6 a0z 0 1))) B8) (A3 (A9 A4))›,?_⟩
  rw [show start c0y [V.ref a,V.int k]=[some (V.ref a),some (V.int k)] from rfl]
  simp only [a1l,a2I,a1h,tOp,a0k,Qb,Qa,tCB,a0i,a0q,a0X,a0e,a1q,tC]
  refine a1L hS ?_
  simp only [a8e,a1k,decide_eq_true_eq]
  refine a1Q (fun c=>?_) (fun c=>q 0 (by rw [Qd] at c;rw [Xs,Yr ‹om›];rfl))
  obtain ⟨v,e,hv,_⟩:=a3E (xs:=ns.map V.int) (i:=k) k0 (by simpa using c)
  obtain ⟨i,_,rfl⟩:=Qk.mp hv
  refine a0F hS e (q i ?_)
  have hc:k.toNat < ns.length:=by rw [Qd] at c;omega
  unfold atI ixN at e
  rw [if_pos ‹om›,if_pos (by rw [Qd];omega)] at e
  have e':(ns.map V.int)[k.toNat]?=some (V.int i):=e
  rw [Ql,Qc hc] at e'
  rw [Xs,Qc hc]
  exact (V.int.inj (Option.some.inj e')).symm
theorem b9e (T:Txt K mg t):a0R P w K mg base CX0 1 t.f_z26 t.fd_z26 ["_law_rows_here"] c9h:=by
 refine T.F_z26.ok b2w (fun vs H Q E h=>?_) (fun cdv A outer s H vs Q E hr h=>?_)
 ·obtain ⟨a,xs,rs,rfl,ha,hA,hrl,q⟩:=h;rfl
 ·obtain ⟨a,xs,rs,rfl,ha,hA,hrl,q⟩:=h
  refine ⟨_,‹A2 (A7 1 b2w.nd D1) (A2 (B9 (B4 0) (A5 2 b2w.nd) (A3 (D2 (D0 Xy Xv Xw a0H (G4 1 (B6 a0z 2 A4) (B7 A1)) (A0 2 A1))))) (A3 (A9 1)))›,?_⟩
  rw [show start b9X [V.ref a]=[some (V.ref a),none,none] from rfl]
  have hxl:=hA.len
  simp only [a1l,a1P,a1O,a0l,Qf,Qg,a0t,a1p,a0k,Qa,a0e,a0s]
  intro bh hbh
  obtain ⟨H1,e1,s1,h1⟩:=a0N hbh (.dK []);rw [e1]
  refine ⟨⟨_,SqL.of (s1 _ _ ha)⟩,?_⟩
  refine a0S (K:=K) (a:=a) (xs:=xs) (fun i σ H'=>∃(kvs:List (Key×V)) (y2:Option V),σ=[some (V.ref a),some (V.ref bh),y2]∧a0h H H'∧H' bh=some (.dK kvs)∧kvs.length≤i∧
    (∀h:Str,(a0T kvs (Sum.inr h:Key)=none∧hdF (rs.take i) h=[])∨∃L ys,a0T kvs (Sum.inr h:Key)=some (.ref L)∧H L=none∧H' L=some (.lst ys)∧ys.length≤i∧a1V H ys (hdF (rs.take i) h))∧
    (∀(h h':Str) (L:Addr),a0T kvs (Sum.inr h:Key)=some (.ref L)→a0T kvs (Sum.inr h':Key)=some (.ref L)→h=h'))
   ⟨[],_,rfl,s1,h1,Qj _,fun h=>.inl ⟨rfl,rfl⟩,fun h h' L e=>by cases e⟩ (fun i σ H' _ h=>by obtain ⟨_,_,_,s,_⟩:=h;exact SqL.of (s _ _ ha)) ?_ ?_
  ·rintro i v σ H5 hi ⟨kvs,y2,rfl,s5,h5bh,hkl,hF,hinj⟩
   have hil:i < rs.length:=by rw [←hA.len];exact (Qn.mp hi).1
   obtain ⟨v',ev,hru⟩:=hA.get i rs[i] (Qc hil)
   rw [hi] at ev;cases ev
   have esn:∀h,hdF (rs.take (i+1)) h=hdF (rs.take i) h++(if rs[i].2.2.1=h then [rs[i]] else []):=fun h=>by
    unfold hdF
    rw [Qp hil,Zd,Yq]
    by_cases z:rs[i].2.2.1=h
    ·rw [if_pos z,if_pos (decide_eq_true z)];rfl
    ·rw [if_neg z,if_neg (by simpa using z)];rfl
   generalize rs[i]=r at hru esn
   obtain ⟨p,t1,rfl,hp1,hp2⟩:=id hru
   have hp5:=s5 _ _ hp1
   simp only [a0l,a3n,tBM,a6y,a0k,Qf,Qg,Qb,Qa,tOp,tC,a2M,a0q,a0i,a0e,a0s]
   refine ⟨a2B h5bh,a1t (SqT.of hp5) rfl ⟨by decide,fun N hN=>?_⟩⟩
   obtain ⟨H6,e6,s6,h6⟩:=a0N hN (.lst []);rw [e6]
   have hNbh:N≠bh:=fun z=>by rw [z,h5bh] at hN;cases hN
   have hNn:H N=none:=none_of s5 hN
   refine ⟨kvs,Sum.inr r.2.2.1,s6 _ _ h5bh,rfl,Xj (show kvs.length≤1000 by omega) ‹dc›,fun u hu=>?_,fun hu=>?_⟩
   ·rcases hF r.2.2.1 with ⟨e,_⟩ | ⟨L,ys,e,hLn,hL5,hyl,hR⟩
    ·rw [e] at hu;cases hu
    rw [e] at hu;cases hu
    have hL6:=s6 _ _ hL5
    have hLbh:L≠bh:=a0u hL5 h5bh ‹iz›
    try skip
    refine ⟨.inl ⟨rfl,_,SqL.of hL6⟩,L,_,_,rfl,rfl,hL6,Xj (show ys.length≤1000 by omega) ‹dc›,?_⟩
    refine ⟨kvs,_,rfl,fun c o e=>?_,?_,by omega,fun h=>?_,hinj⟩
    ·rw [a0a (a0b e hLn)];exact s6 _ _ (s5 c o e)
    ·rw [a0a hLbh.symm];exact s6 _ _ h5bh
    ·rw [esn]
     by_cases z:r.2.2.1=h
     ·subst z
      rw [if_pos rfl]
      refine .inr ⟨L,ys++[V.ref p],e,hLn,a0d,by simp;omega,?_⟩
      refine ⟨by simp [hR.len],fun j r' ej=>?_⟩
      by_cases hj:j < (hdF (rs.take i) r.2.2.1).length
      ·rw [Yi hj] at ej
       rw [Yi (by rw [hR.len];exact hj)]
       exact hR.get j r' ej
      ·rw [Yg ‹om›] at ej
       rw [Yg (by rw [hR.len];omega),hR.len]
       have hj0:=(Qn.mp ej).1
       have ej0:j - (hdF (rs.take i) r.2.2.1).length=0:=by simp at hj0;omega
       rw [ej0] at ej ⊢
       cases ej
       exact ⟨_,rfl,hru⟩
     ·rw [if_neg z,Qh]
      rcases hF h with ⟨e',g⟩ | ⟨L',ys',e',g1,g2,g3,g4⟩
      ·exact .inl ⟨e',g⟩
      ·refine .inr ⟨L',ys',e',g1,?_,by omega,g4⟩
       have:L'≠L:=fun w=>z (hinj _ _ L e (by rw [←w];exact e'))
       rw [a0a this];exact s6 _ _ g2
   ·try skip
    have hbN:bh≠N:=hNbh.symm
    refine ⟨.inl ⟨rfl,_,SqL.of (show upd H6 bh (.dK (a2F kvs (Sum.inr r.2.2.1) (V.ref N))) N=some (.lst []) by rw [a0a hNbh];exact h6)⟩,N,_,_,rfl,rfl,(by rw [a0a hNbh];exact h6),by decide,?_⟩
    have kvl:=a0K kvs (Sum.inr r.2.2.1:Key) (V.ref N)
    refine ⟨a2F kvs (Sum.inr r.2.2.1) (V.ref N),_,rfl,fun c o e=>?_,?_,by omega,fun h=>?_,fun h h' L e1 e2=>?_⟩
    ·rw [a0a (a0b e hNn),a0a (a0b e hbh)];exact s6 _ _ (s5 c o e)
    ·rw [a0a hbN,a0d]
    ·rw [esn,a1I]
     by_cases z:r.2.2.1=h
     ·subst z
      rw [if_pos rfl,if_pos rfl]
      rcases hF r.2.2.1 with ⟨e',g⟩ | ⟨L',ys',e',_⟩
      ·rw [g]
       refine .inr ⟨N,[V.ref p],rfl,hNn,a0d,by simp,⟨rfl,fun j r' ej=>?_⟩⟩
       cases j with
       | zero=>cases ej;exact ⟨_,rfl,hru⟩
       | succ j=>simp at ej
      ·rw [e'] at hu;cases hu
     ·rw [if_neg z,Qh,if_neg (fun w=>z (Sum.inr.inj w).symm)]
      rcases hF h with ⟨e',g⟩ | ⟨L',ys',e',g1,g2,g3,g4⟩
      ·exact .inl ⟨e',g⟩
      ·refine .inr ⟨L',ys',e',g1,?_,by omega,g4⟩
       have hLN:L'≠N:=fun w=>by rw [w,hN] at g2;cases g2
       rw [a0a hLN,a0a (a0u g2 h5bh ‹iz›)];exact s6 _ _ g2
    ·rw [a1I] at e1 e2
     by_cases z1:(Sum.inr h:Key)=Sum.inr r.2.2.1
     ·by_cases z2:(Sum.inr h':Key)=Sum.inr r.2.2.1
      ·rw [Sum.inr.inj z1,Sum.inr.inj z2]
      ·rw [if_pos z1] at e1;cases e1
       rw [if_neg z2] at e2
       rcases hF h' with ⟨e',_⟩ | ⟨L',ys',e',_,g2,_⟩
       ·rw [e'] at e2;cases e2
       ·rw [e'] at e2;cases e2;rw [hN] at g2;cases g2
     ·rw [if_neg z1] at e1
      by_cases z2:(Sum.inr h':Key)=Sum.inr r.2.2.1
      ·rw [if_pos z2] at e2;cases e2
       rcases hF h with ⟨e',_⟩ | ⟨L',ys',e',_,g2,_⟩
       ·rw [e'] at e1;cases e1
       ·rw [e'] at e1;cases e1;rw [hN] at g2;cases g2
      ·rw [if_neg z2] at e2
       exact hinj _ _ L e1 e2
  rintro σ H5 ⟨kvs,y2,rfl,s5,h5bh,hkl,hF,hinj⟩
  rw [show rs.take xs.length=rs by rw [hxl];exact Xr] at hF
  simp only [a0X,a0k,Qb,Qa,a0e]
  refine q bh H5 s5 hbh ⟨kvs,h5bh,fun h=>(hF h).imp id fun ⟨L,ys,a,_,b,_,c⟩=>⟨L,ys,a,b,c.same s5⟩⟩
theorem b5Q (T:Txt K mg t):a0R P w K mg base CX0 1 t.f_z1l t.fd_z1l ["_law_pairs_here","_law_row_here","_law_some"] b1p:=by
 refine T.F_z1l.ok b9o (fun vs H Q E h=>?_) (fun cdv A outer s H vs Q E hr h=>?_)
 ·obtain ⟨P0,G,v,ps,pl,r,zs,rfl,hP,hPr,hPo,hv,hro,hG,hz,hzl,q⟩:=h;rfl
 ·obtain ⟨P0,G,v,ps,pl,r,zs,rfl,hP,hPr,hPo,hv,hro,hG,hz,hzl,q⟩:=h
  refine ⟨_,‹A3 (A9 (D7 (a2A hr.units) (C1 (B2 (a0c a9m) b8s ["_law_one_here","_law_pairs_here","_law_row_here"] [none,some 0,some 1]) (B4 2) (A5 0 (show Xg (["_law_one_here","_law_pairs_here","_law_row_here"]:List Str) by decide+kernel)) (C6 (B1 (b7T hr.units (K:=K) rfl) (C0 (A0 (B6 (a2W (K:=K) rfl) 0 A4) (A0 (B6 (a2W (K:=K) rfl) 2 A4) A1))) 1 (by with_unfolding_all rfl))) 0) (B7 A1) (a0p _)))›,?_⟩
  rw [show start b8s [V.ref P0,v,V.ref G]=[some (V.ref P0),some (v),some (V.ref G)] from rfl]
  simp only [a0X,tOp,a2M,a0q,a0o,a1p,a0k,Qb,Qa,a0e,a0s]
  refine ⟨⟨_,SqL.of hG⟩,?_⟩
  refine a2R (fun H' v r=>a5F H' v r∧a1E r) (0,"","",[]) zs hG ‹om› (fun H' s=>hz.same s) [some (V.ref P0),some v] rfl (fun b=>decide ((b.2.1,r.2.1)∈pl)) (fun p=>p.1) (fun x b H' R' hx s' hR'=>?_) (fun x b H' R' hx s' hR'=>?_) (fun W H5 hWn s5 hW5=>?_)
  ·obtain ⟨⟨p,t1,rfl,hp,ht⟩,hbo⟩:=hx
   obtain ⟨p',t2,rfl,hp',ht'⟩:=hv
   simp only [a1h,tOp,a3J,a0i,a0k,Qa,tC,Qb,a0q,a0e]
   refine a1t (SqT.of hp) rfl (a1t (SqT.of (s' _ _ hp')) rfl ⟨by simp only [Qm,Qr];decide,fun c hc=>?_⟩)
   obtain ⟨H6,e6,s6,h6⟩:=a0N hc (.tup [V.str b.2.1,V.str r.2.1]);rw [e6]
   exact ⟨c,P0,_,_,ps,pl,rfl,rfl,h6,SqL.of (s6 _ _ (s' _ _ hP)),a0y.same s6 (a0y.same s' hPr),⟨hbo.2.2.1.1,hro.2.2.1.1⟩,hPo,_,rfl,hR' _ s6⟩
  ·simp only [a0k,Qa,a0e]
   exact hR' _ (a0h.refl _)
  try skip
  refine ⟨Xb _,fun p7 hp7=>?_⟩
  obtain ⟨H7,e7,s7,h7⟩:=a0N hp7 (.lst []);rw [e7]
  refine a7E (s7 _ _ hW5) (SqL.of h7) (fun p hp=>((hz.same s5).same s7) p (Qs.mp hp).1) ?_
  have e:(!decide (zs.filter (fun p=>decide ((p.2.2.1,r.2.1)∈pl))=[]))=btn pl (zs.map (·.2)) r:=by
   unfold btn
   rw [Jo,Xn,Ye,decide_eq_false_iff_not,Jf,Yx]
   simp
  rw [e]
  exact q _ (s5.trans s7)
theorem b5K (T:Txt K mg t):a0R P w K mg base CX0 1 t.f_z1r t.fd_z1r ["_law_row_here","_law_down"] b8n:=by
 refine T.F_z1r.ok c1H (fun vs H Q E h=>?_) (fun cdv A outer s H vs Q E hr h=>?_)
 ·obtain ⟨v,a,r,U,rfl,hv,hro,ha,q⟩:=h;rfl
 ·obtain ⟨v,a,r,U,rfl,hv,hro,ha,q⟩:=h
  refine ⟨_,‹A3 (A9 (D7 (a2A hr.units) (C1 (B2 (a0c a9a) b8o ["_law_p","_law_down"] [none,some 1]) (E5 (B6 a0z 0 A4)) (A5 0 (show Xg (["_law_p","_law_down"]:List Str) by decide+kernel)) (C6 (C8 (a1R (a2k hr) ‹0› ‹1›))) 0) (B7 A1) (a0p _)))›,?_⟩
  rw [show start b8o [v,V.ref a]=[some (v),some (V.ref a)] from rfl]
  obtain ⟨p,t1,rfl,hp,ht⟩:=hv
  have hbl:r.2.2.2.length≤4:=hro.2.2.2.2.2
  have hbo:∀q∈r.2.2.2,OkS q:=hro.2.2.2.2.1
  simp only [a0X,tOp,a2M,a0q,a0o,b3f,a0k,Qa,tC,a0e]
  refine a1t (SqT.of hp) rfl ?_
  generalize r.2.2.2=bd at hbl hbo ht q
  simp only [a0s]
  refine ⟨⟨_,SqT.of ht⟩,?_⟩
  refine a3G (a4c (xs:=bd.map V.str)) (Qi (show (bd.map V.str).length≤1000 by rw [Qd];omega) ‹dc›) [some (V.ref a)] rfl (fun i=>decide (((bd[i]?).getD "")∈U)) (fun i=>V.str ((bd[i]?).getD "")) (fun H'' s=>SqT.of (s _ _ ht)) (fun i H'' R'' hi s hR''=>?_) (fun i H'' R'' hi s hR''=>?_) (fun C H6 hCn s6 hC=>?_)
  ·have hi':i < bd.length:=by simpa using hi
   have e2:((bd.map V.str)[i]?).getD .non=V.str bd[i]:=by rw [Ql,Qc hi'];rfl
   rw [e2]
   rw [Qc hi',Xh] at hR''
   simp only [tB,a8V,a0k,Qa,Qb,a1k,a0e]
   obtain ⟨o,ho,eo⟩:=(ha.same s).get bd[i]
   refine ⟨a,o,rfl,ho,?_⟩
   have:=hR'' _ (a0h.refl _)
   rw [eo]
   exact this
  ·have hi':i < bd.length:=by simpa using hi
   have e2:((bd.map V.str)[i]?).getD .non=V.str bd[i]:=by rw [Ql,Qc hi'];rfl
   rw [e2]
   rw [Qc hi',Xh] at hR''
   simp only [a0k,Qa,a0e]
   exact hR'' _ (a0h.refl _)
  rw [show (bd.map V.str).length=bd.length by simp,a1f ("":Str) (fun z=>decide (z∈U)) V.str bd] at hC
  try skip
  refine ⟨Xb _,fun p7 hp7=>?_⟩
  obtain ⟨H7,e7,s7,h7⟩:=a0N hp7 (.lst []);rw [e7]
  refine b2i (SqL.of (s7 _ _ hC)) (SqL.of h7) (fun z hz=>(hbo z (Qs.mp hz).1).1) ?_
  have e:(!decide (bd.filter (fun z=>decide (z∈U))=[]))=a3a bd U:=by
   unfold a3a
   rw [Xn,Ye,decide_eq_false_iff_not,Jf,Yx]
   simp
  rw [e]
  exact q _ (s6.trans s7)
theorem a6o (T:Txt K mg t):a0R P w K mg base CX0 1 t.f_z1q t.fd_z1q ["_law_q"] b6k:=by
 refine T.F_z1q.ok c1N (fun vs H Q E h=>?_) (fun cdv A outer s H vs Q E hr h=>?_)
 ·obtain ⟨z,rfl,hz,q⟩:=h;rfl
 ·obtain ⟨z,rfl,hz,q⟩:=h
  refine ⟨_,‹A2 (B3 (C2 (D0 Wr Vf Vg a6u 0 (A0 B0 A1))) (A3 (A9 (G3 0 (F9 A4) G9))) B8) (A3 (A9 (A6 a0r B0 0)))›,?_⟩
  rw [show start c2k [V.str z]=[some (V.str z)] from rfl]
  unfold a0D at q
  simp only [a1l,a2I,tB,tBM,a0k,Qa,a0i,tC,a0q,a0X,tSl,b1m,a5A,b3k,a0e,a7Y,a1q,tOp,a1A,a5e,a1k,b0q]
  refine a1Q (fun c=>?_) (fun c=>?_)
  ·rw [if_pos c] at q
   exact ⟨a3O ‹om›,q⟩
  ·rw [if_neg c] at q
   exact ⟨Qi (Nat.add_le_add (show (Ut "-").length≤1 by decide+kernel) hz) ‹dc›,q⟩
theorem b5V (T:Txt K mg t):a0R P w K mg base CX0 1 t.f_z1k t.fd_z1k ["_law_row_here","_law_up"] b4v:=by
 refine T.F_z1k.ok c1q (fun vs H Q E h=>?_) (fun cdv A outer s H vs Q E hr h=>?_)
 ·obtain ⟨v,a,r,U,rfl,hv,hro,ha,q⟩:=h;rfl
 ·obtain ⟨v,a,r,U,rfl,hv,hro,ha,q⟩:=h
  refine ⟨_,‹A3 (A9 (D7 (a0U hr.units) (C1 (B2 (a0c a9i) b8m ["_law_p","_law_up"] [none,some 1]) (E5 (B6 a0z 0 A4)) (A5 0 (show Xg (["_law_p","_law_up"]:List Str) by decide+kernel)) (C6 (C8 ‹E8 0 1›)) 0) (B7 A1) (a0p _)))›,?_⟩
  rw [show start b8m [v,V.ref a]=[some (v),some (V.ref a)] from rfl]
  obtain ⟨p,t1,rfl,hp,ht⟩:=hv
  have hbl:r.2.2.2.length≤4:=hro.2.2.2.2.2
  have hbo:∀q∈r.2.2.2,OkS q:=hro.2.2.2.2.1
  simp only [a0X,tOp,a2M,a0q,a0o,b3f,a0k,Qa,tC,a0e]
  refine a1t (SqT.of hp) rfl ?_
  generalize r.2.2.2=bd at hbl hbo ht q
  simp only [a0s]
  refine ⟨⟨_,SqT.of ht⟩,?_⟩
  refine a3G (a4c (xs:=bd.map V.str)) (Qi (show (bd.map V.str).length≤1000 by rw [Qd];omega) ‹dc›) [some (V.ref a)] rfl (fun i=>decide (((bd[i]?).getD "")∉U)) (fun i=>V.str ((bd[i]?).getD "")) (fun H'' s=>SqT.of (s _ _ ht)) (fun i H'' R'' hi s hR''=>?_) (fun i H'' R'' hi s hR''=>?_) (fun C H6 hCn s6 hC=>?_)
  ·have hi':i < bd.length:=by simpa using hi
   have e2:((bd.map V.str)[i]?).getD .non=V.str bd[i]:=by rw [Ql,Qc hi'];rfl
   rw [e2]
   rw [Qc hi',Xh] at hR''
   simp only [tB,a2t,a0k,Qa,Qb,a1k,a0e]
   obtain ⟨o,ho,eo⟩:=(ha.same s).get bd[i]
   refine ⟨a,o,rfl,ho,?_⟩
   have:=hR'' _ (a0h.refl _)
   rw [eo,show (!decide (bd[i]∈U))=decide (bd[i]∉U) from by simp]
   exact this
  ·have hi':i < bd.length:=by simpa using hi
   have e2:((bd.map V.str)[i]?).getD .non=V.str bd[i]:=by rw [Ql,Qc hi'];rfl
   rw [e2]
   rw [Qc hi',Xh] at hR''
   simp only [a0k,Qa,a0e]
   exact hR'' _ (a0h.refl _)
  rw [show (bd.map V.str).length=bd.length by simp,a1f ("":Str) (fun z=>decide (z∉U)) V.str bd] at hC
  try skip
  refine ⟨Xb _,fun p7 hp7=>?_⟩
  obtain ⟨H7,e7,s7,h7⟩:=a0N hp7 (.lst []);rw [e7]
  refine a9K (SqL.of (s7 _ _ hC)) (SqL.of h7) (fun z hz=>(hbo z (Qs.mp hz).1).1) ?_
  rw [a5f]
  exact q _ (s6.trans s7)
theorem b8L (T:Txt K mg t):a0R P w K mg base CX0 2 t.f_z1z t.fd_z1z ["_law_by_here","_law_pairs_here","_law_firm","_law_up","_law_down","_law_q"] (a7t a1Y):=by
 refine T.F_z1z.ok b1e (fun vs H Q E h=>?_) (fun cdv A outer s H vs Q E hr h=>?_)
 ·obtain ⟨B,P0,a1,a2,a3,q0,rs,ps,pl,S,U,D,rfl,hB,hO,hrl,hP,hPr,hPo,h1,h2,h3,hql,q⟩:=h;rfl
 ·obtain ⟨B,P0,a1,a2,a3,q0,rs,ps,pl,S,U,D,rfl,hB,hO,hrl,hP,hPr,hPo,h1,h2,h3,hql,q⟩:=h
  refine ⟨_,‹A2 (B3 (C8 (a1R (a2k hr) ‹5› ‹2›)) (A3 (A9 B5)) B8) (A2 (A7 6 b1e.nd (C1 (B2 (a0c a6c) b2P ["_law_row_here","_law_up"] [none,some 3]) (B4 (E7 0 5 (B7 A1))) (A5 0 (show Xg (["_law_row_here","_law_up"]:List Str) by decide+kernel)) (C6 (D4 (F3 (B1 (b4N hr.units (K:=K) rfl) (B6 (a2W (K:=K) rfl) 0 A4) B0 (a0p _)) (F7 (C2 (A8 (b5V T) T.g_z1k T.F_z1k.kp T.b_z1k .nil (A0 0 (A0 1 A1)))))))) 0)) (D8 (B3 (D4 (F1 (B1 (a0U hr.units) 6 (B7 A1) (a0p _)) (F2 (C8 (a1R (a2k hr) ‹A8 (a6o T) T.g_z1q T.F_z1q.kp T.b_z1q .nil (A0 5 A1)› ‹2›))))) (A3 (A9 B5)) B8) (A2 (E0 7 (B2 (a0c a6c) b2P ["_law_row_here","_law_down"] [none,some 4]) (B4 (E7 0 (A8 (a6o T) T.g_z1q T.F_z1q.kp T.b_z1q .nil (A0 5 A1)) (B7 A1))) (A5 0 (show Xg (["_law_row_here","_law_down"]:List Str) by decide+kernel)) (C6 (D9 (C2 (A8 (b5K T) T.g_z1r T.F_z1r.kp T.b_z1r .nil (A0 0 (A0 1 A1)))))) 0 b1e.nd) (A3 (A9 (D7 (a0U hr.units) (C1 (B2 (a0c a6c) b2P ["_law_row_here","_law_pairs_here","_law_good"] [none,some 1,some 6]) (B4 7) (A5 0 (show Xg (["_law_row_here","_law_pairs_here","_law_good"]:List Str) by decide+kernel)) (C6 (D9 (C2 (A8 (b5Q T) T.g_z1l T.F_z1l.kp T.b_z1l .nil (A0 1 (A0 0 (A0 2 A1))))))) 0) (B7 A1) (a0p _)))))))›,?_⟩
  rw [show start b2P [V.ref B,V.ref P0,V.ref a1,V.ref a2,V.ref a3,V.str q0]=[some (V.ref B),some (V.ref P0),some (V.ref a1),some (V.ref a2),some (V.ref a3),some (V.str q0),none,none] from rfl]
  simp only [a1l,a2I,tB,a8V,a0k,Qb,Qa,a0X,tC,a1q,a1P,a0l,a0o,a1p,a3C,a0v,a0i,a0q,Qh,a2M,Qf,Qg,a0e,a0s,a1k]
  obtain ⟨o1,ho1,eo1⟩:=h1.get q0
  refine ⟨a1,o1,rfl,ho1,?_⟩
  rw [eo1]
  simp only [decide_eq_true_eq]
  refine a1Q (fun c0=>?_) (fun c0=>?_)
  ·have:=q H (a0h.refl _)
   unfold a1Y at this
   rw [if_pos c0] at this
   exact this
  obtain ⟨kvs,hk,_⟩:=id hB
  refine ⟨a2B hk,by decide,fun N hN=>?_⟩
  obtain ⟨H1,e1,s1,hN1⟩:=a0N hN (.lst []);rw [e1]
  obtain ⟨_,o,hDg,L,zr,eL,hL,hz,ez⟩:=a8b (hB.same s1) hN1 hO q0
  have hzl:zr.length≤126:=by
   have:=congrArg Yp ez
   rw [Qd] at this
   rw [this];exact Qi (Qy _ _) hrl
  refine ⟨o,hDg,?_⟩
  rw [eL]
  simp only [a0s]
  refine ⟨⟨_,SqL.of hL⟩,?_⟩
  refine a2R (fun H' v r=>a5F H' v r∧a1E r) (0,"","",[]) zr hL ‹om› (fun H' s=>hz.same s) [some (V.ref a2)] rfl (fun r=>spk r && a3i r.2.2.2 U) (fun p=>p.1) (fun x r H' R' hx s' hR'=>?_) (fun x r H' R' hx s' hR'=>?_) (fun W H4 hWn s4 hW4=>?_)
  ·have hx':=hx
   obtain ⟨⟨p,t1,rfl,hp,ht⟩,hro⟩:=hx
   simp only [b7t,a1h,tOp,a0k,Qa,tC,tB,a0v,a0i,Qb,a0q,Qh,a0e]
   refine a1t (SqT.of hp) rfl ?_
   simp only [a7K,a1k,Ye,decide_eq_false_iff_not]
   refine a1Q (fun c1=>?_) (fun c1=>?_)
   ·rw [a7N hro.1 c1,Ua] at hR'
    refine ⟨_,a2,r,U,rfl,hx'.1,hro,h2.same (s1.trans s'),fun H'' s''=>?_⟩
    simp only [a1k]
    exact hR' _ s''
   ·have:=hR' _ (a0h.refl _)
    rw [a8p hro.1 c1,Jb] at this
    exact this
  ·simp only [a0k,Qa,a0e]
   exact hR' _ (a0h.refl _)
  have s04:=s1.trans s4
  have hz4:b2G H4 (zr.filter fun p=>spk p.2 && a3i p.2.2.2.2 U):=fun p hp=>(hz.same s4) p (Qs.mp hp).1
  have hzl4:(zr.filter fun p=>spk p.2 && a3i p.2.2.2.2 U).length≤126:=Qi (Qy _ _) hzl
  have est:(zr.filter fun p=>spk p.2 && a3i p.2.2.2.2 U).map (·.2)=a2p rs U q0:=by
   unfold a2p
   rw [←ez,Jh,Zs]
   refine congrArg (Gs _) (Jk fun p _=>?_)
   simp only [Function.comp]
   rw [Uk]
  generalize (zr.filter fun p=>spk p.2 && a3i p.2.2.2.2 U)=zs at hW4 hz4 hzl4 est
  have hemp:(a2p rs U q0=[])↔zs=[]:=by rw [←est,Ge]
  have hneed:∀H',a0h H H'→(a2p rs U q0=[]∨a0D q0∈S)→Q (.bl false) H':=fun H' s' hc=>by
   have:=q H' s'
   unfold a1Y at this
   rw [if_neg c0,if_pos hc] at this
   exact this
  try skip
  refine ⟨fun σ' H'=>σ'=[some (V.ref B),some (V.ref P0),some (V.ref a1),some (V.ref a2),some (V.ref a3),some (V.str q0),some (V.ref W),none]∧a0h H4 H'∧¬(a2p rs U q0=[]∨a0D q0∈S),?_,?_⟩
  ·simp only [a2I,tOr,a1h,tOp,a0k,Qb,Qa,a2M,a0q,a0X,tC,a1q,if_true,tB,a8V,a0v,a0i,Qh,a1k,a0e]
   refine ⟨Xb _,fun p7 hp7=>?_⟩
   obtain ⟨H7,e7,s7,h7⟩:=a0N hp7 (.lst []);rw [e7]
   refine a5m (s7 _ _ hW4) (SqL.of h7) (hz4.same s7) ?_
   simp only [a1k,decide_eq_true_eq]
   refine a1Q (fun c1=>hneed _ (s04.trans s7) (.inl (hemp.mpr c1))) (fun c1=>?_)
   obtain ⟨o9,ho9,eo9⟩:=(h1.same (s04.trans s7)).get (a0D q0)
   refine ⟨q0,rfl,hql,a1,o9,rfl,ho9,?_⟩
   rw [eo9]
   simp only [decide_eq_true_eq]
   exact a1Q (fun c2=>hneed _ (s04.trans s7) (.inr c2)) (fun c2=>⟨(by trivial),s7,fun z=>z.elim (fun w=>c1 (hemp.mp w)) c2⟩)
  rintro σ' H5 ⟨rfl,s5,hc⟩
  have s05:=s04.trans s5
  simp only [a1l,Qa,Qb,a0X,tOp,Qf,Qg,a2M,a0q,a0o,a1p,a0k,a0e,a0s]
  refine ⟨a2B (s05 _ _ hk),q0,rfl,hql,by decide,fun N2 hN2=>?_⟩
  obtain ⟨H6,e6,s6,hN6⟩:=a0N hN2 (.lst []);rw [e6]
  have s06:=s05.trans s6
  obtain ⟨_,o2,hDg2,L2,zb,eL2,hL2,hzb,ezb⟩:=a8b (hB.same s06) hN6 hO (a0D q0)
  have hbl:zb.length≤126:=by
   have:=congrArg Yp ezb
   rw [Qd] at this
   rw [this];exact Qi (Qy _ _) hrl
  refine ⟨o2,hDg2,?_⟩
  rw [eL2]
  simp only [a0s]
  refine ⟨⟨_,SqL.of hL2⟩,?_⟩
  refine a2R (fun H' v r=>a5F H' v r∧a1E r) (0,"","",[]) zb hL2 ‹om› (fun H' s=>hzb.same s) [some (V.ref a3)] rfl (fun r=>!a3a r.2.2.2 D) (fun p=>p.1) (fun x r H' R' hx s' hR'=>?_) (fun x r H' R' hx s' hR'=>?_) (fun W2 H7 hW2n s7 hW7=>?_)
  ·simp only [b2p,tB,a0v,a0i,a0k,Qa,Qb,a0q,Qh,a0e]
   refine ⟨_,a3,r,D,rfl,hx.1,hx.2,h3.same (s06.trans s'),fun H'' s''=>?_⟩
   simp only [a1k]
   exact hR' _ s''
  ·simp only [a0k,Qa,a0e]
   exact hR' _ (a0h.refl _)
  have s57:=s6.trans s7
  have s07:=s05.trans s57
  have hz7:b2G H7 (zb.filter fun p=>!a3a p.2.2.2.2 D):=fun p hp=>(hzb.same s7) p (Qs.mp hp).1
  have hbl7:(zb.filter fun p=>!a3a p.2.2.2.2 D).length≤126:=Qi (Qy _ _) hbl
  have hWz:=s57 _ _ (s5 _ _ hW4)
  have hzz:=hz4.same (s5.trans s57)
  simp only [a0s]
  refine ⟨⟨_,SqL.of hW7⟩,?_⟩
  refine a2R (fun H' v r=>a5F H' v r∧a1E r) (0,"","",[]) (zb.filter fun p=>!a3a p.2.2.2.2 D) hW7 (Qi hbl7 ‹dc›) (fun H' s=>hz7.same s) [some (V.ref P0),some (V.ref W)] rfl (fun r=>!btn pl (zs.map (·.2)) r) (fun p=>p.1) (fun x r H' R' hx s' hR'=>?_) (fun x r H' R' hx s' hR'=>?_) (fun W3 H8 hW3n s8 hW8=>?_)
  ·simp only [b2p,tB,a0v,a0i,a0k,Qb,Qa,a0q,Qh,a0e]
   refine ⟨P0,W,_,ps,pl,r,zs,rfl,(s07.trans s') _ _ hP,a0y.same (s07.trans s') hPr,hPo,hx.1,hx.2,s' _ _ hWz,hzz.same s',hzl4,fun H'' s''=>?_⟩
   simp only [a1k]
   exact hR' _ s''
  ·simp only [a0k,Qa,a0e]
   exact hR' _ (a0h.refl _)
  try skip
  refine ⟨Xb _,fun p9 hp9=>?_⟩
  obtain ⟨H9,e9,s9,h9⟩:=a0N hp9 (.lst []);rw [e9]
  have hz9:b2G H9 ((zb.filter fun p=>!a3a p.2.2.2.2 D).filter fun p=>!btn pl (zs.map (·.2)) p.2):=fun p hp=>(hz7.same (s8.trans s9)) p (Qs.mp hp).1
  have:=q _ ((s07.trans s8).trans s9)
  unfold a1Y at this
  rw [if_neg c0,if_neg hc,←ezb,Wb,←est] at this
  refine a5m (s9 _ _ hW8) (SqL.of h9) hz9 ?_
  rw [b4K]
  exact this
theorem b9E (T:Txt K mg t):a0R P w K mg base CX0 2 t.f_z1d t.fd_z1d ["_law_by_here","_law_pairs_here","_law_firm","_law_up","_law_down","_law_q"] (a7t a6Y):=by
 refine T.F_z1d.ok b0w (fun vs H Q E h=>?_) (fun cdv A outer s H vs Q E hr h=>?_)
 ·obtain ⟨B,P0,a1,a2,a3,q0,rs,ps,pl,S,U,D,rfl,hB,hO,hrl,hP,hPr,hPo,h1,h2,h3,hql,q⟩:=h;rfl
 ·obtain ⟨B,P0,a1,a2,a3,q0,rs,ps,pl,S,U,D,rfl,hB,hO,hrl,hP,hPr,hPo,h1,h2,h3,hql,q⟩:=h
  refine ⟨_,‹A2 (B3 (C8 (a1R (a2k hr) ‹5› ‹2›)) (A3 (A9 B5)) B8) (A2 (A7 6 b0w.nd (C1 (B2 (a0c a5W) b1l ["_law_row_here","_law_down"] [none,some 4]) (B4 (E7 0 5 (B7 A1))) (A5 0 (show Xg (["_law_row_here","_law_down"]:List Str) by decide+kernel)) (C6 (D4 (F3 (B1 (b4N hr.units (K:=K) rfl) (B6 (a2W (K:=K) rfl) 0 A4) B0 (a0p _)) (F7 (D9 (C2 (A8 (b5K T) T.g_z1r T.F_z1r.kp T.b_z1r .nil (A0 0 (A0 1 A1))))))))) 0)) (D8 (B3 (D4 (F1 (B1 (a0U hr.units) 6 (B7 A1) (a0p _)) (F2 (C8 (a1R (a2k hr) ‹A8 (a6o T) T.g_z1q T.F_z1q.kp T.b_z1q .nil (A0 5 A1)› ‹2›))))) (A3 (A9 B5)) B8) (A2 (E0 7 (B2 (a0c a5W) b1l ["_law_row_here","_law_up"] [none,some 3]) (B4 (E7 0 (A8 (a6o T) T.g_z1q T.F_z1q.kp T.b_z1q .nil (A0 5 A1)) (B7 A1))) (A5 0 (show Xg (["_law_row_here","_law_up"]:List Str) by decide+kernel)) (C6 (C2 (A8 (b5V T) T.g_z1k T.F_z1k.kp T.b_z1k .nil (A0 0 (A0 1 A1))))) 0 b0w.nd) (A3 (A9 (D7 (a2A hr.units) (C1 (B2 (a0c a5W) b1l ["_law_row_here","_law_pairs_here","_law_left"] [none,some 1,some 6]) (B4 7) (A5 0 (show Xg (["_law_row_here","_law_pairs_here","_law_left"]:List Str) by decide+kernel)) (C6 (D9 (C2 (A8 (b5Q T) T.g_z1l T.F_z1l.kp T.b_z1l .nil (A0 1 (A0 0 (A0 2 A1))))))) 0) (B7 A1) (a0p _)))))))›,?_⟩
  rw [show start b1l [V.ref B,V.ref P0,V.ref a1,V.ref a2,V.ref a3,V.str q0]=[some (V.ref B),some (V.ref P0),some (V.ref a1),some (V.ref a2),some (V.ref a3),some (V.str q0),none,none] from rfl]
  simp only [a1l,a2I,tB,a8V,a0k,Qb,Qa,a0X,tC,a1q,a1P,a0l,a0o,a1p,a3C,a0v,a0i,a0q,Qh,a2M,Qf,Qg,a0e,a0s,a1k]
  obtain ⟨o1,ho1,eo1⟩:=h1.get q0
  refine ⟨a1,o1,rfl,ho1,?_⟩
  rw [eo1]
  simp only [decide_eq_true_eq]
  refine a1Q (fun c0=>?_) (fun c0=>?_)
  ·have:=q H (a0h.refl _)
   unfold a6Y at this
   rw [if_pos c0] at this
   exact this
  obtain ⟨kvs,hk,_⟩:=id hB
  refine ⟨a2B hk,by decide,fun N hN=>?_⟩
  obtain ⟨H1,e1,s1,hN1⟩:=a0N hN (.lst []);rw [e1]
  obtain ⟨_,o,hDg,L,zr,eL,hL,hz,ez⟩:=a8b (hB.same s1) hN1 hO q0
  have hzl:zr.length≤126:=by
   have:=congrArg Yp ez
   rw [Qd] at this
   rw [this];exact Qi (Qy _ _) hrl
  refine ⟨o,hDg,?_⟩
  rw [eL]
  simp only [a0s]
  refine ⟨⟨_,SqL.of hL⟩,?_⟩
  refine a2R (fun H' v r=>a5F H' v r∧a1E r) (0,"","",[]) zr hL ‹om› (fun H' s=>hz.same s) [some (V.ref a3)] rfl (fun r=>spk r && !a3a r.2.2.2 D) (fun p=>p.1) (fun x r H' R' hx s' hR'=>?_) (fun x r H' R' hx s' hR'=>?_) (fun W H4 hWn s4 hW4=>?_)
  ·have hx':=hx
   obtain ⟨⟨p,t1,rfl,hp,ht⟩,hro⟩:=hx
   simp only [b7t,a1h,tOp,a0k,Qa,tC,b2p,tB,a0v,a0i,Qb,a0q,Qh,a0e]
   refine a1t (SqT.of hp) rfl ?_
   simp only [a7K,a1k,Ye,decide_eq_false_iff_not]
   refine a1Q (fun c1=>?_) (fun c1=>?_)
   ·rw [a7N hro.1 c1,Ua] at hR'
    refine ⟨_,a3,r,D,rfl,hx'.1,hro,h3.same (s1.trans s'),fun H'' s''=>?_⟩
    simp only [a1k]
    exact hR' _ s''
   ·have:=hR' _ (a0h.refl _)
    rw [a8p hro.1 c1,Jb] at this
    exact this
  ·simp only [a0k,Qa,a0e]
   exact hR' _ (a0h.refl _)
  have s04:=s1.trans s4
  have hz4:b2G H4 (zr.filter fun p=>spk p.2 && !a3a p.2.2.2.2 D):=fun p hp=>(hz.same s4) p (Qs.mp hp).1
  have hzl4:(zr.filter fun p=>spk p.2 && !a3a p.2.2.2.2 D).length≤126:=Qi (Qy _ _) hzl
  have est:(zr.filter fun p=>spk p.2 && !a3a p.2.2.2.2 D).map (·.2)=unf rs D q0:=by
   unfold unf
   rw [←ez,Jh,Zs]
   refine congrArg (Gs _) (Jk fun p _=>?_)
   simp only [Function.comp]
   rw [Uk]
  generalize (zr.filter fun p=>spk p.2 && !a3a p.2.2.2.2 D)=zs at hW4 hz4 hzl4 est
  have hemp:(unf rs D q0=[])↔zs=[]:=by rw [←est,Ge]
  have hneed:∀H',a0h H H'→(unf rs D q0=[]∨a0D q0∈S)→Q (.bl true) H':=fun H' s' hc=>by
   have:=q H' s'
   unfold a6Y at this
   rw [if_neg c0,if_pos hc] at this
   exact this
  try skip
  refine ⟨fun σ' H'=>σ'=[some (V.ref B),some (V.ref P0),some (V.ref a1),some (V.ref a2),some (V.ref a3),some (V.str q0),some (V.ref W),none]∧a0h H4 H'∧¬(unf rs D q0=[]∨a0D q0∈S),?_,?_⟩
  ·simp only [a2I,tOr,a1h,tOp,a0k,Qb,Qa,a2M,a0q,a0X,tC,a1q,if_true,tB,a8V,a0v,a0i,Qh,a1k,a0e]
   refine ⟨Xb _,fun p7 hp7=>?_⟩
   obtain ⟨H7,e7,s7,h7⟩:=a0N hp7 (.lst []);rw [e7]
   refine a5m (s7 _ _ hW4) (SqL.of h7) (hz4.same s7) ?_
   simp only [a1k,decide_eq_true_eq]
   refine a1Q (fun c1=>hneed _ (s04.trans s7) (.inl (hemp.mpr c1))) (fun c1=>?_)
   obtain ⟨o9,ho9,eo9⟩:=(h1.same (s04.trans s7)).get (a0D q0)
   refine ⟨q0,rfl,hql,a1,o9,rfl,ho9,?_⟩
   rw [eo9]
   simp only [decide_eq_true_eq]
   exact a1Q (fun c2=>hneed _ (s04.trans s7) (.inr c2)) (fun c2=>⟨(by trivial),s7,fun z=>z.elim (fun w=>c1 (hemp.mp w)) c2⟩)
  rintro σ' H5 ⟨rfl,s5,hc⟩
  have s05:=s04.trans s5
  simp only [a1l,Qa,Qb,a0X,tOp,Qf,Qg,a2M,a0q,a0o,a1p,a0k,a0e,a0s]
  refine ⟨a2B (s05 _ _ hk),q0,rfl,hql,by decide,fun N2 hN2=>?_⟩
  obtain ⟨H6,e6,s6,hN6⟩:=a0N hN2 (.lst []);rw [e6]
  have s06:=s05.trans s6
  obtain ⟨_,o2,hDg2,L2,zb,eL2,hL2,hzb,ezb⟩:=a8b (hB.same s06) hN6 hO (a0D q0)
  have hbl:zb.length≤126:=by
   have:=congrArg Yp ezb
   rw [Qd] at this
   rw [this];exact Qi (Qy _ _) hrl
  refine ⟨o2,hDg2,?_⟩
  rw [eL2]
  simp only [a0s]
  refine ⟨⟨_,SqL.of hL2⟩,?_⟩
  refine a2R (fun H' v r=>a5F H' v r∧a1E r) (0,"","",[]) zb hL2 ‹om› (fun H' s=>hzb.same s) [some (V.ref a2)] rfl (fun r=>a3i r.2.2.2 U) (fun p=>p.1) (fun x r H' R' hx s' hR'=>?_) (fun x r H' R' hx s' hR'=>?_) (fun W2 H7 hW2n s7 hW7=>?_)
  ·simp only [tB,a0v,a0i,a0k,Qa,Qb,a0q,Qh,a0e]
   refine ⟨_,a2,r,U,rfl,hx.1,hx.2,h2.same (s06.trans s'),fun H'' s''=>?_⟩
   simp only [a1k]
   exact hR' _ s''
  ·simp only [a0k,Qa,a0e]
   exact hR' _ (a0h.refl _)
  have s57:=s6.trans s7
  have s07:=s05.trans s57
  have hz7:b2G H7 (zb.filter fun p=>a3i p.2.2.2.2 U):=fun p hp=>(hzb.same s7) p (Qs.mp hp).1
  have hbl7:(zb.filter fun p=>a3i p.2.2.2.2 U).length≤126:=Qi (Qy _ _) hbl
  have hWz:=s57 _ _ (s5 _ _ hW4)
  have hzz:=hz4.same (s5.trans s57)
  simp only [a0s]
  refine ⟨⟨_,SqL.of hW7⟩,?_⟩
  refine a2R (fun H' v r=>a5F H' v r∧a1E r) (0,"","",[]) (zb.filter fun p=>a3i p.2.2.2.2 U) hW7 (Qi hbl7 ‹dc›) (fun H' s=>hz7.same s) [some (V.ref P0),some (V.ref W)] rfl (fun r=>!btn pl (zs.map (·.2)) r) (fun p=>p.1) (fun x r H' R' hx s' hR'=>?_) (fun x r H' R' hx s' hR'=>?_) (fun W3 H8 hW3n s8 hW8=>?_)
  ·simp only [b2p,tB,a0v,a0i,a0k,Qb,Qa,a0q,Qh,a0e]
   refine ⟨P0,W,_,ps,pl,r,zs,rfl,(s07.trans s') _ _ hP,a0y.same (s07.trans s') hPr,hPo,hx.1,hx.2,s' _ _ hWz,hzz.same s',hzl4,fun H'' s''=>?_⟩
   simp only [a1k]
   exact hR' _ s''
  ·simp only [a0k,Qa,a0e]
   exact hR' _ (a0h.refl _)
  try skip
  refine ⟨Xb _,fun p9 hp9=>?_⟩
  obtain ⟨H9,e9,s9,h9⟩:=a0N hp9 (.lst []);rw [e9]
  have hz9:b2G H9 ((zb.filter fun p=>a3i p.2.2.2.2 U).filter fun p=>!btn pl (zs.map (·.2)) p.2):=fun p hp=>(hz7.same (s8.trans s9)) p (Qs.mp hp).1
  have:=q _ ((s07.trans s8).trans s9)
  unfold a6Y at this
  rw [if_neg c0,if_neg hc,←ezb,Jo,←est] at this
  refine a7E (s9 _ _ hW8) (SqL.of h9) hz9 ?_
  rw [b3s]
  exact this
theorem c1A (T:Txt K mg t):a0R P w K mg base CX0 3 t.f_z1s t.fd_z1s ["_law_rows_here","_law_pairs_here","_law_firm","_law_some","_law_known"] b6z:=by
 refine T.F_z1s.ok a2f (fun vs H Q E h=>?_) (fun cdv A outer s H vs Q E hr h=>?_)
 ·obtain ⟨R,P0,F,So,kd,xs,ps,rs,pl,S,sm,kn,rfl,hR,hA,hO,hrl,hP,hPr,hPo,hF,hSo,hsn,hsl,hql,hkd,hkl,q⟩:=h;rfl
 ·obtain ⟨R,P0,F,So,kd,xs,ps,rs,pl,S,sm,kn,rfl,hR,hA,hO,hrl,hP,hPr,hPo,hF,hSo,hsn,hsl,hql,hkd,hkl,q⟩:=h
  refine ⟨_,‹A2 (A7 5 a2f.nd (A8 (b9e T) T.g_z26 T.F_z26.kp T.b_z26 .nil (A0 0 A1))) (A2 (A7 6 a2f.nd D1) (A2 (A7 7 a2f.nd D1) (A2 (G0 (B9 (H5 4) (F4 (C3 (A5 8 a2f.nd) (C3 (A5 9 a2f.nd) E3))) (A3 (B3 (B1 (a0U hr.units) 9 B0 (a0p _)) (A3 (C5 6 8 B5)) (A3 (C5 7 8 B5)))))) (A2 (A7 10 a2f.nd D1) (A2 (A7 11 a2f.nd A4) (A2 (A7 12 a2f.nd (B7 (A0 (C0 (A0 B0 (A0 B0 A1))) A1))) (A2 (G6 (B1 (b9a hr.units) 12 (B7 A1) (a0p _)) (A2 (H6 11 a2f.nd A4) (A2 (A7 12 a2f.nd (B7 A1)) (A2 (B9 (B4 3) (A5 8 a2f.nd) (A3 (B3 (D4 (F3 (C8 ‹E8 8 10›) (F7 (C2 (A8 (b8L T) T.g_z1z T.F_z1z.kp T.b_z1z .nil (A0 5 (A0 1 (A0 2 (A0 6 (A0 7 (A0 8 A1))))))))))) (A3 (D2 (D0 Xy Xv Xw a0H 12 (A0 (C0 (A0 8 (A0 B0 A1))) A1)))) (A3 (B3 (D4 (F3 (C8 ‹E8 8 10›) (F7 (C2 (A8 (b9E T) T.g_z1d T.F_z1d.kp T.b_z1d .nil (A0 5 (A0 1 (A0 2 (A0 6 (A0 7 (A0 8 A1))))))))))) (A3 (D2 (D0 Xy Xv Xw a0H 12 (A0 (C0 (A0 8 (A0 B0 A1))) A1)))) B8))))) (A3 (B9 (B4 12) (F4 (C3 (A5 8 a2f.nd) (C3 (A5 9 a2f.nd) E3))) (A2 (C5 10 8 (C0 (A0 9 (A0 11 A1)))) (A3 (B3 (B1 (a0U hr.units) 9 B0 (a0p _)) (A3 (C5 6 8 B5)) (A3 (C5 7 8 B5))))))))))) (A3 (A9 10)))))))))›,?_⟩
  rw [show start c0T [V.ref R,V.ref P0,V.ref F,V.ref So,V.ref kd]=[some (V.ref R),some (V.ref P0),some (V.ref F),some (V.ref So),some (V.ref kd),none,none,none,none,none,none,none,none] from rfl]
  simp only [a1l,a1P,a0v,a0i,a0k,Qa,a0q,Qh,a0l,a1O,Qf,Qg,a0e]
  refine ⟨R,xs,rs,rfl,hR,hA,hrl,fun By Hb sb hByn hBy=>?_⟩
  simp only []
  intro Up hUp
  obtain ⟨H1,e1,s1,hUp1⟩:=a0N hUp (.dK []);rw [e1]
  try skip
  intro Dn hDn
  obtain ⟨H2,e2,s2,hDn2⟩:=a0N hDn (.dK []);rw [e2]
  have hkb:=sb _ _ hkd
  have nUk:Up≠kd:=fun z=>by rw [z,hkb] at hUp;cases hUp
  have nDk:Dn≠kd:=fun z=>by rw [z,s1 _ _ hkb] at hDn;cases hDn
  have nUD:Up≠Dn:=fun z=>by rw [z,hDn] at hUp1;cases hUp1
  have hDb:Hb Dn=none:=none_of s1 hDn
  refine b7j (fun H0 i σ' H'=>∃(x8 x9:Option V),σ'=[some (V.ref R),some (V.ref P0),some (V.ref F),some (V.ref So),some (V.ref kd),some (V.ref By),some (V.ref Up),some (V.ref Dn),x8,x9,none,none,none]∧(∀b o,H0 b=some o→b≠Up→b≠Dn→H' b=some o)∧a6O H' Up (ups (kn.take i)) i∧a6O H' Dn (a1j (kn.take i)) i) (s2 _ _ (s1 _ _ hkb)) (a0J rfl) (fun o=>⟨_,_,rfl,fun _ _ e _ _=>e,⟨[],by rw [a0a nUk];exact s2 _ _ hUp1,fun _=>rfl,Qj _⟩,⟨[],by rw [a0a nDk];exact hDn2,fun _=>rfl,Qj _⟩⟩) ?_ ?_ ?_
  ·rintro o i σ' H' ⟨_,_,rfl,k,_⟩
   exact k _ _ a0d nUk.symm nDk.symm
  ·rintro o i hi σ' H' p rt bk ⟨x8,x9,rfl,k,hu,hd⟩ hp
   obtain ⟨H3,e3,s3,h3⟩:=a0N hp (.tup [V.str kn[i].1,V.str (wd kn[i].2)]);rw [e3]
   refine ⟨p,_,rfl,SqT.of h3,rfl,_,_,rfl,_,_,rfl,rfl,?_⟩
   have et:kn.take (i+1)=kn.take i++[(kn[i].1,kn[i].2)]:=Qp hi
   have hu3:=hu.keep (fun o e=>s3 _ _ e) (Qj _)
   have hd3:=hd.keep (fun o e=>s3 _ _ e) (Qj _)
   simp only [a2I,a1h,tOp,a0k,Qf,Qg,Qb,Qa,tC,a2U,a0e,a1J,a1k,decide_eq_true_eq]
   refine a1Q (fun c1=>?_) (fun c1=>?_)
   ·have eb:kn[i].2=true:=b1r (c1.trans rfl)
    obtain ⟨kv,hput,hu4⟩:=hu3.put ‹om› kn[i].1 (V.bl true)
    refine ⟨Up,_,rfl,hput,_,_,rfl,fun b o e n1 n2=>by rw [a0a n1];exact s3 _ _ (k b o e n1 n2),?_,?_⟩
    ·rw [et,a3U,if_pos eb];exact hu4
    ·rw [et,a2J,if_pos eb,Qh];exact hd3.keep (fun o e=>by rw [a0a nUD.symm];exact e) ‹om›
   ·have eb:¬kn[i].2=true:=fun z=>c1 (by rw [z];rfl)
    obtain ⟨kv,hput,hd4⟩:=hd3.put ‹om› kn[i].1 (V.bl true)
    refine ⟨Dn,_,rfl,hput,_,_,rfl,fun b o e n1 n2=>by rw [a0a n2];exact s3 _ _ (k b o e n1 n2),?_,?_⟩
    ·rw [et,a3U,if_neg eb,Qh];exact hu3.keep (fun o e=>by rw [a0a nUD];exact e) ‹om›
    ·rw [et,a2J,if_neg eb];exact hd4
  rintro o σ' H' ⟨x8,x9,rfl,k,hu,hd⟩
  rw [Xr] at hu hd
  obtain ⟨H3,e3,s3,hu3,hd3⟩:∃H3,upd H' kd (.dK (wv kn))=H3∧a0h Hb H3∧a6O H3 Up (ups kn) kn.length∧a6O H3 Dn (a1j kn) kn.length:=⟨_,rfl,fun b o e=>by
   by_cases z:b=kd
   ·rw [z,a0d,←hkb,←z];exact e
   ·rw [a0a z];exact k _ _ (by rw [a0a z];exact s2 _ _ (s1 _ _ e)) (a0b e hUp) (a0b e hDb),hu.keep (fun o e=>by rw [a0a nUk];exact e) (Qj _),hd.keep (fun o e=>by rw [a0a nDk];exact e) (Qj _)⟩
  rw [e3]
  clear hu hd k e3
  have hUs:∃o,H3 Up=some o:=let ⟨_,e,_⟩:=hu3;⟨_,e⟩
  have hDs:∃o,H3 Dn=some o:=let ⟨_,e,_⟩:=hd3;⟨_,e⟩
  simp only [a1l,a1P,a1O,a0l,tC,a2M,a0i,a3J,a0q,Qf,Qg]
  intro Rk hRk
  obtain ⟨H4,e4,s4,hRk4⟩:=a0N hRk (.dK []);rw [e4]
  have hRb:Hb Rk=none:=none_of s3 hRk
  have nRU:Rk≠Up:=fun z=>by obtain ⟨o,e⟩:=hUs;rw [←z,hRk] at e;cases e
  have nRD:Rk≠Dn:=fun z=>by obtain ⟨o,e⟩:=hDs;rw [←z,hRk] at e;cases e
  try skip
  refine ⟨by simp only [Qm,Qr];decide,fun p1 hp1=>?_⟩
  obtain ⟨H5,e5,s5,h5⟩:=a0N hp1 (.tup [V.str "",V.str ""]);rw [e5]
  refine ⟨by simp only [Qm,Qr];decide,fun F0 hF0=>?_⟩
  obtain ⟨H6,e6,s6,h6⟩:=a0N hF0 (.lst [V.ref p1]);rw [e6]
  have s36:=s4.trans (s5.trans s6)
  try skip
  obtain ⟨Rd,hRd⟩:∃Rd:Nat→RdS,Rd=rds rs pl S sm (ups kn) (a1j kn):=⟨_,rfl⟩
  have R0:Rd 0=⟨[],ups kn,a1j kn⟩:=by rw [hRd];rfl
  have RS:∀n,Rd (n+1)=next (n+1) (Rd n) (fresh rs pl S sm (Rd n)):=fun n=>by rw [hRd];rfl
  have RL:∀n,(Rd n).T.length≤sm.length:=fun n=>by rw [hRd];exact b6p hsn n
  have RN:∀n,((Rd n).T.map (·.1)).Nodup:=fun n=>by rw [hRd];exact a4C hsn n
  have RE:∀k,fresh rs pl S sm (Rd k)=[]→∀H' Rk',a0h H H'→H Rk'=none→TAt H' Rk' (Rd (k+1)).T→Q (V.ref Rk') H':=fun k hk H' Rk' s n hT=>q Rk' _ k H' s n hT (RN _) (by rw [hRd] at hk;exact hk) fun e=>by rw [RS,hk,hRd];unfold next;simp
  clear q
  obtain ⟨Iv,hIv⟩:∃Iv:Nat→St→Hp→Prop,∀m σ H',Iv m σ H'↔∃(n:Nat) (Fr:Addr) (ys:List V) (x8 x9:Option V),σ=[some (V.ref R),some (V.ref P0),some (V.ref F),some (V.ref So),some (V.ref kd),some (V.ref By),some (V.ref Up),some (V.ref Dn),x8,x9,some (V.ref Rk),some (V.int (n:Int)),some (V.ref Fr)]∧a0h Hb H'∧a6O H' Up (Rd n).U (kn.length+(Rd n).T.length)∧a6O H' Dn (Rd n).D (kn.length+(Rd n).T.length)∧TAt H' Rk (Rd n).T∧H' Fr=some (.lst ys)∧(ys≠[]∨∃k,n=k+1∧fresh rs pl S sm (Rd k)=[])∧m=2 * (sm.length - (Rd n).T.length)+(if ys=[] then 0 else 1):=⟨_,fun _ _ _=>Iff.rfl⟩
  refine a5o Iv _ ((hIv _ _ _).mpr ⟨0,F0,_,_,_,rfl,s3.trans s36,?_,?_,?_,h6,.inl ‹iz›,rfl⟩) ?_
  ·rw [R0];exact hu3.keep (fun o e=>s36 _ _ e) (Qj _)
  ·rw [R0];exact hd3.keep (fun o e=>s36 _ _ e) (Qj _)
  ·rw [R0];exact ⟨[],rfl,(s5.trans s6) _ _ hRk4,fun e he=>by cases he⟩
  clear hu3 hd3 hUs hDs h6 h5
  intro m σ H10 hv
  obtain ⟨n,Fr,ys,y8,y9,rfl,s10,hu,hd,hT,hFr,hys,hm⟩:=(hIv _ _ _).mp hv
  have hRL:=RL n
  simp only [a1h,tOp,a0k,Qb,Qa,a2M,a0q,a1l,c3g,tC,ipI,a1P,a0l,Qf,Qg,a0t,a1p,a0e,a0s,a0X]
  refine ⟨Xb _,fun p9 hp9=>?_⟩
  obtain ⟨H11,e11,s11,h11⟩:=a0N hp9 (.lst []);rw [e11]
  refine ⟨Fr,p9,ys,rfl,rfl,SqL.of (s11 _ _ hFr),SqL.of h11,_,rfl,?_⟩
  have sk:a0h Hb H11:=s10.trans s11
  have hu11:=hu.keep (fun o e=>s11 _ _ e) (Qj _)
  have hd11:=hd.keep (fun o e=>s11 _ _ e) (Qj _)
  have hT11:=hT.same s11
  clear hu hd hT
  by_cases hy:ys=[]
  ·rw [if_neg (by simp [hy])]
   rcases hys with z | ⟨k,rfl,hk⟩
   ·exact absurd hy z
   ·exact RE k hk H11 Rk (sb.trans sk) (none_of sb hRb) hT11
  rw [if_pos (decide_eq_true hy)]
  rw [if_neg hy] at hm
  refine ⟨fun σ H'=>∃m',m' < m∧Iv m' σ H',fun _ _ h=>h,_,_,rfl,rfl,Xb _,fun F2 hF2=>?_⟩
  obtain ⟨H12,e12,s12,h12⟩:=a0N hF2 (.lst []);rw [e12]
  have hSo11:=sk _ _ (sb _ _ hSo)
  refine ⟨⟨_,SqL.of (s12 _ _ hSo11)⟩,?_⟩
  obtain ⟨kT,hkT,_,hkTm⟩:=hT11.keys
  refine a0S (K:=K) (a:=So) (xs:=sm.map V.str) (fun i σ H'=>∃(x8:Option V) (zs:List V),σ=[some (V.ref R),some (V.ref P0),some (V.ref F),some (V.ref So),some (V.ref kd),some (V.ref By),some (V.ref Up),some (V.ref Dn),x8,y9,some (V.ref Rk),some (V.int ((n:Int)+1)),some (V.ref F2)]∧a0h H11 H'∧H' F2=some (.lst zs)∧a0y H' zs ((fresh rs pl S (sm.take i) (Rd n)).map fun p=>(p.1,wd p.2))) ⟨_,[],rfl,s12,h12,⟨[],rfl,rfl,fun i a p e=>by simp at e⟩⟩ (fun i σ H' _ ⟨_,_,_,s,_⟩=>SqL.of (s _ _ hSo11)) ?_ ?_
  ·rintro i v σ H13 hi ⟨x8,zs,rfl,s13,hz,hpz⟩
   have hil:i < sm.length:=by simpa using (Qn.mp hi).1
   have ev:v=V.str sm[i]:=by
    rw [Ql,Qc hil] at hi
    exact (Option.some.inj hi).symm
   subst ev
   clear hi
   have hqm:=Xa hil
   have et:=Qp hil
   have hzl:zs.length≤i:=by
    obtain ⟨as,rfl,hal,_⟩:=id hpz
    have:=(a3k (rs:=rs) (pl:=pl) (S:=S) (Rd n) (sm.take i)).length_le
    rw [Qd,Yb] at this
    rw [Qd,hal,Qd]
    omega
   have hfs:=a9s (rs:=rs) (pl:=pl) (S:=S) (sm.take i) sm[i] (Rd n)
   rw [←et] at hfs
   clear et
   generalize sm[i]=q0 at hqm hfs
   have add:∀(b:Bool) (H':Hp) (p:Addr) (R:VK),a0h H13 H'→H' p=none→(∀zs' H'',a0h H11 H''→H'' F2=some (.lst zs')→a0y H'' zs' ((fresh rs pl S (sm.take i) (Rd n)).map (fun p=>(p.1,wd p.2))++[(q0,wd b)])→R .non H'')→b2k (V.ref F2) [V.ref p] (upd H' p (.tup [V.str q0,V.str (wd b)])) R:=fun b H' p R s' hp hR=>by
    obtain ⟨H14,e14,s14,h14⟩:=a0N hp (.tup [V.str q0,V.str (wd b)]);rw [e14]
    have hz14:=s14 _ _ (s' _ _ hz)
    have hpF:p≠F2:=fun z=>by rw [z,s' _ _ hz] at hp;cases hp
    have up:∀c o,c≠F2→H14 c=some o→upd H14 F2 (.lst (zs++[V.ref p])) c=some o:=fun c o hc e=>by rw [a0a hc];exact e
    exact ⟨F2,_,_,rfl,rfl,hz14,Xj (show _≤1000 by omega) ‹dc›,hR _ _ (fun c o e=>up _ _ (a0b e hF2) (s14 _ _ (s' _ _ (s13 _ _ e)))) a0d (a5K (p:=(q0,wd b)) (a5I (a0y.same (s'.trans s14) hpz) ⟨_,hz14⟩ up) (up _ _ hpF h14))⟩
   have hk:∀H',a0h H13 H'→a2w H' Rk (.str q0) (a0T kT (Sum.inr q0:Key)):=fun H' s=>a2w.k (k:=(Sum.inr q0:Key)) (s _ _ (s13 _ _ hkT))
   have lh:∀f H' (R:VK),a0h H13 H'→(∀H'',a0h H' H''→R (.bl (f rs pl S (Rd n).U (Rd n).D q0)) H'')→a7t f [V.ref By,V.ref P0,V.ref F,V.ref Up,V.ref Dn,V.str q0] H' R E0:=fun f H' R s' hR=>by
    have sB:=sk.trans (s13.trans s')
    have sA:=sb.trans sB
    exact ⟨By,P0,F,Up,Dn,q0,rs,ps,pl,S,_,_,rfl,hBy.same sB,hO,hrl,sA _ _ hP,a0y.same sA hPr,hPo,hF.same sA,hu11.dat.same (s13.trans s'),hd11.dat.same (s13.trans s'),hql q0 hqm,hR⟩
   simp only [a0l,a2I,b7t,tB,a2t,a0k,Qf,Qg,Qb,Qa,a0v,a0i,a0q,Qh,a3n,tBM,a3J,tC,a0e,a1q,a8F,a1k,Ye]
   refine ⟨Rk,_,rfl,hk _ (a0h.refl _),?_⟩
   rw [hkTm]
   by_cases hin:q0∈(Rd n).T.map (·.1)
   ·rw [decide_eq_true hin,if_neg ‹dc›]
    refine ⟨Rk,_,rfl,hk _ (a0h.refl _),?_⟩
    rw [hkTm,decide_eq_true hin,if_neg ‹dc›]
    refine ⟨_,zs,rfl,s13,hz,?_⟩
    rw [hfs,if_pos hin];simpa using hpz
   rw [decide_eq_false hin,if_pos rfl]
   rw [if_neg hin] at hfs
   refine lh _ _ _ (a0h.refl _) fun H14 s14=>⟨_,rfl,a1Q (fun c1=>?_) (fun c1=>?_)⟩
   ·refine ⟨.inl ⟨rfl,_,SqL.of (s14 _ _ hz)⟩,by simp only [Qm,Qr];decide,fun p hp=>add true _ _ _ s14 hp fun zs' H15 s15 hz5 hp5=>⟨_,zs',rfl,s15,hz5,?_⟩⟩
    rw [hfs,show stt rs pl S (Rd n).U (Rd n).D q0=some true by unfold stt;rw [if_pos c1],Xe]
    exact hp5
   refine ⟨Rk,_,rfl,hk _ s14,?_⟩
   rw [hkTm,decide_eq_false hin,if_pos rfl]
   refine lh _ _ _ s14 fun H15 s15=>⟨_,rfl,a1Q (fun c2=>?_) (fun c2=>?_)⟩
   ·refine ⟨.inl ⟨rfl,_,SqL.of (s15 _ _ (s14 _ _ hz))⟩,by simp only [Qm,Qr];decide,fun p hp=>add false _ _ _ (s14.trans s15) hp fun zs' H16 s16 hz5 hp5=>⟨_,zs',rfl,s16,hz5,?_⟩⟩
    rw [hfs,show stt rs pl S (Rd n).U (Rd n).D q0=some false by unfold stt;rw [if_neg c1,if_pos c2],Xe]
    exact hp5
   ·refine ⟨_,zs,rfl,s13.trans (s14.trans s15),s15 _ _ (s14 _ _ hz),?_⟩
    rw [hfs,show stt rs pl S (Rd n).U (Rd n).D q0=none by unfold stt;rw [if_neg c1,if_neg c2]]
    simpa using a0y.same (s14.trans s15) hpz
  ·rintro σ H13 ⟨x8,zs,rfl,s13,hz,hpz⟩
   rw [Qd,Xr] at hpz
   have hFn:=hsn.sublist (a3k (rs:=rs) (pl:=pl) (S:=S) (Rd n) sm)
   have hFk:∀e∈fresh rs pl S sm (Rd n),e.1∉(Rd n).T.map (·.1):=fun e he=>(a0P.mp he).2.1
   have eN:=RS n
   have hRL1:=RL (n+1)
   generalize hFe:fresh rs pl S sm (Rd n)=Fs at hpz hFn hFk eN
   have eU:(Rd (n+1)).U=(Rd n).U++ups Fs:=by rw [eN];rfl
   have eD:(Rd (n+1)).D=(Rd n).D++a1j Fs:=by rw [eN];rfl
   have eT:(Rd (n+1)).T=(Rd n).T++Fs.map fun p=>(p.1,p.2,n+1):=by rw [eN];rfl
   have eL:(Rd (n+1)).T.length=(Rd n).T.length+Fs.length:=by rw [eT,Xx,Qd]
   have hzl:zs.length=Fs.length:=by
    obtain ⟨as,rfl,hal,_⟩:=id hpz
    rw [Qd,hal,Qd]
   simp only [a0t,a1p,a0k,Qb,Qa,a0e,a0s]
   refine ⟨⟨_,SqL.of hz⟩,?_⟩
   refine a0S (K:=K) (a:=F2) (xs:=zs) (fun j σ H'=>∃(x8 x9:Option V),σ=[some (V.ref R),some (V.ref P0),some (V.ref F),some (V.ref So),some (V.ref kd),some (V.ref By),some (V.ref Up),some (V.ref Dn),x8,x9,some (V.ref Rk),some (V.int ((n:Int)+1)),some (V.ref F2)]∧a0h Hb H'∧H' F2=some (.lst zs)∧a0y H' zs (Fs.map fun p=>(p.1,wd p.2))∧a6O H' Up ((Rd n).U++ups (Fs.take j)) (kn.length+(Rd n).T.length+j)∧a6O H' Dn ((Rd n).D++a1j (Fs.take j)) (kn.length+(Rd n).T.length+j)∧TAt H' Rk ((Rd n).T++(Fs.take j).map fun p=>(p.1,p.2,n+1)))
    ⟨x8,y9,rfl,sk.trans s13,hz,hpz,by rw [Jd,show ups []=[] from rfl,Qh];exact hu11.keep (fun o e=>s13 _ _ e) (Qj _),by rw [Jd,show a1j []=[] from rfl,Qh];exact hd11.keep (fun o e=>s13 _ _ e) (Qj _),by rw [Jd,Jg,Qh];exact hT11.same s13⟩ (fun j σ H' _ ⟨_,_,_,_,h,_⟩=>SqL.of h) ?_ ?_
   ·rintro j v σ H14 hj ⟨x8,x9,rfl,s14,hz4,hp4,hu4,hd4,hT4⟩
    have hjl:j < Fs.length:=by rw [←hzl];exact (Qn.mp hj).1
    obtain ⟨a,rfl,ha⟩:∃a,v=.ref a∧H14 a=some (.tup [.str Fs[j].1,.str (wd Fs[j].2)]):=by
     obtain ⟨as,rfl,hal,hat⟩:=hp4
     rw [Ql] at hj
     obtain ⟨a,ea,e⟩:=Js.mp hj
     exact ⟨a,e.symm,hat j a (Fs[j].1,wd Fs[j].2) ea (by rw [Ql,Qc hjl];rfl)⟩
    have hq:Fs[j].1∉((Rd n).T++(Fs.take j).map fun p=>(p.1,p.2,n+1)).map (·.1):=fun z=>by
     rw [Xe,Qv] at z
     rcases z with z | z
     ·exact hFk _ (Xa hjl) z
     ·rw [Xf] at z
      obtain ⟨x,hx,e⟩:=Qk.mp z
      obtain ⟨l,hl,rfl⟩:=Yz hx
      rw [Yb] at hl
      have e':(Fs.map (·.1))[l]'(by rw [Qd];omega)=(Fs.map (·.1))[j]'(by rw [Qd];omega):=by rw [Yd,Yd,←e,Vn];rfl
      have:=(Jn hFn).mp e'
      omega
    have hll:((Rd n).T++(Fs.take j).map fun p=>(p.1,p.2,n+1)).length≤100000:=by
     rw [Xx,Qd,Yb];omega
    have et:Fs.take (j+1)=Fs.take j++[(Fs[j].1,Fs[j].2)]:=Qp hjl
    refine ⟨a,_,rfl,SqT.of ha,rfl,_,_,rfl,_,_,rfl,rfl,?_⟩
    generalize Fs[j].1=q0 at ha hq et
    generalize Fs[j].2=b0 at ha et
    simp only [a1l,a2U,a3J,a0i,a0k,Qf,Qg,Qb,Qa,a0q,a2I,a1h,tOp,tC,a0e,a1J,a1k,decide_eq_true_eq]
    refine ⟨by simp only [Qm,Qr];decide,fun p hp=>?_⟩
    obtain ⟨H15,e15,s15,h15⟩:=a0N hp (.tup [V.str (wd b0),V.int ((n:Int)+1)]);rw [e15]
    obtain ⟨kv,hput,hT5⟩:=hT4.put (n:=n+1) s15 h15 hq hll
    refine ⟨Rk,_,rfl,hput,?_⟩
    have kb:∀b o,H14 b=some o→b≠Rk→upd H15 Rk (.dK kv) b=some o:=fun b o e nb=>by rw [a0a nb];exact s15 _ _ e
    generalize upd H15 Rk (.dK kv)=H16 at kb hT5
    have hu5:=hu4.keep (fun o e=>kb _ _ e nRU.symm) (Qj _)
    have hd5:=hd4.keep (fun o e=>kb _ _ e nRD.symm) (Qj _)
    have hRs:∃kv,H14 Rk=some (.dK kv):=let ⟨kv,e,_⟩:=hT4.keys;⟨kv,e⟩
    have s16:a0h Hb H16:=fun b o e=>kb _ _ (s14 _ _ e) (a0b e hRb)
    have hz6:H16 F2=some (.lst zs):=kb _ _ hz4 (by obtain ⟨kv,e⟩:=hRs;exact a0u hz4 e ‹iz›)
    have hp6:a0y H16 zs (Fs.map fun p=>(p.1,wd p.2)):=a8s hp4 fun b ys e=>kb _ _ e (by obtain ⟨kv,e'⟩:=hRs;exact a0u e e' ‹iz›)
    have fin:∀(c:Addr) (kc:List (Key×V)),c=Up∨c=Dn→(∀(o:HO),H16 c=some o→∃k,o=.dK k)→a0h Hb (upd H16 c (.dK kc))∧upd H16 c (.dK kc) F2=some (.lst zs)∧a0y (upd H16 c (.dK kc)) zs (Fs.map fun p=>(p.1,wd p.2))∧TAt (upd H16 c (.dK kc)) Rk ((Rd n).T++(Fs.take (j+1)).map fun p=>(p.1,p.2,n+1)):=fun c kc hc hk=>by
     have nt:∀b o,H16 b=some o→(∀k,o≠.dK k)→b≠c:=fun b o e ho z=>by
      obtain ⟨k,rfl⟩:=hk o (by rw [←z];exact e)
      exact ho k rfl
     refine ⟨fun b o e=>?_,?_,a8s hp6 fun b ys e=>?_,?_⟩
     ·rw [a0a (by rcases hc with rfl | rfl;exact a0b e hUp;exact a0b e hDb)];exact s16 _ _ e
     ·rw [a0a (nt _ _ hz6 (by intro k z;cases z))];exact hz6
     ·rw [a0a (nt _ _ e (by intro k z;cases z))];exact e
     ·rw [et,Xe,←Yu]
      refine TAt.keep hT5 fun b o e hb=>?_
      rcases hb with rfl | ⟨xs,rfl⟩
      ·rw [a0a (by rcases hc with rfl | rfl;exact nRU;exact nRD)];exact e
      ·rw [a0a (nt _ _ e (by intro k z;cases z))];exact e
    refine a1Q (fun c1=>?_) (fun c1=>?_)
    ·have eb:b0=true:=b1r (c1.trans rfl)
     obtain ⟨kc,hput2,hu6⟩:=hu5.put ‹om› q0 (V.bl true)
     obtain ⟨f1,f2,f3,f4⟩:=fin Up kc (.inl rfl) (by obtain ⟨k,e,_⟩:=hu5;intro o e';rw [e] at e';cases e';exact ⟨_,rfl⟩)
     refine ⟨Up,_,rfl,hput2,_,_,rfl,f1,f2,f3,?_,?_,f4⟩
     ·rw [et,a3U,if_pos eb,←Yu];exact hu6
     ·rw [et,a2J,if_pos eb,Qh];exact hd5.keep (fun o e=>by rw [a0a nUD.symm];exact e) ‹om›
    ·have eb:¬b0=true:=fun z=>c1 (by rw [z];rfl)
     obtain ⟨kc,hput2,hd6⟩:=hd5.put ‹om› q0 (V.bl true)
     obtain ⟨f1,f2,f3,f4⟩:=fin Dn kc (.inr rfl) (by obtain ⟨k,e,_⟩:=hd5;intro o e';rw [e] at e';cases e';exact ⟨_,rfl⟩)
     refine ⟨Dn,_,rfl,hput2,_,_,rfl,f1,f2,f3,?_,?_,f4⟩
     ·rw [et,a3U,if_neg eb,Qh];exact hu5.keep (fun o e=>by rw [a0a nUD];exact e) ‹om›
     ·rw [et,a2J,if_neg eb,←Yu];exact hd6
   ·rintro σ H14 ⟨x8,x9,rfl,s14,hz4,hp4,hu4,hd4,hT4⟩
    rw [hzl,Xr] at hu4 hd4 hT4
    rw [←eU] at hu4
    rw [←eD] at hd4
    rw [←eT] at hT4
    refine ⟨_,?_,(hIv _ _ _).mpr ⟨n+1,F2,zs,_,_,rfl,s14,hu4.keep (fun _ e=>e) ‹om›,hd4.keep (fun _ e=>e) ‹om›,hT4,hz4,?_,rfl⟩⟩
    ·split<;>rename_i hc
     ·omega
     ·have:zs.length≠0:=fun z=>hc (Zz.mp z)
      omega
    ·by_cases hc:zs=[]
     ·exact .inr ⟨n,rfl,by rw [hFe];exact Zz.mp (by rw [←hzl,hc];rfl)⟩
     ·exact .inl hc
theorem b9v (T:Txt K mg t):a0R P w K mg base CX0 1 t.f_z1j t.fd_z1j ["_law_rows_here","_law_known"] (b1W K):=by
 refine T.F_z1j.ok a2m (fun vs H Q E h=>?_) (fun cdv A outer s H vs Q E hr h=>?_)
 ·obtain ⟨a,b,xs,rs,kn,rfl,ha,hA,hO,hrl,hb,hkl,q⟩:=h;rfl
 ·obtain ⟨a,b,xs,rs,kn,rfl,ha,hA,hO,hrl,hb,hkl,q⟩:=h
  refine ⟨_,‹A2 (A7 2 a2m.nd D1) (A2 (B9 (B4 1) (A5 3 a2m.nd) (A3 (C5 2 3 B5))) (A2 (A7 4 a2m.nd D1) (A2 (A7 5 a2m.nd A4) (A2 (A7 6 a2m.nd (B7 (A0 B0 A1))) (A2 (G6 (B1 (a2A hr.units) 6 (B7 A1) (a0p _)) (A2 (H6 5 a2m.nd A4) (A2 (A7 6 a2m.nd (B7 A1)) (A2 (B9 (B4 0) (F4 (C3 (A5 7 a2m.nd) (C3 (A5 8 a2m.nd) (C3 (A5 9 a2m.nd) (C3 (A5 10 a2m.nd) E3))))) (A3 (B3 (D4 (F3 (B1 a4V 7 (C0 (A0 B0 (A0 B0 A1))) (by with_unfolding_all rfl)) (F3 (C8 ‹E8 9 2›) (F7 (B1 (a0U hr.units) (C1 (B2 (a0c a8X) b8f ["_law_q","_law_there_here"] [none,some 2]) (E5 10) (A5 0 (show Xg (["_law_q","_law_there_here"]:List Str) by decide+kernel)) (C6 (C8 ‹E8 0 1›)) 0) (B7 A1) (a0p _)))))) (A3 (D2 (D0 Xy Xv Xw a0H 6 (A0 9 A1)))) B8))) (A3 (B9 (B4 6) (A5 9 a2m.nd) (A2 (C5 2 9 B5) (A3 (C5 4 9 5))))))))) (A3 (A9 4)))))))›,?_⟩
  rw [show start b8f [V.ref a,V.ref b]=[some (V.ref a),some (V.ref b),none,none,none,none,none,none,none,none,none] from rfl]
  simp only [a1l,a1P,a1O,a0l,Qf,Qg,a0t,a1p,a0k,Qb,Qa,a0e,a0s]
  intro D hD
  have hb0:SqL K (upd H D (.dK [])) b (kn.map V.str):=(a0h.upd hD).seq hb
  refine ⟨⟨_,hb0⟩,?_⟩
  refine a0S (K:=K) (a:=b) (xs:=kn.map V.str) (fun i σ H'=>∃x,σ=[some (V.ref a),some (V.ref b),some (V.ref D),x,none,none,none,none,none,none,none]∧a0h H H'∧H' D=some (.dK (bv ((kn.take i).foldl a0O [])))) ⟨_,rfl,a0h.upd hD,a0d⟩ (fun i σ H' _ h=>by obtain ⟨_,_,s,_⟩:=h;exact s.seq hb) ?_ ?_
  ·rintro i x σ H' hi ⟨y,rfl,s,hD'⟩
   have hil:i < kn.length:=by simpa using (Qn.mp hi).1
   have ex:x=V.str kn[i]:=by
    rw [Ql,Qc hil] at hi
    exact (Option.some.inj hi).symm
   subst ex
   have hlen:=a1b (kn.take i) []
   simp only [a0l,a2U,tC,a0k,Qf,Qg,Qb,Qa,a0e]
   refine ⟨D,_,rfl,b3d hD' (by simp at hlen;omega) kn[i],_,rfl,?_,?_⟩
   ·intro b o e;rw [a0a (a0b e hD)];exact s _ _ e
   ·rw [a0d,Qp hil,Ym];rfl
  rintro σ H1 ⟨y,rfl,s1,hD1⟩
  rw [Qd,Xr] at hD1
  have hkl':(kn.foldl a0O []).length≤100:=Qi (a1b kn []) (by simpa using hkl)
  have hkn:(kn.foldl a0O []).Nodup:=a0Z kn (by simp)
  generalize kn.foldl a0O []=k0 at hD1 hkl' hkn q
  have hRl:(rs.map srW).length≤100:=by simpa using hrl
  simp only [a1l,a1P,a1O,a0l,tC,a2M,a0i,a0q,Qf,Qg]
  intro R hR1
  have hRn:H R=none:=none_of s1 hR1
  have hDR:D≠R:=fun z=>by rw [z,hR1] at hD1;cases hD1
  refine ⟨by simp only [Qm,Qr];decide,fun F0 hF0=>?_⟩
  have hF0R:F0≠R:=fun z=>by rw [z,a0d] at hF0;cases hF0
  have hF0':H1 F0=none:=by rw [a0a hF0R] at hF0;exact hF0
  have hDF0:D≠F0:=fun z=>by rw [z,hF0'] at hD1;cases hD1
  refine a5o (fun m σ H'=>∃(n:Nat) (zs:List Str) (F:Addr) (x3 x7 x8 x9 x10:Option V),σ=[some (V.ref a),some (V.ref b),some (V.ref D),x3,some (V.ref R),some (V.int n),some (V.ref F),x7,x8,x9,x10]∧a0h H H'∧H' D=some (.dK (bv (sS (rs.map srW) k0 n)))∧H' R=some (.dK (dv (sR (rs.map srW) k0 n)))∧H' F=some (.lst (zs.map V.str))∧(∀z∈zs,Xp z=true)∧
    ((n=0∧zs≠[]∧m=rs.length+2)∨∃n',n=n'+1∧zs=frs (rs.map srW) (sS (rs.map srW) k0 n')∧m=if zs=[] then 0 else b2j (rs.map srW) (sS (rs.map srW) k0 n)+1))
   (rs.length+2) ⟨0,[""],F0,_,_,_,_,_,rfl,?_,?_,?_,a0d,?_,.inl ⟨rfl,by simp,rfl⟩⟩ ?_
  ·intro b o e;rw [a0a (a0b (s1 _ _ e) hF0'),a0a (a0b (s1 _ _ e) hR1)];exact s1 _ _ e
  ·rw [a0a hDF0,a0a hDR];exact hD1
  ·rw [a0a hF0R.symm,a0d];rfl
  ·intro z hz;rw [Xo.mp hz];decide+kernel
  rintro m σ H2 ⟨n,zs,F,x3,x7,x8,x9,x10,rfl,s2,hD2,hR2,hF2,hzo,hm⟩
  simp only [a1h,tOp,a0k,Qb,Qa,a2M,a0q,a1l,c3g,tC,ipI,a1P,a0l,Qf,Qg,a0t,a1p,a0e,a0s,a0X]
  refine ⟨by decide,fun N hN=>?_⟩
  obtain ⟨H3,e3,s3,h3⟩:=a0N hN (.lst []);rw [e3]
  refine b2i (SqL.of (s3 _ _ hF2)) (SqL.of h3) hzo ?_
  simp only [a1k,Ye,decide_eq_false_iff_not]
  have hD3:=s3 _ _ hD2
  have hR3:=s3 _ _ hR2
  have s03:=s2.trans s3
  refine a1Q (fun c1=>?_) (fun c1=>?_)
  ·have hne:zs≠[]:=by simpa using c1
   refine ⟨fun σ' H'=>∃m',m' < m∧∃(n:Nat) (zs:List Str) (F:Addr) (x3 x7 x8 x9 x10:Option V),σ'=[some (V.ref a),some (V.ref b),some (V.ref D),x3,some (V.ref R),some (V.int n),some (V.ref F),x7,x8,x9,x10]∧a0h H H'∧H' D=some (.dK (bv (sS (rs.map srW) k0 n)))∧H' R=some (.dK (dv (sR (rs.map srW) k0 n)))∧H' F=some (.lst (zs.map V.str))∧(∀z∈zs,Xp z=true)∧
    ((n=0∧zs≠[]∧m'=rs.length+2)∨∃n',n=n'+1∧zs=frs (rs.map srW) (sS (rs.map srW) k0 n')∧m'=if zs=[] then 0 else b2j (rs.map srW) (sS (rs.map srW) k0 n)+1),fun _ _ h=>h,?_⟩
   try skip
   refine ⟨_,_,rfl,rfl,Xb _,fun G hG=>?_⟩
   have hGD:G≠D:=fun z=>by rw [z,hD3] at hG;cases hG
   have hGR:G≠R:=fun z=>by rw [z,hR3] at hG;cases hG
   have sG:a0h H (upd H3 G (.lst [])):=s03.trans (a0h.upd hG)
   refine ⟨⟨_,SqL.of (sG _ _ ha)⟩,?_⟩
   refine a0S (K:=K) (a:=a) (xs:=xs) (fun j σ H'=>∃(x3 x7 x8 x9 x10:Option V),σ=[some (V.ref a),some (V.ref b),some (V.ref D),x3,some (V.ref R),some (V.int ((n:Int)+1)),some (V.ref G),x7,x8,x9,x10]∧a0h H H'∧H' D=some (.dK (bv (sS (rs.map srW) k0 n)))∧H' R=some (.dK (dv (sR (rs.map srW) k0 n)))∧H' G=some (.lst ((frs ((rs.take j).map srW) (sS (rs.map srW) k0 n)).map V.str)))
    ⟨_,_,_,_,_,rfl,sG,by rw [a0a hGD.symm];exact hD3,by rw [a0a hGR.symm];exact hR3,a0d⟩ (fun j σ H' _ h=>by obtain ⟨_,_,_,_,_,_,s,_⟩:=h;exact SqL.of (s _ _ ha)) ?_ ?_
   ·rintro j x σ H4 hj ⟨x3,x7,x8,x9,x10,rfl,s4,hD4,hR4,hG4⟩
    have hjl:j < rs.length:=by rw [←hA.len];exact (Qn.mp hj).1
    obtain ⟨x',ex,hx⟩:=(hA.same s4).get j rs[j] (Qc hjl)
    rw [hj] at ex;cases ex
    obtain ⟨p,t1,rfl,hp,ht⟩:=hx
    have hro:=hO rs[j] (Xa hjl)
    rw [Qp hjl,Xe,Xk,Jg,b4c]
    have hfl:(frs ((rs.take j).map srW) (sS (rs.map srW) k0 n)).length≤100:=Qi (a7z _ _) (by rw [Qd,Yb];omega)
    generalize frs ((rs.take j).map srW) (sS (rs.map srW) k0 n)=fz at hG4 hfl
    generalize sS (rs.map srW) k0 n=S at hD4
    generalize rs[j]=r at hp ht hro
    obtain ⟨so,lb,hd,bd⟩:=r
    dsimp only at hp ht
    have hno:∀H',a0h H4 H'→((srW (so,lb,hd,bd)).1 && decide ((srW (so,lb,hd,bd)).2.1∉S) && (srW (so,lb,hd,bd)).2.2.all fun q=>decide (q∈S))=false→
      ∃(y3 y7 y8 y9 y10:Option V),[some (V.ref a),some (V.ref b),some (V.ref D),x3,some (V.ref R),some (V.int ((n:Int)+1)),some (V.ref G),some (V.str (a2h so)),some (V.str lb),some (V.str hd),some (V.ref t1)]=[some (V.ref a),some (V.ref b),some (V.ref D),y3,some (V.ref R),some (V.int ((n:Int)+1)),some (V.ref G),y7,y8,y9,y10]∧a0h H H'∧H' D=some (.dK (bv S))∧H' R=some (.dK (dv (sR (rs.map srW) k0 n)))∧H' G=some (.lst ((fz++if ((srW (so,lb,hd,bd)).1 && decide ((srW (so,lb,hd,bd)).2.1∉S) && (srW (so,lb,hd,bd)).2.2.all fun q=>decide (q∈S))=true then [(srW (so,lb,hd,bd)).2.1] else []).map V.str)):=fun H' s' hc=>
     ⟨_,_,_,_,_,rfl,s4.trans s',s' _ _ hD4,s' _ _ hR4,by rw [hc,if_neg Qx,Qh];exact s' _ _ hG4⟩
    simp only [b4a,a4E,a0l,b4S,a2I,b7t,a1h,tOp,a0k,Qf,Qg,Qb,Qa,a3J,a0i,tC,a0q,tB,a2t,a2M,a3n,tBM,a0e,a1q,a0o,b3f,a8F,a1k,Ye]
    refine ⟨p,_,rfl,SqT.of hp,rfl,_,_,rfl,_,_,rfl,_,_,rfl,_,_,rfl,rfl,?_⟩
    simp only [a0s]
    refine ⟨by simp only [Qm,Qr];decide,fun p5 hp5=>?_⟩
    obtain ⟨H5,e5,s5,h5⟩:=a0N hp5 (.tup [V.str "fact",V.str "sure"]);rw [e5]
    refine b8p (r:=["fact","sure"]) (SqT.of h5) ?_
    rw [b0h hro.1]
    simp only [a1k,decide_eq_true_eq]
    refine a1Q (fun c1=>?_) (fun c1=>hno _ s5 (by show (decide (so < 2) && _ && _)=false;rw [decide_eq_false c1];rfl))
    refine ⟨D,_,rfl,c2D (s5 _ _ hD4) hd,?_⟩
    by_cases c2:hd∈S
    ·rw [if_pos c2]
     try skip
     exact hno _ s5 (by show (_ && decide (hd∉S) && _)=false;rw [decide_eq_false (by simpa using c2),Wu,Jb])
    rw [if_neg c2]
    try skip
    refine ⟨⟨_,SqT.of (s5 _ _ ht)⟩,?_⟩
    have hbl:bd.length≤4:=hro.2.2.2.2.2
    refine a3G (a4c (xs:=bd.map V.str)) (Qi (show (bd.map V.str).length≤1000 by rw [Qd];omega) ‹dc›) [some (V.ref D)] rfl (fun i=>decide (((bd[i]?).getD "")∉S)) (fun i=>V.str ((bd[i]?).getD "")) (fun H' s=>SqT.of (s _ _ (s5 _ _ ht))) (fun i H' R' hi s hR'=>?_) (fun i H' R' hi s hR'=>?_) (fun C H6 hCn s6 hC=>?_)
    ·have hi':i < bd.length:=by simpa using hi
     have e2:((bd.map V.str)[i]?).getD .non=V.str bd[i]:=by rw [Ql,Qc hi'];rfl
     rw [e2]
     rw [Qc hi',Xh] at hR'
     simp only [tB,a2t,a0k,Qa,Qb,a1k,a0e]
     refine ⟨D,_,rfl,c2D (s _ _ (s5 _ _ hD4)) bd[i],?_⟩
     try skip
     have:=hR' _ (a0h.refl _)
     by_cases h:bd[i]∈S
     ·rw [if_pos h];rw [decide_eq_false (by simpa using h)] at this;exact this
     ·rw [if_neg h];rw [decide_eq_true h] at this;exact this
    ·have hi':i < bd.length:=by simpa using hi
     have e2:((bd.map V.str)[i]?).getD .non=V.str bd[i]:=by rw [Ql,Qc hi'];rfl
     rw [e2]
     rw [Qc hi',Xh] at hR'
     simp only [a0k,Qa,a0e]
     exact hR' _ (a0h.refl _)
    rw [show (bd.map V.str).length=bd.length by simp,a1f ("":Str) (fun z=>decide (z∉S)) V.str bd] at hC
    try skip
    refine ⟨Xb _,fun p7 hp7=>?_⟩
    obtain ⟨H7,e7,s7,h7⟩:=a0N hp7 (.lst []);rw [e7]
    refine a9K (SqL.of (s7 _ _ hC)) (SqL.of h7) (fun z hz=>(hro.2.2.2.2.1 z (Qs.mp hz).1).1) ?_
    rw [a5f]
    have s47:=(s5.trans s6).trans s7
    simp only [a1k]
    refine a1Q (fun c3=>?_) (fun c3=>hno _ s47 (by show (_ && _ && bd.all fun q=>decide (q∈S))=false;rw [Bool.eq_false_iff.mpr c3,Wu]))
    refine ⟨.inl ⟨rfl,_,SqL.of (s47 _ _ hG4)⟩,G,_,_,rfl,rfl,s47 _ _ hG4,Xj (show _≤1000 by rw [Qd];omega) ‹dc›,_,_,_,_,_,rfl,?_,?_,?_,?_⟩
    ·intro b o e
     rw [a0a (a0b (s03 _ _ e) hG)];exact s47 _ _ (s4 _ _ e)
    ·rw [a0a hGD.symm];exact s47 _ _ hD4
    ·rw [a0a hGR.symm];exact s47 _ _ hR4
    ·rw [a0d,if_pos (by show (decide (so < 2) && decide (hd∉S) && bd.all fun q=>decide (q∈S))=true;rw [decide_eq_true c1,decide_eq_true c2,c3];rfl)]
     simp [srW]
   ·rintro σ H4 ⟨y3,y7,y8,y9,y10,rfl,s4,hD4,hR4,hG4⟩
    rw [hA.len,Xr] at hG4
    have hfo:∀z∈frs (rs.map srW) (sS (rs.map srW) k0 n),Xp z=true:=fun z hz=>by
     obtain ⟨_,b',h2,_⟩:=a2r.mp hz
     obtain ⟨r,hr,e⟩:=Qk.mp h2
     have:r.2.2.1=z:=congrArg (fun q:SR Str=>q.2.1) e
     rw [←this];exact (hO r hr).2.2.2.1.1
    have hfl:=a7z (rs.map srW) (sS (rs.map srW) k0 n)
    have hSl:=b2E (rs:=rs.map srW) hkn n
    have hRl':=b0r (rs:=rs.map srW) hkn n
    simp only [a0t,a1p,a0k,Qb,Qa,a0e,a0s]
    refine ⟨⟨_,SqL.of hG4⟩,?_⟩
    refine a0S (K:=K) (a:=G) (xs:=(frs (rs.map srW) (sS (rs.map srW) k0 n)).map V.str) (fun j σ H'=>∃(x9:Option V),σ=[some (V.ref a),some (V.ref b),some (V.ref D),y3,some (V.ref R),some (V.int ((n:Int)+1)),some (V.ref G),y7,y8,x9,y10]∧a0h H H'∧H' D=some (.dK (bv (((frs (rs.map srW) (sS (rs.map srW) k0 n)).take j).foldl a0O (sS (rs.map srW) k0 n))))∧H' R=some (.dK (dv (((frs (rs.map srW) (sS (rs.map srW) k0 n)).take j).foldl (a3H (n+1)) (sR (rs.map srW) k0 n))))∧H' G=some (.lst ((frs (rs.map srW) (sS (rs.map srW) k0 n)).map V.str)))
     ⟨_,rfl,s4,hD4,hR4,hG4⟩ (fun j σ H' _ h=>by obtain ⟨_,_,_,_,_,h⟩:=h;exact SqL.of h) ?_ ?_
    ·rintro j x σ H5 hj ⟨x9,rfl,s5,hD5,hR5,hG5⟩
     have hjl:j < (frs (rs.map srW) (sS (rs.map srW) k0 n)).length:=by simpa using (Qn.mp hj).1
     have ex:x=V.str (frs (rs.map srW) (sS (rs.map srW) k0 n))[j]:=by
      rw [Ql,Qc hjl] at hj
      exact (Option.some.inj hj).symm
     subst ex
     have hnew:=a4b (Xa hjl)
     rw [Qp hjl,Ym,Ym]
     have hlkt:lk (((frs (rs.map srW) (sS (rs.map srW) k0 n)).take j).foldl (a3H (n+1)) (sR (rs.map srW) k0 n)) (frs (rs.map srW) (sS (rs.map srW) k0 n))[j]=none∨lk (((frs (rs.map srW) (sS (rs.map srW) k0 n)).take j).foldl (a3H (n+1)) (sR (rs.map srW) k0 n)) (frs (rs.map srW) (sS (rs.map srW) k0 n))[j]=some (n+1):=by
      rw [a3M fun h hh=>.inl (a4b (Yo hh)),hnew]
      split
      ·exact .inr rfl
      ·exact .inl rfl
     have l1:=a1b ((frs (rs.map srW) (sS (rs.map srW) k0 n)).take j) (sS (rs.map srW) k0 n)
     have l2:=a4m (n+1) ((frs (rs.map srW) (sS (rs.map srW) k0 n)).take j) (sR (rs.map srW) k0 n)
     have l3:((frs (rs.map srW) (sS (rs.map srW) k0 n)).take j).length≤100:=by rw [Yb];omega
     have nd:=a2V (n+1) ((frs (rs.map srW) (sS (rs.map srW) k0 n)).take j) (a1e (rs:=rs.map srW) (kn:=k0) n)
     generalize ((frs (rs.map srW) (sS (rs.map srW) k0 n)).take j).foldl (a3H (n+1)) (sR (rs.map srW) k0 n)=R5 at hR5 l2 nd hlkt
     generalize ((frs (rs.map srW) (sS (rs.map srW) k0 n)).take j).foldl a0O (sS (rs.map srW) k0 n)=S5 at hD5 l1
     simp only [a0l,a1l,a2U,tC,a0k,Qf,Qg,Qb,Qa,a0e]
     refine ⟨D,_,rfl,b3d hD5 ‹om› _,?_⟩
     have hR5':upd H5 D (.dK (bv (a0O S5 (frs (rs.map srW) (sS (rs.map srW) k0 n))[j]))) R=some (.dK (dv R5)):=by rw [a0a hDR.symm];exact hR5
     refine ⟨R,_,rfl,c5u (n:=n+1) hR5' ‹om› nd hlkt,_,rfl,?_,?_,a0d,?_⟩
     ·intro b o e;rw [a0a (a0b e hRn),a0a (a0b e hD)];exact s5 _ _ e
     ·rw [a0a hDR,a0d];rfl
     ·rw [a0a hGR,a0a hGD];exact hG5
    ·rintro σ H5 ⟨x9,rfl,s5,hD5,hR5,hG5⟩
     rw [Qd,Xr] at hD5 hR5
     refine ⟨if frs (rs.map srW) (sS (rs.map srW) k0 n)=[] then 0 else b2j (rs.map srW) (sS (rs.map srW) k0 (n+1))+1,?_,n+1,_,G,_,_,_,_,_,rfl,s5,hD5,hR5,hG5,hfo,.inr ⟨n,rfl,rfl,rfl⟩⟩
     by_cases hfz:frs (rs.map srW) (sS (rs.map srW) k0 n)=[]
     ·rw [if_pos hfz]
      rcases hm with ⟨_,_,rfl⟩ | ⟨n',_,_,hm'⟩
      ·omega
      ·rw [hm',if_neg hne];omega
     ·rw [if_neg hfz]
      have h1:=a4A hfz
      rcases hm with ⟨_,_,rfl⟩ | ⟨n',_,_,hm'⟩
      ·have:=b0I (rs.map srW) (sS (rs.map srW) k0 n)
       rw [Qd] at this
       omega
      ·rw [hm',if_neg hne];omega
  ·have he:zs=[]:=by simpa using c1
   rcases hm with ⟨_,h,_⟩ | ⟨n',rfl,hz,_⟩
   ·exact absurd he h
   ·rw [he] at hz
    have e1:=(a4w hz.symm 1).2
    rw [e1,b4R hz.symm] at hR3
    try skip
    exact q R H3 s03 hRn hR3
theorem c1w (T:Txt K mg t):a0R P w K mg base CX0 2 t.f_z1t t.fd_z1t ["_law_rows_here"] (b7n K):=by
 refine T.F_z1t.ok a3Y (fun vs H Q E h=>?_) (fun cdv A outer s H vs Q E hr h=>?_)
 ·obtain ⟨a,xs,rs,po,rfl,ha,hA,hO,hrl,hpo,hpl,q⟩:=h;rfl
 ·obtain ⟨a,xs,rs,po,rfl,ha,hA,hO,hrl,hpo,hpl,q⟩:=h
  refine ⟨_,‹A2 (A7 1 a3Y.nd D1) (A2 (B9 (B4 0) (F4 (C3 (A5 2 a3Y.nd) (C3 (A5 3 a3Y.nd) (C3 (A5 4 a3Y.nd) (C3 (A5 5 a3Y.nd) E3))))) (A3 (B9 (B4 (A6 a0r (B7 (A0 4 A1)) (E6 a1W T.z_list a1G (A0 5 A1)))) (A5 6 a3Y.nd) (A2 (C5 1 6 B5) (A3 (C5 1 (A8 (a6o T) T.g_z1q T.F_z1q.kp T.b_z1q .nil (A0 6 A1)) B5)))))) (A3 (A9 (C4 (a3s rfl) T.z_sorted a2g (A0 1 A1)))))›,?_⟩
  rw [show start b8R [V.ref a]=[some (V.ref a),none,none,none,none,none,none] from rfl]
  simp only [a1l,a1P,a1O,a0l,Qf,Qg,a0t,a1p,a0k,Qa,a0e,a0s]
  intro D hD
  obtain ⟨H1,e1,s1,hD1⟩:=a0N hD (.dK []);rw [e1]
  have haD:a≠D:=a0b ha hD
  have hsz:∀A:List Str,(∀x∈A,x∈po)→(A.foldl a0O []).length≤18:=fun A hA=>Qi (a1s (a0Z A Zg) (m:=po) fun x hx=>by
   rcases a1o.mp hx with z | z
   ·cases z
   ·exact hA x z) hpl
  refine ⟨⟨_,SqL.of (s1 _ _ ha)⟩,?_⟩
  refine a0S (K:=K) (a:=a) (xs:=xs) (fun i σ H'=>∃(x2 x3 x4 x5 x6:Option V),σ=[some (V.ref a),some (V.ref D),x2,x3,x4,x5,x6]∧a3p H1 D H'∧H' D=some (.dK (bv ((sts (rs.take i)).foldl a0O []))))
   ⟨_,_,_,_,_,rfl,a3p.refl _ _,hD1⟩ (fun i σ H' _ ⟨_,_,_,_,_,_,k,_⟩=>SqL.of (k _ _ (s1 _ _ ha) haD)) ?_ ?_
  ·rintro i v σ H3 hi ⟨x2,x3,x4,x5,x6,rfl,k3,hD3⟩
   have hil:i < rs.length:=by rw [←hA.len];exact (Qn.mp hi).1
   obtain ⟨v',ev,p,t0,rfl,hp1,hp2⟩:=hA.get i rs[i] (Qc hil)
   rw [hi] at ev;cases ev
   have hrm:=Xa hil
   have hro:=hO _ hrm
   have esn:sts (rs.take (i+1))=sts (rs.take i)++(rs[i].2.2.1::rs[i].2.2.2).flatMap fun q=>[q,a0D q]:=by
    unfold sts
    rw [Qp hil,Jp];simp
   have hA0:∀x∈sts (rs.take i),x∈po:=fun x hx=>hpo x (by
    obtain ⟨r,hr,z⟩:=a1a.mp hx
    exact a1a.mpr ⟨r,Yo hr,z⟩)
   have hA1:∀q∈rs[i].2.2.1::rs[i].2.2.2,q∈po∧a0D q∈po∧q.length≤100:=fun q hq=>⟨hpo q (a1a.mpr ⟨_,hrm,q,hq,.inl rfl⟩),hpo _ (a1a.mpr ⟨_,hrm,q,hq,.inr rfl⟩),by
    rcases Qw.mp hq with z | z
    ·rw [z];have:=hro.2.2.2.1.2;omega
    ·have:=(hro.2.2.2.2.1 q z).2;omega⟩
   generalize rs[i]=r at hp1 hp2 hro esn hA1
   generalize sts (rs.take i)=A0 at hD3 esn hA0
   rw [esn]
   clear esn
   have hp1':=k3 _ _ (s1 _ _ hp1) (a0b hp1 hD)
   have hp2':=k3 _ _ (s1 _ _ hp2) (a0b hp2 hD)
   have hbl:=hro.2.2.2.2.2
   simp only [b4a,a4E,a0l,b4S,Qf,Qg,a0t,a1p,tOp,a2M,a0i,a0k,Qb,Qa,a0q,tCB,a0e]
   refine ⟨p,_,rfl,SqT.of hp1',rfl,_,_,rfl,_,_,rfl,_,_,rfl,_,_,rfl,rfl,?_⟩
   try skip
   refine ⟨by simp only [Qm,Qr];decide,fun c hc=>?_⟩
   obtain ⟨H4,e4,s4,h4⟩:=a0N hc (.lst [V.str r.2.2.1]);rw [e4]
   refine ⟨t0,_,rfl,.inr (SqT.of (s4 _ _ hp2')),fun l hl=>?_⟩
   obtain ⟨H5,e5,s5,h5⟩:=a0N hl (.lst (r.2.2.2.map V.str));rw [e5]
   refine .inr (.inr (.inl ⟨c,l,_,_,rfl,rfl,s5 _ _ h4,h5,Qi (show _≤1000 by rw [Qd,Wt];omega) ‹dc›,fun c2 hc2=>?_⟩))
   obtain ⟨H6,e6,s6,h6⟩:=a0N hc2 (.lst ([V.str r.2.2.1]++r.2.2.2.map V.str));rw [e6]
   have s36:=(s4.trans s5).trans s6
   have h6':H6 c2=some (.lst ((r.2.2.1::r.2.2.2).map V.str)):=h6
   have hcD:c2≠D:=a0u h6' (s36 _ _ hD3) ‹iz›
   clear h6
   generalize r.2.2.1::r.2.2.2=qs at h6' hA1
   refine ⟨c2,rfl,⟨_,SqL.of h6'⟩,?_⟩
   refine a0S (K:=K) (a:=c2) (xs:=qs.map V.str) (fun j σ H'=>∃(y:Option V),σ=[some (V.ref a),some (V.ref D),some (V.str (a2h r.1)),some (V.str r.2.1),some (V.str r.2.2.1),some (V.ref t0),y]∧a3p H6 D H'∧H' D=some (.dK (bv ((A0++(qs.take j).flatMap fun q=>[q,a0D q]).foldl a0O []))))
    ⟨_,rfl,a3p.refl _ _,by rw [Jd,List.flatMap_nil,Qh];exact s36 _ _ hD3⟩ (fun j σ H' _ ⟨_,_,k,_⟩=>SqL.of (k _ _ h6' hcD)) ?_ ?_
   ·rintro j v σ H7 hj ⟨y,rfl,k6,hD6⟩
    have hjl:j < qs.length:=by simpa using (Qn.mp hj).1
    have ex:v=V.str qs[j]:=by
     rw [Ql,Qc hjl] at hj
     exact (Option.some.inj hj).symm
    subst ex
    have hq1:=hA1 _ (Xa hjl)
    have hA2:∀x∈A0++(qs.take j).flatMap (fun q=>[q,a0D q]),x∈po:=fun x hx=>by
     rcases Qv.mp hx with z | z
     ·exact hA0 x z
     ·obtain ⟨q,hq,w⟩:=Ze.mp z
      have:=hA1 q (Yo hq)
      simp only [Qw,Zn,or_false] at w
      rcases w with w | w
      ·rw [w];exact this.1
      ·rw [w];exact this.2.1
    have ej:A0++(qs.take (j+1)).flatMap (fun q=>[q,a0D q])=(A0++(qs.take j).flatMap fun q=>[q,a0D q])++[qs[j],a0D qs[j]]:=by
     rw [Qp hjl,Jp,←Yu];simp
    rw [ej]
    generalize (A0++(qs.take j).flatMap fun q=>[q,a0D q])=A1 at hD6 hA2
    generalize qs[j]=q0 at hq1
    have l1:=hsz A1 hA2
    have l2:=hsz (A1++[q0]) fun x hx=>by
     rcases Qv.mp hx with z | z
     ·exact hA2 x z
     ·rw [Xo.mp z];exact hq1.1
    simp only [a0l,a1l,a2U,tC,a0k,Qf,Qg,Qb,Qa,a0v,a0i,a0q,Qh,a0e]
    refine ⟨D,_,rfl,b3d hD6 ‹om› q0,q0,rfl,hq1.2.2,D,_,rfl,b3d (x:=a0D q0) (S:=(A1++[q0]).foldl a0O []) (by rw [a0d,Ym];rfl) ‹om›,_,rfl,fun b o e n=>?_,?_⟩
    ·rw [a0a n,a0a n];exact k6 _ _ e n
    ·rw [a0d,Ym,Ym];rfl
   ·rintro σ H7 ⟨y,rfl,k6,hD6⟩
    rw [Qd,Xr] at hD6
    exact ⟨_,_,_,_,_,rfl,fun b o e n=>k6 _ _ (s36 _ _ (k3 _ _ e n)) n,hD6⟩
  ·rintro σ H3 ⟨x2,x3,x4,x5,x6,rfl,k3,hD3⟩
   rw [show rs.take xs.length=rs by rw [hA.len];exact Xr] at hD3
   have hl:=hsz (sts rs) hpo
   simp only [a0X,tCB,a0i,a0k,Qb,Qa,a0q,a0e]
   refine .inr (.inl ⟨D,_,_,rfl,.inl hD3,a3b _,by omega,fun l ss hl' hp hs=>?_⟩)
   have s3:a0h H H3:=fun b o e=>k3 _ _ (s1 _ _ e) (a0b e hD)
   obtain ⟨H4,e4,s4,h4⟩:=a0N hl' (.lst (ss.map V.str));rw [e4]
   exact q l ss H4 (s3.trans s4) (none_of s3 hl') h4 ⟨hp,hs⟩
theorem b5T (T:Txt K mg t):a0R P w K mg base CX0 4 t.f_z24 t.fd_z24 ["_law_rows_here","_law_pairs_here"] (b8Q K):=by
 refine T.F_z24.ok a6L (fun vs H Q E h=>?_) (fun cdv A outer s H vs Q E hr h=>?_)
 ·obtain ⟨R,P0,xs,ps,rs,pl,po,rfl,hR,hA,hO,hrl,hP,hPs,hPo,hpo,hpl,hql,q⟩:=h;rfl
 ·obtain ⟨R,P0,xs,ps,rs,pl,po,rfl,hR,hA,hO,hrl,hP,hPs,hPo,hpo,hpl,hql,q⟩:=h
  refine ⟨_,‹A2 (A7 2 a6L.nd (A8 (b9v T) T.g_z1j T.F_z1j.kp T.b_z1j .nil (A0 0 (A0 (B7 A1) A1)))) (A2 (A7 3 a6L.nd (A8 (c1w T) T.g_z1t T.F_z1t.kp T.b_z1t .nil (A0 0 A1))) (A2 (A7 4 a6L.nd (A8 (c1A T) T.g_z1s T.F_z1s.kp T.b_z1s .nil (A0 0 (A0 1 (A0 2 (A0 3 (A0 D1 A1))))))) (A2 (B9 (B4 3) (A5 5 a6L.nd) (A3 (D2 (G4 4 5 (C0 (A0 B0 (A0 A4 A1))))))) (A3 (A9 (C0 (A0 2 (A0 3 (A0 4 A1)))))))))›,?_⟩
  rw [show start b9U [V.ref R,V.ref P0]=[some (V.ref R),some (V.ref P0),none,none,none,none] from rfl]
  simp only [a1l,a1P,a0v,a0i,a0k,Qa,a2M,a0q,Qh,a0l,Qf,Qg,Qb,a1O,a0t,a1p,a0e]
  refine ⟨Xb _,fun E hE=>?_⟩
  obtain ⟨H1,e1,s1,h1⟩:=a0N hE (.lst []);rw [e1]
  refine ⟨R,E,xs,rs,[],rfl,s1 _ _ hR,hA.same s1,hO,hrl,SqL.of h1,Xb _,fun F H2 s2 hFn hF2=>?_⟩
  have s02:=s1.trans s2
  refine ⟨R,xs,rs,po,rfl,s02 _ _ hR,hA.same s02,hO,hrl,hpo,hpl,fun L St H3 s3 hLn hL3 hSt=>?_⟩
  have s03:=s02.trans s3
  have hSm:∀q,q∈St↔q∈sts rs:=a7I hSt
  have hSn:St.Nodup:=hSt.1.nodup_iff.mpr (a0Z (sts rs) Zg)
  have hSl:St.length≤18:=Qi (a1s hSn fun x hx=>hpo x ((hSm x).mp hx)) hpl
  intro kd hkd
  obtain ⟨H4,e4,s4,h4⟩:=a0N hkd (.dK []);rw [e4]
  have s04:=s03.trans s4
  have hF4:H4 F=some (.dK (dv (FIN (rs.map srW) []))):=(s3.trans s4) _ _ hF2
  refine ⟨R,P0,F,L,kd,xs,ps,rs,pl,a2Y rs,St,[],rfl,s04 _ _ hR,hA.same s04,hO,by omega,s04 _ _ hP,a0y.same s04 hPs,hPo,a8G hF4,s4 _ _ hL3,hSn,hSl,fun q hq=>hql q (hpo q ((hSm q).mp hq)),h4,Xb _,fun Rk T1 n H5 s5 hRn hT hTn hfr hIT=>?_⟩
  have hAT:b1g rs pl (a2Y rs) T1:=⟨hTn,n,St,hSm,hfr,hIT⟩
  have hTk:=b1s hAT
  have hTl:T1.length≤18:=by
   have:=a1s hTn fun x hx=>hpo x (hTk x hx)
   rw [Qd] at this;omega
  have hL5:=s5 _ _ (s4 _ _ hL3)
  have hz:=b4G hT hTn hTk
  simp only [a0s]
  refine ⟨⟨_,SqL.of hL5⟩,?_⟩
  refine a0S (K:=K) (a:=L) (xs:=St.map V.str) (fun i σ H'=>∃(x5:Option V),σ=[some (V.ref R),some (V.ref P0),some (V.ref F),some (V.ref L),some (V.ref Rk),x5]∧a0h H4 H'∧RkO H' Rk (T1.length+i) (b3e rs T1 (St.take i)))
   ⟨_,rfl,s5,hz⟩ (fun i σ H' _ ⟨_,_,s,_⟩=>SqL.of (s _ _ (s4 _ _ hL3))) ?_ ?_
  ·rintro i v σ H6 hi ⟨x5,rfl,s6,kvs,hk,hkl,hkv⟩
   have hil:i < St.length:=by simpa using (Qn.mp hi).1
   have ex:v=V.str St[i]:=by
    rw [Ql,Qc hil] at hi
    exact (Option.some.inj hi).symm
   subst ex
   have etk:∀x,x∈St.take (i+1)↔x∈St.take i∨x=St[i]:=fun x=>by rw [Qp hil,Qv,Xo]
   generalize St[i]=q0 at etk
   simp only [a0l,a3n,a6y,a0k,Qf,Qg,Qb,Qa,a3J,a0i,tC,a0q,a0e,a0s]
   refine ⟨.inl ⟨_,.inl hk⟩,by simp only [Qm,Qr];decide,fun p hp=>?_⟩
   obtain ⟨H7,e7,s7,h7⟩:=a0N hp (.tup [V.str "open",V.int 0]);rw [e7]
   have s47:=s6.trans s7
   have ne:∀x,x≠q0→b3e rs T1 (St.take (i+1)) x=b3e rs T1 (St.take i) x:=fun x n=>by
    have:x∈St.take (i+1)↔x∈St.take i:=⟨fun z=>((etk x).mp z).resolve_right n,fun z=>(etk x).mpr (.inl z)⟩
    unfold b3e;simp only [this]
   refine ⟨kvs,(Sum.inr q0:Key),s7 _ _ hk,rfl,Xj (show kvs.length≤1000 by omega) ‹dc›,fun v hv=>?_,fun hv=>?_⟩
   ·refine ⟨_,rfl,s47,kvs,s7 _ _ hk,by omega,fun x=>?_⟩
    by_cases e:x=q0
    ·rcases hkv x with ⟨a1,_⟩ | ⟨b,w,a1,a2,a3⟩
     ·rw [e,hv] at a1;cases a1
     ·refine .inr ⟨b,w,a1,?_,s7 _ _ a3⟩
      rw [←a2,e]
      unfold b3e at a2 ⊢
      by_cases m:q0∈T1.map (·.1)
      ·rw [if_pos m,if_pos m]
      ·rw [e,if_neg m] at a2
       rw [if_neg m,if_neg m,if_pos ((etk q0).mpr (.inr rfl))]
       by_cases m2:q0∈St.take i
       ·rw [if_pos m2]
       ·rw [if_neg m2] at a2;cases a2
    ·rw [ne x e]
     exact (hkv x).imp id fun ⟨b,w,a1,a2,a3⟩=>⟨b,w,a1,a2,s7 _ _ a3⟩
   ·have lp:=a0K kvs (Sum.inr q0:Key) (V.ref p)
    refine ⟨_,rfl,fun c o e=>?_,_,a0d,by omega,fun x=>?_⟩
    ·rw [a0a (a0b e hRn)];exact s47 _ _ e
    rw [a1I]
    by_cases e:x=q0
    ·rw [if_pos (by rw [e])]
     refine .inr ⟨p,(("open":Str),0),rfl,?_,?_⟩
     ·rcases hkv q0 with ⟨_,a2⟩ | ⟨b,w,a1,_⟩
      ·unfold b3e at a2 ⊢
       rw [e]
       by_cases m:q0∈T1.map (·.1)
       ·rw [if_pos m] at a2;cases a2
       ·rw [if_neg m,if_pos ((etk q0).mpr (.inr rfl))]
      ·rw [hv] at a1;cases a1
     ·rw [a0a (a0u h7 (s7 _ _ hk) ‹iz›)];exact h7
    ·rw [if_neg (fun z=>e (Sum.inr.inj z)),ne x e]
     refine (hkv x).imp id fun ⟨b,w,a1,a2,a3⟩=>⟨b,w,a1,a2,?_⟩
     rw [a0a (a0u a3 hk ‹iz›)];exact s7 _ _ a3
  ·rintro σ H6 ⟨x5,rfl,s6,hz6⟩
   rw [Qd,Xr,b7I hSm hTk] at hz6
   simp only [a0X,a3J,a0i,a0k,Qb,Qa,a0q,a0e]
   refine ⟨by simp only [Qm,Qr];decide,fun d hd=>?_⟩
   obtain ⟨H7,e7,s7,h7⟩:=a0N hd (.tup [V.ref F,V.ref L,V.ref Rk]);rw [e7]
   have s47:=s6.trans s7
   obtain ⟨kvs,b1,b2,b3⟩:=hz6.same s7
   exact q d St T1 H7 (s04.trans s47) (none_of (s04.trans s6) hd) ⟨F,L,Rk,h7,s47 _ _ hF4,s47 _ _ (s4 _ _ hL3),hSt,⟨kvs,b1,by omega,b3⟩,hAT⟩
theorem a8A (T:Txt K mg t):a0R P w K mg base CX0 1 t.f_z16 t.fd_z16 ["self","label","head","body"] (c0c K):=by
 refine T.F_z16.ok c0v (fun vs H Q E h=>?_) (fun cdv A outer s H vs Q E hr h=>?_)
 ·obtain ⟨x,C,dx,lb,hd,b,bs,rfl,hx,hC,hb,q⟩:=h;rfl
 ·obtain ⟨x,C,dx,lb,hd,b,bs,rfl,hx,hC,hb,q⟩:=h
  refine ⟨_,‹A2 (E9 0 1) (A2 (E9 0 2) (A3 (E9 0 (E6 a2G T.z_tuple a2o (A0 3 A1)))))›,?_⟩
  rw [show start c0M [V.ref x,lb,hd,V.ref b]=[some (V.ref x),some (lb),some (hd),some (V.ref b)] from rfl]
  obtain ⟨cl,n1,n2,n3⟩:=hC
  simp only [a1l,c2x,a0k,Qb,Qa,tCB,a0i,a0q,a0e]
  have cut:∀(H0:Hp),(∀c o,H c=some o→c≠x→H0 c=some o)→H0 x=some (.ins C dx (a1B "head" hd (a1B "label" lb [])))→∀t,H0 t=some (.tup bs)→t≠x→(∀c o,H c=some o→c≠x→upd H0 x (.ins C dx (a9H lb hd t)) c=some o)∧a2e (upd H0 x (.ins C dx (a9H lb hd t))) x C lb hd bs:=fun H0 k0 h0 t ht htx=>
   ⟨fun c o e hc=>by rw [a0a hc];exact k0 c o e hc,dx,t,a0d,by rw [a0a htx];exact ht⟩
  refine ⟨x,C,dx,_,rfl,hx,cl,n1,by show 0 < 1000;decide,x,C,dx,_,rfl,a0d,cl,n2,by show 1 < 1000;decide,?_⟩
  rw [b7G]
  obtain ⟨H1,e1,k1,h1⟩:∃H',upd H x (.ins C dx (a1B "head" hd (a1B "label" lb [])))=H'∧(∀c o,H c=some o→c≠x→H' c=some o)∧H' x=some (.ins C dx (a1B "head" hd (a1B "label" lb []))):=⟨_,rfl,fun c o e hc=>by rw [a0a hc];exact e,a0d⟩
  rw [e1]
  have hlen:(a1B "head" hd (a1B "label" lb [])).length < 1000:=by
   rw [show a1B "head" hd (a1B "label" lb [])=([("label",lb),("head",hd)]:List (Str×V)) from by
    show (if ("label":Str)="head" then _ else _)=_
    rw [if_neg ‹dk›];rfl]
   show 2 < 1000;decide
  rcases hb with hb | ⟨hb,hb'⟩
  ·have hb1:SqL K H1 b bs:=by
    rcases hb with (hb | ⟨o,hb⟩) | hb
    ·exact .inl (.inl (k1 _ _ hb (a0u hb hx ‹iz›)))
    ·exact .inl (.inr ⟨o,k1 _ _ hb (a0u hb hx ‹iz›)⟩)
    ·exact .inr hb
   refine ⟨b,bs,rfl,.inl ⟨hb1,fun t ht=>?_⟩⟩
   have htx:t≠x:=fun z=>by rw [z,h1] at ht;cases ht
   obtain ⟨H2,e2,s2,h2⟩:=a0N ht (.tup bs);rw [e2]
   obtain ⟨a1,a2⟩:=cut H2 (fun c o e hc=>s2 _ _ (k1 c o e hc)) (s2 _ _ h1) t h2 htx
   exact ⟨x,C,dx,_,rfl,s2 _ _ h1,cl,n3,hlen,q _ a1 a2⟩
  ·have hbx:b≠x:=a0u hb' hx ‹iz›
   have hb1:=k1 _ _ hb' hbx
   refine ⟨b,bs,rfl,.inr ⟨SqT.of hb1,?_⟩⟩
   obtain ⟨a1,a2⟩:=cut H1 k1 h1 b hb1 hbx
   exact ⟨x,C,dx,_,rfl,h1,cl,n3,hlen,q _ a1 a2⟩
theorem c2c (T:Txt K mg t):a0R P w K mg base CX0 2 t.f_z18 t.fd_z18 ["self","head"] (b6u K t.C_Fact):=by
 refine T.F_z18.ok c2i (fun vs H Q E h=>?_) (fun cdv A outer s H vs Q E hr h=>?_)
 ·obtain ⟨x,dx,hd,rfl,hx,q⟩:=h;rfl
 ·obtain ⟨x,dx,hd,rfl,hx,q⟩:=h
  refine ⟨_,‹A3 (D2 (J3 (D6 (.ref t.C_Rule) T.g_Rule rfl) T.cm_Rule (a8A T) (hr.mono ‹dc›) T.b_z16 .nil a9Z (A0 0 (A0 B0 (A0 1 (A0 (C0 A1) A1))))))›,?_⟩
  rw [show start b8G [V.ref x,hd]=[some (V.ref x),some (hd)] from rfl]
  simp only [a3n,b5n,tC,a0i,a0k,Qa,Qb,a3J,a0q,Qh,a0e]
  refine ⟨(by trivial),by decide,fun b hb=>?_⟩
  obtain ⟨H1,e1,s1,h1⟩:=a0N hb (.tup []);rw [e1]
  refine ⟨x,t.C_Fact,dx,_,hd,b,[],rfl,s1 _ _ hx,⟨T.cl_Fact,T.nf_Fact_label,T.nf_Fact_head,T.nf_Fact_body⟩,.inr ⟨SqT.of h1,h1⟩,fun H' k r=>?_⟩
  exact q _ (fun c o e hc=>k c o (s1 _ _ e) hc) r
theorem b5c (T:Txt K mg t):a0R P w K mg base CX0 4 t.f_z1x t.fd_z1x ["_law_row_here"] (a7i K t):=by
 refine T.F_z1x.ok a6h (fun vs H Q E h=>?_) (fun cdv A outer s H vs Q E hr h=>?_)
 ·obtain ⟨p,b,r,rfl,hro,hp,hb,q⟩:=h;rfl
 ·obtain ⟨p,b,r,rfl,hro,hp,hb,q⟩:=h
  refine ⟨_,‹A2 (G7 0 (F4 (C3 (A5 1 a6h.nd) (C3 (A5 2 a6h.nd) (C3 (A5 3 a6h.nd) (C3 (A5 4 a6h.nd) E3)))))) (A2 (B3 (B1 (a0U hr.units) 1 B0 (a0p _)) (A3 (A9 (F5 T.mk_Fact (c2c T) T.g_Fact T.b_z18 (A0 3 A1)))) B8) (A2 (B3 (B1 (a0U hr.units) 1 B0 (a0p _)) (A3 (A9 (F5 T.mk_Sure (a8A T) T.g_Sure T.b_z16 (A0 2 (A0 3 (A0 (E6 a1W T.z_list a1G (A0 4 A1)) A1)))))) B8) (A2 (B3 (B1 (a0U hr.units) 1 B0 (a0p _)) (A3 (A9 (F5 T.mk_Most (a8A T) T.g_Most T.b_z16 (A0 2 (A0 3 (A0 4 A1)))))) B8) (A3 (A9 (F5 T.mk_Block (a8A T) T.g_Block T.b_z16 (A0 2 (A0 3 (A0 4 A1)))))))))›,?_⟩
  rw [show start c1h [V.ref p]=[some (V.ref p),none,none,none,none] from rfl]
  obtain ⟨so,lb,hd,bd⟩:=r
  dsimp only at hp hb
  simp only [a1l,a1P,a0k,Qa,b4a,a4E,a0l,b4S,a2I,a1h,tOp,Qf,Qg,Qb,tC,a0X,b6w,a0i,a0q,Qh,a0e,a1q,tCB]
  refine ⟨p,_,rfl,SqT.of hp,rfl,_,_,rfl,_,_,rfl,_,_,rfl,_,_,rfl,rfl,?_⟩
  have hh:∀{H0:Hp} {x dx:Addr} {C:Addr},H0 x=none→H0 dx=none→dx≠x→(a0h H0 (upd (upd H0 dx (.own x)) x (.ins C dx [])))∧(upd (upd H0 dx (.own x)) x (.ins C dx [])) x=some (.ins C dx []):=fun {H0 x dx C} h1 h2 h3=>
   ⟨fun c o e=>by rw [a0a (a0b e h1),a0a (a0b e h2)];exact e,a0d⟩
  have ez:so=0→bd=[]∧lb="":=hro.2.1
  simp only [a1J,a1k,decide_eq_true_eq]
  match so,hro.1,ez with
  | 0,_,ez=>
   refine a1Q (fun _=>?_) (fun c=>absurd rfl c)
   intro x dx nx ndx ne
   obtain ⟨s,hx⟩:=hh (C:=t.C_Fact) nx ndx ne
   refine ⟨x,dx,_,rfl,hx,fun H' k r=>⟨rfl,q x H' (fun c o e=>k c o (s _ _ e) (a0b e nx)) ?_⟩⟩
   obtain ⟨e1,e2⟩:=ez rfl
   subst e1 e2
   exact r
  | 1,_,_=>
   refine a1Q (fun c=>absurd c ‹dk›) (fun _=>a1Q (fun _=>?_) (fun c=>absurd rfl c))
   refine ⟨b,_,rfl,.inr (SqT.of hb),fun l hl=>?_⟩
   obtain ⟨H1,e1,s1,h1⟩:=a0N hl (.lst (bd.map V.str));rw [e1]
   intro x dx nx ndx ne
   obtain ⟨s,hx⟩:=hh (C:=t.C_Sure) nx ndx ne
   exact ⟨x,t.C_Sure,dx,_,_,l,_,rfl,hx,⟨T.cl_Sure,T.nf_Sure_label,T.nf_Sure_head,T.nf_Sure_body⟩,.inl (SqL.of (s _ _ h1)),fun H' k r=>⟨rfl,q x H' (fun c o e=>k c o (s _ _ (s1 _ _ e)) (a0b (s1 _ _ e) nx)) r⟩⟩
  | 2,_,_=>
   refine a1Q (fun c=>absurd c ‹dk›) (fun _=>a1Q (fun c=>absurd c ‹dk›) (fun _=>a1Q (fun _=>?_) (fun c=>absurd rfl c)))
   intro x dx nx ndx ne
   obtain ⟨s,hx⟩:=hh (C:=t.C_Most) nx ndx ne
   exact ⟨x,t.C_Most,dx,_,_,b,_,rfl,hx,⟨T.cl_Most,T.nf_Most_label,T.nf_Most_head,T.nf_Most_body⟩,.inr ⟨SqT.of (s _ _ hb),s _ _ hb⟩,fun H' k r=>⟨rfl,q x H' (fun c o e=>k c o (s _ _ e) (a0b e nx)) r⟩⟩
  | 3,_,_=>
   refine a1Q (fun c=>absurd c ‹dk›) (fun _=>a1Q (fun c=>absurd c ‹dk›) (fun _=>a1Q (fun c=>absurd c ‹dk›) (fun _=>?_)))
   intro x dx nx ndx ne
   obtain ⟨s,hx⟩:=hh (C:=t.C_Block) nx ndx ne
   exact ⟨x,t.C_Block,dx,_,_,b,_,rfl,hx,⟨T.cl_Block,T.nf_Block_label,T.nf_Block_head,T.nf_Block_body⟩,.inr ⟨SqT.of (s _ _ hb),s _ _ hb⟩,fun H' k r=>⟨rfl,q x H' (fun c o e=>k c o (s _ _ e) (a0b e nx)) r⟩⟩
theorem b0P (T:Txt K mg t):a0R P w K mg base CX0 1 t.f_z1v t.fd_z1v ["_law_cell","_law_k","_law_signs"] b8E:=by
 refine T.F_z1v.ok a3x (fun vs H Q E h=>?_) (fun cdv A outer s H vs Q E hr h=>?_)
 ·obtain ⟨c,k,sg,rfl,hsg,q⟩:=h;rfl
 ·obtain ⟨c,k,sg,rfl,hsg,q⟩:=h
  refine ⟨_,‹A2 (A7 3 a3x.nd (A6 a0r A4 (A6 a0B 0 A4))) (A2 (A7 4 a3x.nd (A6 a0B (A6 a0M 0 A4) 3)) (A2 (A7 5 a3x.nd B0) (A2 (B9 (E4 (A0 3 A1)) (A5 6 a3x.nd) (A2 (A7 7 a3x.nd (A6 a0r (A6 a0M 0 A4) (A6 a4l A4 6))) (D8 (B3 (B1 (a0U hr.units) 6 4 (a0p _)) (A3 (A7 7 a3x.nd (A6 a0r 7 1))) B8) (A3 (A7 5 a3x.nd (A6 a0r 5 (B6 a0z 2 (A6 a0B 7 (C4 a1n T.z_len a1m (A0 2 A1)))))))))) (A3 (A9 5)))))›,?_⟩
  rw [show start c1c [V.int c,V.int k,sv sg]=[some (V.int c),some (V.int k),some (sv sg),none,none,none,none,none] from rfl]
  have m8:=a1y (i:=c) (j:=8) ‹dc›
  simp only [a1l,a1P,tOp,tC,a0k,Qa,a0l,Qf,Qg,Qb,a0t,a5L,a0i,a0q,a0e,a0W,a6P,a1d]
  refine ⟨by decide,⟨by decide,by decide⟩,by omega,_,rfl,by omega,by omega,?_⟩
  refine a1T (n:=(1+c % 8).toNat) (lo:=0) (fun i σ H'=>H=H'∧∃(j st:Option V),σ=[some (V.int c),some (V.int k),some (sv sg),some (V.int (1+c % 8)),some (V.int (c / 8 % (1+c % 8))),some (sv ((Xz i).map fun (j:Nat)=>sg.getD (((c / 64+5 * (j:Int)+(if (j:Int)=c / 8 % (1+c % 8) then k else 0)) % (sg.length:Int)).toNat) 0)),j,st]) ⟨rfl,_,_,rfl⟩ ?_ ?_
  ·rintro i σ H' hi ⟨rfl,j,st,rfl⟩
   obtain ⟨l,el⟩:∃l,((Xz i).map fun (j:Nat)=>sg.getD (((c / 64+5 * (j:Int)+(if (j:Int)=c / 8 % (1+c % 8) then k else 0)) % (sg.length:Int)).toNat) 0)=l:=⟨_,rfl⟩
   have hl:l.length=i:=by rw [←el,Qd,Zv]
   rw [Uc,Xe,Xk,Jg,el,Int.zero_add]
   simp only [a0l,a1l,a1P,tOp,a0k,Qf,Qg,Qa,tC,Qb,a0e,a0W,b7z,a6P,a1d]
   refine ⟨⟨by decide,by decide⟩,.inl ‹dc›,fun σ' H'=>H=H'∧∃n:Int,n=c / 64+5 * (i:Int)+(if (i:Int)=c / 8 % (1+c % 8) then k else 0)∧σ'=[some (V.int c),some (V.int k),some (sv sg),some (V.int (1+c % 8)),some (V.int (c / 8 % (1+c % 8))),some (sv l),some (V.int (i:Int)),some (V.int n)],?_,?_⟩
   ·simp only [a2I,a1h,tOp,a0k,Qb,Qa,a1P,a0l,Qf,Qg,a0e,a1d,a1q,a2K,a1k,decide_eq_true_eq]
    exact a1Q (fun z=>⟨(by trivial),_,by rw [if_pos z],rfl⟩) (fun z=>⟨(by trivial),_,by rw [if_neg z,Int.add_zero],rfl⟩)
   rintro σ' H' ⟨rfl,n,hn,rfl⟩
   rw [←hn]
   simp only [a1P,tOp,a0k,Qb,Qa,tCB,a0i,a0q,a0l,Qf,Qg,a0e,b1n,a0W,b6H,a1A]
   have hm:=a1y (i:=n) (j:=((mk sg).length:Int)) (by rw [a0A];omega)
   obtain ⟨d,e,hv,hd⟩:=a3E (xs:=(mk sg).cps.toList) hm.1 (by rw [show ((mk sg).cps.toList.length:Int)=((mk sg).length:Int) by rw [a0A]];exact hm.2)
   have hd':sg.getD ((n % (sg.length:Int)).toNat) 0=d:=by
    have hd2:sg[(n % ((mk sg).length:Int)).toNat]?=some d:=hd
    rw [a0A] at hd2
    rw [Xs,hd2];rfl
   rw [hd']
   refine ⟨a3O (by rw [a0A];omega),by rw [a0A];omega,a3O (by rw [a0A];omega),d,e,?_,(by trivial),_,_,by rw [show (mk l++(⟨#[d]⟩:Str))=mk (l++[d]) from a2E l [d]]⟩
   show (mk l).length+1≤sizeLine
   rw [a0A]
   exact Qi (show l.length+1≤1000 by omega) ‹dc›
  ·rintro σ H' ⟨rfl,j,st,rfl⟩
   simp only [a0X,a0k,Qb,Qa,a0e]
   exact q
theorem b1L (T:Txt K mg t):a0R P w K mg base CX0 2 t.f_z1i t.fd_z1i ["_law_cell"] b3p:=by
 refine T.F_z1i.ok c0l (fun vs H Q E h=>?_) (fun cdv A outer s H vs Q E hr h=>?_)
 ·obtain ⟨c,rfl,q⟩:=h;rfl
 ·obtain ⟨c,rfl,q⟩:=h
  refine ⟨_,‹A3 (A9 (C1 (B2 (a0c a8T) b7w ["_law_k","_law_cell"] [none,some 0]) (E4 (A0 A4 A1)) (A5 0 (show Xg (["_law_k","_law_cell"]:List Str) by decide+kernel)) D3 (A8 (b0P T) T.g_z1v T.F_z1v.kp T.b_z1v .nil (A0 (A6 a0M 1 A4) (A0 0 (A0 B0 A1))))))›,?_⟩
  rw [show start b7w [V.int c]=[some (V.int c)] from rfl]
  simp only [a0X,a0o,a5L,a0i,tC,a0q]
  refine ⟨12,rfl,by decide,by decide,?_⟩
  refine a4j a3e (Qi (show (12:Int).toNat≤1000 by decide) ‹dc›) [some (V.int c)] rfl (fun i v=>∃z,v=.str z∧OkS z) (fun _ _=>trivial) (fun i H' R hi s hR=>?_) (fun D H' ys hDn s hD hl hv=>?_)
  ·simp only [a0v,a0i,tOp,a0k,Qb,Qa,tC,a0q,Qh,a0e,a0W,a6P]
   rw [b6x]
   refine ⟨⟨by decide,by decide⟩,_,_,c3f,rfl,by decide,hR _ _ (a0h.refl _) ⟨_,rfl,OkS.of (fun x hx=>b7b (a3o ‹dc› x hx)) (Qi (a2z _ _ _).2 ‹dc›)⟩⟩
  ·obtain ⟨zs,rfl,ho⟩:=a7s hv
   exact q D zs H' s hDn hD (by simpa using hl) ho
theorem a8t (T:Txt K mg t):a0R P w K mg base CX0 1 t.f_z22 t.fd_z22 ["_law_cell","_law_k"] c2p:=by
 refine T.F_z22.ok b1u (fun vs H Q E h=>?_) (fun cdv A outer s H vs Q E hr h=>?_)
 ·obtain ⟨c,k,rfl,q⟩:=h;rfl
 ·obtain ⟨c,k,rfl,q⟩:=h
  refine ⟨_,‹A2 (A7 2 b1u.nd (A6 a0B (A6 a0r (A6 a0r 0 (A6 a4l A4 1)) A4) A4)) (A2 (A7 2 b1u.nd (A6 a0B (A6 a4l (A6 a0B (A6 a4l 2 2) A4) A4) A4)) (A3 (A9 (A6 a0B (A6 a4l (A6 a0r 2 A4) (A6 a0r 2 A4)) A4))))›,?_⟩
  rw [show start c1O [V.int c,V.int k]=[some (V.int c),some (V.int k),none] from rfl]
  simp only [a1l,a1P,tOp,a0k,Qa,tC,Qb,a0l,Qf,Qg,a0X,a0e,a0W,b7z,a1d]
  have h0:=a1y (i:=c+7919 * k+12345) (j:=2147483629) ‹dc›
  generalize (c+7919 * k+12345) % 2147483629=n at h0 ⊢
  have h1:=a1y (i:=n * n) (j:=2147483629) ‹dc›
  generalize n * n % 2147483629=m at h1 ⊢
  have h2:=a1y (i:=m * 48271) (j:=2147483647) ‹dc›
  generalize m * 48271 % 2147483647=l at h2 ⊢
  exact ⟨.inl ‹dc›,by decide,.inl ‹om›,by decide,.inr ‹dc›,by decide,.inl ‹om›,by decide,q _ (Zj _ ‹dc›)⟩
theorem b9t (T:Txt K mg t):a0R P w K mg base CX0 3 t.f_z1p t.fd_z1p ["_law_cell","_law_many"] b7u:=by
 refine T.F_z1p.ok a4D (fun vs H Q E h=>?_) (fun cdv A outer s H vs Q E hr h=>?_)
 ·obtain ⟨c,m,rfl,hm,q⟩:=h;rfl
 ·obtain ⟨c,m,rfl,hm,q⟩:=h
  refine ⟨_,‹A2 (A7 2 a4D.nd (A8 (b1L T) T.g_z1i T.F_z1i.kp T.b_z1i .nil (A0 0 A1))) (A2 (A7 3 a4D.nd (B7 A1)) (A2 (B9 (E4 (A0 1 A1)) (A5 4 a4D.nd) (A2 (A7 5 a4D.nd (A8 (a8t T) T.g_z22 T.F_z22.kp T.b_z22 .nil (A0 0 (A0 (A6 a0r A4 4) A1)))) (A2 (A7 6 a4D.nd (A6 a0B 5 A4)) (A2 (A7 7 a4D.nd (A6 a0B (A6 a0M 5 A4) A4)) (A3 (B3 (B1 (a2A hr.units) 6 7 (a0p _)) (A3 (D2 (D0 Xy Xv Xw a0H 3 (A0 (C0 (A0 (B6 a0z 2 (C4 (b2b rfl) T.z_min b0K (A0 6 (A0 7 A1)))) (A0 (B6 a0z 2 (C4 (b2y rfl) T.z_max b2O (A0 6 (A0 7 A1)))) A1))) A1)))) B8)))))) (A3 (A9 3))))›,?_⟩
  rw [show start b8B [V.int c,V.int m]=[some (V.int c),some (V.int m),none,none,none,none,none,none] from rfl]
  simp only [a1l,a1P,a0v,a0i,a0k,Qa,a0q,Qh,a0l,a2M,Qf,Qg,a0t,a5L,Qb,a0e]
  refine ⟨c,rfl,fun La ls H1 s1 hLn hL hl12 hlo=>?_⟩
  simp only []
  refine ⟨by decide,fun D hD=>⟨_,rfl,by omega,by omega,?_⟩⟩
  obtain ⟨H2,e2,s2,h2⟩:=a0N hD (.lst []);rw [e2]
  have hDn:H D=none:=none_of s1 hD
  have hLD:La≠D:=a0b hL hD
  refine a1T (n:=m.toNat) (lo:=0) (fun i σ H'=>∃(ps:List V) (pl:List (Str×Str)) (x4 x5 x6 x7:Option V),σ=[some (V.int c),some (V.int m),some (V.ref La),some (V.ref D),x4,x5,x6,x7]∧a0h H H'∧H' La=some (.lst (ls.map V.str))∧H' D=some (.lst ps)∧a0y H' ps pl∧pl.length≤i∧b4e pl)
   ⟨[],[],_,_,_,_,rfl,s1.trans s2,s2 _ _ hL,h2,⟨[],rfl,rfl,fun i a p e=>by simp at e⟩,Qj _,fun _ h=>by cases h⟩ ?_ ?_
  ·rintro i σ H3 hi ⟨ps,pl,x4,x5,x6,x7,rfl,s3,hL3,hD3,hP3,hpl,hpo⟩
   simp only [a0l,a1l,a1P,a0v,a0i,a0k,Qf,Qg,Qa,tOp,tC,Qb,a0q,Qh,a2I,a1h,a3n,tBM,a3J,tCB,a0e,a1q,a1d,a3T,a0W,a6P,a5n,a1k,Ye,decide_eq_false_iff_not]
   intro r hr
   have m1:=a1y (i:=r) (j:=12) ‹dc›
   have m2:=a1y (i:=r / 12) (j:=12) ‹dc›
   generalize r % 12=x at m1
   generalize r / 12 % 12=y at m2
   have hpsl:ps.length≤60:=by
    obtain ⟨as,rfl,hal,_⟩:=hP3
    rw [Qd];omega
   refine ⟨by decide,⟨by decide,by decide⟩,by decide,a1Q (fun c1=>?_) (fun c1=>⟨ps,pl,_,_,_,_,rfl,s3,hL3,hD3,hP3,by omega,hpo⟩)⟩
   have pk:∀n:Int,0≤n∧n < 12→∃z,atI (ls.map V.str) n=some (.str z)∧OkS z:=fun n hn=>by
    obtain ⟨v,e,hv,_⟩:=a3E (xs:=ls.map V.str) (i:=n) hn.1 (by rw [Qd,hl12];exact hn.2)
    obtain ⟨z,hz,rfl⟩:=Qk.mp hv
    exact ⟨z,e,hlo z hz⟩
   obtain ⟨z1,ez1,o1⟩:=pk (if y < x then y else x) (by split<;>omega)
   obtain ⟨z2,ez2,o2⟩:=pk (if y > x then y else x) (by split<;>omega)
   refine ⟨.inl ⟨rfl,_,SqL.of hD3⟩,x,y,rfl,a0F (SqL.of hL3) ez1 ⟨x,y,rfl,a0F (SqL.of hL3) ez2 ⟨by simp only [Qm,Qr];decide,fun p hp=>?_⟩⟩⟩
   obtain ⟨H4,e4,s4,h4⟩:=a0N hp (.tup [V.str z1,V.str z2]);rw [e4]
   have hD4:=s4 _ _ hD3
   have hpD:p≠D:=fun z=>by rw [z,hD3] at hp;cases hp
   refine ⟨D,_,_,rfl,rfl,hD4,Xj (show _≤1000 by omega) ‹dc›,?_⟩
   have up:∀b o,b≠D→H4 b=some o→upd H4 D (.lst (ps++[V.ref p])) b=some o:=fun b o hb e=>by rw [a0a hb];exact e
   refine ⟨ps++[V.ref p],pl++[(z1,z2)],_,_,_,_,rfl,fun b o e=>up _ _ (a0b e hDn) (s4 _ _ (s3 _ _ e)),up _ _ hLD (s4 _ _ hL3),a0d,a5K (a5I (a0y.same s4 hP3) ⟨_,hD4⟩ up) (up _ _ hpD h4),by simp;omega,fun w hw=>?_⟩
   rcases Qv.mp hw with z | z
   ·exact hpo w z
   ·rw [Xo.mp z];exact ⟨o1.1,o2.1⟩
  ·rintro σ H3 ⟨ps,pl,x4,x5,x6,x7,rfl,s3,hL3,hD3,hP3,hpl,hpo⟩
   simp only [a0X,a0k,Qb,Qa,a0e]
   exact q D ps pl H3 s3 hDn hD3 hP3 ‹om› hpo
theorem b9N (T:Txt K mg t):a0R P w K mg base CX0 4 t.f_z02 t.fd_z02 ["_law_script"] (b3P K):=by
 refine T.F_z02.ok a4n (fun vs H Q E h=>?_) (fun cdv A outer s H vs Q E hr h=>?_)
 ·obtain ⟨a,ns,rfl,hS,hl,q⟩:=h;rfl
 ·obtain ⟨a,ns,rfl,hS,hl,q⟩:=h
  refine ⟨_,‹A2 (A7 1 a4n.nd (A8 (b1L T) T.g_z1i T.F_z1i.kp T.b_z1i .nil (A0 (A8 (a3g T) T.g_z1c T.F_z1c.kp T.b_z1c .nil (A0 0 (A0 A4 A1))) A1))) (A2 (A7 2 a4n.nd (A8 (a3g T) T.g_z1c T.F_z1c.kp T.b_z1c .nil (A0 0 (A0 A4 A1)))) (A2 (B3 (B1 b5M (A6 a0B (A8 (a3g T) T.g_z1c T.F_z1c.kp T.b_z1c .nil (A0 0 (A0 A4 A1))) A4) A4 (a0p _)) (A3 (A9 (A8 (b9t T) T.g_z1p T.F_z1p.kp T.b_z1p .nil (A0 (A8 (a3g T) T.g_z1c T.F_z1c.kp T.b_z1c .nil (A0 0 (A0 A4 A1))) (A0 (A6 a0B 2 A4) A1))))) B8) (A2 (A7 3 a4n.nd (B7 A1)) (A2 (B9 (E4 (A0 A4 A1)) (A5 4 a4n.nd) (A3 (B9 (J4 rfl T.z_range (A0 (A6 a0r 4 A4) (A0 A4 A1))) (A5 5 a4n.nd) (D8 (B3 (B1 (a0U hr.units) (A6 a0B 2 A4) A4 (a0p _)) (A3 (D2 (D0 Xy Xv Xw a0H 3 (A0 (C0 (A0 (B6 a0z 1 4) (A0 (B6 a0z 1 5) A1))) A1)))) B8) (A3 (A7 2 a4n.nd (A6 a0M 2 A4))))))) (A3 (A9 3))))))›,?_⟩
  rw [show start c2m [V.ref a]=[some (V.ref a),none,none,none,none,none] from rfl]
  simp only [a1l,a1P,a0v,a0i,a0k,Qa,tC,a0q,Qh,a0l,Qf,Qg,a2I,a1h,tOp,a0X,Qb,a0e,a1q,a2M,a0t,a5L]
  refine ⟨a,ns,0,rfl,hS,hl,by decide,by decide,fun c0 _=>?_⟩
  refine ⟨c0,rfl,fun La ls H1 s1 hLn hL hl12 hlo=>?_⟩
  have hS1:SqL K H1 a (ns.map V.int):=s1.seq hS
  simp only []
  refine ⟨a,ns,2,rfl,hS1,hl,by decide,by decide,fun c2 _=>?_⟩
  simp only [a0W]
  refine ⟨a,ns,1,rfl,hS1,hl,by decide,by decide,fun c1 _=>?_⟩
  simp only [a0W,a8e,a1k,decide_eq_true_eq]
  refine ⟨by decide,a1Q (fun cc=>?_) (fun cc=>?_)⟩
  ·refine ⟨a,ns,0,rfl,hS1,hl,by decide,by decide,fun c3 _=>?_⟩
   have m25:=a1y (i:=c2) (j:=25) ‹dc›
   simp only []
   exact ⟨by decide,c3,c2 % 25,rfl,by omega,fun D ps pl H' s' hDn hD hP hpl hpo=>q D ps pl H' (s1.trans s') (none_of s1 hDn) hD hP hpl hpo⟩
  refine ⟨by decide,fun D hD=>⟨11,rfl,by decide,by decide,?_⟩⟩
  obtain ⟨H2,e2,s2,h2⟩:=a0N hD (.lst []);rw [e2]
  have hDn:H D=none:=none_of s1 hD
  have hLD:La≠D:=a0b hL hD
  have pk:∀n:Int,0≤n∧n < 12→∃z,atI (ls.map V.str) n=some (.str z)∧OkS z:=fun n hn=>by
   obtain ⟨v,e,hv,_⟩:=a3E (xs:=ls.map V.str) (i:=n) hn.1 (by rw [Qd,hl12];exact hn.2)
   obtain ⟨z,hz,rfl⟩:=Qk.mp hv
   exact ⟨z,e,hlo z hz⟩
  refine a1T (n:=(11:Int).toNat) (lo:=0) (fun i σ H'=>∃(ps:List V) (pl:List (Str×Str)) (cc:Int) (x4 x5:Option V),σ=[some (V.ref a),some (V.ref La),some (V.int cc),some (V.ref D),x4,x5]∧a0h H H'∧H' La=some (.lst (ls.map V.str))∧H' D=some (.lst ps)∧a0y H' ps pl∧pl.length≤10 * i∧b4e pl)
   ⟨[],[],_,_,_,rfl,s1.trans s2,s2 _ _ hL,h2,⟨[],rfl,rfl,fun i a p e=>by simp at e⟩,Qj _,fun _ h=>by cases h⟩ ?_ ?_
  ·rintro i σ H3 hi ⟨ps,pl,cc,x4,x5,rfl,s3,hL3,hD3,hP3,hpl,hpo⟩
   have hi11:i < 11:=hi
   simp only [a0l,Qf,Qg,a0t,c0O,a0i,tOp,a0k,Qb,Qa,tC,a0q,a0e,a1d]
   refine ⟨_,_,rfl,⟨by omega,by omega,by omega,by omega⟩,?_⟩
   refine a1T (n:=(11 - (0+(i:Int)+1)).toNat) (lo:=0+(i:Int)+1) (fun j σ H'=>∃(ps:List V) (pl:List (Str×Str)) (cc:Int) (x5:Option V),σ=[some (V.ref a),some (V.ref La),some (V.int cc),some (V.ref D),some (V.int (0+(i:Int))),x5]∧a0h H H'∧H' La=some (.lst (ls.map V.str))∧H' D=some (.lst ps)∧a0y H' ps pl∧pl.length≤10 * i+j∧b4e pl)
    ⟨ps,pl,cc,_,rfl,s3,hL3,hD3,hP3,by omega,hpo⟩ ?_ ?_
   ·clear hD3 hP3 hpl hpo
    rintro j σ H4 hj ⟨ps,pl,cc,x5,rfl,s4,hL4,hD4,hP4,hpl,hpo⟩
    have hpsl:ps.length≤200:=by
     obtain ⟨as,rfl,hal,_⟩:=hP4
     rw [Qd];omega
    simp only [a0l,Qf,Qg]
    refine ⟨fun σ' H'=>∃(ps:List V) (pl:List (Str×Str)),σ'=[some (V.ref a),some (V.ref La),some (V.int cc),some (V.ref D),some (V.int (0+(i:Int))),some (V.int (0+(i:Int)+1+(j:Int)))]∧a0h H H'∧H' La=some (.lst (ls.map V.str))∧H' D=some (.lst ps)∧a0y H' ps pl∧pl.length≤10 * i+(j+1)∧b4e pl,?_,?_⟩
    ·simp only [a2I,a1h,tOp,a0k,Qb,Qa,tC,a3n,tBM,a0i,a3J,a0q,a0e,a1q,a0W,a2K,a1k,decide_eq_true_eq]
     refine ⟨by decide,a1Q (fun c5=>?_) (fun c5=>⟨ps,pl,(by trivial),s4,hL4,hD4,hP4,by omega,hpo⟩)⟩
     obtain ⟨z1,ez1,o1⟩:=pk (0+(i:Int)) ‹om›
     obtain ⟨z2,ez2,o2⟩:=pk (0+(i:Int)+1+(j:Int)) ‹om›
     refine ⟨.inl ⟨rfl,_,SqL.of hD4⟩,a0F (SqL.of hL4) ez1 (a0F (SqL.of hL4) ez2 ⟨by simp only [Qm,Qr];decide,fun p hp=>?_⟩)⟩
     obtain ⟨H5,e5,s5,h5⟩:=a0N hp (.tup [V.str z1,V.str z2]);rw [e5]
     have hD5:=s5 _ _ hD4
     have hpD:p≠D:=fun z=>by rw [z,hD4] at hp;cases hp
     refine ⟨D,_,_,rfl,rfl,hD5,Xj (show _≤1000 by omega) ‹dc›,?_⟩
     have up:∀b o,b≠D→H5 b=some o→upd H5 D (.lst (ps++[V.ref p])) b=some o:=fun b o hb e=>by rw [a0a hb];exact e
     refine ⟨ps++[V.ref p],pl++[(z1,z2)],(by trivial),fun b o e=>up _ _ (a0b e hDn) (s5 _ _ (s4 _ _ e)),up _ _ hLD (s5 _ _ hL4),a0d,a5K (a5I (a0y.same s5 hP4) ⟨_,hD5⟩ up) (up _ _ hpD h5),by simp;omega,fun w hw=>?_⟩
     rcases Qv.mp hw with z | z
     ·exact hpo w z
     ·rw [Xo.mp z];exact ⟨o1.1,o2.1⟩
    ·rintro σ' H5 ⟨ps,pl,rfl,s5,hL5,hD5,hP5,hpl5,hpo5⟩
     simp only [a1P,tOp,a0k,Qb,Qa,tC,a0l,Qf,Qg,a0e,a0W,a6P]
     exact ⟨⟨by decide,by decide⟩,ps,pl,_,_,rfl,s5,hL5,hD5,hP5,hpl5,hpo5⟩
   ·rintro σ H4 ⟨ps,pl,cc,x5,rfl,s4,hL4,hD4,hP4,hpl,hpo⟩
    exact ⟨ps,pl,cc,_,_,rfl,s4,hL4,hD4,hP4,by omega,hpo⟩
  ·rintro σ H3 ⟨ps,pl,cc,x4,x5,rfl,s3,hL3,hD3,hP3,hpl,hpo⟩
   simp only [a0X,a0k,Qb,Qa,a0e]
   exact q D ps pl H3 s3 hDn hD3 hP3 (by have:(11:Int).toNat=11:=rfl;omega) hpo
theorem b4P (T:Txt K mg t):a0R P w K mg base CX0 2 t.f_z1w t.fd_z1w ["_law_cell"] b9k:=by
 refine T.F_z1w.ok a6D (fun vs H Q E h=>?_) (fun cdv A outer s H vs Q E hr h=>?_)
 ·obtain ⟨c,rfl,q⟩:=h;rfl
 ·obtain ⟨c,rfl,q⟩:=h
  refine ⟨_,‹A2 (E0 1 (B2 (a0c a9w) b6y ["_law_k","_law_cell"] [none,some 0]) (E4 (A0 A4 A1)) (A5 0 (show Xg (["_law_k","_law_cell"]:List Str) by decide+kernel)) D3 (A8 (b0P T) T.g_z1v T.F_z1v.kp T.b_z1v .nil (A0 (A6 a0M 1 A4) (A0 0 (A0 B0 A1)))) a6D.nd) (A2 (A7 2 a6D.nd (B7 A1)) (A2 (B9 (E4 (A0 (A6 a0r A4 (A6 a0B 0 A4)) A1)) (A5 3 a6D.nd) (A2 (A7 4 a6D.nd (B6 a0z (B7 (A0 B0 (A0 (A6 a0r (A6 a0r B0 (B6 a0z 1 A4)) B0) (A0 (A6 a0r (A6 a0r (A6 a0r (A6 a0r B0 (B6 a0z 1 A4)) B0) (B6 a0z 1 A4)) B0) A1)))) (A6 a0M 3 A4))) (A2 (D2 (D0 Xy Xv Xw a0H 2 (A0 (A6 a0r (B6 a0z 1 (A6 a0B 3 A4)) 4) A1))) (A3 (D2 (D0 Xy Xv Xw a0H 2 (A0 (A6 a0r (A6 a0r B0 (B6 a0z 1 (A6 a0B 3 A4))) 4) A1))))))) (A3 (A9 2))))›,?_⟩
  rw [show start b6y [V.int c]=[some (V.int c),none,none,none,none] from rfl]
  simp only [a1l,a1P,a2M,a0q,a0l,Qf,Qg,a0t,a5L,a0i,tOp,tC,a0k,Qa,a0e,a0W,a1d,a0o]
  refine ⟨5,rfl,by decide,by decide,?_⟩
  refine a4j a3e (Qi (show (5:Int).toNat≤1000 by decide) ‹dc›) [some (V.int c)] rfl (fun i v=>v=sv (a2y (c / 9) (i:Int) a2S)) (fun _ _=>trivial) (fun i H' R hi s hR=>?_) (fun W H1 ys hWn s1 hW hl hv=>?_)
  ·simp only [a0v,a0i,tOp,a0k,Qb,Qa,tC,a0q,Qh,a0e,a0W,a6P]
   rw [b5C]
   refine ⟨⟨by decide,by decide⟩,_,_,a2S,rfl,by decide,hR _ _ (a0h.refl _) (by rw [Int.zero_add])⟩
  obtain ⟨wd,hwd⟩:∃wd:Nat→List Nat,wd=fun (i:Nat)=>a2y (c / 9) (i:Int) a2S:=⟨_,rfl⟩
  have hw1:∀k,k < 5→∀x∈wd k,x∈a2S:=fun k _ x hx=>by rw [hwd] at hx;exact a3o ‹dc› x hx
  have hw2:∀k,k < 5→wd k≠[]:=fun k _ z=>by
   have:=(a2z (c / 9) (k:Int) a2S).1
   rw [hwd] at z
   rw [show a2y (c / 9) (k:Int) a2S=[] from z] at this
   simp at this
  have hw3:∀j k,j < 5→k < 5→wd j=wd k→j=k:=fun j k hj hk e=>by
   rw [hwd] at e
   have:=b2n (c:=c / 9) (k:=(j:Int)) (k':=(k:Int)) ‹om› ‹om› e
   omega
  have hyi:∀n:Nat,n < 5→atI ys (n:Int)=some (sv (wd n))∧(wd n).length≤8∧∀x∈wd n,x∈a2S:=fun n hn=>by
   have hn':n < ys.length:=by rw [hl];exact hn
   refine ⟨?_,by rw [hwd];exact (a2z _ _ _).2,hw1 n hn⟩
   unfold atI ixN
   rw [if_pos ‹om›,if_pos ‹om›]
   show ys[((n:Int)).toNat]?=_
   rw [Int.toNat_natCast,Qc hn',hv n _ (Qc hn'),hwd]
  have m9:=a1y (i:=c) (j:=9) ‹dc›
  try skip
  refine ⟨by decide,fun D hD=>?_⟩
  have hWD:W≠D:=fun z=>by rw [z,hD] at hW;cases hW
  refine ⟨by decide,_,rfl,by omega,by omega,?_⟩
  refine a1T (n:=(1+c % 9).toNat) (lo:=0) (fun i σ H'=>∃(pl:List Str) (k pc:Option V),σ=[some (V.int c),some (V.ref W),some (V.ref D),k,pc]∧a0h H1 H'∧H' D=some (.lst (pl.map V.str))∧(pl=(Xz (2 * i)).map (plG wd))∧∀z∈pl,OkS z) ⟨[],_,_,rfl,a0h.upd hD,a0d,rfl,by simp⟩ ?_ ?_
  ·rintro i σ H2 hi ⟨pl,k,pc,rfl,s2,hD2,hpl,hok⟩
   have hW2:=s2 _ _ hW
   have hpll:pl.length=2 * i:=by rw [hpl,Qd,Zv]
   obtain ⟨e3,b3,c3⟩:=hyi 3 ‹dc›
   obtain ⟨e4,b4,c4⟩:=hyi 4 ‹dc›
   obtain ⟨en,bn,cn⟩:=hyi (i % 3) ‹om›
   rw [show ((i % 3:Nat):Int)=(0+(i:Int)) % 3 by omega] at en
   have enm:nmL wd i=wd (i % 3)++pcl wd (i / 3):=rfl
   have epc:∀(x y z:V),x=sv (pcl wd 0)→y=sv (pcl wd 1)→z=sv (pcl wd 2)→atI [x,y,z] ((0+(i:Int)) / 3)=some (sv (pcl wd (i / 3))):=fun x y z h1 h2 h3=>by
    have hi3:i / 3 < 3:=by omega
    rw [show (0+(i:Int)) / 3=((i / 3:Nat):Int) by omega]
    match i / 3,hi3 with
    | 0,_=>rw [h1];rfl
    | 1,_=>rw [h2];rfl
    | 2,_=>rw [h3];rfl
   have e31:pcl wd 1=40::(wd 3++[41]):=rfl
   have e32:pcl wd 2=40::(wd 4++[44])++wd 3++[41]:=rfl
   have eplG:(Xz (2 * (i+1))).map (plG wd)=pl++[mk (nmL wd i),mk (45::nmL wd i)]:=by
    rw [show 2 * (i+1)=2 * i+1+1 by omega,Uc,Uc,Xe,Xe,←hpl]
    have g1:plG wd (2 * i)=mk (nmL wd i):=by unfold plG;rw [if_pos ‹om›,show 2 * i / 2=i by omega]
    have g2:plG wd (2 * i+1)=mk (45::nmL wd i):=by unfold plG;rw [if_neg ‹om›,show (2 * i+1) / 2=i by omega]
    rw [Xk,Xk,Jg,g1,g2,Yu];rfl
   generalize wd 3=l3 at e3 b3 c3 e31 e32
   generalize wd 4=l4 at e4 b4 c4 e32
   generalize wd (i % 3)=ln at en bn cn enm
   simp only [a0l,a1l,a1P,tOp,a2M,a0i,tC,a0k,Qf,Qg,Qb,Qa,a0q,a3n,tBM,a0e,a0W,a6P]
   rw [show ("(":Str)=mk [40] by decide+kernel,show (")":Str)=mk [41] by decide+kernel,show (",":Str)=mk [44] by decide+kernel,show ("-":Str)=mk [45] by decide+kernel]
   refine a0F (SqL.of hW2) e3 ?_
   simp only [a1A]
   rw [a2E,a2E]
   refine ⟨by rw [a0A,a0A];exact Qi (show _≤2000 by simp;omega) ‹dc›,by rw [a0A,a0A];exact Qi (show _≤2000 by simp;omega) ‹dc›,a0F (SqL.of hW2) e4 ?_⟩
   simp only [Jx,Uv,a1A]
   rw [a2E,a2E]
   refine ⟨by rw [a0A,a0A];exact Qi (show _≤2000 by simp;omega) ‹dc›,by rw [a0A,a0A];exact Qi (show _≤2000 by simp;omega) ‹dc›,a0F (SqL.of hW2) e3 ?_⟩
   simp only [Jx,Uv,a1A]
   rw [a2E,a2E]
   refine ⟨by rw [a0A,a0A];exact Qi (show _≤2000 by simp;omega) ‹dc›,by rw [a0A,a0A];exact Qi (show _≤2000 by simp;omega) ‹dc›,by simp only [Qm,Qr];decide,fun p3 hp3=>?_⟩
   obtain ⟨H3,e3',s3,h3⟩:=a0N hp3 (.lst [V.str "",sv (40::(l3++[41])),sv (40::(l4++[44])++l3++[41])]);rw [e3']
   have d3:0≤(0+(i:Int)) / 3∧(0+(i:Int)) / 3 < 3:=by omega
   have epv:=epc (V.str "") (sv (40::(l3++[41]))) (sv (40::(l4++[44])++l3++[41])) rfl (by rw [e31]) (by rw [e32])
   have hpc:(pcl wd (i / 3)).length≤30∧∀c∈pcl wd (i / 3),c < 128:=by
    have hi3:i / 3 < 3:=by omega
    match i / 3,hi3 with
    | 0,_=>exact ⟨Xb _,fun c hc=>by cases hc⟩
    | 1,_=>
     rw [e31]
     refine ⟨by simp;omega,fun c hc=>?_⟩
     simp only [Qv,Qw,Zn,or_false] at hc
     rcases hc with h | h | h
     ·omega
     ·exact a4Z (c3 c h)
     ·omega
    | 2,_=>
     rw [e32]
     refine ⟨by simp;omega,fun c hc=>?_⟩
     simp only [Qv,Qw,Zn,or_false] at hc
     rcases hc with ((h | h | h) | h) | h
     ·omega
     ·exact a4Z (c4 c h)
     ·omega
     ·exact a4Z (c3 c h)
     ·omega
   obtain ⟨bpc,cpc⟩:=hpc
   generalize pcl wd (i / 3)=pc' at epv bpc cpc enm
   have hW3:=s3 _ _ hW2
   have hD3:=s3 _ _ hD2
   refine ⟨⟨by decide,by decide⟩,a0F (SqL.of h3) epv ?_⟩
   have o1:OkS (mk (ln++pc')):=OkS.of (fun c hc=>(Qv.mp hc).elim (fun h=>a4Z (cn c h)) (fun h=>cpc c h)) (by simp;omega)
   have o2:OkS (mk ([45]++ln++pc')):=OkS.of (fun c hc=>by
    simp only [Qv,Xo] at hc
    rcases hc with (h | h) | h
    ·omega
    ·exact a4Z (cn c h)
    ·exact cpc c h) (by simp;omega)
   have hWD3:upd H3 D (.lst (pl.map V.str++[sv (ln++pc')])) W=some (.lst ys):=by rw [a0a hWD];exact hW3
   refine ⟨.inl ⟨rfl,_,SqL.of hD3⟩,by decide,a0F (SqL.of hW3) en ?_⟩
   simp only [a1A]
   rw [a2E]
   refine ⟨by rw [a0A,a0A];exact Qi (show _≤2000 by omega) ‹dc›,D,_,_,rfl,rfl,hD3,Xj (show _≤1000 by rw [Qd];omega) ‹dc›,?_⟩
   refine ⟨.inl ⟨rfl,_,SqL.of a0d⟩,by decide,a0F (SqL.of hWD3) en ?_⟩
   simp only [a1A]
   rw [a2E,a2E]
   refine ⟨by rw [a0A,a0A];exact Qi (show _≤2000 by simp;omega) ‹dc›,by rw [a0A,a0A];exact Qi (show _≤2000 by simp;omega) ‹dc›,D,_,_,rfl,rfl,a0d,Xj (show _≤1000 by simp;omega) ‹dc›,pl++[mk (ln++pc'),mk ([45]++ln++pc')],_,_,rfl,?_,?_,by rw [eplG,enm];rfl,fun z hz=>?_⟩
   ·intro b o e;rw [a0a (a0b e hD),a0a (a0b e hD)];exact s3 _ _ (s2 _ _ e)
   ·rw [a0d];simp
   ·rcases Qv.mp hz with h | h
    ·exact hok z h
    ·simp only [Qw,Zn,or_false] at h
     rcases h with rfl | rfl
     ·exact o1
     ·exact o2
  ·rintro σ H2 ⟨pl,k,pc,rfl,s2,hD2,hpl,hok⟩
   simp only [a0X,a0k,Qb,Qa,a0e]
   have hpll:pl.length=2 * (1+c % 9).toNat:=by rw [hpl,Qd,Zv]
   exact q D pl H2 (s1.trans s2) (none_of s1 hD) hD2 ‹om› ‹om› hok (by rw [hpl];exact b3E hw1 hw2 hw3 ‹om›) (fun z hz=>by rw [hpl] at hz;obtain ⟨j,_,rfl⟩:=Qk.mp hz;exact b9d hw1 hw2 j) (by rw [hpl,hwd];rfl)
theorem b5R (T:Txt K mg t):a0R P w K mg base CX0 1 t.f_z0d t.fd_z0d ["self","q"] (b1J t fun rs ss T q=>.bl (decide (q∈ss))):=by
 refine T.F_z0d.ok c0b (fun vs H Q E h=>?_) (fun cdv A outer s H vs Q E hr h=>?_)
 ·obtain ⟨x,z,rs,ss,T0,rfl,hA,hn,q⟩:=h;rfl
 ·obtain ⟨x,z,rs,ss,T0,rfl,hA,hn,q⟩:=h
  refine ⟨_,‹A3 (A9 (G1 (a1R (a2k hr) ‹1› ‹C7 0›)))›,?_⟩
  rw [show start c0H [V.ref x,V.str z]=[some (V.ref x),some (V.str z)] from rfl]
  obtain ⟨dx,st,sk,cm,St,hx,hst,hSt,hsk,hcm⟩:=hA
  simp only [a0X,a8V,a0k,Qb,Qa,a3F,a0e]
  refine ⟨x,_,dx,_,_,rfl,hx,T.cl_Answers,T.nf_Answers_sure_keys,b5x _ _ _,sk,_,rfl,a2w.k (k:=(Sum.inr z:Key)) hsk,?_⟩
  have:Q (.bl (decide (z∈ss))) H:=q H (a0h.refl _)
  rw [a2s]
  by_cases hz:z∈ss
  ·rw [if_pos hz];rw [decide_eq_true hz] at this;exact this
  ·rw [if_neg hz];rw [decide_eq_false hz] at this;exact this
theorem a8k (T:Txt K mg t):a0R P w K mg base CX0 1 t.f_z00 t.fd_z00 ["self","q"] (c8H t):=by
 refine T.F_z00.ok c0L (fun vs H Q E h=>?_) (fun cdv A outer s H vs Q E hr h=>?_)
 ·obtain ⟨x,z,rs,ss,T0,rfl,hA,hn,q⟩:=h;rfl
 ·obtain ⟨x,z,rs,ss,T0,rfl,hA,hn,q⟩:=h
  obtain ⟨_,k_REFUSED⟩:=T.k_REFUSED
  refine ⟨_,‹A2 (B3 (C8 ‹E8 1 (C7 0)›) (A3 (A9 (C0 (A0 (D6 (.str "refused") k_REFUSED ⟨_,rfl⟩) (A0 A4 A1))))) B8) (A3 (A9 (E7 (C7 0) 1 (C0 (A0 B0 (A0 A4 A1))))))›,?_⟩
  rw [show start c1D [V.ref x,V.str z]=[some (V.ref x),some (V.str z)] from rfl]
  obtain ⟨dx,st,sk,cm,St,hx,hst,hSt,hsk,hcm⟩:=hA
  obtain ⟨A,rfl,hA,hAt⟩:=hcm
  simp only [a1l,a2I,tB,a2t,a0k,Qb,Qa,a3F,a0X,a3J,a0i,tC,a0q,a1q,a3C,a0e,a1k,Ye]
  refine ⟨x,_,dx,_,_,rfl,hx,T.cl_Answers,T.nf_Answers_standing,b5u _ _ _,st,_,rfl,Or.inl ⟨_,(Sum.inr z:Key),hst,rfl,rfl⟩,?_⟩
  rw [a2s]
  by_cases hz:z∈sts rs
  ·rw [if_pos ((a7I hSt z).mpr hz)]
   try skip
   refine ⟨x,_,dx,_,_,rfl,hx,T.cl_Answers,T.nf_Answers_came,b9Y _ _ _,?_⟩
   simp only [a0s]
   refine ⟨a2B hA,by simp only [Qm,Qr];decide,fun p hp=>?_⟩
   obtain ⟨H1,e1,s1,h1⟩:=a0N hp (.tup [V.str "",V.int 0]);rw [e1]
   refine ⟨_,a2w.k (k:=(Sum.inr z:Key)) (s1 _ _ hA),?_⟩
   by_cases hm:z∈(A.map (·.2)).map (·.1)
   ·obtain ⟨e0,he0,ez⟩:=Qk.mp hm
    obtain ⟨e,he,rfl⟩:=Qk.mp he0
    rw [←ez,b0o (by rw [Xf] at hn;exact hn) he]
    refine q e.1 H1 s1 ?_
    unfold wr
    rw [if_pos hz,←ez,b7a hn he0];exact s1 _ _ (hAt e he)
   ·rw [b1h (by rw [Xf] at hm;exact hm)]
    refine q p H1 s1 ?_
    unfold wr
    rw [if_pos hz,Ui.mpr fun x hx w=>hm (Qk.mpr ⟨x,hx,of_decide_eq_true w⟩)];exact h1
  ·rw [if_neg (fun w=>hz ((a7I hSt z).mp w))]
   try skip
   refine ⟨by simp only [Qm,Qr];decide,fun p hp=>?_⟩
   obtain ⟨H1,e1,s1,h1⟩:=a0N hp (.tup [V.str "refused",V.int 1]);rw [e1]
   refine q p H1 s1 ?_
   unfold wr
   rw [if_neg hz];exact h1
theorem c1V (T:Txt K mg t):a0R P w K mg base CX0 1 t.f_z15 t.fd_z15 ["is_sure","word"] b6b:=by
 refine T.F_z15.ok b9P (fun vs H Q E h=>?_) (fun cdv A outer s H vs Q E hr h=>?_)
 ·obtain ⟨b,w,rfl,q⟩:=h;rfl
 ·obtain ⟨b,w,rfl,q⟩:=h
  obtain ⟨_,k_HELD⟩:=T.k_HELD
  obtain ⟨_,k_REFUSED⟩:=T.k_REFUSED
  refine ⟨_,‹A2 (B3 (C2 0) (A3 (A9 B0)) B8) (A2 (B3 (B1 (a0U hr.units) 1 (D6 (.str "held") k_HELD ⟨_,rfl⟩) (a0p _)) (A3 (A9 B0)) B8) (A3 (A9 (G8 (B1 (a0U hr.units) 1 (D6 (.str "refused") k_REFUSED ⟨_,rfl⟩) (a0p _)) B0 B0))))›,?_⟩
  rw [show start c0D [V.bl b,V.str w]=[some (V.bl b),some (V.str w)] from rfl]
  unfold a8S at q
  simp only [a1l,a2I,tB,a0k,Qa,a0X,tC,a1q,a1h,tOp,Qb,tIf,a0e,a1J,a1k,decide_eq_true_eq]
  cases b with
  | true=>exact q
  | false=>
   simp only [a8F]
   refine a1Q (fun c=>?_) (fun c=>?_)
   ·rw [if_neg ‹dc›,if_pos c] at q;exact q
   ·rw [if_neg ‹dc›,if_neg c] at q
    refine a1Q (fun d=>?_) (fun d=>?_)
    ·rw [if_pos d] at q;exact q
    ·rw [if_neg d] at q;exact q
theorem b4U (T:Txt K mg t):a0R P w K mg base CX0 2 t.f_z07 t.fd_z07 ["self","q"] (b1J t fun rs ss T q=>.str (a8S (decide (q∈ss)) (wr rs T q).1)):=by
 refine T.F_z07.ok c1C (fun vs H Q E h=>?_) (fun cdv A outer s H vs Q E hr h=>?_)
 ·obtain ⟨x,z,rs,ss,T0,rfl,hA,hn,q⟩:=h;rfl
 ·obtain ⟨x,z,rs,ss,T0,rfl,hA,hn,q⟩:=h
  refine ⟨_,‹A3 (A9 (A8 (c1V T) T.g_z15 T.F_z15.kp T.b_z15 .nil (A0 (C9 0 T.cl_Answers T.me_Answers_sure (b5R T) T.b_z0d (A0 1 A1)) (A0 (B6 a0z (C9 0 T.cl_Answers T.me_Answers_word_and_rank (a8k T) T.b_z00 (A0 1 A1)) A4) A1))))›,?_⟩
  rw [show start c0E [V.ref x,V.str z]=[some (V.ref x),some (V.str z)] from rfl]
  obtain ⟨dx,st,sk,cm,St,hx,_⟩:=id hA
  simp only [a0X,a0v,a0i,a1M,a0k,Qa,Qb,a0q,Qh,tOp,tC,a0e]
  refine ⟨x,dx,_,rfl,hx,a3y _ _ _ ‹dk› ‹dk› ‹dk›,x,z,rs,ss,T0,rfl,hA,hn,fun H1 s1=>?_⟩
  refine ⟨x,dx,_,rfl,s1 _ _ hx,a3y _ _ _ ‹dk› ‹dk› ‹dk›,x,z,rs,ss,T0,rfl,hA.same s1,hn,fun p H2 s2 h2=>a1t (SqT.of h2) rfl ?_⟩
  exact ⟨_,_,rfl,q H2 (s1.trans s2)⟩
theorem b9Q (T:Txt K mg t):a0R P w K mg base CX0 3 t.f_z08 t.fd_z08 ["self"] (b4w t):=by
 refine T.F_z08.ok b9z (fun vs H Q E h=>?_) (fun cdv A outer s H vs Q E hr h=>?_)
 ·obtain ⟨x,rs,ss,T0,rfl,hA,hn,hsl,q⟩:=h;rfl
 ·obtain ⟨x,rs,ss,T0,rfl,hA,hn,hsl,q⟩:=h
  refine ⟨_,‹A3 (A9 (F8 (C1 (B2 (a0c a9o) b6o ["q","self"] [none,some 0]) (E1 (C7 0)) (A5 0 (show Xg (["q","self"]:List Str) by decide+kernel)) D3 (C0 (A0 0 (A0 (C9 1 T.cl_Answers T.me_Answers_answer (b4U T) T.b_z07 (A0 0 A1)) A1))))))›,?_⟩
  rw [show start b6o [V.ref x]=[some (V.ref x)] from rfl]
  obtain ⟨dx,st,sk,cm,St,hx,hst,⟨hSt,n1,n2⟩,hsk,A0,eA,hcm,hAt⟩:=hA
  simp only [a0X]
  have hSl:St.length≤1000:=by have:=hSt.1.length_eq;omega
  refine b6E hst (a3b St) hSl (fun R hR=>⟨_,rfl,x,_,dx,_,_,rfl,hx,T.cl_Answers,T.nf_Answers_standing,b5u _ _ _,hR⟩) [some (V.ref x)] rfl (fun q=>(q,a8S (decide (q∈ss)) (wr rs T0 q).1)) (fun z o H1 R hz s1 hR=>?_) (fun D H1 zs hDn s1 hD hps=>q D zs St H1 s1 hDn hD hSt hps)
  have n0:x≠st:=a0u hx hst ‹iz›
  have hx0:upd H st (.frz o (.dK (bv St))) x=some (.ins t.C_Answers dx (afl st sk cm)):=by rw [a0a n0];exact hx
  have hA0:a5B t (upd H st (.frz o (.dK (bv St)))) x rs ss T0:=⟨dx,st,sk,cm,St,hx0,.inr ⟨o,a0d⟩,hSt,by rw [a0a n1.symm];exact hsk,A0,eA,by rw [a0a n2.symm];exact hcm,fun e he=>by rw [a0a (a0u (hAt e he) hst ‹iz›)];exact hAt e he⟩
  simp only [a3J,a0i,a0k,Qa,a1M,Qb,a0q,Qh,a0e]
  refine ⟨x,dx,_,rfl,s1 _ _ hx0,a3y _ _ _ ‹dk› ‹dk› ‹dk›,x,z,rs,ss,T0,rfl,hA0.same s1,hn,fun H2 s2=>⟨by simp only [Qm,Qr];decide,fun p hp=>?_⟩⟩
  exact hR p _ (s2.trans (a0h.upd hp)) (none_of s2 hp) a0d
theorem c1i (T:Txt K mg t):a0R P w K mg base CX0 1 t.f_z0a t.fd_z0a ["self"] (b6F K t):=by
 refine T.F_z0a.ok c0e (fun vs H Q E h=>?_) (fun cdv A outer s H vs Q E hr h=>?_)
 ·obtain ⟨x,rs,ss,T0,rfl,hA,q⟩:=h;rfl
 ·obtain ⟨x,rs,ss,T0,rfl,hA,q⟩:=h
  refine ⟨_,‹A3 (A9 (E6 (a9A rfl) T.z_list a1G (A0 (C7 0) A1)))›,?_⟩
  rw [show start c0Y [V.ref x]=[some (V.ref x)] from rfl]
  obtain ⟨dx,st,sk,cm,St,hx,hst,hSt,hsk,hcm⟩:=hA
  simp only [a0X,tCB,a0i,a3F,a0k,Qa,a0q,a0e]
  refine ⟨x,_,dx,_,_,rfl,hx,T.cl_Answers,T.nf_Answers_sure_keys,b5x _ _ _,a3r.list (K:=K) (S:=ss) (.inr ⟨sk,_,rfl,hsk,a3b _⟩) fun l hl=>?_⟩
  obtain ⟨H1,e1,s1,h1⟩:=a0N hl (.lst (ss.map V.str));rw [e1]
  exact q l H1 s1 hl h1
theorem b5p (T:Txt K mg t):a0R P w K mg base CX0 1 t.f_z1m t.fd_z1m ["_law_firm","_law_ranks","_law_q"] c0z:=by
 refine T.F_z1m.ok c2o (fun vs H Q E h=>?_) (fun cdv A outer s H vs Q E hr h=>?_)
 ·obtain ⟨F,R,z,S,n,rs,T0,rfl,hF,hR,q⟩:=h;rfl
 ·obtain ⟨F,R,z,S,n,rs,T0,rfl,hF,hR,q⟩:=h
  refine ⟨_,‹A2 (B3 (C8 (a1R (a2k hr) ‹2› ‹0›)) (A3 (A9 B0)) B8) (A3 (A9 (F6 (J5 (H1 B0 B0 (H1 B0 B0 (H1 B0 B0 J6))) rfl rfl) (B6 a0z (E7 1 2 (C0 (A0 B0 (A0 A4 A1)))) A4))))›,?_⟩
  rw [show start c1m [V.ref F,V.ref R,V.str z]=[some (V.ref F),some (V.ref R),some (V.str z)] from rfl]
  simp only [a1l,a2I,tB,a8V,a0k,Qb,Qa,a0X,tC,a1q,b1O,c0K,a7Q,tOp,a3C,a3J,a0i,a0q,a0e,a0s,a1k]
  obtain ⟨o1,ho1,eo1⟩:=hF.get z
  refine ⟨F,o1,rfl,ho1,?_⟩
  rw [eo1]
  by_cases c1:z∈S
  ·rw [decide_eq_true c1,if_pos rfl]
   have:=q _ (a0h.refl _)
   rw [decide_eq_true c1] at this
   exact this
  rw [decide_eq_false c1,if_neg Qx]
  rw [decide_eq_false c1] at q
  intro p hp
  obtain ⟨H1,e1,s1,h1⟩:∃H1,upd (upd H p (.dK [])) p (.dK (a1u [] [((Sum.inr "held":Key),V.str "mostly"),(Sum.inr "refused",V.str "no"),(Sum.inr "open",V.str "open")]))=H1∧a0h H H1∧H1 p=some (.dK (a1u [] [((Sum.inr "held":Key),V.str "mostly"),(Sum.inr "refused",V.str "no"),(Sum.inr "open",V.str "open")])):=⟨_,rfl,fun c o e=>by rw [a0a (a0b e hp),a0a (a0b e hp)];exact e,a0d⟩
  obtain ⟨kvs,hk,hkl,hkv⟩:=id (hR.same s1)
  refine ⟨a0d,[((Sum.inr "held":Key),V.str "mostly"),(Sum.inr "refused",V.str "no"),(Sum.inr "open",V.str "open")],rfl,by decide,?_,by simp only [Qm,Qr];decide,fun p2 hp2=>?_⟩
  ·rw [e1];exact .inl ⟨_,.inl hk⟩
  rw [e1] at hp2 ⊢
  obtain ⟨H2,e2,s2,h2⟩:=a0N hp2 (.tup [V.str "refused",V.int 1]);rw [e2]
  refine ⟨_,a2w.k (k:=(Sum.inr z:Key)) (s2 _ _ hk),?_⟩
  have last:∀(w:Str) (n:Nat) (b:Addr),H2 b=some (.tup [.str w,.int (n:Nat)])→((w="held"∧(wr rs T0 z).1="held")∨(w="refused"∧(wr rs T0 z).1="refused")∨(w="open"∧(wr rs T0 z).1=""))→rIx K (.ref b) (V.int 0) H2 fun y H2=>∃a v,V.ref p=V.ref a∧a2w H2 a y (some v)∧Q v H2:=fun w n b hb hw=>by
   refine a1t (SqT.of hb) (v:=.str w) (by rfl) ?_
   have hq:∀u:Str,a0T (a1u [] [((Sum.inr "held":Key),V.str "mostly"),(Sum.inr "refused",V.str "no"),(Sum.inr "open",V.str "open")]) (Sum.inr w:Key)=some (.str u)→a8S false (wr rs T0 z).1=u→∃a v,V.ref p=V.ref a∧a2w H2 a (.str w) (some v)∧Q v H2:=fun u h1' h2'=>by
    have g:=a2w.k (k:=(Sum.inr w:Key)) (s2 _ _ h1)
    rw [h1'] at g
    refine ⟨p,_,rfl,g,?_⟩
    rw [←h2'];exact q _ (s1.trans s2)
   rcases hw with ⟨rfl,e⟩ | ⟨rfl,e⟩ | ⟨rfl,e⟩
   ·exact hq "mostly" ‹dk› (by rw [e];decide+kernel)
   ·exact hq "no" ‹dk› (by rw [e];decide+kernel)
   ·exact hq "open" ‹dk› (by rw [e];decide+kernel)
  rcases hkv z with ⟨a1,a2⟩ | ⟨b,w,a1,a2,a3⟩
  ·rw [a1]
   have hz:z∉sts rs:=fun m=>by unfold b2d at a2;rw [if_pos m] at a2;cases a2
   exact last "refused" 1 p2 h2 (.inr (.inl ⟨rfl,by unfold wr;rw [if_neg hz]⟩))
  ·rw [a1]
   have hz:z∈sts rs:=Gp.mp fun m=>by unfold b2d at a2;rw [if_neg m] at a2;cases a2
   have ew:w=wo (wr rs T0 z):=by unfold b2d at a2;rw [if_pos hz] at a2;exact (Option.some.inj a2).symm
   refine last w.1 w.2 b (s2 _ _ a3) ?_
   rw [ew]
   unfold wo
   rcases b7o rs T0 z with e | e | e
   ·rw [if_neg (by rw [e];decide+kernel)];exact .inl ⟨e,e⟩
   ·rw [if_neg (by rw [e];decide+kernel)];exact .inr (.inl ⟨e,e⟩)
   ·rw [if_pos e];exact .inr (.inr ⟨rfl,e⟩)
theorem c1T (T:Txt K mg t):a0R P w K mg base CX0 2 t.f_z0e t.fd_z0e ["self","q"] (b1J t fun rs ss T q=>.bl (decide ((wr rs T q).1="held"))):=by
 refine T.F_z0e.ok c0f (fun vs H Q E h=>?_) (fun cdv A outer s H vs Q E hr h=>?_)
 ·obtain ⟨x,z,rs,ss,T0,rfl,hA,hn,q⟩:=h;rfl
 ·obtain ⟨x,z,rs,ss,T0,rfl,hA,hn,q⟩:=h
  obtain ⟨_,k_HELD⟩:=T.k_HELD
  refine ⟨_,‹A3 (A9 (D7 (a0U hr.units) (B6 a0z (C9 0 T.cl_Answers T.me_Answers_word_and_rank (a8k T) T.b_z00 (A0 1 A1)) A4) (D6 (.str "held") k_HELD ⟨_,rfl⟩) (a0p _)))›,?_⟩
  rw [show start c1K [V.ref x,V.str z]=[some (V.ref x),some (V.str z)] from rfl]
  obtain ⟨dx,st,sk,cm,St,hx,_⟩:=id hA
  simp only [a0X,tOp,a1M,a0k,Qa,a0i,Qb,a0q,Qh,tC,a0e]
  refine ⟨x,dx,_,rfl,hx,a3y _ _ _ ‹dk› ‹dk› ‹dk›,x,z,rs,ss,T0,rfl,hA,hn,fun p H1 s1 h1=>a1t (SqT.of h1) rfl ?_⟩
  simp only [a1J]
  exact q H1 s1
theorem b5z (T:Txt K mg t):a0R P w K mg base CX0 2 t.f_z0f t.fd_z0f ["self","q"] (b1J t fun rs ss T q=>.int ((wr rs T q).2:Nat)):=by
 refine T.F_z0f.ok c0o (fun vs H Q E h=>?_) (fun cdv A outer s H vs Q E hr h=>?_)
 ·obtain ⟨x,z,rs,ss,T0,rfl,hA,hn,q⟩:=h;rfl
 ·obtain ⟨x,z,rs,ss,T0,rfl,hA,hn,q⟩:=h
  refine ⟨_,‹A3 (A9 (B6 a0z (C9 0 T.cl_Answers T.me_Answers_word_and_rank (a8k T) T.b_z00 (A0 1 A1)) A4))›,?_⟩
  rw [show start c1P [V.ref x,V.str z]=[some (V.ref x),some (V.str z)] from rfl]
  obtain ⟨dx,st,sk,cm,St,hx,_⟩:=id hA
  simp only [a0X,tOp,a1M,a0k,Qa,a0i,Qb,a0q,Qh,tC,a0e]
  refine ⟨x,dx,_,rfl,hx,a3y _ _ _ ‹dk› ‹dk› ‹dk›,x,z,rs,ss,T0,rfl,hA,hn,fun p H1 s1 h1=>a1t (SqT.of h1) rfl ?_⟩
  exact q H1 s1
theorem b9m (T:Txt K mg t):a0R P w K mg base CX0 2 t.f_z04 t.fd_z04 ["self","q"] (b1J t fun rs ss T q=>.bl (decide ((wr rs T q).1="refused"))):=by
 refine T.F_z04.ok c1Z (fun vs H Q E h=>?_) (fun cdv A outer s H vs Q E hr h=>?_)
 ·obtain ⟨x,z,rs,ss,T0,rfl,hA,hn,q⟩:=h;rfl
 ·obtain ⟨x,z,rs,ss,T0,rfl,hA,hn,q⟩:=h
  obtain ⟨_,k_REFUSED⟩:=T.k_REFUSED
  refine ⟨_,‹A3 (A9 (D7 (a0U hr.units) (B6 a0z (C9 0 T.cl_Answers T.me_Answers_word_and_rank (a8k T) T.b_z00 (A0 1 A1)) A4) (D6 (.str "refused") k_REFUSED ⟨_,rfl⟩) (a0p _)))›,?_⟩
  rw [show start c1L [V.ref x,V.str z]=[some (V.ref x),some (V.str z)] from rfl]
  obtain ⟨dx,st,sk,cm,St,hx,_⟩:=id hA
  simp only [a0X,tOp,a1M,a0k,Qa,a0i,Qb,a0q,Qh,tC,a0e]
  refine ⟨x,dx,_,rfl,hx,a3y _ _ _ ‹dk› ‹dk› ‹dk›,x,z,rs,ss,T0,rfl,hA,hn,fun p H1 s1 h1=>a1t (SqT.of h1) rfl ?_⟩
  simp only [a1J]
  exact q H1 s1
theorem c2A (T:Txt K mg t):a0R P w K mg base CX0 1 t.f_z1o t.fd_z1o ["_law_found"] b0H:=by
 refine T.F_z1o.ok b8N (fun vs H Q E h=>?_) (fun cdv A outer s H vs Q E hr h=>?_)
 ·obtain ⟨i,rfl,q⟩:=h;rfl
 ·obtain ⟨i,rfl,q⟩:=h
  refine ⟨_,‹A3 (A9 (H3 (C4 a2a T.z_isinstance a0V (A0 0 (A0 (G2 (.ty "int") T.z_int a9N) A1))) (H0 (H4 (C4 a2a T.z_isinstance a0V (A0 0 (A0 (G2 (.ty "bool") T.z_bool a4T) A1)))))))›,?_⟩
  rw [show start c1d [V.int i]=[some (V.int i)] from rfl]
  simp only [a0X,b6G,tCB,a0i,a0k,Qa,tC,a0q,b6U,a0e]
  refine ⟨_,_,_,_,_,rfl,rfl,.int i,a7l,?_⟩
  simp only [a1k,if_true]
  refine ⟨_,_,_,_,_,rfl,rfl,.int i,a6I,?_⟩
  simp only [a1k]
  exact q
theorem b8I (T:Txt K mg t):a0R P w K mg base CX0 3 t.f_z25 t.fd_z25 ["_law_answers","_law_due_here","_law_q"] (c2z t):=by
 refine T.F_z25.ok a4f (fun vs H Q E h=>?_) (fun cdv A outer s H vs Q E hr h=>?_)
 ·obtain ⟨x,d,z,rs,pl,ss,St,T0,T1,rfl,hA,hn,hD,hz,hw,q⟩:=h;rfl
 ·obtain ⟨x,d,z,rs,pl,ss,St,T0,T1,rfl,hA,hn,hD,hz,hw,q⟩:=h
  refine ⟨_,‹A2 (G7 1 (F4 (C3 (A5 3 a4f.nd) (C3 (A5 4 a4f.nd) (C3 (A5 5 a4f.nd) E3))))) (A2 (G7 (E7 5 2 (C0 (A0 B0 (A0 A4 A1)))) (F4 (C3 (A5 6 a4f.nd) (C3 (A5 7 a4f.nd) E3)))) (A2 (A7 8 a4f.nd (B7 (A0 (C9 0 T.cl_Answers T.me_Answers_sure (b5R T) T.b_z0d (A0 2 A1)) (A0 (C9 0 T.cl_Answers T.me_Answers_held (c1T T) T.b_z0e (A0 2 A1)) (A0 (C9 0 T.cl_Answers T.me_Answers_refused (b9m T) T.b_z04 (A0 2 A1)) A1))))) (A2 (B3 (B1 (a2A hr.units) 8 (B7 (A0 (G1 (a1R (a2k hr) ‹2› ‹3›)) (A0 (D7 (a0U hr.units) 6 B0 (a0p _)) (A0 (D7 (a0U hr.units) 6 B0 (a0p _)) A1)))) (a0p _)) (A3 (A9 B5)) B8) (A2 (B3 (B1 (a2A hr.units) (C4 a1n T.z_len a1m (A0 (C1 (B2 (a0c a9t) b7S ["_law_one_here"] [none]) (B4 8) (A5 0 (show Xg (["_law_one_here"]:List Str) by decide+kernel)) (C6 (C2 (C4 (a6s (K:=K) rfl) T.z_isinstance a0V (A0 0 (A0 (G2 (.ty "bool") T.z_bool a4T) A1))))) 0) A1)) A4 (a0p _)) (A3 (A9 B5)) B8) (D8 (B3 (D4 (F1 (D9 (C2 (A8 (c2A T) T.g_z1o T.F_z1o.kp T.b_z1o .nil (A0 (C9 0 T.cl_Answers T.me_Answers_rank (b5z T) T.b_z0f (A0 2 A1)) A1)))) (F2 (B1 (a2A hr.units) (C9 0 T.cl_Answers T.me_Answers_rank (b5z T) T.b_z0f (A0 2 A1)) 7 (a0p _))))) (A3 (A9 B5)) B8) (A3 (A9 (D7 (a0U hr.units) (C9 0 T.cl_Answers T.me_Answers_answer (b4U T) T.b_z07 (A0 2 A1)) (A8 (b5p T) T.g_z1m T.F_z1m.kp T.b_z1m .nil (A0 3 (A0 5 (A0 2 A1)))) (a0p _)))))))))›,?_⟩
  rw [show start b7S [V.ref x,V.ref d,V.str z]=[some (V.ref x),some (V.ref d),some (V.str z),none,none,none,none,none,none] from rfl]
  obtain ⟨F,L,R,hd,hF,hL,hSt,hR,hAT⟩:=hD
  obtain ⟨kvR,hkR,_⟩:=id hR
  obtain ⟨dx,st,sk,cm,St0,hx,_⟩:=id hA
  simp only [a1l,a1P,a0k,Qb,Qa,b4a,a4E,a0l,b4S,a3C,Qf,Qg,a3J,a0i,tC,a0q,a2M,a1M,Qh,a2I,a1h,tOp,a8V,a0X,a1q,tCB,a0o,a1p,a0e,a0s]
  refine ⟨d,_,rfl,SqT.of hd,rfl,_,_,rfl,_,_,rfl,_,_,rfl,rfl,R,rfl,.inl ⟨_,.inl hkR⟩,by simp only [Qm,Qr];decide,fun p hp=>?_⟩
  obtain ⟨H1,e1,s1,h1⟩:=a0N hp (.tup [V.str "refused",V.int 1]);rw [e1]
  obtain ⟨o,b,g1,g2,g3⟩:=hR.look s1 h1 z
  refine ⟨o,g1,b,_,g2,SqT.of g3,rfl,_,_,rfl,_,_,rfl,rfl,?_⟩
  rw [←hw]
  have nf:∀m:Str,m≠"came"→m≠"sure_keys"→m≠"standing"→(afl st sk cm).lookup m=none:=fun m=>a3y _ _ _
  simp only [a1J]
  refine ⟨x,dx,_,rfl,s1 _ _ hx,nf _ ‹dk› ‹dk› ‹dk›,x,z,rs,ss,T0,rfl,hA.same s1,hn,fun H2 s2=>?_⟩
  have s02:=s1.trans s2
  refine ⟨x,dx,_,rfl,s02 _ _ hx,nf _ ‹dk› ‹dk› ‹dk›,x,z,rs,ss,T0,rfl,hA.same s02,hn,fun H3 s3=>?_⟩
  have s03:=s02.trans s3
  refine ⟨x,dx,_,rfl,s03 _ _ hx,nf _ ‹dk› ‹dk› ‹dk›,x,z,rs,ss,T0,rfl,hA.same s03,hn,fun H4 s4=>?_⟩
  have s04:=s03.trans s4
  refine ⟨by simp only [Qm,Qr];decide,fun p5 hp5=>?_⟩
  obtain ⟨H5,e5,s5,h5⟩:=a0N hp5 (.lst [V.bl (decide (z∈ss)),V.bl (decide ((wr rs T0 z).1="held")),V.bl (decide ((wr rs T0 z).1="refused"))]);rw [e5]
  have s05:=s04.trans s5
  obtain ⟨oF,gF,eF⟩:=(a8G (s05 _ _ hF)).get z
  refine ⟨F,oF,rfl,gF,by simp only [Qm,Qr];decide,fun p6 hp6=>?_⟩
  have eF':oF.isSome=decide (z∈ss):=by rw [eF,Xn,decide_eq_true_eq,decide_eq_true_eq,hz];exact Iff.rfl
  rw [eF',(c0I (wr rs T0 z)).1,(c0I (wr rs T0 z)).2]
  obtain ⟨H6,e6,s6,h6⟩:=a0N hp6 (.lst [V.bl (decide (z∈ss)),V.bl (decide ((wr rs T0 z).1="held")),V.bl (decide ((wr rs T0 z).1="refused"))]);rw [e6]
  have s06:=s05.trans s6
  generalize decide ((wr rs T0 z).1="held")=b2 at h5 h6
  generalize decide ((wr rs T0 z).1="refused")=b3 at h5 h6
  refine a6F (d:=.list [.bool (decide (z∈ss)),.bool b2,.bool b3]) (.lst (SqL.of (s6 _ _ h5)) (.cons (.bl _) (.cons (.bl _) (.cons (.bl _) .nil)))) (.lst (SqL.of h6) (.cons (.bl _) (.cons (.bl _) (.cons (.bl _) .nil)))) rfl ⟨_,rfl,?_⟩
  rw [if_neg Qx]
  have hB:∀i,i < 3→∃b,(([V.bl (decide (z∈ss)),V.bl b2,V.bl b3]:List V)[i]?).getD .non=V.bl b:=fun i hi=>match i,hi with
   | 0,_=>⟨_,rfl⟩
   | 1,_=>⟨_,rfl⟩
   | 2,_=>⟨_,rfl⟩
  refine ⟨⟨_,SqL.of (s6 _ _ h5)⟩,?_⟩
  refine a3G (a2q (xs:=[V.bl (decide (z∈ss)),V.bl b2,V.bl b3])) (Qi (show 3≤1000 by omega) ‹dc›) [] rfl (fun _=>true) (fun i=>(([V.bl (decide (z∈ss)),V.bl b2,V.bl b3]:List V)[i]?).getD .non) (fun H' s=>SqL.of (s _ _ (s6 _ _ h5))) (fun i H' R hi s hR=>?_) (fun i H' R hi s hR=>?_) (fun C H7 hCn s7 hC=>?_)
  ·obtain ⟨b,e⟩:=hB i hi
   rw [e]
   simp only [tB,tCB,a0i,a0k,Qa,tC,a0q,a0e,a6J,a1k]
   exact hR _ (a0h.refl _)
  ·simp only [a0k,Qa,a0e]
   exact hR _ (a0h.refl _)
  have s07:=s06.trans s7
  have hC':H7 C=some (.lst [V.bl (decide (z∈ss)),V.bl b2,V.bl b3]):=hC
  refine a1L (SqL.of hC') (a5n.mpr ⟨_,rfl,?_⟩)
  rw [if_neg (by simp)]
  refine ⟨fun σ' H'=>σ'=[some (V.ref x),some (V.ref d),some (V.str z),some (V.ref F),some (V.ref L),some (V.ref R),some (V.str (wo (wr rs T0 z)).1),some (V.int ((wo (wr rs T0 z)).2:Nat)),some (V.ref p5)]∧a0h H H',?_,?_⟩
  ·simp only [a2I,tOr,b2p,tB,a0v,a0i,a1M,a0k,Qa,Qb,a0q,Qh,Ye,a0X,tC,a1q,if_true,a1h,tOp,a0e]
   refine ⟨x,dx,_,rfl,s07 _ _ hx,nf _ ‹dk› ‹dk› ‹dk›,x,z,rs,ss,T0,rfl,hA.same s07,hn,fun H8 s8=>?_⟩
   have s08:=s07.trans s8
   simp only [a8I,a1k,a5c]
   refine ⟨x,dx,_,rfl,s08 _ _ hx,nf _ ‹dk› ‹dk› ‹dk›,x,z,rs,ss,T0,rfl,hA.same s08,hn,fun H9 s9=>a5n.mpr ⟨_,rfl,?_⟩⟩
   rw [b6T,decide_eq_true rfl]
   exact ⟨trivial,s08.trans s9⟩
  ·rintro σ' H8 ⟨rfl,s8⟩
   simp only [a0X,tOp,a1M,a0k,Qa,a0i,Qb,a0q,Qh,a0v,a0e]
   refine ⟨x,dx,_,rfl,s8 _ _ hx,nf _ ‹dk› ‹dk› ‹dk›,x,z,rs,ss,T0,rfl,hA.same s8,hn,fun H9 s9=>?_⟩
   have s09:=s8.trans s9
   refine ⟨F,R,z,a2Y rs,_,rs,T1,rfl,a8G (s09 _ _ hF),hR.same s09,fun H10 s10=>a1J.mpr ?_⟩
   rw [decide_eq_true (show a8S (decide (z∈ss)) (wr rs T0 z).1=a8S (decide (z∈a2Y rs)) (wr rs T1 z).1 by rw [hw,show decide (z∈ss)=decide (z∈a2Y rs) by rw [Xn,decide_eq_true_eq,decide_eq_true_eq,hz]])]
   exact q _ (s09.trans s10)
theorem b5N (T:Txt K mg t):a0R P w K mg base CX0 4 t.f_z1u t.fd_z1u ["_law_answers","_law_due_here","_law_some"] (b3T t):=by
 refine T.F_z1u.ok a3A (fun vs H Q E h=>?_) (fun cdv A outer s H vs Q E hr h=>?_)
 ·obtain ⟨x,d,so,rs,pl,ss,St,sm,T0,T1,rfl,hA,hn,hD,hso,hsl,hss,hw,hdue,hk,hSl,hrl,hsp,q⟩:=h;rfl
 ·obtain ⟨x,d,so,rs,pl,ss,St,sm,T0,T1,rfl,hA,hn,hD,hso,hsl,hss,hw,hdue,hk,hSl,hrl,hsp,q⟩:=h
  refine ⟨_,‹A2 (G7 1 (F4 (C3 (A5 3 a3A.nd) (C3 (A5 4 a3A.nd) (C3 (A5 5 a3A.nd) E3))))) (A2 (B9 (B4 2) (A5 6 a3A.nd) (A3 (B3 (D9 (C2 (A8 (b8I T) T.g_z25 T.F_z25.kp T.b_z25 .nil (A0 0 (A0 1 (A0 6 A1)))))) (A3 (A9 B5)) B8))) (A2 (A7 7 a3A.nd (D5 0 T.cl_Answers T.me_Answers_listed (b9Q T) T.b_z08)) (D8 (B3 (D4 (F1 (D9 (C2 (C4 a2a T.z_isinstance a0V (A0 7 (A0 (G2 (.ty "list") T.z_list a1G) A1))))) (F2 (B1 (a2A hr.units) 7 (C1 (B2 (a0c a6i) b2Y ["_law_q","_law_firm","_law_ranks"] [none,some 3,some 5]) (B4 4) (A5 0 (show Xg (["_law_q","_law_firm","_law_ranks"]:List Str) by decide+kernel)) D3 (C0 (A0 0 (A0 (A8 (b5p T) T.g_z1m T.F_z1m.kp T.b_z1m .nil (A0 1 (A0 2 (A0 0 A1)))) A1)))) (a0p _))))) (A3 (A9 B5)) B8) (A2 (A7 8 a3A.nd (D5 0 T.cl_Answers T.me_Answers_sures (c1i T) T.b_z0a)) (A2 (E0 9 (B2 (a0c a6i) b2Y ["_law_pair"] [none]) (B4 (C4 (a3s rfl) T.z_sorted a2g (A0 (F8 (C1 (B2 (a0c a6i) b2Y ["_law_q","_law_rank"] [none,none]) (H5 3) (H7 (C3 (A5 0 (show Xg (["_law_q","_law_rank"]:List Str) by decide+kernel)) (C3 (A5 1 (show Xg (["_law_q","_law_rank"]:List Str) by decide+kernel)) E3))) D3 (C0 (A0 1 (A0 0 A1))))) A1))) (A5 0 (show Xg (["_law_pair"]:List Str) by decide+kernel)) D3 (B6 (a2W (K:=K) rfl) 0 A4) a3A.nd) (D8 (B3 (D4 (F1 (D9 (C2 (C4 a2a T.z_isinstance a0V (A0 8 (A0 (G2 (.ty "list") T.z_list a1G) A1))))) (F2 (B1 (a2A hr.units) 8 9 (a0p _))))) (A3 (A9 B5)) B8) (A2 (D2 (D0 Xy Xv Xw a0H 7 (A0 (C0 (A0 B0 (A0 B0 A1))) A1))) (A2 (D2 (D0 Xy Xv Xw a0H 8 (A0 B0 A1))) (A3 (A9 B5))))))))))›,?_⟩
  rw [show start b2Y [V.ref x,V.ref d,V.ref so]=[some (V.ref x),some (V.ref d),some (V.ref so),none,none,none,none,none,none,none] from rfl]
  obtain ⟨F,L,R,hd,hF,hL,hSt,hR,hAT⟩:=id hD
  obtain ⟨dx,st,sk,cm,St0,hx,_⟩:=id hA
  have nf:∀m:Str,m≠"came"→m≠"sure_keys"→m≠"standing"→(afl st sk cm).lookup m=none:=fun m=>a3y _ _ _
  simp only [a1l,a1P,a0k,Qb,Qa,b4a,a4E,a0l,b4S,a0o,a1p,tCB,a0i,a0q,Qf,Qg,a0t,a0e,a0s]
  refine ⟨d,_,rfl,SqT.of hd,rfl,_,_,rfl,_,_,rfl,_,_,rfl,rfl,⟨_,SqL.of hso⟩,?_⟩
  refine a0S (K:=K) (a:=so) (xs:=sm.map V.str) (fun i σ H'=>∃(x6:Option V),σ=[some (V.ref x),some (V.ref d),some (V.ref so),some (V.ref F),some (V.ref L),some (V.ref R),x6,none,none,none]∧a0h H H')
   ⟨_,rfl,a0h.refl _⟩ (fun i σ H' _ ⟨_,_,s⟩=>SqL.of (s _ _ hso)) ?_ ?_
  ·rintro i v σ H1 hi ⟨x6,rfl,s1⟩
   have hil:i < sm.length:=by simpa using (Qn.mp hi).1
   have ex:v=V.str sm[i]:=by
    rw [Ql,Qc hil] at hi
    exact (Option.some.inj hi).symm
   subst ex
   simp only [a0l,a2I,b2p,tB,a0v,a0i,a0k,Qf,Qg,Qa,Qb,a0q,Qh,Ye,a0X,tC,a1q,a0e]
   refine ⟨x,d,sm[i],rs,pl,ss,St,T0,T1,rfl,(hA.same s1).weak,hn,hD.same s1,hss _,hw _,fun H2 s2=>?_⟩
   simp only [a1k,a5c]
   exact ⟨_,rfl,s1.trans s2⟩
  rintro σ H1 ⟨x6,rfl,s1⟩
  simp only [a1l,a1P,a1M,a0k,Qa,a0q,Qh,a0l,Qf,Qg,a0e]
  refine ⟨x,dx,_,rfl,s1 _ _ hx,nf _ ‹dk› ‹dk› ‹dk›,x,rs,ss,T0,rfl,hA.same s1,hn,hsp,fun Li zs St1 H2 s2 hLn hL2 hSt1 hps=>?_⟩
  have eS:St1=St:=a3W (hSt1.1.trans hSt.1.symm) (a5R hSt1.2) (a5R hSt.2)
  subst eS
  have s02:=s1.trans s2
  refine ⟨fun σ' H'=>σ'=[some (V.ref x),some (V.ref d),some (V.ref so),some (V.ref F),some (V.ref L),some (V.ref R),x6,some (V.ref Li),none,none]∧a0h H2 H',?_,?_⟩
  ·simp only [a2I,tOr,b2p,tB,tCB,a0i,a0k,Qb,Qa,tC,a0q,Ye,a0X,a1q,if_true,a1h,tOp,a0o,a1p,a0e,a0s]
   refine a7M hL2 ?_
   simp only [a1k,a5c]
   refine ⟨⟨_,SqL.of (s02 _ _ hL)⟩,?_⟩
   refine a5z (a2q (xs:=St1.map V.str)) (Qi (show (St1.map V.str).length≤1000 by rw [Qd];omega) ‹dc›) [some (V.ref F),some (V.ref R)] rfl (fun D i v H'=>∃(hi:i < St1.length) (p:Addr),v=.ref p∧p≠D∧H' p=some (.tup [.str St1[i],.str (a8S (decide (St1[i]∈ss)) (wr rs T0 St1[i]).1)])) (fun D i v Ha Hb up ⟨hi,p,e,n,g⟩=>⟨hi,p,e,n,up _ _ n g⟩) (fun H' s=>SqL.of (s _ _ (s02 _ _ hL))) (fun D i H' R' hi hDn s hD hR'=>?_) (fun D H3 ys hDn s3 hD3 hyl hv=>?_)
   ·have hi':i < St1.length:=by simpa using hi
    have e1:((St1.map V.str)[i]?).getD .non=V.str St1[i]:=by rw [Ql,Qc hi'];rfl
    rw [e1]
    obtain ⟨zs',hD⟩:=hD
    have s0:=s02.trans s
    simp only [a3J,a0i,a0k,Qa,a0v,Qb,a0q,Qh,a0e]
    refine ⟨F,R,St1[i],a2Y rs,_,rs,T1,rfl,a8G (s0 _ _ hF),hR.same s0,fun H4 s4=>⟨by simp only [Qm,Qr];decide,fun p hp=>?_⟩⟩
    refine hR' _ _ (s4.trans (a0h.upd hp)) ⟨hi',p,rfl,(fun z=>by rw [z,s4 _ _ hD] at hp;cases hp),?_⟩
    rw [a0d,hw,show decide (St1[i]∈ss)=decide (St1[i]∈a2Y rs) by rw [Xn,decide_eq_true_eq,decide_eq_true_eq,hss]]
   have hyl':ys.length=St1.length:=by rw [hyl,Qd]
   have hps2:a0y H3 ys (St1.map fun q=>(q,a8S (decide (q∈ss)) (wr rs T0 q).1)):=b9b (by rw [Qd];exact hyl') fun i hi=>by
    obtain ⟨_,p,e,_,g⟩:=hv i _ (Qc hi)
    exact ⟨p,e,by rw [Yd];exact g⟩
   refine a6F (.lst (SqL.of (s3 _ _ hL2)) (a7o (a0y.same s3 hps))) (.lst (SqL.of hD3) (a7o hps2)) (a8Z fun p hp=>?_) ⟨_,rfl,?_⟩
   ·obtain ⟨z,hz,rfl⟩:=Qk.mp hp
    exact ⟨hk z ((a7I hSt z).mp hz),b7W _ _⟩
   rw [if_neg Qx]
   exact ⟨trivial,s3⟩
  rintro σ' H3 ⟨rfl,s3⟩
  have s03:=s02.trans s3
  simp only [a1l,a1P,a1M,a0k,Qa,a0q,Qh,a0l,Qf,Qg,a0e]
  refine ⟨x,dx,_,rfl,s03 _ _ hx,nf _ ‹dk› ‹dk› ‹dk›,x,rs,ss,T0,rfl,(hA.same s03).weak,fun Su H4 s4 hSun hSu4=>?_⟩
  have s04:=s03.trans s4
  have hLi4:=(s3.trans s4) _ _ hL2
  have nLS:Li≠Su:=fun z=>by rw [←z,s3 _ _ hL2] at hSun;cases hSun
  obtain ⟨F0,eF⟩:∃F0,FIN (rs.map srW) []=F0:=⟨_,rfl⟩
  have hF4:H4 F=some (.dK (dv F0)):=by rw [←eF];exact s04 _ _ hF
  have hFn:(F0.map (·.1)).Nodup:=by rw [←eF];exact a1N _ _
  have hFl:F0.length≤63:=by rw [←eF];exact Qi (b1S rs) hrl
  refine ⟨F,_,hF4,?_⟩
  simp only [a0o,b1x,a0k,Qb,Qa,a0e]
  refine ⟨F,_,rfl,hF4,fun o=>?_⟩
  obtain ⟨H5,e5,h5,k5⟩:∃H5,upd H4 F (.frz o (.dK (dv F0)))=H5∧H5 F=some (.frz o (.dK (dv F0)))∧∀b u,b≠F→H4 b=some u→H5 b=some u:=⟨_,rfl,a0d,fun b u hb e=>by rw [a0a hb];exact e⟩
  rw [e5]
  refine b9F (kvs:=dv F0) (Qi (show (dv F0).length≤1000 by rw [a8H];omega) ‹dc›) [] rfl (fun D i v H'=>∃(hi:i < F0.length) (p:Addr),v=.ref p∧p≠D∧H' p=some (.tup [.int F0[i].2,.str F0[i].1])) (fun D i v Ha Hb up h=>?_) h5 (fun D i H' R' hi hDn s hD hR'=>?_) (fun D H6 ys hDn s6 hD6 hyl hv=>?_)
  ·obtain ⟨hi,p,e,n1,g1⟩:=h
   exact ⟨hi,p,e,n1,up _ _ n1 g1⟩
  ·have hi':i < F0.length:=by rw [a8H] at hi;exact hi
   obtain ⟨zs,hD⟩:=hD
   have e3:(dv F0)[i]=(Sum.inr F0[i].1,V.int F0[i].2):=by simp [dv]
   rw [e3]
   simp only [a3J,a0i,a0k,Qb,Qa,a0q,a0e]
   refine ⟨by simp only [Qm,Qr];decide,fun p hp'=>?_⟩
   obtain ⟨H7,e7,s7,h7⟩:=a0N hp' (.tup [V.int F0[i].2,V.str F0[i].1]);rw [show kV (Sum.inr F0[i].1)=V.str F0[i].1 from rfl,e7]
   exact hR' _ _ s7 ⟨hi',p,rfl,fun z=>a0b hD hp' z.symm,h7⟩
  have hR6:=s6 _ _ h5
  refine ⟨o,hR6,?_⟩
  have hDF:D≠F:=a0u hD6 hR6 ‹iz›
  have k6:a0h H4 (upd H6 F (.dK (dv F0))):=fun b u e=>by
   by_cases z:b=F
   ·subst z;rw [a0d];rw [hF4] at e;exact e
   ·rw [a0a z];exact s6 _ _ (k5 b u z e)
  obtain ⟨H7,e7,hD7,hp7⟩:∃H7,upd H6 F (.dK (dv F0))=H7∧H7 D=some (.lst ys)∧∀(i:Nat) v,ys[i]?=some v→∃(hi:i < F0.length) (p:Addr),v=.ref p∧H7 p=some (.tup [.int F0[i].2,.str F0[i].1]):=⟨_,rfl,by rw [a0a hDF];exact hD6,fun i v e=>by
   obtain ⟨hi,p,e1,n1,g1⟩:=hv i v e
   exact ⟨hi,p,e1,by rw [a0a (a0u g1 hR6 ‹iz›)];exact g1⟩⟩
  rw [e7] at k6 ⊢
  have hyl':ys.length=F0.length:=by rw [hyl,a8H]
  have hpo:∀(i:Nat) v,ys[i]?=some v→∃hi:i < F0.length,a1x H7 v=((F0[i].2:Int),F0[i].1):=fun i v e=>by
   obtain ⟨hi,p,rfl,g1⟩:=hp7 i v e
   refine ⟨hi,?_⟩
   show (match H7 p with | some (.tup [.int i,.str z])=>(i,z) | _=>(0,""))=_
   rw [g1]
  have hpm:ys.map (a1x H7)=F0.map fun p=>((p.2:Int),p.1):=by
   refine Jc (by rw [Qd,Qd];exact hyl') fun i h1 h2=>?_
   rw [Yd,Yd]
   rw [Qd] at h1
   exact (hpo i _ (Qc h1)).2
  refine .inr (.inr ⟨D,ys,rfl,SqL.of hD7,by omega,fun v hv'=>?_,?_,fun L2 ys' hLn2 hpr hpw=>?_⟩)
  ·obtain ⟨i,hi,rfl⟩:=Yz hv'
   obtain ⟨_,p,e,g1⟩:=hp7 i _ (Qc hi)
   exact ⟨p,_,_,e,g1⟩
  ·rw [hpm]
   have:(F0.map fun p=>((p.2:Int),p.1)).map (·.2)=F0.map (·.1):=by rw [Xf];rfl
   rw [←this] at hFn
   exact (Jt.mp hFn).imp fun h z=>h (by rw [z])
  obtain ⟨H8,e8,s8,h8⟩:=a0N hLn2 (.lst ys');rw [e8]
  simp only [a0s]
  refine ⟨⟨_,SqL.of h8⟩,?_⟩
  have hyl2:ys'.length≤63:=by rw [hpr.length_eq];omega
  refine a4j (a2q (xs:=ys')) (Qi (show ys'.length≤1000 by omega) ‹dc›) [] rfl (fun i v=>∃hi:i < ys'.length,v=V.str (a1x H7 ys'[i]).2) (fun H' s=>SqL.of (s _ _ h8)) (fun i H' R' hi s hR'=>?_) (fun D2 H9 zs2 hDn2 s9 hD9 hzl hzv=>?_)
  ·obtain ⟨j,hj,ej⟩:=Yz (hpr.mem_iff.mp (Xa hi))
   obtain ⟨hj',p,e,g1⟩:=hp7 j _ (Qc hj)
   obtain ⟨_,e9⟩:=hpo j _ (Qc hj)
   rw [ej] at e e9
   have e8':(a1x H7 ys'[i]).2=F0[j].1:=by rw [e9]
   rw [Qc hi,Xh,e]
   simp only [tOp,a0k,Qa,tC,a0e]
   exact a1t (SqT.of (s _ _ (s8 _ _ g1))) b9J (hR' _ _ (a0h.refl _) ⟨hi,by rw [e8']⟩)
  have ez:zs2=((ys'.map (a1x H7)).map (·.2)).map V.str:=by
   refine Jc (by rw [hzl,Qd,Qd,Qd]) fun i h1 h2=>?_
   obtain ⟨hi,e⟩:=hzv i _ (Qc h1)
   rw [e,Yd,Yd,Yd]
  have hd2:a4p (rs.map srW) ((ys'.map (a1x H7)).map (·.2)):=b0l (by rw [eF,←hpm];exact hpr.map _) hpw
  rw [ez,←b4H (fun _=>Iff.rfl) rfl hdue hd2] at hD9
  have s49:=(k6.trans s8).trans s9
  have hSu9:=s49 _ _ hSu4
  have hLi9:=s49 _ _ hLi4
  have s09:=s04.trans s49
  have hssk:∀z∈ss,Xp z=true:=fun z hz=>hk z (b6j hdue z hz)
  clear hpo hp7 hpm hv hzv hpr hpw ez hd2 hD7 h8
  refine ⟨fun σ' H'=>σ'=[some (V.ref x),some (V.ref d),some (V.ref so),some (V.ref F),some (V.ref L),some (V.ref R),x6,some (V.ref Li),some (V.ref Su),some (V.ref D2)]∧a0h H9 H',?_,?_⟩
  ·simp only [a2I,tOr,b2p,tB,tCB,a0i,a0k,Qb,Qa,tC,a0q,Ye,a0X,a1q,if_true,a1h,tOp,a0e]
   refine a7M hSu9 ?_
   simp only [a1k,a5c]
   refine b4o (SqL.of hSu9) (SqL.of hD9) hssk hssk ⟨_,rfl,?_⟩
   rw [if_neg (by simp)]
   exact ⟨trivial,a0h.refl _⟩
  rintro σ' H10 ⟨rfl,s10⟩
  have hLi10:=s10 _ _ hLi9
  have hSu10:=s10 _ _ hSu9
  have hzl2:zs.length≤1000:=by
   obtain ⟨as,rfl,e,_⟩:=hps
   rw [Qd,e,Qd];omega
  have hsl2:ss.length≤1000:=Qi (b7J hdue) ‹om›
  simp only [a1l,a3n,tBM,a0k,Qb,Qa,a0i,a3J,tC,a0q,a0X,a0e]
  refine ⟨.inl ⟨rfl,_,SqL.of hLi10⟩,by simp only [Qm,Qr];decide,fun p hp=>?_⟩
  obtain ⟨H11,e11,s11,h11⟩:=a0N hp (.tup [V.str "",V.str ""]);rw [e11]
  refine ⟨Li,_,_,rfl,rfl,s11 _ _ hLi10,Xj hzl2 ‹dc›,?_⟩
  have hSu11:upd H11 Li (.lst (zs++[V.ref p])) Su=some (.lst (ss.map V.str)):=by rw [a0a nLS.symm];exact s11 _ _ hSu10
  refine ⟨.inl ⟨rfl,_,SqL.of hSu11⟩,Su,_,_,rfl,rfl,hSu11,Xj (show _≤1000 by rw [Qd];exact hsl2) ‹dc›,?_⟩
  refine q _ fun c o' e=>?_
  rw [a0a (a0b e (none_of s03 hSun)),a0a (a0b e (none_of s1 hLn))]
  exact s11 _ _ (s10 _ _ (s09 _ _ e))
theorem b9l (T:Txt K mg t):a0R P w K mg base CX0 2 t.f_z23 t.fd_z23 ["_law_m","_law_k","_law_pool_here","_law_labels_here","_law_style"] c2Q:=by
 refine T.F_z23.ok a3B (fun vs H Q E h=>?_) (fun cdv A outer s H vs Q E hr h=>?_)
 ·obtain ⟨m,k,st,P,L,pl,ls,rfl,hP,hp2,hp18,hpo,hL,hl12,hlo,q⟩:=h;rfl
 ·obtain ⟨m,k,st,P,L,pl,ls,rfl,hP,hp2,hp18,hpo,hL,hl12,hlo,q⟩:=h
  refine ⟨_,‹A2 (A7 5 a3B.nd (C4 a1n T.z_len a1m (A0 2 A1))) (A2 (A7 6 a3B.nd (B6 a0z 2 (A6 a0B (A6 a0M 0 A4) 5))) (A2 (E0 7 (B2 (a0c a6Z) b3V ["_law_j","_law_pool_here","_law_size","_law_m"] [none,some 2,some 5,some 0]) (E4 (A0 (A6 a0B (A6 a0M 0 A4) A4) A1)) (A5 0 (show Xg (["_law_j","_law_pool_here","_law_size","_law_m"]:List Str) by decide+kernel)) D3 (B6 (a2W (K:=K) rfl) 1 (A6 a0B (A8 (a8t T) T.g_z22 T.F_z22.kp T.b_z22 .nil (A0 3 (A0 (A6 (b3a (K:=K) rfl) A4 0) A1))) 2)) a3B.nd) (D8 (B3 (B1 (a0U hr.units) 4 A4 (a0p _)) (A2 (A7 6 a3B.nd (B6 a0z 2 (A6 a0B (A6 a4l A4 1) 5))) (A2 (A7 8 a3B.nd (B6 a0z (B7 (A0 A4 (A0 A4 (A0 A4 (A0 A4 (A0 A4 (A0 A4 A1))))))) (A6 a0B (A6 a0M 0 A4) A4))) (A3 (E0 7 (B2 (a0c a6Z) b3V ["_law_j","_law_pool_here","_law_size","_law_k","_law_m"] [none,some 2,some 5,some 1,some 0]) (E4 (A0 8 A1)) (A5 0 (show Xg (["_law_j","_law_pool_here","_law_size","_law_k","_law_m"]:List Str) by decide+kernel)) D3 (B6 (a2W (K:=K) rfl) 1 (A6 a0B (A6 b5I (A6 b5I (A6 a4l A4 3) A4) (A6 a0B (A8 (a8t T) T.g_z22 T.F_z22.kp T.b_z22 .nil (A0 4 (A0 (A6 (b3a (K:=K) rfl) A4 0) A1))) A4)) 2)) a3B.nd)))) B8) (A2 (A7 9 a3B.nd (B6 a0z (B7 (A0 B0 (A0 B0 (A0 B0 (A0 B0 (A0 B0 (A0 B0 (A0 B0 (A0 B0 A1))))))))) (A6 a0B 0 A4))) (A2 (B3 (B1 (a0U hr.units) (A6 a0B (A6 a0M 0 A4) A4) A4 (a0p _)) (A3 (A9 (C0 (A0 B0 (A0 B0 (A0 6 (A0 (C0 A1) A1))))))) B8) (A3 (A9 (C0 (A0 9 (A0 (B6 a0z 3 (A6 a0B (A6 a0M 0 A4) A4)) (A0 6 (A0 (E6 a2G T.z_tuple a2o (A0 7 A1)) A1))))))))))))›,?_⟩
  rw [show start b3V [V.int m,V.int k,V.ref P,V.ref L,V.int st]=[some (V.int m),some (V.int k),some (V.ref P),some (V.ref L),some (V.int st),none,none,none,none,none] from rfl]
  have hpo':∀z∈pl,OkP pl z:=fun z hz=>⟨hpo z hz,hz⟩
  obtain ⟨z0,e0,o0⟩:=a2Z hp2 hpo' (m / 8)
  have m5:=a1y (i:=m / 200) (j:=5) ‹dc›
  simp only [a1l,a1P,tCB,a0i,a0k,Qb,Qa,a0q,a0l,tOp,Qf,Qg,tC,a0o,a5L,a0e,a0W,a6P]
  refine a1L (SqL.of hP) ?_
  simp only [a0W]
  rw [Qd]
  refine ⟨⟨by decide,by decide⟩,by omega,a0F (SqL.of hP) e0 ?_⟩
  try skip
  refine ⟨⟨by decide,by decide⟩,by decide,_,rfl,by omega,by omega,?_⟩
  refine a4j a3e (Qi (show (m / 200 % 5).toNat≤1000 by omega) ‹dc›) [some (V.ref P),some (V.int pl.length),some (V.int m)] rfl (fun i v=>∃z,v=V.str z∧OkP pl z) (fun _ _=>trivial) (fun i H' R hi s hR=>?_) (fun B H1 ys hBn s1 hB hl hv=>?_)
  ·simp only [tOp,a0k,Qb,Qa,a0v,a0i,tC,a0q,Qh,a0e,a1d,a3T,a0W]
   intro r hr
   obtain ⟨z,e,o⟩:=a2Z hp2 hpo' r
   exact ⟨by omega,a0F (SqL.of (s _ _ hP)) e (hR _ _ (a0h.refl _) ⟨z,rfl,o⟩)⟩
  obtain ⟨zs,rfl,hzo⟩:=a7s hv
  have hzl:zs.length≤4:=by
   rw [Qd] at hl;omega
  refine ⟨fun σ' H'=>∃(hd:Str) (B:Addr) (zs:List Str) (mn:Option V),σ'=[some (V.int m),some (V.int k),some (V.ref P),some (V.ref L),some (V.int st),some (V.int pl.length),some (V.str hd),some (V.ref B),mn,none]∧a0h H H'∧OkP pl hd∧H' B=some (.lst (zs.map V.str))∧zs.length≤4∧∀z∈zs,OkP pl z,?_,?_⟩
  ·simp only [a2I,a1h,tOp,a0k,Qb,Qa,tC,a1l,a1P,a0l,a2M,a0i,a0q,Qf,Qg,a0e,a0W,a6P,b7z,a1q,a2K,a1k,decide_eq_true_eq]
   refine a1Q (fun c1=>?_) (fun c1=>⟨_,_,_,_,rfl,s1,o0,hB,hzl,hzo⟩)
   obtain ⟨z1,e1,o1⟩:=a2Z hp2 hpo' (2 * k)
   have hP1:=s1 _ _ hP
   have m6:=a1y (i:=m / 200) (j:=6) ‹dc›
   refine ⟨.inl ‹dc›,by omega,a0F (SqL.of hP1) e1 ?_⟩
   refine ⟨by simp only [Qm,Qr];decide,fun p2 hp2'=>?_⟩
   obtain ⟨H2,e2,s2,h2⟩:=a0N hp2' (.lst [V.int 1,V.int 2,V.int 0,V.int 1,V.int 2,V.int 1]);rw [e2]
   obtain ⟨v6,e6,hv6,_⟩:=a3E (xs:=[V.int 1,V.int 2,V.int 0,V.int 1,V.int 2,V.int 1]) m6.1 m6.2
   obtain ⟨mn,rfl,hmn⟩:∃n:Int,v6=.int n∧(0≤n∧n≤2):=by
    simp only [Qw,Zn,or_false] at hv6
    rcases hv6 with rfl | rfl | rfl | rfl | rfl | rfl<;>exact ⟨_,rfl,by decide⟩
   refine ⟨⟨by decide,by decide⟩,by decide,a0F (SqL.of h2) e6 ?_⟩
   try skip
   refine ⟨_,rfl,by omega,by omega,?_⟩
   have hP2:=s2 _ _ hP1
   refine a4j a3e (Qi (show mn.toNat≤1000 by omega) ‹dc›) [some (V.ref P),some (V.int pl.length),some (V.int k),some (V.int m)] rfl (fun i v=>∃z,v=V.str z∧OkP pl z) (fun _ _=>trivial) (fun i H' R hi s hR=>?_) (fun B2 H3 ys3 hBn3 s3 hB3 hl3 hv3=>?_)
   ·simp only [tOp,a0k,Qb,Qa,tC,a0v,a0i,a0q,Qh,a0e,a1d,a3T,a0W,b7z,a5w]
    refine ⟨.inl ‹dc›,?_⟩
    intro r hr
    obtain ⟨z,e,o⟩:=a2Z hp2 hpo' (2 * k - 2 - r % 3)
    exact ⟨by decide,by omega,a0F (SqL.of (s _ _ hP2)) e (hR _ _ (a0h.refl _) ⟨z,rfl,o⟩)⟩
   obtain ⟨zs3,rfl,hzo3⟩:=a7s hv3
   exact ⟨_,_,zs3,_,rfl,(s1.trans s2).trans s3,o1,hB3,by rw [Qd] at hl3;omega,hzo3⟩
  clear hB hzl hzo hBn
  rintro σ' H2 ⟨hd,B,zs,mn,rfl,s2,oh,hB,hzl,hzo⟩
  have m8:=a1y (i:=m) (j:=8) ‹dc›
  simp only [a1l,a1P,tOp,a2M,a0i,tC,a0q,a0k,Qa,a0l,a2I,a1h,Qf,Qg,a0X,a3J,Qb,a0e,a1q,tCB,a0W,a6P,a2K,a1k,decide_eq_true_eq]
  refine ⟨by simp only [Qm,Qr];decide,fun p3 hp3=>?_⟩
  obtain ⟨H3,e3,s3,h3⟩:=a0N hp3 (.lst [V.str "most",V.str "most",V.str "most",V.str "block",V.str "most",V.str "most",V.str "sure",V.str "most"]);rw [e3]
  obtain ⟨v8,e8,hv8,_⟩:=a3E (xs:=[V.str "most",V.str "most",V.str "most",V.str "block",V.str "most",V.str "most",V.str "sure",V.str "most"]) m8.1 m8.2
  obtain ⟨so,rfl,hso⟩:∃so:Nat,v8=.str (a2h so)∧(so < 4∧so≠0):=by
   simp only [Qw,Zn,or_false] at hv8
   rcases hv8 with rfl | rfl | rfl | rfl | rfl | rfl | rfl | rfl
   all_goals first | exact ⟨2,rfl,by decide⟩ | exact ⟨3,rfl,by decide⟩ | exact ⟨1,rfl,by decide⟩
  refine ⟨by decide,a0F (SqL.of h3) e8 ?_⟩
  have s03:=s2.trans s3
  have hL3:=s03 _ _ hL
  have hB3:=s3 _ _ hB
  try skip
  refine ⟨⟨by decide,by decide⟩,by decide,a1Q (fun _=>?_) (fun _=>?_)⟩
  ·refine ⟨Xb _,fun t ht=>⟨by simp only [Qm,Qr];decide,fun p hp=>?_⟩⟩
   have hpt:t≠p:=fun z=>by rw [←z,a0d] at hp;cases hp
   have hp':H3 p=none:=by rw [a0a hpt.symm] at hp;exact hp
   refine q p t (0,"",hd,[]) _ (s03.trans (fun b o e=>?_)) (none_of s03 hp') (none_of s03 ht) ⟨⟨show 0 < 4 by decide,fun _=>⟨rfl,rfl⟩,OkS.of (l:=[]) (by simp) (by simp),oh.1,by simp,by simp⟩,oh.2,by simp⟩ a0d (by rw [a0a hpt,a0d];rfl)
   rw [a0a (a0b e hp'),a0a (a0b e ht)];exact e
  obtain ⟨z12,e12,o12⟩:=b1H hl12 hlo (m / 1000)
  refine ⟨⟨by decide,by decide⟩,by decide,a0F (SqL.of hL3) e12 ?_⟩
  refine ⟨B,_,rfl,.inl ⟨SqL.of hB3,fun t ht=>?_⟩⟩
  refine ⟨by simp only [Qm,Qr];decide,fun p hp=>?_⟩
  have hpt:t≠p:=fun z=>by rw [←z,a0d] at hp;cases hp
  have hp':H3 p=none:=by rw [a0a hpt.symm] at hp;exact hp
  refine q p t (so,z12,hd,zs) _ (s03.trans (fun b o e=>?_)) (none_of s03 hp') (none_of s03 ht) ⟨⟨hso.1,fun z=>absurd z hso.2,o12,oh.1,fun z hz=>(hzo z hz).1,hzl⟩,oh.2,fun z hz=>(hzo z hz).2⟩ a0d (by rw [a0a hpt,a0d])
  rw [a0a (a0b e hp'),a0a (a0b e ht)];exact e
theorem c0h (T:Txt K mg t):a0R P w K mg base CX0 1 t.f_z06 t.fd_z06 ["_law_cell","_law_pool_here","_law_labels_here"] c2W:=by
 refine T.F_z06.ok a2O (fun vs H Q E h=>?_) (fun cdv A outer s H vs Q E hr h=>?_)
 ·obtain ⟨m,P,L,pl,ls,rfl,hP,hp2,hp18,hpo,hL,hl12,hlo,q⟩:=h;rfl
 ·obtain ⟨m,P,L,pl,ls,rfl,hP,hp2,hp18,hpo,hL,hl12,hlo,q⟩:=h
  refine ⟨_,‹A2 (A7 3 a2O.nd (C4 a1n T.z_len a1m (A0 1 A1))) (A2 (A7 4 a2O.nd (B6 a0z (B7 (A0 B0 (A0 B0 (A0 B0 (A0 B0 (A0 B0 (A0 B0 (A0 B0 (A0 B0 A1))))))))) (A6 a0B 0 A4))) (A2 (A7 5 a2O.nd (B6 a0z 2 (A6 a0B (A6 a0M 0 A4) A4))) (A2 (A7 6 a2O.nd (B6 a0z 1 (A6 a0B (A6 a0M 0 A4) 3))) (A2 (A7 7 a2O.nd (A6 a0B (A6 a0M (A6 a0M 0 A4) 3) A4)) (A2 (A7 8 a2O.nd (A6 a0M (A6 a0M 0 A4) 3)) (A2 (A7 9 a2O.nd (B7 A1)) (A2 (B9 (E4 (A0 7 A1)) (A5 10 a2O.nd) (A2 (D2 (D0 Xy Xv Xw a0H 9 (A0 (B6 a0z 1 (A6 a0B 8 3)) A1))) (A3 (A7 8 a2O.nd (A6 a0M 8 3))))) (A2 (B3 (B1 (a0U hr.units) 4 B0 (a0p _)) (A3 (A9 (C0 (A0 4 (A0 B0 (A0 6 (A0 (C0 A1) A1))))))) B8) (A3 (A9 (C0 (A0 4 (A0 5 (A0 6 (A0 (E6 a2G T.z_tuple a2o (A0 9 A1)) A1)))))))))))))))›,?_⟩
  rw [show start c0A [V.int m,V.ref P,V.ref L]=[some (V.int m),some (V.ref P),some (V.ref L),none,none,none,none,none,none,none,none] from rfl]
  have hpo':∀z∈pl,OkP pl z:=fun z hz=>⟨hpo z hz,hz⟩
  have m8:=a1y (i:=m) (j:=8) ‹dc›
  obtain ⟨z12,e12,o12⟩:=b1H hl12 hlo (m / 8)
  obtain ⟨z0,e0,o0⟩:=a2Z hp2 hpo' (m / 96)
  have m5:=a1y (i:=m / 96 / (pl.length:Int)) (j:=5) ‹dc›
  have h5:(m / 96 / (pl.length:Int) % 5).toNat≤4:=by
   generalize m / 96 / (pl.length:Int)=N at m5 ⊢
   omega
  simp only [a1l,a1P,tCB,a0i,a0k,Qb,Qa,a0q,a0l,tOp,a2M,tC,Qf,Qg,a0t,a5L,a0e,a0W,a6P]
  refine a1L (SqL.of hP) ?_
  simp only [a0W,a6P]
  rw [Qd]
  refine ⟨by simp only [Qm,Qr];decide,fun p3 hp3=>?_⟩
  obtain ⟨H3,e3,s3,h3⟩:=a0N hp3 (.lst [V.str "most",V.str "most",V.str "most",V.str "block",V.str "most",V.str "fact",V.str "sure",V.str "most"]);rw [e3]
  obtain ⟨v8,e8,hv8,_⟩:=a3E (xs:=[V.str "most",V.str "most",V.str "most",V.str "block",V.str "most",V.str "fact",V.str "sure",V.str "most"]) m8.1 m8.2
  obtain ⟨so,rfl,hso⟩:∃so:Nat,v8=.str (a2h so)∧so < 4:=by
   simp only [Qw,Zn,or_false] at hv8
   rcases hv8 with rfl | rfl | rfl | rfl | rfl | rfl | rfl | rfl
   all_goals first | exact ⟨2,rfl,by decide⟩ | exact ⟨3,rfl,by decide⟩ | exact ⟨1,rfl,by decide⟩ | exact ⟨0,rfl,by decide⟩
  refine ⟨by decide,a0F (SqL.of h3) e8 ?_⟩
  have hL3:=s3 _ _ hL
  have hP3:=s3 _ _ hP
  try skip
  refine ⟨⟨by decide,by decide⟩,by decide,a0F (SqL.of hL3) e12 ?_⟩
  refine ⟨⟨by decide,by decide⟩,by omega,a0F (SqL.of hP3) e0 ?_⟩
  refine ⟨⟨by decide,by decide⟩,⟨by omega,by omega⟩,by decide,⟨by decide,by decide⟩,⟨by omega,by omega⟩,by decide,fun B hB=>?_⟩
  have hPB:P≠B:=fun z=>by rw [z,hB] at hP3;cases hP3
  have hLB:L≠B:=fun z=>by rw [z,hB] at hL3;cases hL3
  refine ⟨_,rfl,by omega,by omega,?_⟩
  refine a1T (n:=(m / 96 / (pl.length:Int) % 5).toNat) (lo:=0) (fun i σ H'=>∃(zs:List Str) (rs:Int) (j:Option V),σ=[some (V.int m),some (V.ref P),some (V.ref L),some (V.int pl.length),some (V.str (a2h so)),some (V.str z12),some (V.str z0),some (V.int (m / 96 / (pl.length:Int) % 5)),some (V.int rs),some (V.ref B),j]∧a0h H3 H'∧H' B=some (.lst (zs.map V.str))∧zs.length=i∧∀z∈zs,OkP pl z) ⟨[],_,_,rfl,a0h.upd hB,a0d,rfl,by simp⟩ ?_ ?_
  ·rintro i σ H' hi ⟨zs,rs,j,rfl,s,hB',hzl,hzo⟩
   obtain ⟨z,e,o⟩:=a2Z hp2 hpo' rs
   simp only [a0l,a1l,a3n,tBM,a0k,Qf,Qg,Qb,Qa,a0i,tOp,a0q,a1P,a0e,a0W,a6P]
   refine ⟨.inl ⟨rfl,_,SqL.of hB'⟩,by omega,a0F (SqL.of (s _ _ hP3)) e ?_⟩
   refine ⟨B,_,_,rfl,rfl,hB',Xj (show _≤1000 by rw [Qd];omega) ‹dc›,⟨by omega,by omega⟩,zs++[z],_,_,rfl,?_,?_,by simp [hzl],fun x hx=>?_⟩
   ·intro b u e;rw [a0a (a0b e hB)];exact s _ _ e
   ·rw [a0d];simp
   ·rcases Qv.mp hx with h | h
    ·exact hzo x h
    ·rw [Xo.mp h];exact o
  rintro σ H' ⟨zs,rs,j,rfl,s,hB',hzl,hzo⟩
  have s0':=s3.trans s
  simp only [a1l,a2I,a1h,tOp,a0k,Qb,Qa,tC,a0X,a3J,a0i,a0q,a0e,a1q,tCB,a1J,a1k,decide_eq_true_eq]
  refine a1Q (fun c1=>?_) (fun c1=>?_)
  ·have hz:so=0:=by
    match so,hso with
    | 0,_=>rfl
    | 1,_=>exact absurd c1 ‹dk›
    | 2,_=>exact absurd c1 ‹dk›
    | 3,_=>exact absurd c1 ‹dk›
   refine ⟨Xb _,fun t ht=>⟨by simp only [Qm,Qr];decide,fun p hp=>?_⟩⟩
   have hpt:t≠p:=fun z=>by rw [←z,a0d] at hp;cases hp
   have hp':H' p=none:=by rw [a0a hpt.symm] at hp;exact hp
   refine q p t (so,"",z0,[]) _ (s0'.trans (fun b o e=>?_)) (none_of s0' hp') (none_of s0' ht) ⟨⟨hso,fun _=>⟨rfl,rfl⟩,OkS.of (l:=[]) (by simp) (by simp),o0.1,by simp,by simp⟩,o0.2,by simp⟩ a0d (by rw [a0a hpt,a0d];rfl)
   rw [a0a (a0b e hp'),a0a (a0b e ht)];exact e
  ·refine ⟨B,_,rfl,.inl ⟨SqL.of hB',fun t ht=>?_⟩⟩
   refine ⟨by simp only [Qm,Qr];decide,fun p hp=>?_⟩
   have hpt:t≠p:=fun z=>by rw [←z,a0d] at hp;cases hp
   have hp':H' p=none:=by rw [a0a hpt.symm] at hp;exact hp
   refine q p t (so,z12,z0,zs) _ (s0'.trans (fun b o e=>?_)) (none_of s0' hp') (none_of s0' ht) ⟨⟨hso,fun z=>absurd (show a2h so="fact" by rw [show so=0 from z];rfl) c1,o12,o0.1,fun z hz=>(hzo z hz).1,by show zs.length≤4;rw [hzl];exact h5⟩,o0.2,fun z hz=>(hzo z hz).2⟩ a0d (by rw [a0a hpt,a0d])
   rw [a0a (a0b e hp'),a0a (a0b e ht)];exact e
theorem c0g (T:Txt K mg t):a0R P w K mg base CX0 3 t.f_z1y t.fd_z1y ["_law_script","_law_start"] (c1X K):=by
 refine T.F_z1y.ok a6B (fun vs H Q E h=>?_) (fun cdv A outer s H vs Q E hr h=>?_)
 ·obtain ⟨a,ns,st,rfl,hS,hl,hst,q⟩:=h;rfl
 ·obtain ⟨a,ns,st,rfl,hS,hl,hst,q⟩:=h
  refine ⟨_,‹A2 (A7 2 a6B.nd (A8 (b4P T) T.g_z1w T.F_z1w.kp T.b_z1w .nil (A0 (A8 (a3g T) T.g_z1c T.F_z1c.kp T.b_z1c .nil (A0 0 (A0 A4 A1))) A1))) (A2 (A7 3 a6B.nd (A8 (b1L T) T.g_z1i T.F_z1i.kp T.b_z1i .nil (A0 (A8 (a3g T) T.g_z1c T.F_z1c.kp T.b_z1c .nil (A0 0 (A0 A4 A1))) A1))) (A2 (A7 4 a6B.nd (A6 a0B (A8 (a3g T) T.g_z1c T.F_z1c.kp T.b_z1c .nil (A0 0 (A0 A4 A1))) A4)) (A2 (A7 5 a6B.nd (G3 0 (F9 1) (F9 A4))) (A2 (B3 (B1 b7h 4 A4 (a0p _)) (A3 (A9 (C1 (B2 (a0c a7p) b4f ["_law_cell","_law_pool_here","_law_labels_here"] [none,some 2,some 3]) (B4 5) (A5 0 (show Xg (["_law_cell","_law_pool_here","_law_labels_here"]:List Str) by decide+kernel)) D3 (A8 (c0h T) T.g_z06 T.F_z06.kp T.b_z06 .nil (A0 0 (A0 1 (A0 2 A1))))))) B8) (A3 (A9 (C1 (B2 (a0c a7p) b4f ["_law_k","_law_cell","_law_pool_here","_law_labels_here","_law_style"] [none,none,some 2,some 3,some 4]) (J7 rfl T.z_enumerate (A0 5 A1)) (H7 (C3 (A5 0 (show Xg (["_law_k","_law_cell","_law_pool_here","_law_labels_here","_law_style"]:List Str) by decide+kernel)) (C3 (A5 1 (show Xg (["_law_k","_law_cell","_law_pool_here","_law_labels_here","_law_style"]:List Str) by decide+kernel)) E3))) D3 (A8 (b9l T) T.g_z23 T.F_z23.kp T.b_z23 .nil (A0 (A8 (a8t T) T.g_z22 T.F_z22.kp T.b_z22 .nil (A0 1 (A0 0 A1))) (A0 0 (A0 2 (A0 3 (A0 4 A1)))))))))))))›,?_⟩
  rw [show start b4f [V.ref a,V.int st]=[some (V.ref a),some (V.int st),none,none,none,none] from rfl]
  simp only [a1l,a1P,a0v,a0i,a0k,Qa,tC,a0q,Qh,a0l,Qf,Qg,tOp,tSl,b1m,Qb,a2I,a1h,a0X,a0o,a1p,a0e,a1q,b8S,b3k]
  refine ⟨a,ns,0,rfl,hS,hl,by decide,by decide,fun c0 hc0=>?_⟩
  refine ⟨c0,rfl,fun Pa pl H1 s1 hPn hP hp2 hp18 hpo _ _ hpe=>?_⟩
  have hS1:SqL K H1 a (ns.map V.int):=s1.seq hS
  simp only []
  refine ⟨a,ns,0,rfl,hS1,hl,by decide,by decide,fun c1 hc1=>?_⟩
  refine ⟨c1,rfl,fun La ls H2 s2 hLn hL hl12 hlo=>?_⟩
  have hS2:SqL K H2 a (ns.map V.int):=s2.seq hS1
  simp only []
  refine ⟨a,ns,1,rfl,hS2,hl,by decide,by decide,fun c2 hc2=>?_⟩
  simp only [a0W,a5w,a1k,decide_eq_true_eq]
  refine ⟨by decide,.inr (.inl ⟨a,_,rfl,hS2,fun C hCn=>?_⟩)⟩
  have hc:∀v∈a9I (ns.map V.int) (some st) (some 63),∃i,v=V.int i:=fun v hv=>by
   have:=List.mem_of_mem_drop (Yo hv)
   obtain ⟨i,_,e⟩:=Qk.mp this
   exact ⟨i,e.symm⟩
  have hcl:(a9I (ns.map V.int) (some st) (some 63)).length+st.toNat≤63:=by
   have h1:(a9I (ns.map V.int) (some st) (some 63)).length≤ns.length - min st.toNat ns.length:=by
    unfold a9I
    refine Qi (Ga _ _) ?_
    rw [Jw,Qd]
    unfold HT.sIx
    dsimp only
    rw [if_neg ‹om›]
    exact Qj _
   have:=Nat.min_def (n:=st.toNat) (m:=ns.length)
   split at this<;>omega
  generalize a9I (ns.map V.int) (some st) (some 63)=ws at hc hcl
  obtain ⟨H3,e3,s3,h3⟩:=a0N hCn (.lst ws);rw [e3]
  have s03:=(s1.trans s2).trans s3
  have hP3:=s3 _ _ (s2 _ _ hP)
  have hL3:=s3 _ _ hL
  have mono:∀(D:Addr) (i:Nat) (v:V) (Ha Hb:Hp),(∀b o,b≠D→Ha b=some o→Hb b=some o)→RwD pl D v Ha→RwD pl D v Hb:=fun D i v Ha Hb up h=>by
   obtain ⟨p,t,r,e,n1,n2,ho,g1,g2⟩:=h
   exact ⟨p,t,r,e,n1,n2,ho,up _ _ n1 g1,up _ _ n2 g2⟩
  have fin:∀(D:Addr) (H':Hp) (ys:List V),H3 D=none→a0h H3 H'→H' D=some (.lst ys)→ys.length=ws.length→(∀(i:Nat) v,ys[i]?=some v→RwD pl D v H')→Q (.ref D) H':=fun D H' ys hDn s hD hl' hv=>by
   obtain ⟨rs,hA,hO⟩:=a8d hv
   exact q D ys rs H' (s03.trans s) (none_of s03 hDn) hD hA (by rw [←hA.len,hl'];exact hcl) (fun r hr=>by have:=hO r hr;rw [hpe,hc0] at this;exact this)
  simp only [a0s]
  refine a1Q (fun c1=>?_) (fun c1=>?_)
  ·refine ⟨⟨_,SqL.of h3⟩,?_⟩
   refine a5z (a2q (xs:=ws)) (Qi (show ws.length≤1000 by omega) ‹dc›) [some (V.ref Pa),some (V.ref La)] rfl (fun D i v H'=>RwD pl D v H') mono (fun H' s=>SqL.of (s _ _ h3)) (fun D i H' R hi hDn s hD hR=>?_) fin
   obtain ⟨c,ec⟩:=hc ws[i] (Xa hi)
   rw [Qc hi,Xh,ec]
   obtain ⟨ys,hD⟩:=hD
   simp only [a0v,a0i,a0k,Qa,Qb,a0q,Qh,a0e]
   refine ⟨c,Pa,La,pl,ls,rfl,s _ _ hP3,hp2,hp18,hpo,s _ _ hL3,hl12,hlo,fun p t r H'' s' hp ht ho g1 g2=>?_⟩
   exact hR _ _ s' ⟨p,t,r,rfl,fun z=>a0b hD hp z.symm,fun z=>a0b hD ht z.symm,ho,g1,g2⟩
  ·refine ⟨C,rfl,⟨_,SqL.of h3⟩,?_⟩
   refine c0F (xs:=ws) (Qi (show ws.length≤1000 by omega) ‹dc›) [some (V.ref Pa),some (V.ref La),some (V.int (c2 % 4))] rfl (fun D i v H'=>RwD pl D v H') mono (SqL.of h3) (fun D i H' R hi hDn s hD hR=>?_) fin
   obtain ⟨c,ec⟩:=hc ws[i] (Xa hi)
   rw [ec]
   obtain ⟨ys,hD⟩:=hD
   simp only [a0v,a0i,a0k,Qb,Qa,a0q,Qh,a0e,a3T]
   intro r0 hr0
   refine ⟨r0,(i:Int),c2 % 4,Pa,La,pl,ls,rfl,s _ _ hP3,hp2,hp18,hpo,s _ _ hL3,hl12,hlo,fun p t r H'' s' hp ht ho g1 g2=>?_⟩
   exact hR _ _ s' ⟨p,t,r,rfl,fun z=>a0b hD hp z.symm,fun z=>a0b hD ht z.symm,ho,g1,g2⟩
theorem b4i (T:Txt K mg t):a0R P w K mg base CX0 10 t.f_d_law t.fd_d_law ["_law_script"] (b8k t.TB_z0u K):=by
 refine T.F_d_law.ok a1r (fun vs H Q E h=>?_) (fun cdv A outer s H vs Q E hr h=>?_)
 ·obtain ⟨a,ns,rfl,hS,hl,lt,q⟩:=h;rfl
 ·obtain ⟨a,ns,rfl,hS,hl,lt,q⟩:=h
  refine ⟨_,‹A2 (A7 1 a1r.nd (A8 (c0g T) T.g_z1y T.F_z1y.kp T.b_z1y .nil (A0 0 (A0 A4 A1)))) (A2 (A7 2 a1r.nd (A8 (b4P T) T.g_z1w T.F_z1w.kp T.b_z1w .nil (A0 (A8 (a3g T) T.g_z1c T.F_z1c.kp T.b_z1c .nil (A0 0 (A0 A4 A1))) A1))) (A2 (A7 3 a1r.nd (A8 (b9N T) T.g_z02 T.F_z02.kp T.b_z02 .nil (A0 0 A1))) (A2 (A7 4 a1r.nd (G3 1 G9 (F9 (A6 a0M (C4 a1n T.z_len a1m (A0 1 A1)) A4)))) (A2 (A7 5 a1r.nd (F5 T.mk_Answers (b5l T) T.g_Answers T.b_z0c (A0 (F5 T.mk_Ground (b5Z T) T.g_Ground T.b_z0s (A0 (C1 (B2 (a0c a2T) a5N ["_law_row_here"] [none]) (B4 1) (A5 0 (show Xg (["_law_row_here"]:List Str) by decide+kernel)) D3 (A8 (b5c T) T.g_z1x T.F_z1x.kp T.b_z1x .nil (A0 0 A1))) (A0 3 A1))) A1))) (A2 (A7 6 a1r.nd (F5 T.mk_Answers (b5l T) T.g_Answers T.b_z0c (A0 (F5 T.mk_Ground (b5Z T) T.g_Ground T.b_z0s (A0 (C1 (B2 (a0c a2T) a5N ["_law_row_here"] [none]) (B4 4) (A5 0 (show Xg (["_law_row_here"]:List Str) by decide+kernel)) D3 (A8 (b5c T) T.g_z1x T.F_z1x.kp T.b_z1x .nil (A0 0 A1))) (A0 3 A1))) A1))) (A2 (A7 7 a1r.nd (A8 (b0P T) T.g_z1v T.F_z1v.kp T.b_z1v .nil (A0 (A6 a0M (A8 (a3g T) T.g_z1c T.F_z1c.kp T.b_z1c .nil (A0 0 (A0 A4 A1))) A4) (A0 A4 (A0 B0 A1))))) (A2 (A7 8 a1r.nd (A6 a0r 2 (B7 (A0 7 (A0 (A6 a0r B0 7) A1))))) (A2 (A7 9 a1r.nd (A8 (b5T T) T.g_z24 T.F_z24.kp T.b_z24 .nil (A0 1 (A0 3 A1)))) (A2 (A7 10 a1r.nd (A8 (b5T T) T.g_z24 T.F_z24.kp T.b_z24 .nil (A0 4 (A0 3 A1)))) (A2 (B9 (E4 (A0 A4 A1)) (A5 11 a1r.nd) (A3 (B3 (D4 (F1 (D9 (C2 (A8 (b5N T) T.g_z1u T.F_z1u.kp T.b_z1u .nil (A0 5 (A0 9 (A0 8 A1)))))) (F2 (D9 (C2 (A8 (b5N T) T.g_z1u T.F_z1u.kp T.b_z1u .nil (A0 6 (A0 10 (A0 8 A1))))))))) (A3 (A9 B5)) B8))) (A3 (A9 B5))))))))))))›,?_⟩
  rw [show start a5N [V.ref a]=[some (V.ref a),none,none,none,none,none,none,none,none,none,none,none] from rfl]
  simp only [a1l,a1P,a0v,a0i,a0k,Qa,tC,a0q,Qh,a0l,Qf,Qg,tSl,Qb,a5A,b1m,tOp,tCB,b6w,a2M,a0t,a5L,a0e,a0o,a1p]
  refine ⟨a,ns,3,rfl,hS,hl,⟨by decide,by decide⟩,fun R0 xs rs H1 s1 hBn hB1 hA1 hrl hO2=>?_⟩
  have hO:∀r∈rs,a1E r:=fun r hr=>(hO2 r hr).1
  have hrl':rs.length≤60:=by have:rs.length+(3:Int).toNat≤63:=hrl;simp at this;omega
  have hS1:SqL K H1 a (ns.map V.int):=s1.seq hS
  simp only [a0s]
  refine ⟨a,ns,0,rfl,hS1,hl,by decide,by decide,fun c0 hc0=>?_⟩
  refine ⟨c0,rfl,fun Pa po H2 s2 hPn hP hp2 hp18 hpo hpn hop hpe=>?_⟩
  have hIn:∀r∈rs,c0m po r:=fun r hr=>by rw [hpe,hc0];exact (hO2 r hr).2
  have hpopp:∀x∈po,a0D x∈po:=fun x hx=>by rw [hpe] at hx ⊢;exact b3Z hx
  have hsts:∀x∈sts rs,x∈po:=fun x hx=>by
   obtain ⟨r,hr,q,hq,z⟩:=a1a.mp hx
   have hq':q∈po:=by
    rcases Qw.mp hq with w | w
    ·rw [w];exact (hIn r hr).1
    ·exact (hIn r hr).2 q w
   rcases z with z | z
   ·rw [z];exact hq'
   ·rw [z];exact hpopp q hq'
  have hqs:∀q∈po,q.length≤100∧a0D (a0D q)=q:=fun q hq=>⟨by have:=(hpo q hq).2;omega,hop q hq⟩
  clear hpe hc0
  have hS2:SqL K H2 a (ns.map V.int):=s2.seq hS1
  simp only []
  refine ⟨a,ns,rfl,hS2,hl,fun Pr ps pl H3 s3 hPrn hPr3 hPs3 hprl hpro=>?_⟩
  have s13:=s2.trans s3
  have hB3:=s13 _ _ hB1
  have hA3:=hA1.same s13
  have hP3:=s3 _ _ hP
  have hS3:SqL K H3 a (ns.map V.int):=s3.seq hS2
  have lt3:=lt.mono (s1.trans s13)
  clear hS1 hS2 hP hB1 hA1 hS lt
  simp only []
  refine a1L (SqL.of hB3) ?_
  simp only [a0W,a6P,b3k]
  refine ⟨by decide,.inr (.inl ⟨R0,_,rfl,SqL.of hB3,fun M hMn=>?_⟩)⟩
  obtain ⟨n,en⟩:∃n,a9I xs none (some ((xs.length:Int) / 2))=xs.take n:=⟨_,rfl⟩
  rw [en]
  obtain ⟨H4,e4,s4,h4⟩:=a0N hMn (.lst (xs.take n));rw [e4]
  have hO2':∀r∈rs.take n,a1E r:=fun r hr=>hO r (Yo hr)
  have hml:(rs.take n).length≤60:=by rw [Yb];omega
  have hstm:∀x∈sts (rs.take n),x∈sts rs:=fun x hx=>by
   obtain ⟨r,hr,z⟩:=a1a.mp hx
   exact a1a.mpr ⟨r,Yo hr,z⟩
  have lx4:Lx K H4 a R0 M Pa Pr ns xs (xs.take n) ps rs (rs.take n) pl po:=⟨s4.seq hS3,s4 _ _ hB3,hA3.same s4,h4,b6X (hA3.same s4) n,s4 _ _ hP3,s4 _ _ hPr3,a0y.same s4 hPs3⟩
  have lt4:=lt3.mono s4
  generalize rs.take n=ms at hO2' hml hstm lx4
  generalize xs.take n=ys at lx4
  clear hS3 hB3 hA3 hP3 hPr3 hPs3 lt3 h4 en
  simp only [a0s]
  refine ⟨⟨_,SqL.of lx4.B⟩,?_⟩
  refine a8x lx4.B lx4.A hO ‹om› rfl fun Ru H7 us s7 hR7 hU7=>?_
  have lx7:=lx4.same s7
  refine b0y hR7 hU7 hO ‹om› lx7.R lx7.Q hprl fun g H8 s8 ng hG8=>?_
  have lx8:=lx7.same s8
  have lt8:=lt4.mono (s7.trans s8)
  refine a7W hG8 hO ‹om› hsts hp18 hqs lt8 fun x1 H9 ss1 T1 k9 lt9 hd1 hT1 hx1=>?_
  have lx9:=lx8.on lt8 k9
  clear lx4 lx7 lx8 lt4 lt8 hR7 hU7 hG8 k9
  try skip
  refine ⟨⟨_,SqL.of lx9.M⟩,?_⟩
  refine a8x lx9.M lx9.N hO2' ‹om› rfl fun Ru H10 us s10 hR10 hU10=>?_
  have lx10:=lx9.same s10
  refine b0y hR10 hU10 hO2' ‹om› lx10.R lx10.Q hprl fun g H12 s12 ng hG12=>?_
  have lx12:=lx10.same s12
  have s912:=s10.trans s12
  have lt12:=lt9.mono s912
  refine a7W hG12 hO2' ‹om› (fun z hz=>hsts z (hstm z hz)) hp18 hqs lt12 fun x2 H13 ss2 T2 k13 lt13 hd2 hT2 hx2=>?_
  have lx13:=lx12.on lt12 k13
  have hx1':=(hx1.same s912).on lt12 k13
  clear lx9 lx10 lx12 lt9 lt12 hR10 hU10 hG12 k13 hx1
  try skip
  refine ⟨a,ns,0,rfl,lx13.S,hl,by decide,by decide,fun c1 _=>?_⟩
  simp only [a0W,a6P]
  rw [b5C]
  obtain ⟨w,ew,hok⟩:∃z,sv (a2y (c1 / 9) 9 a2S)=.str z∧OkS z:=⟨_,rfl,OkS.of (fun x hx=>a4Z (a3o ‹dc› x hx)) (Qi (a2z _ _ _).2 ‹dc›)⟩
  refine ⟨⟨by decide,by decide⟩,_,_,a2S,rfl,by decide,?_⟩
  rw [ew]
  have hwl:w.length≤100:=by have:=hok.2;omega
  simp only [a1A]
  refine ⟨Qi (show _≤1000 by have:("-":Str).length=1:=rfl;omega) ‹dc›,by simp only [Qm,Qr];decide,fun p hp=>?_⟩
  obtain ⟨H14,e14,s14,h14⟩:=a0N hp (.lst [V.str w,V.str ("-"++w)]);rw [e14]
  have lx14:=lx13.same s14
  refine .inr (.inr (.inl ⟨Pa,p,_,_,rfl,rfl,lx14.P,h14,Qi (show _≤1000 by rw [Qd,Qm,Qm,Qr];omega) ‹dc›,fun So hSon=>?_⟩))
  obtain ⟨H15,e15,s15,h15⟩:=a0N hSon (.lst (po.map V.str++[V.str w,V.str ("-"++w)]));rw [e15]
  have h15':H15 So=some (.lst ((po++[w,"-"++w]).map V.str)):=by rw [Xe];exact h15
  have hsml:(po++[w,"-"++w]).length≤100:=by rw [Xx,Qm,Qm,Qr];omega
  generalize po++[w,"-"++w]=sm at h15' hsml
  clear h15 h14
  have lx15:=lx14.same s15
  refine ⟨R0,Pr,xs,ps,rs,pl,po,rfl,lx15.B,lx15.A,hO,by omega,lx15.R,lx15.Q,hpro,hsts,hp18,fun q hq=>(hqs q hq).1,fun d1 St1 T3 H16 s16 hdn1 hD1=>?_⟩
  have lx16:=lx15.same s16
  refine ⟨M,Pr,ys,ps,ms,pl,po,rfl,lx16.M,lx16.N,hO2',by omega,lx16.R,lx16.Q,hpro,fun z hz=>hsts z (hstm z hz),hp18,fun q hq=>(hqs q hq).1,fun d2 St2 T4 H17 s17 hdn2 hD2=>?_⟩
  have s1317:=((s14.trans s15).trans s16).trans s17
  have hx1:=hx1'.same s1317
  have hx2':=hx2.same s1317
  have hD1':=hD1.same s17
  have hso:=(s16.trans s17) _ _ h15'
  have hAT1:b1g rs pl (a2Y rs) T3:=let ⟨_,_,_,_,_,_,_,_,h⟩:=hD1;h
  have hAT2:b1g ms pl (a2Y ms) T4:=let ⟨_,_,_,_,_,_,_,_,h⟩:=hD2;h
  have hSt1:c0V rs St1:=let ⟨_,_,_,_,_,_,h,_⟩:=hD1;h
  have hSt2:c0V ms St2:=let ⟨_,_,_,_,_,_,h,_⟩:=hD2;h
  have f1:=b2m hsts hp18
  have f2:=b2m (fun z hz=>hsts z (hstm z hz)) hp18
  have l1:St1.length≤18:=by rw [hSt1.1.length_eq];exact f1
  have l2:St2.length≤18:=by rw [hSt2.1.length_eq];exact f2
  obtain ⟨a1,b1⟩:=a7R (fun q hq=>(hqs q (hsts q hq)).2) hd1 hT1 hAT1
  obtain ⟨a2,b2⟩:=a7R (fun q hq=>(hqs q (hsts q (hstm q hq))).2) hd2 hT2 hAT2
  have g1:∀z∈sts rs,Xp z=true:=fun z hz=>(hpo z (hsts z hz)).1
  have g2:∀z∈sts ms,Xp z=true:=fun z hz=>g1 z (hstm z hz)
  refine ⟨2,rfl,by decide,by decide,?_⟩
  refine a1T (n:=(2:Int).toNat) (lo:=0) (fun i σ H'=>∃(x11:Option V),σ=[some (V.ref a),some (V.ref R0),some (V.ref Pa),some (V.ref Pr),some (V.ref M),some (V.ref x1),some (V.ref x2),some (V.str w),some (V.ref So),some (V.ref d1),some (V.ref d2),x11]∧a0h H17 H')
   ⟨_,rfl,a0h.refl _⟩ ?_ ?_
  ·rintro i σ H18 hi ⟨x11,rfl,s18⟩
   simp only [a0l,a2I,tOr,b2p,tB,a0v,a0i,a0k,Qf,Qg,Qb,Qa,a0q,Qh,Ye,a0X,tC,a1q,if_true,a0e]
   refine ⟨x1,d1,So,rs,pl,ss1,St1,sm,T1,T3,rfl,hx1.same s18,hT1.1,hD1'.same s18,s18 _ _ hso,hsml,a1,b1,hd1,g1,l1,by omega,f1,fun H19 s19=>?_⟩
   have s1719:=s18.trans s19
   simp only [a1k,a5c]
   refine ⟨x2,d2,So,ms,pl,ss2,St2,sm,T2,T4,rfl,hx2'.same s1719,hT2.1,hD2.same s1719,s1719 _ _ hso,hsml,a2,b2,hd2,g2,l2,by omega,f2,fun H20 s20=>?_⟩
   simp only [a1k,a5c]
   exact ⟨_,rfl,s1719.trans s20⟩
  ·rintro σ H18 ⟨x11,rfl,s18⟩
   simp only [a0X,tC]
   exact q H18
end
end K43
open PySem PySem.W PyProof.Rows
namespace K43
open PySem PySem.W L2
noncomputable def adr:Adr:=⟨28,kG "keyed" "keyed" b2B m1 27,33,kG "all_among" "all_among" a9u m1 32,38,kG "any_among" "any_among" a9D m1 37,45,kG "opposite" "opposite" b2Z m2 44,52,kG "heads_by_premise" "heads_by_premise" b0d m3 51,58,Zb "sure_rounds" "sure_rounds" (a2c a2L) (a1w a2L) (a0c a2L) (.ref 53) .none .none m4 none (.ref 57) .none,53,65,kG "sure_steps" "sure_steps" a8K m4 64,70,kG "is_beaten" "is_beaten" a8P m5 69,75,kG "holds_by" "holds_by" a7v m5 74,80,kG "refused_by" "refused_by" a6Q m5 79,87,kG "words_now" "words_now" a9Y m5 86,94,kG "touched" "touched" b2e m5 93,99,kG "most_rounds" "most_rounds" a4G m5 98,106,kG "answer_by" "answer_by" b1V m5 105,120,kG "__init__" "Answers.__init__" b1k m5 119,127,kG "word_and_rank" "Answers.word_and_rank" b2l m5 126,134,kG "sure" "Answers.sure" b1M m5 133,141,kG "held" "Answers.held" a9L m5 140,148,kG "refused" "Answers.refused" b2K m5 147,155,kG "answer" "Answers.answer" b0D m5 154,162,kG "rank" "Answers.rank" a9P m5 161,167,kG "listed" "Answers.listed" a9o m5 166,174,kG "sures" "Answers.sures" b0v m5 173,195,kG "__init__" "Rule.__init__" b2x m6 194,209,kG "speaks" "Rule.speaks" b1U m6 208,216,kG "is_sure" "Rule.is_sure" b0E m6 215,265,kG "__init__" "Fact.__init__" b1E m6 264,279,kG "is_sure" "Fact.is_sure" b2Q m6 278,319,kG "is_sure" "Sure.is_sure" b2V m6 318,378,kG "speaks" "Block.speaks" b0R m6 377,404,kG "__init__" "Ground.__init__" b2J m7 403,411,kG "rules" "Ground.rules" b2c m7 410,418,kG "ruling" "Ground.ruling" a9S m7 417,423,kG "speaking" "Ground.speaking" a9x m7 422,430,kG "against" "Ground.against" b2u m7 429,437,kG "beats" "Ground.beats" b1w m7 436,444,kG "statements" "Ground.statements" b1t m7 443,465,kG "_law_cell_at" "_law_cell_at" b2M m8 464,472,kG "_law_whole" "_law_whole" b0A m8 471,479,kG "_law_mix" "_law_mix" b2f m8 478,486,kG "_law_word" "_law_word" b1G m8 485,491,kG "_law_pool" "_law_pool" a9w m8 490,496,kG "_law_row" "_law_row" a6Z m8 495,503,kG "_law_made" "_law_made" b1i m8 502,508,kG "_law_labels" "_law_labels" a8T m8 507,515,kG "_law_row_by_digits" "_law_row_by_digits" b2t m8 514,520,kG "_law_rows" "_law_rows" a7p m8 519,525,kG "_law_rounds" "_law_rounds" a8X m8 524,532,kG "_law_pairs" "_law_pairs" b2R m8 531,539,kG "_law_pairs_by_digits" "_law_pairs_by_digits" b2a m8 538,546,kG "_law_other" "_law_other" b2g m8 545,553,kG "_law_by" "_law_by" b0k m8 552,558,kG "_law_stands" "_law_stands" a9i m8 557,563,kG "_law_falls" "_law_falls" a9a m8 562,568,kG "_law_beaten" "_law_beaten" a9m m8 567,573,kG "_law_held" "_law_held" a6c m8 572,578,kG "_law_refused" "_law_refused" a5W m8 577,585,kG "_law_fixed" "_law_fixed" b2q m8 584,592,kG "_law_there" "_law_there" b1P m8 591,599,kG "_law_answer" "_law_answer" b0u m8 598,606,kG "_law_due" "_law_due" b1F m8 605,611,kG "_law_one" "_law_one" a9t m8 610,616,kG "_law_right" "_law_right" a6i m8 615,621,kG "law" "law" a2T m8 620,177,247,296,329,355,388,454,60⟩
theorem b9x {K:Qe} {n q:String} {s:Stmt} {m:Value} {f c:Nat} (l:K.lookup f=some (kF n q s m c)) (e:Ju K (.ref c) q=true) (k:Zo K (.ref f)=true):Fun K n q s f (kG n q s m c):=c1E l e k
theorem txt (P:Params) {h:Heap} {mg:Str→Option Value} (X:(b3Y P).In h) (G:h.Ns mainGlobals mg):Txt (b3Y P) mg adr:=by
 constructor
 case F_z0n=>exact (a7n (f:=58) (st:=a2L) (ds:=[Value.none]) (oc:=.type "function") (od:=none) (osl:=#[]) (oT:=⟨.type "tuple",none,.seq #[.none] 0,#[]⟩) (nT:=0) (by kernel_rfl) (by kernel_rfl) (by kernel_rfl) (by kernel_rfl) rfl)
 case b_z0n=>exact b5B.binds (x:="sure_rounds") (qual:="sure_rounds") (ps:=["rules","known"]) [] (a7n (f:=58) (st:=a2L) (ds:=[Value.none]) (oc:=.type "function") (od:=none) (osl:=#[]) (oT:=⟨.type "tuple",none,.seq #[.none] 0,#[]⟩) (nT:=0) (by kernel_rfl) (by kernel_rfl) (by kernel_rfl) (by kernel_rfl) rfl) fun _ _ _ _ _ _ us hl=>match us,hl with | [_,_],_=>⟨_,rfl,rfl⟩
 case bd_z0n=>exact b5B.binds (x:="sure_rounds") (qual:="sure_rounds") (ps:=["rules","known"]) [Value.none] (a7n (f:=58) (st:=a2L) (ds:=[Value.none]) (oc:=.type "function") (od:=none) (osl:=#[]) (oT:=⟨.type "tuple",none,.seq #[.none] 0,#[]⟩) (nT:=0) (by kernel_rfl) (by kernel_rfl) (by kernel_rfl) (by kernel_rfl) rfl) fun _ _ _ _ _ _ us hl=>match us,(show us.length=1 from by rw [Xx] at hl;exact Nat.succ.inj hl) with | [_],_=>⟨_,rfl,rfl⟩
 case k_HELD=>exact ⟨256,Vi X G (by kernel_rfl)⟩
 case k_REFUSED=>exact ⟨258,Vi X G (by kernel_rfl)⟩
 all_goals first
  | exact b9x (by kernel_rfl) (by kernel_rfl) (by kernel_rfl)
  | exact .all fun us hl=>match us,hl with | [_],_=>rfl
  | exact .all fun us hl=>match us,hl with | [_,_],_=>rfl
  | exact .all fun us hl=>match us,hl with | [_,_,_],_=>rfl
  | exact .all fun us hl=>match us,hl with | [_,_,_,_],_=>rfl
  | exact .all fun us hl=>match us,hl with | [_,_,_,_,_],_=>rfl
  | exact .all fun us hl=>match us,hl with | [_,_,_,_,_,_],_=>rfl
  | exact Vi X G (by kernel_rfl)
  | exact PySem.W.mg_none_of X G (by kernel_rfl)
  | kernel_rfl
  | exact ⟨by kernel_rfl,by kernel_rfl,by kernel_rfl⟩
  | exact ⟨by kernel_rfl,by kernel_rfl,by kernel_rfl,by kernel_rfl⟩
  | exact (by kernel_rfl:Yv _ _ _=_)
  | exact c2n (by k_is) (by kernel_rfl) (by kernel_rfl) (by kernel_rfl)
  | exact b6W (bm:=4) (Vi X G (by kernel_rfl)) (by kernel_rfl)
end K43
theorem K43.said0:PySem.Challenge.rw_mostwise_k43_answers.wellSaid=true:=by kernel_rfl
set_option maxRecDepth 100000 in
set_option maxHeartbeats 0 in
theorem PySem.Challenge.cw_mostwise_k43_answers_holds : PySem.Challenge.rw_mostwise_k43_answers.Holds := by
 w_on;refine PySem.W.holds_law K43.said0 fun said=>?_
 refine PySem.W.holds_open (q:=K43.b7Q) (loose:=[("sure_rounds":PySem.Str)]) (Xt:=fun s=>PySem.W.xlAt K43.b7Q [] s && PySem.W.recOk (PySem.W.RowW.records (PySem.W.OpenRow.toRowW PySem.Challenge.rw_mostwise_k43_answers.row)) s) (XP:=PySem.W.XL K43.b7Q []) (Yf:=Ux.obs (Ul K43.a5g K43.a4J K43.a6b)) (Ya:=Ux.val (Ul K43.a5g K43.a4J K43.a6b)) (YP:=Ux.says (Ul K43.a5g K43.a4J K43.a6b)) (N:=8044) ?hl (Ux.of (Ul K43.a5g K43.a4J K43.a6b)) (Ux.keeps (Ul K43.a5g K43.a4J K43.a6b)) (fun s e=>PySem.W.xl_of s (Jy.mp e).1) PySem.W.XL.keeps (by rfl) (by rfl) (by rfl) (fun s e=>PySem.W.recFacts_of (Jy.mp e).2) (by rfl) (by first | assumption | decide+kernel) ‹dk› ⟨rfl,rfl,rfl,rfl,rfl,by decide+kernel⟩ ?hw ?hc
 (case hl=>refine PySem.W.LeftO.of_pieces (H₀:=K43.H0) (H₁:=K43.H1) (gs₀:=#[]) (gs₁:=#[]) (d₀:={}) (d₁:={}) (k₀:=181) (k₁:=992) (m₀:=11) (ann:=(some (.ref 6))) (M:=3977) K43.c1t ?_ K43.c3d rfl ?_<;>(intro w;kernel_rfl))
 (case hw=>w_witness2)
 refine L2.b3b (l:=PySem.Challenge.rw_mostwise_k43_answers) (n:=63) (k:=10) (x:="_law_script") (CX:=L2.CX0) (K:=K43.b3Y) (sp:=K43.b8k 60) 60 64 rfl ‹dc› rfl ⟨rfl,by decide,by decide⟩ (fun w h Y=>L2.b6h (PySem.W.kIn_of Y) (by kernel_rfl)) (fun w=>by kernel_rfl) (fun w=>by kernel_rfl) ?F (fun K H a ns hl hO hS=>K43.b4q hl hO hS) (fun _ _ _ _ z=>z)
 case F=>
  intro w mg fa h KX G hmg
  have T:K43.Txt (L2.KOf KX) mg K43.adr:=K43.txt w.params KX G
  obtain ⟨_,_,_,_,_,_,_,_,_,e2,_,_⟩:=T.F_d_law.ex
  have e0:=hmg.symm.trans T.g_d_law
  cases e0
  exact ⟨K43.adr.fd_d_law,fun s u=>by rw [e2];exact .of_eq rfl,fun base kb nb=>K43.b4i T⟩
