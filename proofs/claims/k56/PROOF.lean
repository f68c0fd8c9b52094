import PyProof.Rows.All
import Wide.All
import OpenK.AllK
import Wide.FinOn
import Lean
import PyProof.EqAt
import PyProof.EqKinds
import PyProof.TupleCall
import PyProof.StrLawsChain
import PyProof.StrLawsIn
import PyProof.Rows.StrNews2
import PyProof.StrBlockL
import PyProof.Rows.StrClose3
import PyProof.Rows.StrClose5
import PyProof.Rows.StrFirst
import PyProof.WalkInts
import PyProof.StrOps
import PyProof.WalksEnum
import PyProof.EnumMake
import PyProof.NeKinds
import KE.KEqDict
import KE.KRevIter
import PyProof.DictWalks
import PyProof.DictValues
import PyProof.ListRange
import PyProof.CollectIter
import PyProof.ZipIter
import PyProof.Rows.ZipGen
import PyProof.FString5
import KE.KDictLaws
import KE.KDictSum
import KE.KSortTup
import PyProof.Rows.SortStr
import PyProof.DictItems
import KE.KPairComp
import KE.KUnpack
import PyProof.P3Eq
import PyProof.Rows.SetFrom
import PyProof.Rows.Range3
import PySem.Challenge.RW_mostwise_k56_whole_what_keeps_open
set_option Elab.async false
set_option linter.all false
set_option maxRecDepth 100000
set_option maxHeartbeats 4000000
open List renaming getElem?_cons_zero → Qa, getElem?_cons_succ → Qb, getElem?_eq_getElem → Qc, length_map → Qd, append_nil → Qf, set_cons_succ → Qg, set_cons_zero → Qh, mem_cons_self → Qm, mem_cons → Qn, size_toArray → Qo, mem_cons_of_mem → Qp, getElem?_map → Qr, length_cons → Qt, getElem_mem → Qv, mem_singleton → Qw, mem_map → Qy, length_filter_le → Qz, getElem?_eq_some_iff → Xa, mem_filter → Xc, take_succ_eq_append_getElem → Xe, not_mem_nil → Xh, map_cons → Xj, length_append → Xk, length_nil → Xl, Nodup → Xm, mem_append → Xn, length_take → Xo, nodup_cons → Xu, any_eq_true → Xx, take_length → Xy, range → Yb, map_append → Yc, mem_append_right → Ye, nodup_nil → Yi, append_assoc → Yj, getElem_map → Yo, map_map → Yr, getElem?_append_right → Ys, pairwise_cons → Yu, lookup_cons → Yw, getElem?_append_left → Yx, getElem?_eq_none → Zc, filter_map → Ze, mem_of_mem_take → Zf, length_eq_zero_iff → Zm, length_range → Zn, length → Zp, any_map → Zr, ext_getElem → Zt, mem_flatMap → Zu, mem_append_left → Zx, toArray → Zy, getElem_of_mem → Zz, all_eq_true → Jb, getD_eq_getElem?_getD → Jc, map_take → Jd, nodup_append → Je, lookup → Jf, filter_cons → Jh, filterMap_cons → Jj, filter_eq_self → Jk, find?_cons → Jl, nil_append → Jm, length_singleton → Jo, mem_of_getElem? → Jq, length_eraseIdx_of_lt → Js, map_eq_nil_iff → Jt, filter_append → Jz, length_erase_of_mem → Ua, all_map → Ub, mem_range → Uc, ext_getElem? → Ue, getElem?_set_self → Uf, length_pos_of_mem → Uh, any_cons → Uj, length_drop → Uo, eraseIdxIfInBounds_toArray → Us, range_succ → Uv, eq_nil_iff_forall_not_mem → Uy, length_reverse → Vc, flatMap_append → Vd, length_pos_iff → Ve, Perm → Vk, getElem_range → Vl, filter_filter → Vm, all_cons → Vo, foldl_append → Vu, drop_eq_getElem_cons → Vv, map_nil → Vz, of_mem_zip → Wj, take_of_length_le → Wo, range_succ_eq_map → Wq, drop_zero → Ws, take_zero → Wt, getElem?_set_ne → Wy, getElem?_append → Wz, mem_erase_of_ne → Ga, map_congr_left → Gg, mem_filterMap → Gk, getElem?_take → Go, zip_cons_cons → Gp, map → Gw
open PySem.W renaming Frag → Qe, kitOne → Yn, findIn → Yz, kia_one → Zd, emptyDict → Zi, instObj → Zw, keepIn → Jg, callWith_K → Jx, fnOf → Jy, kHook → Ul, plainGet → Um, methodCall_KW → Uq, Hook → Va, plainGet_of → Vb, lookIn → Vf, codeIn → Vg, methodObj → Vp, hasDictIn → Vq, specialIn → Vr, takerIn → Wi, cellsFrom_some → Wl, typeIn → Wr, subIn → Gd, mg_of → Ge, isFn → Gm, plainOver → Gq, kitx_list → Gr, kitx_dict → Gs, handedIn → Gu, makesIn → Gx, takesIn → Gy, OpenLaw → Gz
open PySem.Heap renaming get?_push_of_some → Qi, lt_size → Qs, get?_push_size → Qu, SameBut → Yl, get?_update_self → Za, get?_update_other → Zh, size_push → Ja, get?_push_ne → Jn, size_update → Wd, get?_update_ne → Gf
open Nat renaming le_trans → Qj, le_refl → Qk, ne_of_lt → Qx, zero_le → Xg, lt_of_lt_of_le → Xr, lt_of_le_of_lt → Xv, lt_succ_of_lt → Yp, lt_succ_self → Yv, le_succ → Zg, lt_irrefl → Jr, ne_of_gt → Ut, le_of_eq → Uu, min_le_left → Ux, add_le_add → Vi, lt_trans → Wa, sub_self → Wc, le_of_lt → Gj
open Bool renaming and_eq_true → Ql, false_ne_true → Qq, not_eq_true' → Xf, eq_false_iff → Xz, true_and → Yg, eq_iff_iff → Yh, false_eq_true → Zk, false_and → Zl, or_eq_true → Zo, and_false → Ud, and_true → Uk, and_eq_true_iff → Gb, or_false → Gc, or_eq_true_iff → Gh
open Array renaming length_toList → Xb, getElem?_eq_getElem → Yy, getElem?_toList → Zb, getElem?_eq_none → Ug, getD → Uw, append_assoc → Gi, toList_push → Gt, Perm → Ka
open PySem.PyData renaming strOk → Xd, eqv → Yd, str → Yk, tuple → Ym, keyHash → Yt, depth → Zq, eqvAll → Zs, canLay0 → Zv, depthAll → Jv, canLayAll0 → Vt
open PySem.F renaming plainAttrs_list → Xi, slot_list_append → Xp, type_list_append → Xq, plainAttrs_str → Ui, slot_dict_get → Ur, slot_dict_setdefault → Vh, plain_extend_loop → Vw, args_tuple_add_2 → Vy, entry_tuple_add → We, args_dict_get_3 → Wf, plainAttrs_dict → Wg, plain_list_iadd → Wh, slot_tuple_add → Wm, entry_dict_get → Wn, slot_str_join → Wu, type_str_join → Wv, slot_list_pop → Ww, type_list_pop → Wx
open Option renaming getD_some → Xs, map_some → Ju, isSome_map → Vs, isSome_iff_exists → Vx, map_eq_some_iff → Wp, getD_none → Gv
open PySem.Str renaming ofString → Xw, empty → Up
open PySem.SeqAt renaming EqAt → Yq, shaped → Ji, notIn_listAt → Gn
open Int renaming toNat_natCast → Zj, fdiv_eq_ediv_of_nonneg → Vn
open PySem.Txt renaming startswith → Jp, slice → Vj, slice_le → Wb
open Decidable renaming byContradiction → Jw, of_not_not → Uz
local macro_rules
 | `(‹sk›)=>`(⟨rfl,rfl,rfl,by decide+kernel,rfl,by decide+kernel,by decide+kernel⟩)
 | `(‹dk›)=>`(by decide+kernel)
 | `(‹iz›)=>`(by intro z;cases z)
 | `(‹dc›)=>`(by decide)
 | `(‹om›)=>`(by omega)
set_option compiler.extract_closed false
set_option bootstrap.genMatcherCode false
noncomputable section
namespace L2
open PySem PySem.Spec PyProof.Rows
def a0a (s:Stmt):Scope:=match s with
 | .FunctionDef _ _ _ _ _ _ sc _ _ _=>sc
 | _=>{kind:=.function,names:=[],isGenerator:=false,isCoroutine:=false}
def a0n (s:Stmt) (j:Nat):Stmt:=match s with
 | .ClassDef _ _ _ body _ _ _ _ _ _ _=>body.getD j (.Pass ⟨0,0,0,0⟩)
 | _=>.Pass ⟨0,0,0,0⟩
def a3A (s:Stmt):Arguments:=match s with
 | .FunctionDef _ a _ _ _ _ _ _ _ _=>a
 | _=>{posonlyargs:=[],args:=[],vararg:=none,kwonlyargs:=[],kw_defaults:=[],kwarg:=none,defaults:=[]}
def a2W (s:Stmt):List Stmt:=match s with
 | .FunctionDef _ _ b _ _ _ _ _ _ _=>b
 | _=>[]
end L2
namespace Tx
end Tx
namespace K56
open PySem L2 Tx
noncomputable def top (i:Nat):Stmt:=PySem.Challenge.pw_mostwise_k56_whole_what_keeps_open.main.body.getD i (.Pass ⟨0,0,0,0⟩)
abbrev a9B:Stmt:=top 2
abbrev a8K:Stmt:=top 3
abbrev a8p:Stmt:=top 4
abbrev b1b:Stmt:=top 6
abbrev a5e:Stmt:=top 8
abbrev a8c:Stmt:=top 12
abbrev a6P:Stmt:=top 13
abbrev a6K:Stmt:=top 14
abbrev a7M:Stmt:=top 16
abbrev a9b:Stmt:=top 17
abbrev a8o:Stmt:=top 18
abbrev a8i:Stmt:=top 20
abbrev a7R:Stmt:=top 21
abbrev a8I:Stmt:=top 22
abbrev b0l:Stmt:=a0n (top 24) 0
abbrev b0S:Stmt:=a0n (top 24) 2
abbrev b0Y:Stmt:=a0n (top 24) 3
abbrev a9V:Stmt:=a0n (top 25) 0
abbrev b0j:Stmt:=a0n (top 25) 1
abbrev b1t:Stmt:=a0n (top 25) 2
abbrev b0O:Stmt:=a0n (top 26) 0
abbrev a9i:Stmt:=a0n (top 26) 1
abbrev b1n:Stmt:=a0n (top 27) 0
abbrev a9I:Stmt:=a0n (top 28) 0
abbrev a9m:Stmt:=a0n (top 28) 1
abbrev b1x:Stmt:=a0n (top 30) 0
abbrev a8V:Stmt:=a0n (top 30) 1
abbrev b0g:Stmt:=a0n (top 30) 2
abbrev a7Q:Stmt:=a0n (top 30) 3
abbrev b0u:Stmt:=a0n (top 30) 4
abbrev b0o:Stmt:=a0n (top 30) 5
abbrev a9H:Stmt:=a0n (top 30) 6
abbrev b0A:Stmt:=top 32
abbrev b0W:Stmt:=top 33
abbrev a8b:Stmt:=top 34
abbrev b1u:Stmt:=top 35
abbrev b1i:Stmt:=top 36
abbrev b1s:Stmt:=top 37
abbrev a9k:Stmt:=top 38
abbrev a7S:Stmt:=top 39
abbrev a9w:Stmt:=top 40
abbrev b0w:Stmt:=top 41
abbrev a8n:Stmt:=top 42
abbrev a9g:Stmt:=top 43
abbrev b0K:Stmt:=top 44
abbrev b0v:Stmt:=top 45
abbrev a8f:Stmt:=top 46
abbrev a8E:Stmt:=top 47
abbrev b1B:Stmt:=top 48
abbrev a8d:Stmt:=top 49
abbrev a8J:Stmt:=top 50
abbrev a8R:Stmt:=top 51
abbrev b0E:Stmt:=top 52
abbrev b0a:Stmt:=top 53
abbrev a6N:Stmt:=top 54
abbrev b1A:Stmt:=top 55
abbrev a5v:Stmt:=top 56
abbrev a2i:Stmt:=top 57
end K56
namespace K56
open PySem PySem.W L2
noncomputable section
noncomputable abbrev kE (P:Params) (x:String) (t:Nat) (v:Value):DictEntry:=⟨Yt P x,.str x t,v⟩
noncomputable abbrev kC (n q:String) (s:Stmt):Obj:=⟨.none,none,(.func ⟨n,q,a3A s,.stmts (a2W s),a0a s,0,[],.none,.none,.none,.none,none,.none,.none,0⟩),#[]⟩
noncomputable abbrev kD1 (n q:String) (t l a r u:Nat):Obj:=⟨.type "code",none,.fields #[.str n t,.str q (t+1),.str "/claim/cut.py" (t+2),.int l 0,.int a 0,.int 0 0,.int 0 0,.int 3 0,.ref r,.bool true,.int 181 0,.ref (r+1),.none,.ref (r+2),.ref (r+3),.ref (r+4),.int u 0,.int l 0,.str "/claim/cut.py" (u+1)],#[]⟩
noncomputable abbrev kD2 (n q:String) (t l a r u:Nat):Obj:=⟨.type "code",none,.fields #[.str n t,.str q (t+1),.str "/claim/cut.py" (t+2),.int l 0,.int a 0,.int 0 0,.int 0 0,.int 3 0,.ref r,.bool true,.int 181 0,.ref (r+1),.none,.none,.none,.ref (r+2),.int u 0,.int l 0,.str "/claim/cut.py" (u+1)],#[]⟩
noncomputable abbrev kG (n q:String) (s:Stmt) (m:Value) (c:Nat):FuncData:=Jy n q (a3A s) (a2W s) (a0a s) .none .none .none m none (.ref c) .none
noncomputable abbrev kF (n q:String) (s:Stmt) (m:Value) (c:Nat):Obj:=⟨.type "function",none,.func (kG n q s m c),#[]⟩
noncomputable abbrev kTs:Nat→List String→List Value
 | _,[]=>[]
 | t,x::l=>.str x t::kTs (t+1) l
noncomputable abbrev kT (t:Nat) (l:List String):Obj:=⟨.type "tuple",none,.seq ⟨kTs t l⟩ 0,#[]⟩
noncomputable abbrev kBs (f:String→Value) (P:Params):Nat→List String→List DictEntry
 | _,[]=>[]
 | t,x::l=>kE P x t (f x)::kBs f P (t+1) l
noncomputable abbrev kLs:List (Nat×Nat×Nat)→List Value
 | []=>[]
 | (a,b,c)::l=>.int a 0::.int b 0::.ref c::kLs l
noncomputable abbrev kL (l:List (Nat×Nat×Nat)):Obj:=⟨.none,none,.fields ⟨kLs l⟩,#[]⟩
noncomputable abbrev kQ (l:List DictEntry) (n:Nat):Obj:=⟨.type "dict",none,.dict ⟨l⟩ n,#[]⟩
noncomputable def kU:Obj:=⟨.type "tuple",none,.seq #[] 0,#[]⟩
noncomputable def kN:Obj:=⟨.none,none,.fields #[],#[]⟩
noncomputable abbrev m0:Value:=.str "__main__" 164
noncomputable abbrev m1:Value:=.str "mostwise.among" 194
noncomputable abbrev m2:Value:=.str "mostwise.words" 217
noncomputable abbrev m3:Value:=.str "mostwise.sure" 226
noncomputable abbrev m4:Value:=.str "mostwise.mostly" 234
noncomputable abbrev m5:Value:=.str "mostwise.papers" 258
noncomputable abbrev m6:Value:=.str "mostwise.opens" 284
noncomputable abbrev m7:Value:=.str "mostwise.rules" 304
noncomputable abbrev m8:Value:=.str "mostwise.ground" 556
noncomputable abbrev m9:Value:=.str "law_mostwise_k56_whole_what_keeps_open" 648
def o0 (P:Params):Obj:=kQ ([kE P "__name__" 1 (.str "builtins" 160),kE P "__doc__" 2 (.builtin "builtins.__doc__:str#opaque"),kE P "__package__" 3 (.builtin "builtins.__package__:str#opaque"),kE P "__loader__" 4 (.builtin "builtins.__loader__:shared#opaque"),kE P "__spec__" 5 (.builtin "builtins.__spec__#opaque")]++kBs .builtin P 6 ["__build_class__","__import__","abs","all","any","ascii","bin","breakpoint","callable","chr","compile","delattr","dir","divmod","eval","exec","format","getattr","globals","hasattr","hash","hex","id","input","isinstance","issubclass","iter","aiter","len","locals","max","min","next","anext","oct","ord","pow","print","repr","round","setattr","sorted","sum","vars"]++[kE P "None" 50 .none,kE P "Ellipsis" 51 .ellipsis,kE P "NotImplemented" 52 .notImplemented,kE P "False" 53 (.bool false),kE P "True" 54 (.bool true)]++kBs .type P 55 ["bool","memoryview","bytearray","bytes","classmethod","complex","dict","enumerate","filter","float","frozenset","property","int","list","map","object","range","reversed","set","slice","staticmethod","str","super","tuple","type","zip"]++[kE P "__debug__" 81 (.bool true)]++kBs .type P 82 ["BaseException","BaseExceptionGroup","Exception","GeneratorExit","KeyboardInterrupt","SystemExit","ArithmeticError","AssertionError","AttributeError","BufferError","EOFError","ImportError","LookupError","MemoryError","NameError","OSError","ReferenceError","RuntimeError","StopAsyncIteration","StopIteration","SyntaxError","SystemError","TypeError","ValueError","Warning","FloatingPointError","OverflowError","ZeroDivisionError","BytesWarning","DeprecationWarning","EncodingWarning","FutureWarning","ImportWarning","PendingDeprecationWarning","ResourceWarning","RuntimeWarning","SyntaxWarning","UnicodeWarning","UserWarning","BlockingIOError","ChildProcessError","ConnectionError","FileExistsError","FileNotFoundError","InterruptedError","IsADirectoryError","NotADirectoryError","PermissionError","ProcessLookupError","TimeoutError"]++kBs .type P 132 ["IndentationError","_IncompleteInputError","IndexError","KeyError","ModuleNotFoundError","NotImplementedError","PythonFinalizationError","RecursionError","UnboundLocalError","UnicodeError","BrokenPipeError","ConnectionAbortedError","ConnectionRefusedError","ConnectionResetError","TabError","UnicodeDecodeError","UnicodeEncodeError","UnicodeTranslateError","ExceptionGroup"]++[kE P "EnvironmentError" 151 (.type "OSError"),kE P "IOError" 152 (.type "OSError"),kE P "open" 153 (.builtin "open"),kE P "quit" 154 (.builtin "builtins.quit#opaque"),kE P "exit" 155 (.builtin "builtins.exit#opaque"),kE P "copyright" 156 (.builtin "builtins.copyright#opaque"),kE P "credits" 157 (.builtin "builtins.credits#opaque"),kE P "license" 158 (.builtin "builtins.license#opaque"),kE P "help" 159 (.builtin "builtins.help#opaque")]) 159
def o1 (P:Params):Obj:=kQ [kE P "builtins" 162 (.ref 4),kE P "__main__" 163 (.ref 5)] 2
noncomputable def o2:Obj:=⟨.none,none,(.dict #[] 0),#[]⟩
def o3 (P:Params):Obj:=kQ ([kE P "__name__" 165 (.str "law_mostwise_k56_whole_what_keeps_open" 648),kE P "__doc__" 166 .none,kE P "__package__" 167 .none,kE P "__loader__" 168 (.builtin "__main__.__loader__#opaque"),kE P "__spec__" 169 .none,kE P "__annotations__" 170 (.ref 6),kE P "__builtins__" 171 (.ref 4),kE P "__file__" 173 (.str "/claim/cut.py" 172),kE P "__cached__" 174 .none,kE P "_wall" 193 (.ref 21),kE P "keyed" 204 (.ref 28),kE P "all_among" 210 (.ref 33),kE P "any_among" 216 (.ref 38),kE P "opposite" 225 (.ref 45),kE P "is_sure_set" 233 (.ref 50),kE P "HELD" 237 (.str "held" 236),kE P "REFUSED" 239 (.str "refused" 238),kE P "is_beaten" 245 (.ref 55),kE P "holds_by" 251 (.ref 60),kE P "refused_by" 257 (.ref 65),kE P "with_word" 265 (.ref 70),kE P "follows" 277 (.ref 77),kE P "lets_by" 283 (.ref 82),kE P "rises" 291 (.ref 87),kE P "out_of_the_way" 297 (.ref 92),kE P "keeps_open" 303 (.ref 97),kE P "Rule" 391 (.ref 163),kE P "Fact" 445 (.ref 212),kE P "Sure" 484 (.ref 245),kE P "Most" 516 (.ref 271),kE P "Block" 555 (.ref 304),kE P "Ground" 647 (.ref 370),kE P "_law_cell_at" 657 (.ref 381),kE P "_law_mix" 666 (.ref 388),kE P "_law_words" 672 (.ref 393),kE P "_law_opposed" 679 (.ref 400),kE P "_law_pool" 689 (.ref 407),kE P "_law_drawn" 698 (.ref 414),kE P "_law_numbers" 711 (.ref 421),kE P "_law_rule" 717 (.ref 426),kE P "_law_pairs" 729 (.ref 433),kE P "_law_turned" 737 (.ref 440),kE P "_law_scene" 743 (.ref 445),kE P "_law_firm" 750 (.ref 452),kE P "_law_stands" 759 (.ref 459),kE P "_law_falls" 768 (.ref 466),kE P "_law_speaking" 774 (.ref 471),kE P "_law_against" 780 (.ref 476),kE P "_law_beaten" 790 (.ref 483),kE P "_law_may_hold" 796 (.ref 488)]++[kE P "_law_may_refuse" 802 (.ref 493),kE P "_law_sures" 812 (.ref 500),kE P "_law_grown" 825 (.ref 507),kE P "_law_rows_good" 838 (.ref 514),kE P "_law_due" 844 (.ref 519),kE P "_law_rows" 854 (.ref 526),kE P "_law_some" 860 (.ref 531),kE P "law" 866 (.ref 536)]) 58
noncomputable def o4:Obj:=⟨(.type "module"),(some 0),.plain,#[]⟩
noncomputable def o5:Obj:=⟨(.type "module"),(some 3),.plain,#[]⟩
noncomputable def o6:Obj:=⟨(.type "dict"),none,(.dict #[] 0),#[]⟩
noncomputable def o9:Obj:=⟨(.type "code"),none,(.fields #[(.str "<module>" 176),(.str "<module>" 177),(.str "/claim/cut.py" 178),(.int (1) 0),(.int (0) 0),(.int (0) 0),(.int (0) 0),(.int (0) 0),(.ref 7),(.bool false),(.int (175) 0),(.ref 8),.none,.none,.none,.none,(.int (179) 0),(.int (1) 0),(.str "/claim/cut.py" 180)]),#[]⟩
noncomputable def o10:Obj:=⟨(.type "frame"),none,.plain,#[(some (.ref 9)),(some (.ref 3)),(some (.ref 3)),none,(some (.str "__main__" 164)),none,(some (.ref 0))]⟩
def o12:Obj:=kL [(1,0,20),(5,0,27),(10,0,32),(12,0,37),(15,0,44),(18,0,49),(30,0,54),(32,0,59),(39,0,64),(47,0,69),(49,0,76),(57,0,81),(64,0,86),(66,0,91),(68,0,96),(78,0,103),(108,0,173),(124,0,220),(134,0,253),(141,0,279),(152,0,312),(189,0,380),(193,0,387),(198,0,392),(212,0,399),(216,0,406),(222,0,413),(227,0,420),(237,0,425),(249,0,432),(258,0,439),(262,0,444),(272,0,451),(274,0,458),(279,0,465),(284,0,470),(286,0,475),(288,0,482),(293,0,487),(303,0,492),(313,0,499),(322,0,506),(339,0,513),(352,0,518),(364,0,525),(374,0,530),(390,0,535)]
noncomputable def o13:Obj:=⟨(.type "code"),none,(.fields #[(.str "<module>" 182),(.str "<module>" 183),(.str "/claim/cut.py" 184),(.int (1) 0),(.int (0) 0),(.int (0) 0),(.int (0) 0),(.int (0) 0),(.ref 11),(.bool false),(.int (181) 0),(.ref 12),.none,.none,.none,.none,(.int (185) 0),(.int (1) 0),(.str "/claim/cut.py" 186)]),#[]⟩
noncomputable def o14:Obj:=⟨(.type "frame"),none,.plain,#[(some (.ref 13)),(some (.ref 3)),(some (.ref 3)),none,(some (.str "__main__" 164)),none,(some (.ref 0))]⟩
def o17:Obj:=kT 190 ["k"]
def o19:Obj:=kC "_wall" "_wall" (top 0)
def o20:Obj:=kD1 "_wall" "_wall" 187 1 1 15 191
def o21:Obj:=kF "_wall" "_wall" (top 0) m0 20
def o24:Obj:=kT 199 ["some","told","statement"]
def o26:Obj:=kC "keyed" "keyed" a9B
def o27:Obj:=kD1 "keyed" "keyed" 196 5 1 22 202
def o28:Obj:=kF "keyed" "keyed" a9B m1 27
def o31:Obj:=kC "all_among" "all_among" a8K
def o32:Obj:=kD2 "all_among" "all_among" 205 10 2 29 208
def o33:Obj:=kF "all_among" "all_among" a8K m1 32
def o36:Obj:=kC "any_among" "any_among" a8p
def o37:Obj:=kD2 "any_among" "any_among" 211 12 2 34 214
def o38:Obj:=kF "any_among" "any_among" a8p m1 37
def o41:Obj:=kT 222 ["statement"]
def o43:Obj:=kC "opposite" "opposite" b1b
def o44:Obj:=kD1 "opposite" "opposite" 219 15 1 39 223
def o45:Obj:=kF "opposite" "opposite" b1b m2 44
def o48:Obj:=kC "is_sure_set" "is_sure_set" a5e
def o49:Obj:=kD2 "is_sure_set" "is_sure_set" 228 18 2 46 231
def o50:Obj:=kF "is_sure_set" "is_sure_set" a5e m3 49
def o53:Obj:=kC "is_beaten" "is_beaten" a8c
def o54:Obj:=kD2 "is_beaten" "is_beaten" 240 30 3 51 243
def o55:Obj:=kF "is_beaten" "is_beaten" a8c m4 54
def o58:Obj:=kC "holds_by" "holds_by" a6P
def o59:Obj:=kD2 "holds_by" "holds_by" 246 32 5 56 249
def o60:Obj:=kF "holds_by" "holds_by" a6P m4 59
def o63:Obj:=kC "refused_by" "refused_by" a6K
def o64:Obj:=kD2 "refused_by" "refused_by" 252 39 5 61 255
def o65:Obj:=kF "refused_by" "refused_by" a6K m4 64
def o68:Obj:=kC "with_word" "with_word" a7M
def o69:Obj:=kD2 "with_word" "with_word" 260 47 2 66 263
def o70:Obj:=kF "with_word" "with_word" a7M m5 69
def o73:Obj:=kT 269 ["ground","sures","rows","claim","held","refused"]
def o75:Obj:=kC "follows" "follows" a9b
def o76:Obj:=kD1 "follows" "follows" 266 49 4 71 275
def o77:Obj:=kF "follows" "follows" a9b m5 76
def o80:Obj:=kC "lets_by" "lets_by" a8o
def o81:Obj:=kD2 "lets_by" "lets_by" 278 57 2 78 281
def o82:Obj:=kF "lets_by" "lets_by" a8o m5 81
def o85:Obj:=kC "rises" "rises" a8i
def o86:Obj:=kD2 "rises" "rises" 286 64 1 83 289
def o87:Obj:=kF "rises" "rises" a8i m6 86
def o90:Obj:=kC "out_of_the_way" "out_of_the_way" a7R
def o91:Obj:=kD2 "out_of_the_way" "out_of_the_way" 292 66 3 88 295
def o92:Obj:=kF "out_of_the_way" "out_of_the_way" a7R m6 91
def o95:Obj:=kC "keeps_open" "keeps_open" a8I
def o96:Obj:=kD2 "keeps_open" "keeps_open" 298 68 2 93 301
def o97:Obj:=kF "keeps_open" "keeps_open" a8I m6 96
noncomputable def o99:Obj:=⟨(.type "builtin_function_or_method"),none,(.fields #[(.builtin "type.__prepare__"),(.type "type")]),#[]⟩
def c7b (P:Params):Obj:=kQ [kE P "__module__" 313 (.str "mostwise.rules" 304),kE P "__qualname__" 315 (.str "Rule" 314),⟨Yt P "__firstlineno__",(.str "__firstlineno__" 317),(.int (78) 316)⟩,kE P "__init__" 327 (.ref 111),kE P "word" 334 (.ref 118),kE P "speaks" 341 (.ref 125),kE P "is_sure" 348 (.ref 132),kE P "letters" 355 (.ref 139),kE P "again" 364 (.ref 146),kE P "filled" 372 (.ref 153),kE P "row" 380 (.ref 160),kE P "__static_attributes__" 384 (.ref 161)] 12
def c5S:Obj:=kL [(80,4,110),(85,4,117),(88,4,124),(91,4,131),(94,4,138),(97,4,145),(100,4,152),(103,4,159)]
noncomputable def c7a:Obj:=⟨(.type "code"),none,(.fields #[(.str "Rule" 308),(.str "Rule" 309),(.str "/claim/cut.py" 310),(.int (78) 0),(.int (0) 0),(.int (0) 0),(.int (0) 0),(.int (0) 0),(.ref 101),(.bool false),(.int (181) 0),(.ref 102),.none,.none,.none,.none,(.int (311) 0),(.int (78) 0),(.str "/claim/cut.py" 312)]),#[]⟩
noncomputable def c5f:Obj:=⟨(.type "frame"),none,.plain,#[(some (.ref 103)),(some (.ref 3)),(some (.ref 100)),none,(some (.str "mostwise.rules" 304)),none,(some (.ref 0))]⟩
def c3E:Obj:=kT 321 ["self","label","head","body"]
def c6X:Obj:=kC "__init__" "Rule.__init__" b0l
def c3J:Obj:=kD1 "__init__" "Rule.__init__" 318 80 4 105 325
def c2k:Obj:=kF "__init__" "Rule.__init__" b0l m7 110
def c1J:Obj:=kT 331 ["self"]
def c5G:Obj:=kC "word" "Rule.word" (a0n (top 24) 1)
def c2O:Obj:=kD1 "word" "Rule.word" 328 85 1 112 332
def c6s:Obj:=kF "word" "Rule.word" (a0n (top 24) 1) m7 117
def c2n:Obj:=kT 338 ["self"]
def c5D:Obj:=kC "speaks" "Rule.speaks" b0S
def c4a:Obj:=kD1 "speaks" "Rule.speaks" 335 88 1 119 339
def c2l:Obj:=kF "speaks" "Rule.speaks" b0S m7 124
def c2u:Obj:=kT 345 ["self"]
def c5j:Obj:=kC "is_sure" "Rule.is_sure" b0Y
def c3d:Obj:=kD1 "is_sure" "Rule.is_sure" 342 91 1 126 346
def c2x:Obj:=kF "is_sure" "Rule.is_sure" b0Y m7 131
def c3n:Obj:=kT 352 ["self"]
def c6M:Obj:=kC "letters" "Rule.letters" (a0n (top 24) 4)
def c3s:Obj:=kD1 "letters" "Rule.letters" 349 94 1 133 353
def c4L:Obj:=kF "letters" "Rule.letters" (a0n (top 24) 4) m7 138
def c2v:Obj:=kT 359 ["self","head","body"]
def c5N:Obj:=kC "again" "Rule.again" (a0n (top 24) 5)
def c1O:Obj:=kD1 "again" "Rule.again" 356 97 3 140 362
def c6x:Obj:=kF "again" "Rule.again" (a0n (top 24) 5) m7 145
def c3I:Obj:=kT 368 ["self","given"]
def c4I:Obj:=kC "filled" "Rule.filled" (a0n (top 24) 6)
def c3Y:Obj:=kD1 "filled" "Rule.filled" 365 100 2 147 370
def c5p:Obj:=kF "filled" "Rule.filled" (a0n (top 24) 6) m7 152
def c0Z:Obj:=kT 376 ["self","words"]
def c5s:Obj:=kC "row" "Rule.row" (a0n (top 24) 7)
def c2N:Obj:=kD1 "row" "Rule.row" 373 103 1 154 378
def c6d:Obj:=kF "row" "Rule.row" (a0n (top 24) 7) m7 159
def c4i:Obj:=kT 381 ["body","head","label"]
def c1Q (P:Params):Obj:=kQ [kE P "__module__" 313 (.str "mostwise.rules" 304),⟨Yt P "__firstlineno__",(.str "__firstlineno__" 317),(.int (78) 316)⟩,kE P "__init__" 327 (.ref 111),kE P "word" 334 (.ref 118),kE P "speaks" 341 (.ref 125),kE P "is_sure" 348 (.ref 132),kE P "letters" 355 (.ref 139),kE P "again" 364 (.ref 146),kE P "filled" 372 (.ref 153),kE P "row" 380 (.ref 160),kE P "__static_attributes__" 384 (.ref 161),kE P "__dict__" 386 (.ref 164),kE P "__weakref__" 388 (.ref 165),kE P "__doc__" 389 .none] 4
noncomputable def c0k:Obj:=⟨(.type "type"),none,(.cls ⟨"Rule",[(.type "object")],[(.ref 163),(.type "object")],162,"Rule",true,[],[(.ref 212),(.ref 245),(.ref 271),(.ref 304)],false,none,false⟩),#[none,none,(some (.str "Rule" 306)),(some (.str "Rule" 314)),(some (.builtin "object.__new__")),(some (.bool true))]⟩
noncomputable def c4k:Obj:=⟨(.type "getset_descriptor"),none,(.fields #[(.str "__dict__" 385),(.ref 163),(.builtin "function.__dict__"),(.builtin "function.__dict__#set")]),#[]⟩
noncomputable def c2p:Obj:=⟨(.type "getset_descriptor"),none,(.fields #[(.str "__weakref__" 387),(.ref 163),(.builtin "ExceptionGroup.__weakref__"),.none]),#[]⟩
noncomputable def c6F:Obj:=⟨(.type "super"),none,(.fields #[(.ref 163),(.ref 163),(.ref 163)]),#[]⟩
noncomputable def c5A:Obj:=⟨(.type "builtin_function_or_method"),none,(.fields #[(.builtin "object.__init_subclass__"),(.ref 163)]),#[]⟩
noncomputable def c1H:Obj:=⟨(.type "tuple"),none,(.seq #[(.ref 163)] 0),#[]⟩
noncomputable def c5Q:Obj:=⟨(.type "builtin_function_or_method"),none,(.fields #[(.builtin "type.__prepare__"),(.type "type")]),#[]⟩
def c4Y (P:Params):Obj:=kQ [kE P "__module__" 399 (.str "mostwise.rules" 304),kE P "__qualname__" 401 (.str "Fact" 400),⟨Yt P "__firstlineno__",(.str "__firstlineno__" 403),(.int (108) 402)⟩,kE P "__init__" 411 (.ref 181),kE P "word" 418 (.ref 188),kE P "is_sure" 425 (.ref 195),kE P "again" 434 (.ref 202),kE P "row" 441 (.ref 209),kE P "__static_attributes__" 442 (.ref 210)] 9
def c4T:Obj:=kL [(110,4,180),(113,4,187),(116,4,194),(119,4,201),(122,4,208)]
noncomputable def c4P:Obj:=⟨(.type "code"),none,(.fields #[(.str "Fact" 394),(.str "Fact" 395),(.str "/claim/cut.py" 396),(.int (108) 0),(.int (0) 0),(.int (0) 0),(.int (0) 0),(.int (0) 0),(.ref 171),(.bool false),(.int (181) 0),(.ref 172),.none,.none,.none,.none,(.int (397) 0),(.int (108) 0),(.str "/claim/cut.py" 398)]),#[]⟩
noncomputable def c6T:Obj:=⟨(.type "frame"),none,.plain,#[(some (.ref 173)),(some (.ref 3)),(some (.ref 170)),none,(some (.str "mostwise.rules" 304)),none,(some (.ref 0))]⟩
def c4C:Obj:=kT 407 ["self","head"]
def c5m:Obj:=kC "__init__" "Fact.__init__" a9V
def c4h:Obj:=kD1 "__init__" "Fact.__init__" 404 110 2 175 409
def c1D:Obj:=kF "__init__" "Fact.__init__" a9V m7 180
def c2d:Obj:=kT 415 ["self"]
def c5U:Obj:=kC "word" "Fact.word" b0j
def c2C:Obj:=kD1 "word" "Fact.word" 412 113 1 182 416
def c1Y:Obj:=kF "word" "Fact.word" b0j m7 187
def c2o:Obj:=kT 422 ["self"]
def c5H:Obj:=kC "is_sure" "Fact.is_sure" b1t
def c1I:Obj:=kD1 "is_sure" "Fact.is_sure" 419 116 1 189 423
def c3o:Obj:=kF "is_sure" "Fact.is_sure" b1t m7 194
def c4l:Obj:=kT 429 ["self","head","body"]
def c4Q:Obj:=kC "again" "Fact.again" (a0n (top 25) 3)
def c2q:Obj:=kD1 "again" "Fact.again" 426 119 3 196 432
def c5k:Obj:=kF "again" "Fact.again" (a0n (top 25) 3) m7 201
def c2D:Obj:=kT 438 ["self"]
def c6j:Obj:=kC "row" "Fact.row" (a0n (top 25) 4)
def c2s:Obj:=kD1 "row" "Fact.row" 435 122 1 203 439
def c4R:Obj:=kF "row" "Fact.row" (a0n (top 25) 4) m7 208
def c1c (P:Params):Obj:=kQ [kE P "__module__" 399 (.str "mostwise.rules" 304),⟨Yt P "__firstlineno__",(.str "__firstlineno__" 403),(.int (108) 402)⟩,kE P "__init__" 411 (.ref 181),kE P "word" 418 (.ref 188),kE P "is_sure" 425 (.ref 195),kE P "again" 434 (.ref 202),kE P "row" 441 (.ref 209),kE P "__static_attributes__" 442 (.ref 210),kE P "__doc__" 443 .none] 2
noncomputable def c2t:Obj:=⟨(.type "type"),none,(.cls ⟨"Fact",[(.ref 163)],[(.ref 212),(.ref 163),(.type "object")],211,"Fact",true,[],[],false,none,false⟩),#[(some (.ref 168)),none,(some (.str "Fact" 392)),(some (.str "Fact" 400)),(some (.builtin "object.__new__")),(some (.bool true))]⟩
noncomputable def c5J:Obj:=⟨(.type "super"),none,(.fields #[(.ref 212),(.ref 212),(.ref 212)]),#[]⟩
noncomputable def c4M:Obj:=⟨(.type "builtin_function_or_method"),none,(.fields #[(.builtin "object.__init_subclass__"),(.ref 212)]),#[]⟩
noncomputable def c1k:Obj:=⟨(.type "tuple"),none,(.seq #[(.ref 163)] 0),#[]⟩
noncomputable def c7e:Obj:=⟨(.type "builtin_function_or_method"),none,(.fields #[(.builtin "type.__prepare__"),(.type "type")]),#[]⟩
def c6Z (P:Params):Obj:=kQ [kE P "__module__" 453 (.str "mostwise.rules" 304),kE P "__qualname__" 455 (.str "Sure" 454),⟨Yt P "__firstlineno__",(.str "__firstlineno__" 457),(.int (124) 456)⟩,kE P "word" 464 (.ref 228),kE P "is_sure" 471 (.ref 235),kE P "again" 480 (.ref 242),kE P "__static_attributes__" 481 (.ref 243)] 7
def c6w:Obj:=kL [(126,4,227),(129,4,234),(132,4,241)]
noncomputable def c5y:Obj:=⟨(.type "code"),none,(.fields #[(.str "Sure" 448),(.str "Sure" 449),(.str "/claim/cut.py" 450),(.int (124) 0),(.int (0) 0),(.int (0) 0),(.int (0) 0),(.int (0) 0),(.ref 218),(.bool false),(.int (181) 0),(.ref 219),.none,.none,.none,.none,(.int (451) 0),(.int (124) 0),(.str "/claim/cut.py" 452)]),#[]⟩
noncomputable def c6V:Obj:=⟨(.type "frame"),none,.plain,#[(some (.ref 220)),(some (.ref 3)),(some (.ref 217)),none,(some (.str "mostwise.rules" 304)),none,(some (.ref 0))]⟩
def c1u:Obj:=kT 461 ["self"]
def c6r:Obj:=kC "word" "Sure.word" b0O
def c2J:Obj:=kD1 "word" "Sure.word" 458 126 1 222 462
def c2M:Obj:=kF "word" "Sure.word" b0O m7 227
def c2P:Obj:=kT 468 ["self"]
def c6K:Obj:=kC "is_sure" "Sure.is_sure" a9i
def c3u:Obj:=kD1 "is_sure" "Sure.is_sure" 465 129 1 229 469
def c1p:Obj:=kF "is_sure" "Sure.is_sure" a9i m7 234
def c3M:Obj:=kT 475 ["self","head","body"]
def c6y:Obj:=kC "again" "Sure.again" (a0n (top 26) 2)
def c2w:Obj:=kD1 "again" "Sure.again" 472 132 3 236 478
def c6c:Obj:=kF "again" "Sure.again" (a0n (top 26) 2) m7 241
def c1S (P:Params):Obj:=kQ [kE P "__module__" 453 (.str "mostwise.rules" 304),⟨Yt P "__firstlineno__",(.str "__firstlineno__" 457),(.int (124) 456)⟩,kE P "word" 464 (.ref 228),kE P "is_sure" 471 (.ref 235),kE P "again" 480 (.ref 242),kE P "__static_attributes__" 481 (.ref 243),kE P "__doc__" 482 .none] 2
noncomputable def c3v:Obj:=⟨(.type "type"),none,(.cls ⟨"Sure",[(.ref 163)],[(.ref 245),(.ref 163),(.type "object")],244,"Sure",true,[],[],false,none,false⟩),#[(some (.ref 215)),none,(some (.str "Sure" 446)),(some (.str "Sure" 454)),(some (.builtin "object.__new__")),(some (.bool true))]⟩
noncomputable def c5Z:Obj:=⟨(.type "super"),none,(.fields #[(.ref 245),(.ref 245),(.ref 245)]),#[]⟩
noncomputable def c6S:Obj:=⟨(.type "builtin_function_or_method"),none,(.fields #[(.builtin "object.__init_subclass__"),(.ref 245)]),#[]⟩
noncomputable def c1d:Obj:=⟨(.type "tuple"),none,(.seq #[(.ref 163)] 0),#[]⟩
noncomputable def c6I:Obj:=⟨(.type "builtin_function_or_method"),none,(.fields #[(.builtin "type.__prepare__"),(.type "type")]),#[]⟩
def c4H (P:Params):Obj:=kQ [kE P "__module__" 492 (.str "mostwise.rules" 304),kE P "__qualname__" 494 (.str "Most" 493),⟨Yt P "__firstlineno__",(.str "__firstlineno__" 496),(.int (134) 495)⟩,kE P "word" 503 (.ref 261),kE P "again" 512 (.ref 268),kE P "__static_attributes__" 513 (.ref 269)] 6
def c6P:Obj:=kL [(136,4,260),(139,4,267)]
noncomputable def c6B:Obj:=⟨(.type "code"),none,(.fields #[(.str "Most" 487),(.str "Most" 488),(.str "/claim/cut.py" 489),(.int (134) 0),(.int (0) 0),(.int (0) 0),(.int (0) 0),(.int (0) 0),(.ref 251),(.bool false),(.int (181) 0),(.ref 252),.none,.none,.none,.none,(.int (490) 0),(.int (134) 0),(.str "/claim/cut.py" 491)]),#[]⟩
noncomputable def c4U:Obj:=⟨(.type "frame"),none,.plain,#[(some (.ref 253)),(some (.ref 3)),(some (.ref 250)),none,(some (.str "mostwise.rules" 304)),none,(some (.ref 0))]⟩
def c3r:Obj:=kT 500 ["self"]
def c5L:Obj:=kC "word" "Most.word" b1n
def c1j:Obj:=kD1 "word" "Most.word" 497 136 1 255 501
def c2g:Obj:=kF "word" "Most.word" b1n m7 260
def c4p:Obj:=kT 507 ["self","head","body"]
def c6D:Obj:=kC "again" "Most.again" (a0n (top 27) 1)
def c4r:Obj:=kD1 "again" "Most.again" 504 139 3 262 510
def c5l:Obj:=kF "again" "Most.again" (a0n (top 27) 1) m7 267
def c1z (P:Params):Obj:=kQ [kE P "__module__" 492 (.str "mostwise.rules" 304),⟨Yt P "__firstlineno__",(.str "__firstlineno__" 496),(.int (134) 495)⟩,kE P "word" 503 (.ref 261),kE P "again" 512 (.ref 268),kE P "__static_attributes__" 513 (.ref 269),kE P "__doc__" 514 .none] 2
noncomputable def c1l:Obj:=⟨(.type "type"),none,(.cls ⟨"Most",[(.ref 163)],[(.ref 271),(.ref 163),(.type "object")],270,"Most",true,[],[],false,none,false⟩),#[(some (.ref 248)),none,(some (.str "Most" 485)),(some (.str "Most" 493)),(some (.builtin "object.__new__")),(some (.bool true))]⟩
noncomputable def c6g:Obj:=⟨(.type "super"),none,(.fields #[(.ref 271),(.ref 271),(.ref 271)]),#[]⟩
noncomputable def c5u:Obj:=⟨(.type "builtin_function_or_method"),none,(.fields #[(.builtin "object.__init_subclass__"),(.ref 271)]),#[]⟩
noncomputable def c3O:Obj:=⟨(.type "tuple"),none,(.seq #[(.ref 163)] 0),#[]⟩
noncomputable def c6H:Obj:=⟨(.type "builtin_function_or_method"),none,(.fields #[(.builtin "type.__prepare__"),(.type "type")]),#[]⟩
def c4K (P:Params):Obj:=kQ [kE P "__module__" 524 (.str "mostwise.rules" 304),kE P "__qualname__" 526 (.str "Block" 525),⟨Yt P "__firstlineno__",(.str "__firstlineno__" 528),(.int (141) 527)⟩,kE P "word" 535 (.ref 287),kE P "speaks" 542 (.ref 294),kE P "again" 551 (.ref 301),kE P "__static_attributes__" 552 (.ref 302)] 7
def c4G:Obj:=kL [(143,4,286),(146,4,293),(149,4,300)]
noncomputable def c6u:Obj:=⟨(.type "code"),none,(.fields #[(.str "Block" 519),(.str "Block" 520),(.str "/claim/cut.py" 521),(.int (141) 0),(.int (0) 0),(.int (0) 0),(.int (0) 0),(.int (0) 0),(.ref 277),(.bool false),(.int (181) 0),(.ref 278),.none,.none,.none,.none,(.int (522) 0),(.int (141) 0),(.str "/claim/cut.py" 523)]),#[]⟩
noncomputable def c7g:Obj:=⟨(.type "frame"),none,.plain,#[(some (.ref 279)),(some (.ref 3)),(some (.ref 276)),none,(some (.str "mostwise.rules" 304)),none,(some (.ref 0))]⟩
def c3e:Obj:=kT 532 ["self"]
def c6e:Obj:=kC "word" "Block.word" a9I
def c4v:Obj:=kD1 "word" "Block.word" 529 143 1 281 533
def c1o:Obj:=kF "word" "Block.word" a9I m7 286
def c3Z:Obj:=kT 539 ["self"]
def c6i:Obj:=kC "speaks" "Block.speaks" a9m
def c3q:Obj:=kD1 "speaks" "Block.speaks" 536 146 1 288 540
def c1r:Obj:=kF "speaks" "Block.speaks" a9m m7 293
def c4F:Obj:=kT 546 ["self","head","body"]
def c6v:Obj:=kC "again" "Block.again" (a0n (top 28) 2)
def c1m:Obj:=kD1 "again" "Block.again" 543 149 3 295 549
def c5n:Obj:=kF "again" "Block.again" (a0n (top 28) 2) m7 300
def c4d (P:Params):Obj:=kQ [kE P "__module__" 524 (.str "mostwise.rules" 304),⟨Yt P "__firstlineno__",(.str "__firstlineno__" 528),(.int (141) 527)⟩,kE P "word" 535 (.ref 287),kE P "speaks" 542 (.ref 294),kE P "again" 551 (.ref 301),kE P "__static_attributes__" 552 (.ref 302),kE P "__doc__" 553 .none] 2
noncomputable def c1A:Obj:=⟨(.type "type"),none,(.cls ⟨"Block",[(.ref 163)],[(.ref 304),(.ref 163),(.type "object")],303,"Block",true,[],[],false,none,false⟩),#[(some (.ref 274)),none,(some (.str "Block" 517)),(some (.str "Block" 525)),(some (.builtin "object.__new__")),(some (.bool true))]⟩
noncomputable def c6U:Obj:=⟨(.type "super"),none,(.fields #[(.ref 304),(.ref 304),(.ref 304)]),#[]⟩
noncomputable def c6k:Obj:=⟨(.type "builtin_function_or_method"),none,(.fields #[(.builtin "object.__init_subclass__"),(.ref 304)]),#[]⟩
noncomputable def c5a:Obj:=⟨(.type "builtin_function_or_method"),none,(.fields #[(.builtin "type.__prepare__"),(.type "type")]),#[]⟩
def c6p (P:Params):Obj:=kQ [kE P "__module__" 565 (.str "mostwise.ground" 556),kE P "__qualname__" 567 (.str "Ground" 566),⟨Yt P "__firstlineno__",(.str "__firstlineno__" 569),(.int (152) 568)⟩,kE P "__init__" 580 (.ref 320),kE P "rules" 587 (.ref 327),kE P "ruling" 595 (.ref 334),kE P "speaking" 601 (.ref 339),kE P "against" 609 (.ref 346),kE P "beats" 618 (.ref 353),kE P "statements" 628 (.ref 360),kE P "part" 636 (.ref 367),kE P "__static_attributes__" 640 (.ref 368)] 12
def c4J:Obj:=kL [(154,4,319),(163,4,326),(166,4,333),(169,4,338),(172,4,345),(175,4,352),(178,4,359),(186,4,366)]
noncomputable def c5X:Obj:=⟨(.type "code"),none,(.fields #[(.str "Ground" 560),(.str "Ground" 561),(.str "/claim/cut.py" 562),(.int (152) 0),(.int (0) 0),(.int (0) 0),(.int (0) 0),(.int (0) 0),(.ref 310),(.bool false),(.int (181) 0),(.ref 311),.none,.none,.none,.none,(.int (563) 0),(.int (152) 0),(.str "/claim/cut.py" 564)]),#[]⟩
noncomputable def c4W:Obj:=⟨(.type "frame"),none,.plain,#[(some (.ref 312)),(some (.ref 3)),(some (.ref 309)),none,(some (.str "mostwise.ground" 556)),none,(some (.ref 0))]⟩
def c4D:Obj:=kT 573 ["self","rules","pairs","rule","pair"]
def c7c:Obj:=kC "__init__" "Ground.__init__" b1x
def c1w:Obj:=kD1 "__init__" "Ground.__init__" 570 154 3 314 578
def c2G:Obj:=kF "__init__" "Ground.__init__" b1x m8 319
def c2b:Obj:=kT 584 ["self"]
def c6n:Obj:=kC "rules" "Ground.rules" a8V
def c1N:Obj:=kD1 "rules" "Ground.rules" 581 163 1 321 585
def c4g:Obj:=kF "rules" "Ground.rules" a8V m8 326
def c1C:Obj:=kT 591 ["self","statement"]
def c5c:Obj:=kC "ruling" "Ground.ruling" b0g
def c2y:Obj:=kD1 "ruling" "Ground.ruling" 588 166 2 328 593
def c2j:Obj:=kF "ruling" "Ground.ruling" b0g m8 333
def c5e:Obj:=kC "speaking" "Ground.speaking" a7Q
def c3Q:Obj:=kD2 "speaking" "Ground.speaking" 596 169 2 335 599
def c1y:Obj:=kF "speaking" "Ground.speaking" a7Q m8 338
def c4s:Obj:=kT 605 ["self","statement"]
def c5M:Obj:=kC "against" "Ground.against" b0u
def c2e:Obj:=kD1 "against" "Ground.against" 602 172 2 340 607
def c3b:Obj:=kF "against" "Ground.against" b0u m8 345
def c1G:Obj:=kT 613 ["self","one","other"]
def c7d:Obj:=kC "beats" "Ground.beats" b0o
def c1x:Obj:=kD1 "beats" "Ground.beats" 610 175 3 347 616
def c1e:Obj:=kF "beats" "Ground.beats" b0o m8 352
def c2B:Obj:=kT 622 ["self","told","rule","statement"]
def c5C:Obj:=kC "statements" "Ground.statements" a9H
def c4b:Obj:=kD1 "statements" "Ground.statements" 619 178 1 354 626
def c1n:Obj:=kF "statements" "Ground.statements" a9H m8 359
def c0Y:Obj:=kT 632 ["self","some"]
def c6N:Obj:=kC "part" "Ground.part" (a0n (top 30) 7)
def c1F:Obj:=kD1 "part" "Ground.part" 629 186 2 361 634
def c6E:Obj:=kF "part" "Ground.part" (a0n (top 30) 7) m8 366
def c3z:Obj:=kT 637 ["by_head","in_order","pairs"]
def c1t (P:Params):Obj:=kQ [kE P "__module__" 565 (.str "mostwise.ground" 556),⟨Yt P "__firstlineno__",(.str "__firstlineno__" 569),(.int (152) 568)⟩,kE P "__init__" 580 (.ref 320),kE P "rules" 587 (.ref 327),kE P "ruling" 595 (.ref 334),kE P "speaking" 601 (.ref 339),kE P "against" 609 (.ref 346),kE P "beats" 618 (.ref 353),kE P "statements" 628 (.ref 360),kE P "part" 636 (.ref 367),kE P "__static_attributes__" 640 (.ref 368),kE P "__dict__" 642 (.ref 371),kE P "__weakref__" 644 (.ref 372),kE P "__doc__" 645 .none] 4
noncomputable def c2F:Obj:=⟨(.type "type"),none,(.cls ⟨"Ground",[(.type "object")],[(.ref 370),(.type "object")],369,"Ground",true,[],[],false,none,false⟩),#[none,none,(some (.str "Ground" 558)),(some (.str "Ground" 566)),(some (.builtin "object.__new__")),(some (.bool true))]⟩
noncomputable def c2L:Obj:=⟨(.type "getset_descriptor"),none,(.fields #[(.str "__dict__" 641),(.ref 370),(.builtin "function.__dict__"),(.builtin "function.__dict__#set")]),#[]⟩
noncomputable def c4E:Obj:=⟨(.type "getset_descriptor"),none,(.fields #[(.str "__weakref__" 643),(.ref 370),(.builtin "ExceptionGroup.__weakref__"),.none]),#[]⟩
noncomputable def c6J:Obj:=⟨(.type "super"),none,(.fields #[(.ref 370),(.ref 370),(.ref 370)]),#[]⟩
noncomputable def c6C:Obj:=⟨(.type "builtin_function_or_method"),none,(.fields #[(.builtin "object.__init_subclass__"),(.ref 370)]),#[]⟩
def c4B:Obj:=kT 653 ["_law_script","_law_k"]
def c5z:Obj:=kC "_law_cell_at" "_law_cell_at" b0A
def c2X:Obj:=kD1 "_law_cell_at" "_law_cell_at" 650 189 2 375 655
def c1L:Obj:=kF "_law_cell_at" "_law_cell_at" b0A m9 380
def c3V:Obj:=kT 661 ["_law_cell","_law_k","_law_number"]
def c5T:Obj:=kC "_law_mix" "_law_mix" b0W
def c3F:Obj:=kD1 "_law_mix" "_law_mix" 658 193 2 382 664
def c3x:Obj:=kF "_law_mix" "_law_mix" b0W m9 387
def c4X:Obj:=kC "_law_words" "_law_words" a8b
def c4q:Obj:=kD2 "_law_words" "_law_words" 667 198 2 389 670
def c3h:Obj:=kF "_law_words" "_law_words" a8b m9 392
def c1q:Obj:=kT 676 ["_law_text"]
def c5E:Obj:=kC "_law_opposed" "_law_opposed" b1u
def c4c:Obj:=kD1 "_law_opposed" "_law_opposed" 673 212 1 394 677
def c2A:Obj:=kF "_law_opposed" "_law_opposed" b1u m9 399
def c3p:Obj:=kT 683 ["_law_script","_law_names","_law_things","_law_some_here"]
def c6W:Obj:=kC "_law_pool" "_law_pool" b1i
def c2m:Obj:=kD1 "_law_pool" "_law_pool" 680 216 1 401 687
def c3c:Obj:=kF "_law_pool" "_law_pool" b1i m9 406
def c3U:Obj:=kT 693 ["_law_pool_here","_law_number","_law_text"]
def c6A:Obj:=kC "_law_drawn" "_law_drawn" b1s
def c2c:Obj:=kD1 "_law_drawn" "_law_drawn" 690 222 2 408 696
def c1W:Obj:=kF "_law_drawn" "_law_drawn" b1s m9 413
def c4j:Obj:=kT 702 ["_law_cell","_law_many","_law_size","_law_plain","_law_found","_law_rest","_law_j"]
def c5O:Obj:=kC "_law_numbers" "_law_numbers" a9k
def c2Y:Obj:=kD1 "_law_numbers" "_law_numbers" 699 227 4 415 709
def c1v:Obj:=kF "_law_numbers" "_law_numbers" a9k m9 420
def c6h:Obj:=kC "_law_rule" "_law_rule" a7S
def c2z:Obj:=kD2 "_law_rule" "_law_rule" 712 237 4 422 715
def c3X:Obj:=kF "_law_rule" "_law_rule" a7S m9 425
def c2T:Obj:=kT 721 ["_law_rules","_law_cell","_law_pairs_here","_law_k","_law_j","_law_way"]
def c5o:Obj:=kC "_law_pairs" "_law_pairs" a9w
def c1V:Obj:=kD1 "_law_pairs" "_law_pairs" 718 249 2 427 727
def c1s:Obj:=kF "_law_pairs" "_law_pairs" a9w m9 432
def c3L:Obj:=kT 733 ["_law_rules","_law_cell"]
def c5w:Obj:=kC "_law_turned" "_law_turned" b0w
def c3S:Obj:=kD1 "_law_turned" "_law_turned" 730 258 2 434 735
def c2r:Obj:=kF "_law_turned" "_law_turned" b0w m9 439
def c5V:Obj:=kC "_law_scene" "_law_scene" a8n
def c2a:Obj:=kD2 "_law_scene" "_law_scene" 738 262 2 441 741
def c3A:Obj:=kF "_law_scene" "_law_scene" a8n m9 444
def c3k:Obj:=kT 747 ["_law_rule_here"]
def c4Z:Obj:=kC "_law_firm" "_law_firm" a9g
def c4o:Obj:=kD1 "_law_firm" "_law_firm" 744 272 1 446 748
def c3P:Obj:=kF "_law_firm" "_law_firm" a9g m9 451
def c2R:Obj:=kT 754 ["_law_rule_here","_law_held","_law_text"]
def c5Y:Obj:=kC "_law_stands" "_law_stands" b0K
def c2U:Obj:=kD1 "_law_stands" "_law_stands" 751 274 2 453 757
def c3m:Obj:=kF "_law_stands" "_law_stands" b0K m9 458
def c3C:Obj:=kT 763 ["_law_rule_here","_law_refused","_law_text"]
def c7f:Obj:=kC "_law_falls" "_law_falls" b0v
def c2K:Obj:=kD1 "_law_falls" "_law_falls" 760 279 2 460 766
def c4e:Obj:=kF "_law_falls" "_law_falls" b0v m9 465
def c5q:Obj:=kC "_law_speaking" "_law_speaking" a8f
def c3j:Obj:=kD2 "_law_speaking" "_law_speaking" 769 284 2 467 772
def c3f:Obj:=kF "_law_speaking" "_law_speaking" a8f m9 470
def c5K:Obj:=kC "_law_against" "_law_against" a8E
def c4u:Obj:=kD2 "_law_against" "_law_against" 775 286 2 472 778
def c3l:Obj:=kF "_law_against" "_law_against" a8E m9 475
def c1P:Obj:=kT 784 ["_law_scene_here","_law_rule_here","_law_others","_law_other"]
def c5F:Obj:=kC "_law_beaten" "_law_beaten" b1B
def c3t:Obj:=kD1 "_law_beaten" "_law_beaten" 781 288 3 477 788
def c2Q:Obj:=kF "_law_beaten" "_law_beaten" b1B m9 482
def c4O:Obj:=kC "_law_may_hold" "_law_may_hold" a8d
def c1f:Obj:=kD2 "_law_may_hold" "_law_may_hold" 791 293 5 484 794
def c1T:Obj:=kF "_law_may_hold" "_law_may_hold" a8d m9 487
def c5B:Obj:=kC "_law_may_refuse" "_law_may_refuse" a8J
def c2h:Obj:=kD2 "_law_may_refuse" "_law_may_refuse" 797 303 5 489 800
def c1E:Obj:=kF "_law_may_refuse" "_law_may_refuse" a8J m9 492
def c4A:Obj:=kT 806 ["_law_scene_here","_law_found","_law_last","_law_rule_here"]
def c5t:Obj:=kC "_law_sures" "_law_sures" a8R
def c2S:Obj:=kD1 "_law_sures" "_law_sures" 803 313 1 494 810
def c1R:Obj:=kF "_law_sures" "_law_sures" a8R m9 499
def c3y:Obj:=kT 816 ["_law_scene_here","_law_sures_here","_law_held","_law_refused","_law_rows_here","_law_last","_law_text"]
def c6q:Obj:=kC "_law_grown" "_law_grown" b0E
def c4f:Obj:=kD1 "_law_grown" "_law_grown" 813 322 2 501 823
def c3K:Obj:=kF "_law_grown" "_law_grown" b0E m9 506
def c2V:Obj:=kT 829 ["_law_scene_here","_law_sures_here","_law_rows_here","_law_held","_law_refused","_law_word","_law_text"]
def c6a:Obj:=kC "_law_rows_good" "_law_rows_good" b0a
def c2Z:Obj:=kD1 "_law_rows_good" "_law_rows_good" 826 339 3 508 836
def c1b:Obj:=kF "_law_rows_good" "_law_rows_good" b0a m9 513
def c6Q:Obj:=kC "_law_due" "_law_due" a6N
def c2I:Obj:=kD2 "_law_due" "_law_due" 839 352 3 515 842
def c3i:Obj:=kF "_law_due" "_law_due" a6N m9 518
def c2E:Obj:=kT 848 ["_law_claims","_law_cell","_law_rows_here","_law_at"]
def c6m:Obj:=kC "_law_rows" "_law_rows" b1A
def c3w:Obj:=kD1 "_law_rows" "_law_rows" 845 364 2 520 852
def c3N:Obj:=kF "_law_rows" "_law_rows" b1A m9 525
def c6R:Obj:=kC "_law_some" "_law_some" a5v
def c2f:Obj:=kD2 "_law_some" "_law_some" 855 374 3 527 858
def c3G:Obj:=kF "_law_some" "_law_some" a5v m9 530
def c6o:Obj:=kC "law" "law" a2i
def c1Z:Obj:=kD2 "law" "law" 861 390 1 532 864
def c4n:Obj:=kF "law" "law" a2i m9 535
def p3 (P:Params):Obj:=kQ [kE P "__name__" 165 (.str "__main__" 164),kE P "__doc__" 166 .none,kE P "__package__" 167 .none,kE P "__loader__" 168 (.builtin "__main__.__loader__#opaque"),kE P "__spec__" 169 .none,kE P "__annotations__" 170 (.ref 6),kE P "__builtins__" 171 (.ref 4),kE P "__file__" 173 (.str "/claim/cut.py" 172),kE P "__cached__" 174 .none] 9
noncomputable def H0 (P:Params):Heap:=⟨⟨o0 P::o1 P::o2::p3 P::o4::o5::o6::kU::kN::o9::o10::[]⟩,{}⟩
noncomputable abbrev S0 (P:Params):List Obj:=o4::o5::o6::kU::kN::o9::o10::kU::[]
noncomputable abbrev S1 (P:Params):List Obj:=o13::o14::kU::kN::o17::kU::o19::o20::o21::kU::kN::o24::kU::o26::o27::o28::kU::kN::o31::o32::o33::kU::kN::o36::o37::o38::kU::kN::o41::kU::o43::o44::o45::kU::kN::o48::o49::o50::kU::kN::o53::o54::o55::kU::kN::o58::o59::o60::kU::kN::o63::o64::o65::kU::kN::o68::o69::o70::kU::kN::o73::kU::o75::o76::o77::kU::kN::o80::o81::o82::kU::kN::o85::o86::o87::kU::kN::o90::o91::o92::kU::kN::o95::o96::o97::kU::o99::c7b P::kU::c5S::c7a::c5f::kU::kN::c3E::kU::c6X::c3J::c2k::kU::kN::c1J::kU::c5G::c2O::c6s::kU::kN::c2n::kU::c5D::c4a::c2l::kU::kN::c2u::kU::c5j::c3d::c2x::kU::kN::c3n::kU::c6M::c3s::c4L::kU::kN::c2v::kU::c5N::c1O::c6x::kU::kN::c3I::kU::c4I::c3Y::c5p::kU::kN::c0Z::kU::c5s::c2N::c6d::c4i::c1Q P::[]
noncomputable abbrev S2 (P:Params):List Obj:=c4k::c2p::c6F::c5A::c1H::c5Q::c4Y P::kU::c4T::c4P::c6T::kU::kN::c4C::kU::c5m::c4h::c1D::kU::kN::c2d::kU::c5U::c2C::c1Y::kU::kN::c2o::kU::c5H::c1I::c3o::kU::kN::c4l::kU::c4Q::c2q::c5k::kU::kN::c2D::kU::c6j::c2s::c4R::kU::c1c P::c2t::c5J::c4M::[]
noncomputable abbrev S3 (P:Params):List Obj:=c1k::c7e::c6Z P::kU::c6w::c5y::c6V::kU::kN::c1u::kU::c6r::c2J::c2M::kU::kN::c2P::kU::c6K::c3u::c1p::kU::kN::c3M::kU::c6y::c2w::c6c::kU::c1S P::c3v::c5Z::c6S::c1d::c6I::c4H P::kU::c6P::c6B::c4U::kU::kN::c3r::kU::c5L::c1j::c2g::kU::kN::c4p::kU::c6D::c4r::c5l::kU::c1z P::c1l::c6g::c5u::c3O::c6H::c4K P::kU::c4G::c6u::c7g::kU::kN::c3e::kU::c6e::c4v::c1o::kU::kN::c3Z::kU::c6i::c3q::c1r::kU::kN::c4F::kU::c6v::c1m::c5n::kU::c4d P::c1A::c6U::c6k::kU::c5a::c6p P::kU::c4J::c5X::c4W::kU::kN::c4D::kU::c7c::c1w::c2G::kU::kN::c2b::kU::c6n::c1N::c4g::kU::kN::c1C::kU::c5c::c2y::c2j::kU::kN::c5e::c3Q::c1y::kU::kN::c4s::kU::c5M::c2e::c3b::kU::kN::c1G::kU::c7d::c1x::c1e::kU::kN::c2B::kU::c5C::c4b::c1n::kU::kN::c0Y::kU::c6N::c1F::c6E::c3z::c1t P::c2F::c2L::c4E::c6J::c6C::[]
noncomputable abbrev S4 (P:Params):List Obj:=kU::kN::c4B::kU::c5z::c2X::c1L::kU::kN::c3V::kU::c5T::c3F::c3x::kU::kN::c4X::c4q::c3h::kU::kN::c1q::kU::c5E::c4c::c2A::kU::kN::c3p::kU::c6W::c2m::c3c::kU::kN::c3U::kU::c6A::c2c::c1W::kU::kN::c4j::kU::c5O::c2Y::c1v::kU::kN::c6h::c2z::c3X::kU::kN::c2T::kU::c5o::c1V::c1s::kU::kN::c3L::kU::c5w::c3S::c2r::kU::kN::c5V::c2a::c3A::kU::kN::c3k::kU::c4Z::c4o::c3P::kU::kN::c2R::kU::c5Y::c2U::c3m::kU::kN::c3C::kU::c7f::c2K::c4e::kU::kN::c5q::c3j::c3f::kU::kN::c5K::c4u::c3l::kU::kN::c1P::kU::c5F::c3t::c2Q::kU::kN::c4O::c1f::c1T::kU::kN::c5B::c2h::c1E::kU::kN::c4A::kU::c5t::c2S::c1R::kU::kN::c3y::kU::c6q::c4f::c3K::kU::kN::c2V::kU::c6a::c2Z::c1b::kU::kN::c6Q::c2I::c3i::kU::kN::c2E::kU::c6m::c3w::c3N::kU::kN::c6R::c2f::c3G::kU::kN::c6o::c1Z::c4n::[]
noncomputable def H1 (P:Params):Heap:=⟨⟨[o0 P,o1 P,o2,o3 P]++S0 P++[o12]++S1 P++[c0k]++S2 P++S3 P++S4 P⟩,{}⟩
noncomputable def a5Q:Params→Qe:=fun P=>
(nat_lit 2,o2)::(nat_lit 3,o3 P)::(nat_lit 15,kU)::(nat_lit 17,o17)::(nat_lit 18,kU)::(nat_lit 20,o20)::(nat_lit 22,kU)::(nat_lit 24,o24)::(nat_lit 25,kU)::(nat_lit 27,o27)::(nat_lit 28,o28)::(nat_lit 29,kU)::(nat_lit 32,o32)::(nat_lit 33,o33)::(nat_lit 34,kU)::(nat_lit 37,o37)::(nat_lit 38,o38)::(nat_lit 39,kU)::(nat_lit 41,o41)::(nat_lit 42,kU)::(nat_lit 44,o44)::(nat_lit 45,o45)::(nat_lit 46,kU)::(nat_lit 49,o49)::(nat_lit 50,o50)::(nat_lit 51,kU)::(nat_lit 54,o54)::(nat_lit 55,o55)::(nat_lit 56,kU)::(nat_lit 59,o59)::(nat_lit 60,o60)::(nat_lit 61,kU)::(nat_lit 64,o64)::(nat_lit 65,o65)::(nat_lit 66,kU)::(nat_lit 69,o69)::(nat_lit 70,o70)::(nat_lit 71,kU)::(nat_lit 73,o73)::(nat_lit 74,kU)::(nat_lit 76,o76)::(nat_lit 77,o77)::(nat_lit 78,kU)::(nat_lit 81,o81)::(nat_lit 82,o82)::(nat_lit 83,kU)::(nat_lit 86,o86)::(nat_lit 87,o87)::(nat_lit 88,kU)::(nat_lit 91,o91)::(nat_lit 92,o92)::(nat_lit 93,kU)::(nat_lit 96,o96)::(nat_lit 97,o97)::(nat_lit 105,kU)::(nat_lit 107,c3E)::(nat_lit 108,kU)::(nat_lit 110,c3J)::(nat_lit 111,c2k)::(nat_lit 112,kU)::(nat_lit 114,c1J)::(nat_lit 115,kU)::(nat_lit 117,c2O)::(nat_lit 119,kU)::(nat_lit 121,c2n)::(nat_lit 122,kU)::(nat_lit 124,c4a)::(nat_lit 125,c2l)::(nat_lit 126,kU)::(nat_lit 128,c2u)::(nat_lit 129,kU)::(nat_lit 131,c3d)::(nat_lit 132,c2x)::(nat_lit 133,kU)::(nat_lit 135,c3n)::(nat_lit 136,kU)::(nat_lit 138,c3s)::(nat_lit 140,kU)::(nat_lit 142,c2v)::(nat_lit 143,kU)::(nat_lit 145,c1O)::(nat_lit 147,kU)::(nat_lit 149,c3I)::(nat_lit 150,kU)::(nat_lit 152,c3Y)::(nat_lit 154,kU)::(nat_lit 156,c0Z)::(nat_lit 157,kU)::(nat_lit 159,c2N)::(nat_lit 161,c4i)::(nat_lit 162,c1Q P)::(nat_lit 163,c0k)::(nat_lit 164,c4k)::(nat_lit 165,c2p)::(nat_lit 168,c1H)::(nat_lit 175,kU)::(nat_lit 177,c4C)::(nat_lit 178,kU)::(nat_lit 180,c4h)::(nat_lit 181,c1D)::(nat_lit 182,kU)::(nat_lit 184,c2d)::(nat_lit 185,kU)::(nat_lit 187,c2C)::(nat_lit 188,c1Y)::(nat_lit 189,kU)::(nat_lit 191,c2o)::(nat_lit 192,kU)::(nat_lit 194,c1I)::(nat_lit 195,c3o)::(nat_lit 196,kU)::(nat_lit 198,c4l)::(nat_lit 199,kU)::(nat_lit 201,c2q)::(nat_lit 203,kU)::(nat_lit 205,c2D)::(nat_lit 206,kU)::(nat_lit 208,c2s)::(nat_lit 210,kU)::(nat_lit 211,c1c P)::(nat_lit 212,c2t)::(nat_lit 215,c1k)::(nat_lit 222,kU)::(nat_lit 224,c1u)::(nat_lit 225,kU)::(nat_lit 227,c2J)::(nat_lit 228,c2M)::(nat_lit 229,kU)::(nat_lit 231,c2P)::(nat_lit 232,kU)::(nat_lit 234,c3u)::(nat_lit 235,c1p)::(nat_lit 236,kU)::(nat_lit 238,c3M)::(nat_lit 239,kU)::(nat_lit 241,c2w)::(nat_lit 243,kU)::(nat_lit 244,c1S P)::(nat_lit 245,c3v)::(nat_lit 248,c1d)::(nat_lit 255,kU)::(nat_lit 257,c3r)::(nat_lit 258,kU)::(nat_lit 260,c1j)::(nat_lit 261,c2g)::(nat_lit 262,kU)::(nat_lit 264,c4p)::(nat_lit 265,kU)::(nat_lit 267,c4r)::(nat_lit 269,kU)::(nat_lit 270,c1z P)::(nat_lit 271,c1l)::(nat_lit 274,c3O)::(nat_lit 281,kU)::(nat_lit 283,c3e)::(nat_lit 284,kU)::(nat_lit 286,c4v)::(nat_lit 287,c1o)::(nat_lit 288,kU)::(nat_lit 290,c3Z)::(nat_lit 291,kU)::(nat_lit 293,c3q)::(nat_lit 294,c1r)::(nat_lit 295,kU)::(nat_lit 297,c4F)::(nat_lit 298,kU)::(nat_lit 300,c1m)::(nat_lit 302,kU)::(nat_lit 303,c4d P)::(nat_lit 304,c1A)::(nat_lit 314,kU)::(nat_lit 316,c4D)::(nat_lit 317,kU)::(nat_lit 319,c1w)::(nat_lit 320,c2G)::(nat_lit 321,kU)::(nat_lit 323,c2b)::(nat_lit 324,kU)::(nat_lit 326,c1N)::(nat_lit 327,c4g)::(nat_lit 328,kU)::(nat_lit 330,c1C)::(nat_lit 331,kU)::(nat_lit 333,c2y)::(nat_lit 334,c2j)::(nat_lit 335,kU)::(nat_lit 338,c3Q)::(nat_lit 339,c1y)::(nat_lit 340,kU)::(nat_lit 342,c4s)::(nat_lit 343,kU)::(nat_lit 345,c2e)::(nat_lit 346,c3b)::(nat_lit 347,kU)::(nat_lit 349,c1G)::(nat_lit 350,kU)::(nat_lit 352,c1x)::(nat_lit 353,c1e)::(nat_lit 354,kU)::(nat_lit 356,c2B)::(nat_lit 357,kU)::(nat_lit 359,c4b)::(nat_lit 360,c1n)::(nat_lit 361,kU)::(nat_lit 363,c0Y)::(nat_lit 364,kU)::(nat_lit 366,c1F)::(nat_lit 368,c3z)::(nat_lit 369,c1t P)::(nat_lit 370,c2F)::(nat_lit 371,c2L)::(nat_lit 372,c4E)::(nat_lit 375,kU)::(nat_lit 377,c4B)::(nat_lit 378,kU)::(nat_lit 380,c2X)::(nat_lit 381,c1L)::(nat_lit 382,kU)::(nat_lit 384,c3V)::(nat_lit 385,kU)::(nat_lit 387,c3F)::(nat_lit 388,c3x)::(nat_lit 389,kU)::(nat_lit 392,c4q)::(nat_lit 393,c3h)::(nat_lit 394,kU)::(nat_lit 396,c1q)::(nat_lit 397,kU)::(nat_lit 399,c4c)::(nat_lit 400,c2A)::(nat_lit 401,kU)::(nat_lit 403,c3p)::(nat_lit 404,kU)::(nat_lit 406,c2m)::(nat_lit 407,c3c)::(nat_lit 408,kU)::(nat_lit 410,c3U)::(nat_lit 411,kU)::(nat_lit 413,c2c)::(nat_lit 414,c1W)::(nat_lit 415,kU)::(nat_lit 417,c4j)::(nat_lit 418,kU)::(nat_lit 420,c2Y)::(nat_lit 421,c1v)::(nat_lit 422,kU)::(nat_lit 425,c2z)::(nat_lit 426,c3X)::(nat_lit 427,kU)::(nat_lit 429,c2T)::(nat_lit 430,kU)::(nat_lit 432,c1V)::(nat_lit 433,c1s)::(nat_lit 434,kU)::(nat_lit 436,c3L)::(nat_lit 437,kU)::(nat_lit 439,c3S)::(nat_lit 440,c2r)::(nat_lit 441,kU)::(nat_lit 444,c2a)::(nat_lit 445,c3A)::(nat_lit 446,kU)::(nat_lit 448,c3k)::(nat_lit 449,kU)::(nat_lit 451,c4o)::(nat_lit 452,c3P)::(nat_lit 453,kU)::(nat_lit 455,c2R)::(nat_lit 456,kU)::(nat_lit 458,c2U)::(nat_lit 459,c3m)::(nat_lit 460,kU)::(nat_lit 462,c3C)::(nat_lit 463,kU)::(nat_lit 465,c2K)::(nat_lit 466,c4e)::(nat_lit 467,kU)::(nat_lit 470,c3j)::(nat_lit 471,c3f)::(nat_lit 472,kU)::(nat_lit 475,c4u)::(nat_lit 476,c3l)::(nat_lit 477,kU)::(nat_lit 479,c1P)::(nat_lit 480,kU)::(nat_lit 482,c3t)::(nat_lit 483,c2Q)::(nat_lit 484,kU)::(nat_lit 487,c1f)::(nat_lit 488,c1T)::(nat_lit 489,kU)::(nat_lit 492,c2h)::(nat_lit 493,c1E)::(nat_lit 494,kU)::(nat_lit 496,c4A)::(nat_lit 497,kU)::(nat_lit 499,c2S)::(nat_lit 500,c1R)::(nat_lit 501,kU)::(nat_lit 503,c3y)::(nat_lit 504,kU)::(nat_lit 506,c4f)::(nat_lit 507,c3K)::(nat_lit 508,kU)::(nat_lit 510,c2V)::(nat_lit 511,kU)::(nat_lit 513,c2Z)::(nat_lit 514,c1b)::(nat_lit 515,kU)::(nat_lit 518,c2I)::(nat_lit 519,c3i)::(nat_lit 520,kU)::(nat_lit 522,c2E)::(nat_lit 523,kU)::(nat_lit 525,c3w)::(nat_lit 526,c3N)::(nat_lit 527,kU)::(nat_lit 530,c2f)::(nat_lit 531,c3G)::(nat_lit 532,kU)::(nat_lit 535,c1Z)::(nat_lit 536,c4n)::[]
noncomputable abbrev a8j:List Addr:=[2,3,15,17,18,20,22,24,25,27,28,29,32,33,34,37,38,39,41,42,44,45,46,49,50,51,54,55,56,59,60,61,64,65,66,69,70,71,73,74,76,77,78,81,82,83,86,87,88,91,92,93,96,97,105,107,108,110,111,112,114,115,117,119,121,122,124,125,126,128,129,131,132,133,135,136,138,140,142,143,145,147,149,150,152,154,156,157,159,161,162,163,164,165,168,175,177,178,180,181,182,184,185,187,188,189,191,192,194,195,196,198,199,201,203,205,206,208,210,211,212,215,222,224,225,227,228,229,231,232,234,235,236,238,239,241,243,244,245,248,255,257,258,260,261,262,264,265,267,269,270,271,274,281,283,284,286,287,288,290,291,293,294,295,297,298,300,302,303,304,314,316,317,319,320,321,323,324,326,327,328,330,331,333,334,335,338,339,340,342,343,345,346,347,349,350,352,353,354,356,357,359,360,361,363,364,366,368,369,370,371,372,375,377,378,380,381,382,384,385,387,388,389,392,393,394,396,397,399,400,401,403,404,406,407,408,410,411,413,414,415,417,418,420,421,422,425,426,427,429,430,432,433,434,436,437,439,440,441,444,445,446,448,449,451,452,453,455,456,458,459,460,462,463,465,466,467,470,471,472,475,476,477,479,480,482,483,484,487,488,489,492,493,494,496,497,499,500,501,503,504,506,507,508,510,511,513,514,515,518,519,520,522,523,525,526,527,530,531,532,535,536]
theorem b1z:∀P,a8j=(a5Q P).map (·.1):=fun _=>by kernel_rfl
noncomputable def b4M:Program:=PySem.W.view PySem.Challenge.pw_mostwise_k56_whole_what_keeps_open [0,2,3,4,6,8,10,11,12,13,14,16,17,18,20,21,22,24,25,26,27,28,30,32,33,34,35,36,37,38,39,40,41,42,43,44,45,46,47,48,49,50,51,52,53,54,55,56,57]
theorem b8H:∀w:World,(fencedOpening treeTable PySem.Challenge.pw_mostwise_k56_whole_what_keeps_open w 6992).map (fun s=>(s.heap,s.gens,s.drawn,s.toks))=some (H0 w.params,#[],{},181):=fun w=>by kernel_rfl
theorem a4v {tb:String→Option Builtin} {p:Program} {w:World} {n₀:Nat} {ann:Option Value} {env:Env} {q:Pos} {n N a l:Nat} {s s' r:Shared} {b:List Stmt} {c:Code} {pos p':Pos} (h:segRun tb p w n₀ ann 1 n s (piecesOf ((b.drop a).take l) env c pos [topFrame q])=some (.next,s',c,p'))
  (k:topRun tb p w n₀ ann N s' (restOf (b.drop (a+l)) env c p' [topFrame q])=some r):topRun tb p w n₀ ann (n+N) s (restOf (b.drop a) env c pos [topFrame q])=some r:=by
 have e:=piece_app h k
 rwa [←List.drop_drop,List.take_append_drop] at e
noncomputable def b8l (P:Params):Heap:=⟨⟨o0 P::o1 P::o2::p3 P::o4::o5::o6::kU::kN::o9::o10::kU::kN::o13::o14::[]⟩,{}⟩
noncomputable def a9x (P:Params):Heap:=⟨⟨o0 P::o1 P::o2::p3 P::o4::o5::o6::kU::kN::o9::o10::kU::kN::o13::o14::[]⟩,{}⟩
noncomputable def b6S:Env:={scope:=PySem.Challenge.pw_mostwise_k56_whole_what_keeps_open.main.scope,locals:=mainNs,globals:=mainNs,cells:=[],code:=(.ref 13),frame:=some 14}
noncomputable def a5f:Code:=.body (behindTheImports PySem.Challenge.pw_mostwise_k56_whole_what_keeps_open) b6S
noncomputable abbrev tFr:List Frame:=[topFrame ⟨0,0,0,0⟩]
noncomputable abbrev c0Q (i:Nat) (q:Pos):Thread:=restOf ((behindTheImports PySem.Challenge.pw_mostwise_k56_whole_what_keeps_open).drop i) b6S a5f q tFr
theorem c0T:∀(w:World) (os:OsState),topGo treeTable PySem.Challenge.pw_mostwise_k56_whole_what_keeps_open w 11 (some (.ref 6)) 12 ⟨H0 w.params,#[],{},181,os⟩ (topStub PySem.Challenge.pw_mostwise_k56_whole_what_keeps_open)=some (⟨b8l w.params,#[],{},187,os⟩,⟨denote treeTable a5f,a5f,⟨0,0,0,0⟩,tFr⟩):=fun w os=>by kernel_rfl
theorem b4J:∀(w:World) (os:OsState),segRun treeTable PySem.Challenge.pw_mostwise_k56_whole_what_keeps_open w 11 (some (.ref 6)) 1 1 ⟨b8l w.params,#[],{},187,os⟩ (blockOf (behindTheImports PySem.Challenge.pw_mostwise_k56_whole_what_keeps_open) b6S a5f ⟨0,0,0,0⟩ tFr)=some (.next,⟨a9x w.params,#[],{},187,os⟩,a5f,⟨0,0,0,0⟩):=fun w os=>by kernel_rfl
def g13 (P:Params):Obj:=kQ [kE P "__name__" 165 (.str "mostwise.rules" 304),kE P "__doc__" 166 .none,kE P "__package__" 167 .none,kE P "__loader__" 168 (.builtin "__main__.__loader__#opaque"),kE P "__spec__" 169 .none,kE P "__annotations__" 170 (.ref 6),kE P "__builtins__" 171 (.ref 4),kE P "__file__" 173 (.str "/claim/cut.py" 172),kE P "__cached__" 174 .none,kE P "_wall" 193 (.ref 21),kE P "keyed" 204 (.ref 28),kE P "all_among" 210 (.ref 33),kE P "any_among" 216 (.ref 38),kE P "opposite" 225 (.ref 45),kE P "is_sure_set" 233 (.ref 50),kE P "HELD" 237 (.str "held" 236),kE P "REFUSED" 239 (.str "refused" 238),kE P "is_beaten" 245 (.ref 55),kE P "holds_by" 251 (.ref 60),kE P "refused_by" 257 (.ref 65),kE P "with_word" 265 (.ref 70),kE P "follows" 277 (.ref 77),kE P "lets_by" 283 (.ref 82),kE P "rises" 291 (.ref 87),kE P "out_of_the_way" 297 (.ref 92),kE P "keeps_open" 303 (.ref 97),kE P "Rule" 391 (.ref 163),kE P "Fact" 445 (.ref 212)] 28
def c5g:Obj:=kL [(1,0,20),(5,0,27),(10,0,32),(12,0,37),(15,0,44),(18,0,49),(30,0,54),(32,0,59),(39,0,64),(47,0,69),(49,0,76),(57,0,81),(64,0,86),(66,0,91),(68,0,96),(78,0,103),(108,0,173)]
noncomputable def c0U:Obj:=⟨(.type "type"),none,(.cls ⟨"Rule",[(.type "object")],[(.ref 163),(.type "object")],162,"Rule",true,[],[(.ref 212)],false,none,false⟩),#[none,none,(some (.str "Rule" 306)),(some (.str "Rule" 314)),(some (.builtin "object.__new__")),(some (.bool true))]⟩
noncomputable def c3H (P:Params):Heap:=⟨⟨[o0 P,o1 P,o2,g13 P]++S0 P++[c5g]++S1 P++[c0U]++S2 P⟩,{}⟩
theorem c5R:∀(w:World) (os:OsState),segRun treeTable PySem.Challenge.pw_mostwise_k56_whole_what_keeps_open w 11 (some (.ref 6)) 1 1308 ⟨a9x w.params,#[],{},187,os⟩ (piecesOf (((behindTheImports PySem.Challenge.pw_mostwise_k56_whole_what_keeps_open).drop 0).take 26) b6S a5f ⟨0,0,0,0⟩ tFr)=some (.next,⟨c3H w.params,#[],{},446,os⟩,a5f,⟨108,0,123,34⟩):=fun w os=>by kernel_rfl
def g23 (P:Params):Obj:=kQ [kE P "__name__" 165 (.str "mostwise.ground" 556),kE P "__doc__" 166 .none,kE P "__package__" 167 .none,kE P "__loader__" 168 (.builtin "__main__.__loader__#opaque"),kE P "__spec__" 169 .none,kE P "__annotations__" 170 (.ref 6),kE P "__builtins__" 171 (.ref 4),kE P "__file__" 173 (.str "/claim/cut.py" 172),kE P "__cached__" 174 .none,kE P "_wall" 193 (.ref 21),kE P "keyed" 204 (.ref 28),kE P "all_among" 210 (.ref 33),kE P "any_among" 216 (.ref 38),kE P "opposite" 225 (.ref 45),kE P "is_sure_set" 233 (.ref 50),kE P "HELD" 237 (.str "held" 236),kE P "REFUSED" 239 (.str "refused" 238),kE P "is_beaten" 245 (.ref 55),kE P "holds_by" 251 (.ref 60),kE P "refused_by" 257 (.ref 65),kE P "with_word" 265 (.ref 70),kE P "follows" 277 (.ref 77),kE P "lets_by" 283 (.ref 82),kE P "rises" 291 (.ref 87),kE P "out_of_the_way" 297 (.ref 92),kE P "keeps_open" 303 (.ref 97),kE P "Rule" 391 (.ref 163),kE P "Fact" 445 (.ref 212),kE P "Sure" 484 (.ref 245),kE P "Most" 516 (.ref 271),kE P "Block" 555 (.ref 304),kE P "Ground" 647 (.ref 370)] 32
def c6Y:Obj:=kL [(1,0,20),(5,0,27),(10,0,32),(12,0,37),(15,0,44),(18,0,49),(30,0,54),(32,0,59),(39,0,64),(47,0,69),(49,0,76),(57,0,81),(64,0,86),(66,0,91),(68,0,96),(78,0,103),(108,0,173),(124,0,220),(134,0,253),(141,0,279),(152,0,312)]
noncomputable def c0X (P:Params):Heap:=⟨⟨[o0 P,o1 P,o2,g23 P]++S0 P++[c6Y]++S1 P++[c0k]++S2 P++S3 P⟩,{}⟩
theorem c5r:∀(w:World) (os:OsState),segRun treeTable PySem.Challenge.pw_mostwise_k56_whole_what_keeps_open w 11 (some (.ref 6)) 1 1349 ⟨c3H w.params,#[],{},446,os⟩ (piecesOf (((behindTheImports PySem.Challenge.pw_mostwise_k56_whole_what_keeps_open).drop 26).take 5) b6S a5f ⟨108,0,123,34⟩ tFr)=some (.next,⟨c0X w.params,#[],{},648,os⟩,a5f,⟨152,0,187,16⟩):=fun w os=>by kernel_rfl
theorem c0r:∀(w:World) (os:OsState),topRun treeTable PySem.Challenge.pw_mostwise_k56_whole_what_keeps_open w 11 (some (.ref 6)) 781 ⟨c0X w.params,#[],{},648,os⟩ (c0Q 31 ⟨152,0,187,16⟩)=some ⟨H1 w.params,#[],{},867,os⟩:=fun w os=>by kernel_rfl
theorem c0j:∀(w:World) (os:OsState),topRun treeTable PySem.Challenge.pw_mostwise_k56_whole_what_keeps_open w 11 (some (.ref 6)) 3451 ⟨H0 w.params,#[],{},181,os⟩ (topStub PySem.Challenge.pw_mostwise_k56_whole_what_keeps_open)=some ⟨H1 w.params,#[],{},867,os⟩:=fun w os=>go_top (n:=12) (c0T w os) (piece_block (n:=1) (b4J w os) (a4v (c5R w os) (a4v (c5r w os) (c0r w os))))
end
end K56
namespace L2
open PySem PySem.Spec PyProof.Rows
abbrev Key:=Sum Int Str
def a7O:Key→Value→Bool
 | .inl k,v=>Value.isInt k v
 | .inr x,v=>Value.isStrOf x v
def c6z (w:World):Key→Int
 | .inl k=>hashInt k
 | .inr x=>hashStr w x
theorem a0P:∀{k:Key} {v:Value},a7O k v=true→(∃i t,k=Sum.inl i∧v=Value.int i t)∨(∃x t,k=Sum.inr x∧v=Value.str x t)
 | .inl i,v,h=>by
  obtain ⟨t,e⟩:=Value.isInt_shape (k:=i) (v:=v) h
  exact .inl ⟨i,t,rfl,e⟩
 | .inr x,v,h=>by
  obtain ⟨t,e⟩:=Value.isStrOf_shape (x:=x) (v:=v) h
  exact .inr ⟨x,t,rfl,e⟩
theorem b0G (i:Int) (t:Tok):a7O (.inl i) (.int i t)=true:=by simp [a7O,Value.isInt]
theorem a9h (x:Str) (t:Tok):a7O (.inr x) (.str x t)=true:=by simp [a7O,Value.isStrOf]
theorem b9t (a b:Int):decide ((Sum.inl a:Key)=Sum.inl b)=(a == b):=by
 by_cases e:a=b
 ·subst e;simp
 ·have h:¬(Sum.inl a:Key)=Sum.inl b:=fun q=>e (Sum.inl.inj q)
  rw [decide_eq_false h]
  exact (beq_eq_false_iff_ne.mpr e).symm
theorem b9s (a b:Str):decide ((Sum.inr a:Key)=Sum.inr b)=decide (a=b):=by
 by_cases e:a=b
 ·subst e;simp
 ·have h:¬(Sum.inr a:Key)=Sum.inr b:=fun q=>e (Sum.inr.inj q)
  rw [decide_eq_false h,decide_eq_false e]
theorem b6R (a:Int) (b:Str):decide ((Sum.inl a:Key)=Sum.inr b)=false:=decide_eq_false (fun q=>nomatch q)
theorem b9U (a:Str) (b:Int):decide ((Sum.inr a:Key)=Sum.inl b)=false:=decide_eq_false (fun q=>nomatch q)
def a0Q (prog:Program) (w:World):PySem.KeyKind prog w Key where
 is:=a7O
 hash:=c6z w
 inj:=fun v a b ha hb=>by
  rcases a0P ha with ⟨i,t,rfl,rfl⟩ | ⟨x,t,rfl,rfl⟩
  ·rcases a0P hb with ⟨j,u,rfl,e⟩ | ⟨y,u,rfl,e⟩
   ·injection e with e1 _;rw [e1]
   ·exact nomatch e
  ·rcases a0P hb with ⟨j,u,rfl,e⟩ | ⟨y,u,rfl,e⟩
   ·exact nomatch e
   ·injection e with e1 _;rw [e1]
 byValue:=fun k v h=>by
  rcases a0P h with ⟨i,t,rfl,rfl⟩ | ⟨x,t,rfl,rfl⟩<;>rfl
 pyHash:=fun hv h=>by
  rcases a0P hv with ⟨i,t,rfl,rfl⟩ | ⟨x,t,rfl,rfl⟩
  ·exact wpAny_pyHash_int h
  ·exact wpAny_pyHash_str h
 eqBool:=fun hu hv h=>by
  rcases a0P hu with ⟨i,t,rfl,rfl⟩ | ⟨x,t,rfl,rfl⟩
  ·rcases a0P hv with ⟨j,u,rfl,rfl⟩ | ⟨y,u,rfl,rfl⟩
   ·rw [b9t] at h;exact wpAny_eqBool_int h
   ·rw [b6R] at h;exact Yq.int_str i t y u _ _ _ _ h
  ·rcases a0P hv with ⟨j,u,rfl,rfl⟩ | ⟨y,u,rfl,rfl⟩
   ·rw [b9U] at h;exact Yq.str_int x t j u _ _ _ _ h
   ·rw [b9s] at h;exact wpAny_eqBool_str h
 «strs»:=fun k x t v h=>by
  rcases a0P h with ⟨i,u,rfl,e⟩ | ⟨y,u,rfl,e⟩
  ·exact nomatch e
  ·injection e with e1 _
   subst e1
   cases v<;>rfl
theorem a6y (prog:Program) (w:World) (i:Int) (t:Tok):(a0Q prog w).is (.inl i) (.int i t)=true:=b0G i t
theorem a3D (prog:Program) (w:World) (x:Str) (t:Tok):(a0Q prog w).is (.inr x) (.str x t)=true:=a9h x t
inductive V where
 | non | bl (b:Bool) | int (i:Int) | str (x:Str) | byt (b:Array UInt8) | flt (b:UInt64) | ref (a:Addr) | ty (n:String)
 deriving DecidableEq
def a0R:V→Value→Prop
 | .non,u=>u=Value.none
 | .bl b,u=>u=Value.bool b
 | .int i,u=>∃t,u=Value.int i t
 | .str x,u=>∃t,u=Value.str x t
 | .byt b,u=>∃t,u=Value.bytes b t
 | .flt b,u=>∃t,u=Value.float b t
 | .ref a,u=>u=Value.ref a
 | .ty n,u=>u=Value.type n
abbrev a0F:List V→List Value→Prop:=Paired a0R
theorem a0F.length {xs:List V} {us:List Value} (r:a0F xs us):xs.length=us.length:=Paired.length r
theorem a0F.get:∀{xs:List V} {us:List Value} {i:Nat} {x:V},a0F xs us→xs[i]?=some x→∃u,us[i]?=some u∧a0R x u
 | _,_,_,_,.nil,e=>by simp at e
 | _,_,0,_,.cons r _,e=>by simp at e;subst e;exact ⟨_,rfl,r⟩
 | _,_,i+1,x,.cons _ t,e=>by
  obtain ⟨u,h1,h2⟩:=a0F.get (i:=i) (x:=x) t (by simpa using e)
  exact ⟨u,by simpa using h1,h2⟩
theorem a0F.set {x:V} {u:Value} (r:a0R x u):∀{xs:List V} {us:List Value} (i:Nat),a0F xs us→a0F (xs.set i x) (us.set i u)
 | _,_,_,.nil=>.nil
 | _,_,0,.cons _ t=>.cons r t
 | _,_,i+1,.cons q t=>.cons q (a0F.set r i t)
theorem a0F.append:∀{xs ys:List V} {us ws:List Value},a0F xs us→a0F ys ws→a0F (xs++ys) (us++ws)
 | _,_,_,_,.nil,s=>s
 | _,_,_,_,.cons r t,s=>.cons r (a0F.append t s)
theorem a0F.take:∀{xs:List V} {us:List Value} (n:Nat),a0F xs us→a0F (xs.take n) (us.take n)
 | _,_,0,_=>.nil
 | _,_,_+1,.nil=>.nil
 | _,_,n+1,.cons r t=>.cons r (a0F.take n t)
theorem a0F.drop:∀{xs:List V} {us:List Value} (n:Nat),a0F xs us→a0F (xs.drop n) (us.drop n)
 | _,_,0,r=>r
 | _,_,_+1,.nil=>.nil
 | _,_,n+1,.cons _ t=>a0F.drop n t
def a4L:Option V→Option Value→Prop
 | some v,some u=>a0R v u
 | none,none=>True
 | _,_=>False
def KV {κ:Type}:List (κ×V)→List (κ×Value)→Prop:=Paired fun (p:κ×V) (q:κ×Value)=>p.1=q.1∧a0R p.2 q.2
def kV:Key→V
 | .inl i=>.int i
 | .inr x=>.str x
inductive HO where
 | lst (xs:List V)
 | tup (xs:List V)
 | dK (kvs:List (Key×V)) | dT (kvs:List (List Key×V))
 | set (S:Int→Bool) (n:Nat)
 | ins (C dx:Addr) (fs:List (Str×V))
 | own (x:Addr)
 | xd (fs:List (Str×V))
 | met (f x:Addr)
 | rng (lo hi:Int)
 | frz (o:Obj) (u:HO)
 | tbl (ps:Array Value)
 | ext (φ:Heap→Prop)
abbrev Hp:=Addr→Option HO
def upd (H:Hp) (a:Addr) (o:HO):Hp:=fun b=>if b=a then some o else H b
theorem a0e {H:Hp} {a:Addr} {o:HO}:upd H a o a=some o:=by unfold upd;rw [if_pos rfl]
theorem a0d {H:Hp} {a b:Addr} {o:HO} (h:b≠a):upd H a o b=H b:=by unfold upd;rw [if_neg h]
theorem b5Q {H:Hp} {a:Addr} {o u:HO}:upd (upd H a o) a u=upd H a u:=by
 funext b;unfold upd;split<;>rfl
theorem a1S {H:Hp} {a b:Addr} {o u:HO} (h:H a=some o) (h':H b=some u) (d:o≠u):a≠b:=by
 intro e;subst e;rw [h] at h';exact d (Option.some.inj h')
theorem a0c {H:Hp} {a b:Addr} {o:HO} (h:H a=some o) (h':H b=none):a≠b:=by
 intro e;subst e;rw [h] at h';cases h'
section
variable (P:Program) (w:World)
def a1m (H:Hp) (h:Heap) (a:Addr):HO→Prop
 | .lst xs=>xs.length≤sizeLine∧∃(its:List Value) (n:Nat),a0F xs its∧h.get? a=some {cls:=.type "list",data:=.seq its.toArray n}
 | .tup xs=>xs.length≤sizeLine∧∃its:List Value,a0F xs its∧IsTup h a its.toArray
 | .dK kvs=>kvs.length≤sizeLine∧(a == sysModules)=false∧∃vs,KV kvs vs∧h.DictOf (a0Q P w) a vs
 | .dT kvs=>kvs.length≤sizeLine∧(a == sysModules)=false∧∃xs:List (List Key×Addr×Value),
   Paired (fun (p:List Key×V) (q:List Key×Addr×Value)=>p.1=q.1∧H q.2.1=some (.tup (p.1.map kV))∧a0R p.2 q.2.2) kvs xs∧
   ∃o es ep,h.get? a=some o∧o.ExactDict∧o.data=.dict es ep∧es.toList=xs.map (entryOfKey (tupleKind (a0Q P w)))∧(xs.map (·.1)).Nodup
 | .set S n=>h.SetOf (intKind P w) a S n
 | .ins C dx fs=>H dx=some (.own a)∧fs.length≤1000∧dx≠a∧h.get? a=some (Zw C dx)∧
   ∃mA,h.Ns1 dx mA∧(∀f,a4L (fs.lookup f) (mA f))∧PySem.Within mA (fs.map (·.1))
 | .own _=>∃o,h.get? a=some o
 | .xd fs=>∃mA,h.Ns1 a mA∧∀f,a4L (fs.lookup f) (mA f)
 | .rng lo hi=>∃t u v,h.get? a=some {cls:=.type "range",data:=.fields #[.int lo t,.int hi u,.int 1 v]}
 | .frz o u=>h.get? a=some o∧a1m H h a u
 | .tbl ps=>h.get? a=some {cls:=.none,data:=.fields ps}
 | .met f x=>h.get? a=some (Vp (.ref f) (.ref x))
 | .ext φ=>φ h∧(∃o,h.get? a=some o)∧∀h1 h2:Heap,φ h1→(∀o,h1.get? a=some o→h2.get? a=some o)→φ h2
def HOk (H:Hp) (h:Heap):Prop:=∀a o,H a=some o→a1m P w H h a o
end
section
variable {P:Program} {w:World} {H H':Hp} {h h':Heap} {a:Addr} {o:HO}
theorem a1m.lt (x:a1m P w H h a o):a < h.objs.size:=by
 cases o with
 | lst xs=>obtain ⟨_,_,_,_,e⟩:=x;exact Qs e
 | tup xs=>obtain ⟨_,_,_,p⟩:=x;exact p.lt
 | dK kvs=>obtain ⟨_,_,_,_,o,_,_,e,_⟩:=x;exact Qs e
 | dT kvs=>obtain ⟨_,_,_,_,o,_,_,e,_⟩:=x;exact Qs e
 | set S n=>obtain ⟨o,_,_,_,e,_⟩:=x;exact Qs e
 | ins C dx fs=>obtain ⟨_,_,_,e,_⟩:=x;exact Qs e
 | own y=>obtain ⟨_,e⟩:=x;exact Qs e
 | xd fs=>obtain ⟨_,⟨_,_,_,e,_⟩,_⟩:=x;exact Qs e
 | rng lo hi=>obtain ⟨_,_,_,e⟩:=x;exact Qs e
 | frz ob u=>obtain ⟨e,_⟩:=x;exact Qs e
 | tbl ps=>exact Qs (show h.get? a=some _ from x)
 | met f y=>exact Qs (show h.get? a=some _ from x)
 | ext φ=>obtain ⟨_,⟨_,e⟩,_⟩:=x;exact Qs e
theorem Paired.mapP {α β:Type} {F G:α→β→Prop}:∀{l₁:List α} {l₂:List β},Paired F l₁ l₂→(∀a b,F a b→G a b)→Paired G l₁ l₂
 | _,_,.nil,_=>.nil
 | _,_,.cons r t,f=>.cons (f _ _ r) (Paired.mapP t f)
theorem a1m.stay (x:a1m P w H h a o) (k:∀b u,(b=a∨H b=some (.own a))→h.get? b=some u→h'.get? b=some u)
  (ho:∀b,H b=some (.own a)→H' b=some (.own a)) (ht:∀b xs,H b=some (.tup xs)→H' b=some (.tup xs)):a1m P w H' h' a o:=by
 induction o with
 | lst xs=>obtain ⟨z,its,n,r,e⟩:=x;exact ⟨z,its,n,r,k _ _ (.inl rfl) e⟩
 | tup xs=>obtain ⟨z,its,r,ob,e,c⟩:=x;exact ⟨z,its,r,ob,k _ _ (.inl rfl) e,c⟩
 | dK kvs=>obtain ⟨z,y,vs,r,ob,es,ep,e,c⟩:=x;exact ⟨z,y,vs,r,ob,es,ep,k _ _ (.inl rfl) e,c⟩
 | dT kvs=>
  obtain ⟨z,y,xs,r,ob,es,ep,e,c⟩:=x
  exact ⟨z,y,xs,Paired.mapP r fun p q z=>⟨z.1,ht _ _ z.2.1,z.2.2⟩,ob,es,ep,k _ _ (.inl rfl) e,c⟩
 | set S n=>obtain ⟨ob,es,ep,t,e,c⟩:=x;exact ⟨ob,es,ep,t,k _ _ (.inl rfl) e,c⟩
 | ins C dx fs=>
  obtain ⟨d,z,ne,e,mA,⟨od,es,ep,e2,c⟩,r⟩:=x
  exact ⟨ho _ d,z,ne,k _ _ (.inl rfl) e,mA,⟨od,es,ep,k _ _ (.inr d) e2,c⟩,r⟩
 | own y=>obtain ⟨ob,e⟩:=x;exact ⟨ob,k _ _ (.inl rfl) e⟩
 | xd fs=>obtain ⟨mA,⟨od,es,ep,e,c⟩,r⟩:=x;exact ⟨mA,⟨od,es,ep,k _ _ (.inl rfl) e,c⟩,r⟩
 | rng lo hi=>obtain ⟨t,u,v,e⟩:=x;exact ⟨t,u,v,k _ _ (.inl rfl) e⟩
 | frz ob u ih=>obtain ⟨e,q⟩:=x;exact ⟨k _ _ (.inl rfl) e,ih q⟩
 | tbl ps=>
  have e:h.get? a=some {cls:=.none,data:=.fields ps}:=x
  show h'.get? a=some {cls:=.none,data:=.fields ps}
  exact k a _ (.inl rfl) e
 | met f y=>
  have e:h.get? a=some (Vp (.ref f) (.ref y)):=x
  show h'.get? a=some (Vp (.ref f) (.ref y))
  exact k a _ (.inl rfl) e
 | ext φ=>obtain ⟨p,⟨o,e⟩,st⟩:=x;exact ⟨st _ _ p fun o q=>k _ _ (.inl rfl) q,⟨o,k _ _ (.inl rfl) e⟩,st⟩
theorem HOk.lt (x:HOk P w H h) (e:H a=some o):a < h.objs.size:=(x a o e).lt
theorem HOk.fresh (x:HOk P w H h) (e:h.objs.size≤a):H a=none:=by
 cases q:H a with
 | none=>rfl
 | some u=>exact absurd (Xr (x.lt q) e) (Jr _)
theorem HOk.kept (x:HOk P w H h) (k:∀b u,h.get? b=some u→h'.get? b=some u):HOk P w H h':=fun a o e=>
 (x a o e).stay (fun b u _ q=>k b u q) (fun _ q=>q) fun _ _ q=>q
theorem HOk.laid (x:HOk P w H h) (k:∀b u,h.get? b=some u→h'.get? b=some u) (hp:h.objs.size≤a) (new:a1m P w (upd H a o) h' a o):HOk P w (upd H a o) h':=fun b u e=>by
 have hn:=x.fresh hp
 by_cases hb:b=a
 ·subst hb;rw [a0e] at e;cases e;exact new
 ·rw [a0d hb] at e
  exact (x b u e).stay (fun c v _ q=>k c v q) (fun c q=>by rw [a0d (a0c q hn)];exact q) fun c xs q=>by rw [a0d (a0c q hn)];exact q
end
def Rd (H:Hp) (a:Addr) (u:HO):Prop:=H a=some u∨∃o,H a=some (.frz o u)
theorem Rd.ok {P:Program} {w:World} {H:Hp} {h:Heap} {a:Addr} {u:HO} (r:Rd H a u) (x:HOk P w H h):a1m P w H h a u:=by
 rcases r with r | ⟨o,r⟩
 ·exact x a u r
 ·obtain ⟨_,q⟩:=x a _ r
  exact q
def Mut:Option HO→Prop
 | some (.lst _)=>True
 | some (.dK _)=>True
 | some (.dT _)=>True
 | some (.set _ _)=>True
 | some (.ins _ _ _)=>True
 | some (.ext _)=>True
 | _=>False
section
variable {P:Program} {w:World} {H:Hp} {h h':Heap} {x e:Addr} {o':HO}
theorem HOk.write (ok:HOk P w H h) (mu:Mut (H x)) (he:e=x∨H e=some (.own x)) (k:∀b u,b≠e→h.get? b=some u→h'.get? b=some u) (heo:∃u,h'.get? e=some u)
  (new:a1m P w (upd H x o') h' x o'):HOk P w (upd H x o') h':=fun b u q=>by
 have nown:∀c y,H c=some (.own y)→c≠x:=fun c y r z=>by subst z;rw [r] at mu;exact mu
 have ntup:∀c xs,H c=some (.tup xs)→c≠x:=fun c xs r z=>by subst z;rw [r] at mu;exact mu
 by_cases hb:b=x
 ·subst hb;rw [a0e] at q;cases q;exact new
 ·rw [a0d hb] at q
  by_cases hbe:b=e
  ·have q':H b=some (.own x):=by
    rcases he with z | z
    ·exact absurd (hbe.trans z) hb
    ·rw [hbe];exact z
   rw [q] at q';cases q'
   obtain ⟨v,hv⟩:=heo
   exact ⟨v,by rw [hbe];exact hv⟩
  ·refine (ok b u q).stay (fun c v hc r=>k c v ?_ r) (fun c r=>by rw [a0d (nown c b r)];exact r) fun c xs r=>by rw [a0d (ntup c xs r)];exact r
   rcases hc with rfl | hc
   ·exact hbe
   ·rintro rfl
    rcases he with z | z
    ·exact nown c b hc z
    ·rw [hc] at z;cases z;exact hb rfl
end
structure Un (fs ex:List Addr) (H H':Hp) (h h':Heap):Prop where
 keep:∀b o,h.get? b=some o→H b=none→b∉fs→b∉ex→h'.get? b=some o
 slot:∀b o,h.get? b=some o→H b=none→b∈fs→b∉ex→∃sl,h'.get? b=some {o with slots:=sl}
 free:∀b o,h.get? b=some o→H b=none→b∉ex→H' b=none
 there:∀b o,h.get? b=some o→b∉ex→∃o',h'.get? b=some o'
 tups:∀b xs,H b=some (.tup xs)→H' b=some (.tup xs)
 frzs:∀b o u,H b=some (.frz o u)→H' b=some (.frz o u)
 tbls:∀b ps,H b=some (.tbl ps)→∃more,H' b=some (.tbl (ps++more))
section
variable {fs fs' ex ex':List Addr} {H H1 H2:Hp} {h h1 h2 h':Heap} {a x e:Addr} {o:HO}
theorem Un.any (u:Un fs ex H H1 h h1) {b:Addr} {ob:Obj} (q:h.get? b=some ob) (n:H b=none) (hx:b∉ex):∃sl,h1.get? b=some {ob with slots:=sl}:=by
 by_cases hb:b∈fs
 ·exact u.slot b ob q n hb hx
 ·exact ⟨ob.slots,u.keep b ob q n hb hx⟩
theorem Un.trans (a:Un fs ex H H1 h h1) (b:Un fs ex H1 H2 h1 h2):Un fs ex H H2 h h2 where
 keep:=fun c ob q n hc hx=>b.keep c ob (a.keep c ob q n hc hx) (a.free c ob q n hx) hc hx
 slot:=fun c ob q n hc hx=>by
  obtain ⟨sl,e1⟩:=a.slot c ob q n hc hx
  obtain ⟨sl',e2⟩:=b.slot c _ e1 (a.free c ob q n hx) hc hx
  exact ⟨sl',e2⟩
 free:=fun c ob q n hx=>by
  obtain ⟨o',e1⟩:=a.there c ob q hx
  exact b.free c o' e1 (a.free c ob q n hx) hx
 there:=fun c ob q hx=>by
  obtain ⟨o',e1⟩:=a.there c ob q hx
  exact b.there c o' e1 hx
 tups:=fun c xs q=>b.tups c xs (a.tups c xs q)
 frzs:=fun c ob xs q=>b.frzs c ob xs (a.frzs c ob xs q)
 tbls:=fun c ps q=>by
  obtain ⟨m1,e1⟩:=a.tbls c ps q
  obtain ⟨m2,e2⟩:=b.tbls c _ e1
  exact ⟨m1++m2,by rw [e2,Gi]⟩
theorem Un.kept (k:∀b u,h.get? b=some u→h'.get? b=some u):Un fs ex H H h h':=
 ⟨fun b ob q _ _ _=>k b ob q,fun b ob q _ _ _=>⟨ob.slots,k b ob q⟩,fun _ _ _ n _=>n,fun b ob q _=>⟨ob,k b ob q⟩,fun _ _ q=>q,fun _ _ _ q=>q,fun _ ps q=>⟨#[],by rw [q];simp⟩⟩
theorem Un.refl:Un fs ex H H h h:=Un.kept fun _ _ q=>q
theorem Un.laid (k:∀b u,h.get? b=some u→h'.get? b=some u) (hp:h.objs.size≤a) (hn:H a=none):Un fs ex H (upd H a o) h h' where
 keep:=fun b u q _ _ _=>k b u q
 slot:=fun b u q _ _ _=>⟨u.slots,k b u q⟩
 free:=fun b u q n _=>by rw [a0d (Qx (Xr (Qs q) hp))];exact n
 there:=fun b u q _=>⟨u,k b u q⟩
 tups:=fun b xs q=>by rw [a0d (a0c q hn)];exact q
 frzs:=fun b u xs q=>by rw [a0d (a0c q hn)];exact q
 tbls:=fun b ps q=>⟨#[],by rw [a0d (a0c q hn),q];simp⟩
theorem Un.write (mu:Mut (H x)) (he:e=x∨H e=some (.own x)) (k:∀b u,b≠e→h.get? b=some u→h'.get? b=some u) (heo:∃u,h'.get? e=some u):Un fs ex H (upd H x o) h h':=by
 have hx:∀b,H b=none→b≠x:=fun b n z=>by subst z;rw [n] at mu;exact mu
 have hb:∀b,H b=none→b≠e:=fun b n z=>by
  subst z
  rcases he with r | r
  ·exact hx b n r
  ·rw [n] at r;cases r
 have hm:∀b u,H b=some u→¬Mut (some u)→b≠x:=fun b u q nm z=>by subst z;rw [q] at mu;exact nm mu
 refine ⟨fun b u q n _ _=>k b u (hb b n) q,fun b u q n _ _=>⟨u.slots,k b u (hb b n) q⟩,fun b u q n _=>by rw [a0d (hx b n)];exact n,fun b u q _=>?_,
  fun b xs q=>by rw [a0d (hm b _ q fun z=>z)];exact q,fun b u xs q=>by rw [a0d (hm b _ q fun z=>z)];exact q,fun b ps q=>⟨#[],by rw [a0d (hm b _ q fun z=>z),q];simp⟩⟩
 by_cases hbe:b=e
 ·subst hbe;exact heo
 ·exact ⟨u,k b u hbe q⟩
end
def trk (h:Heap) (H:Hp):List Addr:=(Yb h.objs.size).filter fun a=>(H a).isSome
def b2G (h:Heap) (H:Hp):Heap:=PySem.W.hideAll h (trk h H)
theorem a9c (h:Heap) (H:Hp):(b2G h H).objs.size=h.objs.size:=PySem.W.hideAll_size _ _
theorem b1L {h:Heap} {H:Hp} {b:Addr} {o:Obj} (e:h.get? b=some o) (n:H b=none):(b2G h H).get? b=some o:=
 PySem.W.hideAll_get _ e fun hm=>by
  have q:(H b).isSome=true:=(Xc.mp hm).2
  rw [n] at q;simp at q
theorem b5J {h:Heap} {H:Hp} {b:Addr} {o:Obj} (e:(b2G h H).get? b=some o):h.get? b=some o∧H b=none:=by
 have e':h.get? b=some o:=PySem.W.of_hideAll (trk h H) e
 refine ⟨e',?_⟩
 cases q:H b with
 | none=>rfl
 | some x=>
  have hm:b∈trk h H:=Xc.mpr ⟨Uc.mpr (Qs e'),by simp [q]⟩
  have z:(b2G h H).get? b=none:=PySem.W.hideAll_none (trk h H) hm
  rw [z] at e;cases e
def b4p (g h:Heap) (L:Addr):List (Addr×Obj):=(Yb h.objs.size).filterMap fun a=>if a=L∨(g.get? a).isSome=true then none else (h.get? a).map fun o=>(a,o)
def a4d (g h:Heap) (L d:Addr):List (Addr×Obj):=(b4p g h L).filter fun p=>decide (p.1≠d)
structure Mod (K:Qe) (mg:Str→Option Value) (base:Heap):Prop where
 kin:K.In base
 glob:base.Ns mainGlobals mg
 blt:∃mb,base.Ns builtinsNs mb∧∀x:Str,x≠"__name__"→mb x=bootBuiltins x
 nolimit:base.NoLimit
structure Cx where
 prog:Program
 w:World
 K:Qe
 mg:Str→Option Value
 base:Heap
 A:Around
 N:List Str
 s₀:Shared
 H₀:Hp
 env:Env
 outer:List Env
 stack:List Env
 ex:List Addr
 fn:Str→Bool
 calm:Bool
 pn:List (Addr×Obj)
 xe:Value→Shared→Prop
def frs (l:List Env):List Addr:=l.filterMap (·.frame)
abbrev Cx.fs (X:Cx):List Addr:=frs X.outer
def Vis (sc:Scope) (x:Str):Prop:=sc.names.lookup x=some .local∨sc.names.lookup x=some .cell∨sc.names.lookup x=some .free
def Loc (sc:Scope) (x:Str):Prop:=sc.names.lookup x=some .local∨sc.names.lookup x=some .cell
def c5i (env:Env) (h:Heap) (m:Str→Option Value) (x:Str) (u:Value):Prop:=
 (env.kindOf x=some .local∧m x=some u)∨((env.kindOf x=some .cell∨env.kindOf x=some .free)∧∃c,env.cells.lookup x=some c∧h.IsCell c (some u))
structure Cx.Ok (X:Cx):Prop where
 mod:Mod X.K X.mg X.base
 kind:X.env.scope.kind=.function
 glob:X.env.globals=mainGlobals
 blt:X.env.builtins=builtinsNs
 above:X.s₀.heap.objs.size≤X.env.locals
 inj:∀x y c,X.env.cells.lookup x=some c→X.env.cells.lookup y=some c→x=y
 has:∀x,(X.env.kindOf x=some .cell∨X.env.kindOf x=some .free)→∃c,X.env.cells.lookup x=some c
 cab:∀x c,X.fn x=true→X.env.cells.lookup x=some c→X.s₀.heap.objs.size≤c
 hd:X.calm=true→X.A.handled=none
 frames:X.A.frames=some X.stack
 stk:X.stack=X.outer∨(X.stack=X.env::X.outer∧X.env.frame=some X.env.locals)
 exf:∀b∈X.ex,b≠X.env.locals∧∀x c,X.env.cells.lookup x=some c→c≠b
 bs:∀b o,X.base.get? b=some o→X.s₀.heap.get? b=some o∧X.H₀ b=none
 bsz:X.base.objs.size≤X.s₀.heap.objs.size
 noex:∀b o,X.base.get? b=some o→b∉X.ex
 exfs:∀b∈X.ex,b∉X.fs
 funs:X.s₀.heap.FunFrames X.base X.outer
 frf:∀b∈X.fs,X.H₀ b=none
structure Inv (X:Cx) (pins:List (Addr×Obj)) (σ:List (Option V)) (H:Hp) (s:Shared):Prop where
 ok:X.Ok
 os:s.os=X.s₀.os
 bare:AllBare s.gens
 base:Un X.fs X.ex X.H₀ H X.s₀.heap s.heap
 loc:∃m,s.heap.Ns X.env.locals m∧∀(i:Nat) (x:Str) (v:V),X.N[i]?=some x→σ[i]?=some (some v)→Vis X.env.scope x→∃u,a0R v u∧c5i X.env s.heap m x u
 cell:∀x c,X.env.cells.lookup x=some c→∃v,s.heap.IsCell c v
 free:H X.env.locals=none
 freeC:∀x c,X.env.cells.lookup x=some c→H c=none
 pin:∀p∈X.pn++pins,s.heap.get? p.1=some p.2∧H p.1=none∧p.1≠X.env.locals∧p.1∉X.fs∧∀v,p.2.data≠.cell v
 hok:HOk X.prog X.w H s.heap
 len:σ.length=X.N.length
section
variable {X:Cx} {pins:List (Addr×Obj)} {σ:List (Option V)} {H H':Hp} {s:Shared} {h':Heap}
theorem Cx.Ok.nofr (ok:X.Ok) {b:Addr} {o:Obj} (e:X.base.get? b=some o):b∉X.fs:=fun hb=>by
 have:=(ok.funs.mem hb).1
 rw [e] at this;cases this
theorem Inv.bs (I:Inv X pins σ H s):∀b o,X.base.get? b=some o→s.heap.get? b=some o∧H b=none:=fun b o e=>
 ⟨I.base.keep b o (I.ok.bs b o e).1 (I.ok.bs b o e).2 (I.ok.nofr e) (I.ok.noex b o e),I.base.free b o (I.ok.bs b o e).1 (I.ok.bs b o e).2 (I.ok.noex b o e)⟩
theorem Inv.bk (I:Inv X pins σ H s):∀b o,X.base.get? b=some o→s.heap.get? b=some o:=fun b o e=>(I.bs b o e).1
theorem Inv.mod (I:Inv X pins σ H s):Mod X.K X.mg X.base:=I.ok.mod
theorem Inv.kIn (I:Inv X pins σ H s):X.K.In s.heap:=I.ok.mod.kin.keeps I.bk
theorem Inv.lt (I:Inv X pins σ H s):X.env.locals < s.heap.objs.size:=let ⟨_,hn,_⟩:=I.loc;hn.lt
theorem Inv.sz (I:Inv X pins σ H s):X.s₀.heap.objs.size≤s.heap.objs.size:=Qj I.ok.above (Gj I.lt)
theorem Inv.nofs (I:Inv X pins σ H s) {a:Addr} (h:s.heap.objs.size≤a):a∉X.fs:=fun hb=>by
 obtain ⟨_,o,ho,_⟩:=I.ok.funs.mem hb
 exact absurd (Xr (Qs ho) (Qj I.sz h)) (Jr _)
theorem Inv.cne (I:Inv X pins σ H s):∀x c,X.env.cells.lookup x=some c→c≠X.env.locals:=fun x c e z=>by
 obtain ⟨v,o,ho,hd⟩:=I.cell x c e
 obtain ⟨m,⟨o',es,ep,ho',hd',_⟩,_⟩:=I.loc
 rw [z,ho'] at ho;cases ho;rw [hd'] at hd;cases hd
theorem Inv.funs (I:Inv X pins σ H s):s.heap.FunFrames X.base X.outer:=by
 have all:∀(l:List Env),(∀b∈frs l,b∈X.fs)→X.s₀.heap.FunFrames X.base l→s.heap.FunFrames X.base l:=by
  intro l
  induction l with
  | nil=>intro _ _;trivial
  | cons env r ih=>
   intro hs hl
   obtain ⟨hk,⟨L,o,hf,hn,ho,hd⟩,hr⟩:=hl
   have hL:L∈X.fs:=hs L (by unfold frs;rw [Jj,hf];exact Qm)
   obtain ⟨sl,e⟩:=I.base.slot L o ho (I.ok.frf L hL) hL fun z=>I.ok.exfs L z hL
   exact ⟨hk,⟨L,_,hf,hn,e,hd⟩,ih (fun b hb=>hs b (by unfold frs;rw [Jj,hf];exact Qp _ hb)) hr⟩
 exact all X.outer (fun _ hb=>hb) I.ok.funs
theorem Inv.stack (I:Inv X pins σ H s):s.heap.FunFrames X.base X.stack:=by
 rcases I.ok.stk with e | ⟨e,hf⟩
 ·rw [e];exact I.funs
 ·rw [e]
  obtain ⟨m,hn,_⟩:=I.loc
  refine .cons (by rw [I.ok.kind];decide) hf hn ?_ I.funs
  exact Heap.get?_none_of_le (Qj I.ok.bsz I.ok.above)
theorem Inv.stkSub (I:Inv X pins σ H s):∀b∈frs X.stack,b∈X.env.locals::X.fs:=fun b hb=>by
 rcases I.ok.stk with e | ⟨e,hf⟩
 ·rw [e] at hb;exact Qp _ hb
 ·rw [e] at hb
  unfold frs at hb
  rw [Jj,hf] at hb
  exact hb
theorem Inv.stkFree (I:Inv X pins σ H s):∀b∈frs X.stack,H b=none:=fun b hb=>by
 rcases Qn.mp (I.stkSub b hb) with e | hb
 ·rw [e];exact I.free
 ·obtain ⟨_,o,ho,_⟩:=I.ok.funs.mem hb
  exact I.base.free b o ho (I.ok.frf b hb) fun z=>I.ok.exfs b z hb
theorem Inv.step {g':Array GenState} {t':Nat} {d':Drawn} {ch:List Addr} (I:Inv X pins σ H s)
  (hch:∀b∈ch,(b∈X.ex∨X.s₀.heap.objs.size≤b)∧b≠X.env.locals∧(∀x c,X.env.cells.lookup x=some c→c≠b)∧∀p∈X.pn++pins,p.1≠b)
  (keep:∀b o,b≠X.env.locals→b∉X.fs→b∉ch→s.heap.get? b=some o→H b=none→h'.get? b=some o)
  (slot:∀b o,b≠X.env.locals→b∈X.fs→b∉ch→s.heap.get? b=some o→H b=none→∃sl,h'.get? b=some {o with slots:=sl}) (free:∀b o,b∉ch→s.heap.get? b=some o→H b=none→H' b=none)
  (there:∀b o,b∉ch→s.heap.get? b=some o→∃o',h'.get? b=some o')
  (tups:∀b xs,H b=some (.tup xs)→H' b=some (.tup xs)) (frzs:∀b o u,H b=some (.frz o u)→H' b=some (.frz o u)) (tbls:∀b ps,H b=some (.tbl ps)→∃more,H' b=some (.tbl (ps++more)))
  (ns:∀m,s.heap.Ns X.env.locals m→h'.Ns X.env.locals m) (hok:HOk X.prog X.w H' h') (hg:AllBare g'):
  Inv X pins σ H' {s with heap:=h',gens:=g',drawn:=d',toks:=t'}:=by
 have neL:∀b o,X.s₀.heap.get? b=some o→b≠X.env.locals:=fun b o e=>Qx (Xr (Qs e) I.ok.above)
 have neC:∀b o,X.s₀.heap.get? b=some o→b∉X.ex→b∉ch:=fun b o e hx hb=>by
  rcases (hch b hb).1 with z | z
  ·exact hx z
  ·exact absurd (Xr (Qs e) z) (Jr _)
 have cellK:∀x c,X.env.cells.lookup x=some c→∀v,s.heap.IsCell c v→h'.IsCell c v:=fun x c e v ⟨o,ho,hd⟩=>by
  have nch:c∉ch:=fun z=>(hch c z).2.2.1 x c e rfl
  by_cases hc:c∈X.fs
  ·obtain ⟨sl,q⟩:=slot c o (I.cne x c e) hc nch ho (I.freeC x c e)
   exact ⟨_,q,hd⟩
  ·exact ⟨o,keep c o (I.cne x c e) hc nch ho (I.freeC x c e),hd⟩
 refine ⟨I.ok,I.os,hg,⟨fun b o e n hb hx=>?_,fun b o e n hb hx=>?_,fun b o e n hx=>?_,fun b o e hx=>?_,fun b xs e=>tups b xs (I.base.tups b xs e),fun b o xs e=>frzs b o xs (I.base.frzs b o xs e),fun b ps e=>?_⟩,?_,fun x c e=>?_,?_,fun x c e=>?_,fun p hp=>?_,hok,I.len⟩
 ·exact keep b o (neL b o e) hb (neC b o e hx) (I.base.keep b o e n hb hx) (I.base.free b o e n hx)
 ·obtain ⟨sl,e1⟩:=I.base.slot b o e n hb hx
  obtain ⟨sl',e2⟩:=slot b _ (neL b o e) hb (neC b o e hx) e1 (I.base.free b o e n hx)
  exact ⟨sl',e2⟩
 ·obtain ⟨o',e1⟩:=I.base.there b o e hx
  exact free b o' (neC b o e hx) e1 (I.base.free b o e n hx)
 ·obtain ⟨o',e1⟩:=I.base.there b o e hx
  exact there b o' (neC b o e hx) e1
 ·obtain ⟨m1,e1⟩:=I.base.tbls b ps e
  obtain ⟨m2,e2⟩:=tbls b _ e1
  exact ⟨m1++m2,by rw [e2,Gi]⟩
 ·obtain ⟨m,hn,hl⟩:=I.loc
  refine ⟨m,ns m hn,fun i x v e1 e2 e3=>?_⟩
  obtain ⟨u,r,l⟩:=hl i x v e1 e2 e3
  refine ⟨u,r,?_⟩
  rcases l with l | ⟨k,c,e,z⟩
  ·exact .inl l
  ·exact .inr ⟨k,c,e,cellK x c e _ z⟩
 ·obtain ⟨v,z⟩:=I.cell x c e
  exact ⟨v,cellK x c e v z⟩
 ·obtain ⟨m,⟨o,_,_,ho,_⟩,_⟩:=I.loc
  exact free _ o (fun z=>(hch _ z).2.1 rfl) ho I.free
 ·obtain ⟨v,o,ho,hd⟩:=I.cell x c e
  exact free c o (fun z=>(hch c z).2.2.1 x c e rfl) ho (I.freeC x c e)
 ·obtain ⟨e,n,ne,nf,d⟩:=I.pin p hp
  have nch:p.1∉ch:=fun z=>(hch p.1 z).2.2.2 p hp rfl
  exact ⟨keep p.1 p.2 ne nf nch e n,free p.1 p.2 nch e n,ne,nf,d⟩
theorem Inv.un {t':Nat} (I:Inv X pins σ H s) (u:Un X.fs [] H H' s.heap h') (hok:HOk X.prog X.w H' h'):Inv X pins σ H' {s with heap:=h',toks:=t'}:=by
 obtain ⟨m,⟨o,es,ep,ho,r⟩,_⟩:=id I.loc
 obtain ⟨sl,hL⟩:=u.any ho I.free (by simp)
 exact I.step (g':=s.gens) (d':=s.drawn) (ch:=[]) (fun _ z=>nomatch z) (fun b o _ hb _ e n=>u.keep b o e n hb (by simp)) (fun b o _ hb _ e n=>u.slot b o e n hb (by simp)) (fun b o _ e n=>u.free b o e n (by simp)) (fun b o _ e=>u.there b o e (by simp)) u.tups u.frzs u.tbls (fun m' hm=>by
  obtain ⟨o',es',ep',ho',r'⟩:=hm
  rw [ho] at ho';cases ho'
  exact ⟨_,es',ep',hL,r'⟩) hok I.bare
theorem Inv.call {g':Array GenState} {t':Nat} {d':Drawn} {ch:List Addr} (I:Inv X pins σ H s) (u:Un (frs X.stack) ch H H' s.heap h') (hok:HOk X.prog X.w H' h') (hg:AllBare g')
  (hch:∀b∈ch,(b∈X.ex∨X.s₀.heap.objs.size≤b)∧b≠X.env.locals∧(∀x c,X.env.cells.lookup x=some c→c≠b)∧∀p∈X.pn++pins,p.1≠b):
  Inv X pins σ H' {s with heap:=h',gens:=g',drawn:=d',toks:=t'}:=by
 obtain ⟨m,⟨o,es,ep,ho,r⟩,_⟩:=id I.loc
 obtain ⟨sl,hL⟩:=u.any ho I.free fun z=>(hch _ z).2.1 rfl
 exact I.step (ch:=ch) hch (fun b o hL hb hc e n=>u.keep b o e n (fun z=>(Qn.mp (I.stkSub b z)).elim hL hb) hc) (fun b o _ _ hc e n=>u.any e n hc) (fun b o hc e n=>u.free b o e n hc) (fun b o hc e=>u.there b o e hc) u.tups u.frzs u.tbls (fun m' hm=>by
  obtain ⟨o',es',ep',ho',r'⟩:=hm
  rw [ho] at ho';cases ho'
  exact ⟨_,es',ep',hL,r'⟩) hok hg
theorem Inv.turned {t':Nat} {it:Addr} (I:Inv X pins σ H s) (k:∀b o,b≠it→s.heap.get? b=some o→h'.get? b=some o) (hn:H it=none) (hL:it≠X.env.locals)
  (h1:it∈X.ex∨X.s₀.heap.objs.size≤it) (h2:∀x c,X.env.cells.lookup x=some c→c≠it) (h3:∀p∈X.pn++pins,p.1≠it):Inv X pins σ H {s with heap:=h',toks:=t'}:=by
 have nit:∀b u,H b=some u→b≠it:=fun b u e z=>by rw [z,hn] at e;cases e
 refine I.step (g':=s.gens) (d':=s.drawn) (ch:=[it]) (fun b hb=>?_) (fun b o _ _ hc e _=>k b o (fun z=>hc (by simp [z])) e) (fun b o _ _ hc e _=>⟨o.slots,k b o (fun z=>hc (by simp [z])) e⟩) (fun _ _ _ _ n=>n)
  (fun b o hc e=>⟨o,k b o (fun z=>hc (by simp [z])) e⟩) (fun _ _ e=>e) (fun _ _ _ e=>e) (fun b ps e=>⟨#[],by rw [e];simp⟩) (fun m hm=>?_) (fun b u e=>?_) I.bare
 ·have e:b=it:=by simpa using hb
  subst e
  exact ⟨h1,hL,h2,h3⟩
 ·obtain ⟨o,es,ep,ho,r⟩:=hm
  exact ⟨o,es,ep,k _ o (Ne.symm hL) ho,r⟩
 ·refine (I.hok b u e).stay (fun c v hc q=>k c v ?_ q) (fun _ q=>q) fun _ _ q=>q
  rcases hc with z | z
  ·rw [z];exact nit b u e
  ·exact nit c _ z
theorem Inv.tok (I:Inv X pins σ H s) (t:Nat):Inv X pins σ H {s with toks:=t}:=I.un (h':=s.heap) (t':=t) Un.refl I.hok
theorem Inv.kept {t':Nat} (I:Inv X pins σ H s) (k:∀b u,s.heap.get? b=some u→h'.get? b=some u):Inv X pins σ H {s with heap:=h',toks:=t'}:=I.un (Un.kept k) (I.hok.kept k)
theorem Inv.laid {a:Addr} {o:HO} {t':Nat} (I:Inv X pins σ H s) (k:∀b u,s.heap.get? b=some u→h'.get? b=some u) (hp:s.heap.objs.size≤a) (new:a1m X.prog X.w (upd H a o) h' a o):
  Inv X pins σ (upd H a o) {s with heap:=h',toks:=t'}:=I.un (Un.laid k hp (I.hok.fresh hp)) (I.hok.laid k hp new)
theorem Inv.write {x e:Addr} {o:HO} {t':Nat} (I:Inv X pins σ H s) (mu:Mut (H x)) (he:e=x∨H e=some (.own x)) (k:∀b u,b≠e→s.heap.get? b=some u→h'.get? b=some u) (heo:∃u,h'.get? e=some u)
  (new:a1m X.prog X.w (upd H x o) h' x o):Inv X pins σ (upd H x o) {s with heap:=h',toks:=t'}:=I.un (Un.write mu he k heo) (I.hok.write mu he k heo new)
theorem Inv.pins_of {pins':List (Addr×Obj)} (I:Inv X pins σ H s) (h:∀p∈pins',s.heap.get? p.1=some p.2∧H p.1=none∧p.1≠X.env.locals∧p.1∉X.fs∧∀v,p.2.data≠.cell v):Inv X pins' σ H s:=
 ⟨I.ok,I.os,I.bare,I.base,I.loc,I.cell,I.free,I.freeC,fun p hp=>(Xn.mp hp).elim (fun z=>I.pin p (Zx _ z)) (h p),I.hok,I.len⟩
theorem a7B {N:List Str} (hN:N.Nodup) {i j:Nat} {x:Str} (a:N[i]?=some x) (b:N[j]?=some x):i=j:=by
 obtain ⟨h1,e1⟩:=Xa.mp a
 obtain ⟨h2,e2⟩:=Xa.mp b
 exact (List.getElem_inj hN).mp (e1.trans e2.symm)
theorem a5w {M:Model} {A:Around} {E:Value→Shared→Prop} {i:Nat} {x:Str} {v:V} {u:Value} {Q:Unit→Shared→Prop} (I:Inv X pins σ H s) (hN:X.N.Nodup) (hi:X.N[i]?=some x) (hx:Loc X.env.scope x) (r:a0R v u)
  (h:∀s',Inv X pins (σ.set i (some v)) H s'→(∃a,Yl a s.heap s'.heap∧(a=X.env.locals∨X.env.cells.lookup x=some a))→Q () s') (hf:X.fn x=true∨X.env.scope.names.lookup x=some .local:=by first | exact .inl rfl | exact .inr rfl | assumption):wpAny M A (storeName X.env x u) Q E s:=by
 obtain ⟨m,hn,hl⟩:=id I.loc
 have hcls:(X.env.scope.kind == .class || (X.env.scope.kind == .module && X.env.locals != X.env.globals))=false:=by rw [I.ok.kind];rfl
 have hiσ:i < σ.length:=by rw [I.len];exact (Xa.mp hi).1
 have cne:=I.cne
 have tracked:∀{a:Addr} {h':Heap},(∃o,s.heap.get? a=some o∧H a=none)→Yl a s.heap h'→HOk X.prog X.w H h':=fun {a h'} ha hs b ob e=>by
  obtain ⟨_,_,hfree⟩:=ha
  refine (I.hok b ob e).stay (fun c w' hc q=>(hs.2 c ?_).trans q) (fun _ q=>q) fun _ _ q=>q
  rintro rfl
  rcases hc with rfl | hc
  ·rw [hfree] at e;cases e
  ·rw [hfree] at hc;cases hc
 rcases hx with hk | hk
 ·refine wpAny_storeName_local hk hn (fun h' hn' hs=>?_) hcls
  obtain ⟨oL,_,_,hoL,_⟩:=id hn
  refine h _ ⟨I.ok,I.os,I.bare,⟨fun b o e n hb hx=>?_,fun b o e n hb hx=>?_,I.base.free,fun b o e hx=>?_,I.base.tups,I.base.frzs,I.base.tbls⟩,⟨_,hn',fun j y v' e1 e2 e3=>?_⟩,fun y c e=>?_,I.free,I.freeC,fun p hp=>?_,tracked ⟨oL,hoL,I.free⟩ hs,by simpa using I.len⟩ ⟨_,hs,.inl rfl⟩
  ·exact (hs.2 b (Qx (Xr (Qs e) I.ok.above))).trans (I.base.keep b o e n hb hx)
  ·obtain ⟨sl,e1⟩:=I.base.slot b o e n hb hx
   exact ⟨sl,(hs.2 b (Qx (Xr (Qs e) I.ok.above))).trans e1⟩
  ·obtain ⟨o',e1⟩:=I.base.there b o e hx
   exact ⟨o',(hs.2 b (Qx (Xr (Qs e) I.ok.above))).trans e1⟩
  ·by_cases hj:j=i
   ·subst hj
    rw [hi] at e1;cases e1
    rw [Uf hiσ] at e2
    cases e2
    exact ⟨u,r,.inl ⟨hk,by simp⟩⟩
   ·rw [Wy (Ne.symm hj)] at e2
    obtain ⟨u',r',q⟩:=hl j y v' e1 e2 e3
    refine ⟨u',r',?_⟩
    rcases q with ⟨k,e⟩ | ⟨k,c,e,z⟩
    ·refine .inl ⟨k,?_⟩
     have:y≠x:=fun e=>hj (a7B hN e1 (e ▸ hi))
     simp [this,e]
    ·exact .inr ⟨k,c,e,z.sameBut hs (cne y c e)⟩
  ·obtain ⟨w',z⟩:=I.cell y c e
   exact ⟨w',z.sameBut hs (cne y c e)⟩
  ·obtain ⟨e,n,ne,nf,d⟩:=I.pin p hp
   exact ⟨(hs.2 p.1 ne).trans e,n,ne,nf,d⟩
 ·have hfn:X.fn x=true:=by
   rcases hf with z | z
   ·exact z
   ·rw [z] at hk;cases hk
  obtain ⟨c,hc⟩:=I.ok.has x (.inl hk)
  obtain ⟨w',z⟩:=I.cell x c hc
  refine wpAny_storeName_cell I.ok.kind hk hc z (fun h' hc' hs=>?_)
  obtain ⟨oc,hoc,hocd⟩:=id z
  refine h {s with heap:=h'} ⟨I.ok,I.os,I.bare,⟨fun b o e n hb hx=>?_,fun b o e n hb hx=>?_,I.base.free,fun b o e hx=>?_,I.base.tups,I.base.frzs,I.base.tbls⟩,⟨m,hn.sameBut hs (Ne.symm (cne x c hc)),fun j y v' e1 e2 e3=>?_⟩,fun y c' e=>?_,I.free,I.freeC,fun p hp=>?_,tracked ⟨oc,hoc,I.freeC x c hc⟩ hs,by simpa using I.len⟩ ⟨c,hs,.inr hc⟩
  ·exact (hs.2 b (Qx (Xr (Qs e) (I.ok.cab x c hfn hc)))).trans (I.base.keep b o e n hb hx)
  ·obtain ⟨sl,e1⟩:=I.base.slot b o e n hb hx
   exact ⟨sl,(hs.2 b (Qx (Xr (Qs e) (I.ok.cab x c hfn hc)))).trans e1⟩
  ·obtain ⟨o',e1⟩:=I.base.there b o e hx
   exact ⟨o',(hs.2 b (Qx (Xr (Qs e) (I.ok.cab x c hfn hc)))).trans e1⟩
  ·by_cases hj:j=i
   ·subst hj
    rw [hi] at e1;cases e1
    rw [Uf hiσ] at e2
    cases e2
    exact ⟨u,r,.inr ⟨.inl hk,c,hc,hc'⟩⟩
   ·rw [Wy (Ne.symm hj)] at e2
    obtain ⟨u',r',q⟩:=hl j y v' e1 e2 e3
    refine ⟨u',r',?_⟩
    rcases q with q | ⟨k,c',e,z'⟩
    ·exact .inl q
    ·refine .inr ⟨k,c',e,z'.sameBut hs ?_⟩
     rintro rfl
     exact hj (a7B hN e1 (I.ok.inj _ _ _ e hc ▸ hi))
  ·by_cases hcc:c'=c
   ·subst hcc;exact ⟨_,hc'⟩
   ·obtain ⟨w2,z2⟩:=I.cell y c' e
    exact ⟨w2,z2.sameBut hs hcc⟩
  ·obtain ⟨e,n,ne,nf,d⟩:=I.pin p hp
   refine ⟨(hs.2 p.1 ?_).trans e,n,ne,nf,d⟩
   intro q
   rw [q,hoc] at e
   have q':oc=p.2:=Option.some.inj e
   exact d w' (by rw [←q'];exact hocd)
theorem a7z {M:Model} {A:Around} {E:Value→Shared→Prop} {i:Nat} {x:Str} {v:V} {u:Value} {Q:Unit→Shared→Prop} (I:Inv X pins σ H s) (hN:X.N.Nodup) (hi:X.N[i]?=some x) (hx:Loc X.env.scope x) (r:a0R v u)
  (h:∀s',Inv X pins (σ.set i (some v)) H s'→Q () s') (hf:X.fn x=true∨X.env.scope.names.lookup x=some .local:=by first | exact .inl rfl | exact .inr rfl | assumption):wpAny M A (storeName X.env x u) Q E s:=
 a5w I hN hi hx r (fun s' I' _=>h s' I') hf
theorem Inv.call' {s':Shared} {ch:List Addr} (I:Inv X pins σ H s) (ho:s'.os=s.os) (u:Un (frs X.stack) ch H H' s.heap s'.heap) (hok:HOk X.prog X.w H' s'.heap) (hg:AllBare s'.gens)
  (hch:∀b∈ch,(b∈X.ex∨X.s₀.heap.objs.size≤b)∧b≠X.env.locals∧(∀x c,X.env.cells.lookup x=some c→c≠b)∧∀p∈X.pn++pins,p.1≠b):Inv X pins σ H' s':=by
 obtain ⟨h',g',d',t',o'⟩:=s'
 have e:o'=s.os:=ho
 subst e
 exact I.call (g':=g') (t':=t') (d':=d') u hok hg hch
end
abbrev XK:=Value→Option Addr→Hp→Prop
abbrev St:=List (Option V)
abbrev VK:=V→Hp→Prop
abbrev TE:=St→Hp→VK→Prop
abbrev TT:=St→Hp→(Bool→Hp→Prop)→Prop
abbrev TA:=St→Hp→(List V→Hp→Prop)→Prop
structure b1q where
 nx:St→Hp→Prop
 rt:VK
 bk:St→Hp→Prop:=fun _ _=>False
 ct:St→Hp→Prop:=fun _ _=>False
abbrev TS:=b1q→St→Hp→Prop
def EP (X:Cx) (pins:List (Addr×Obj)) (σ:St) (Q:VK) (u:Value) (s':Shared):Prop:=∃v H',Inv X pins σ H' s'∧a0R v u∧Q v H'
def TP (X:Cx) (pins:List (Addr×Obj)) (σ:St) (Q:Bool→Hp→Prop) (b:Bool) (s':Shared):Prop:=∃H',Inv X pins σ H' s'∧Q b H'
def AP (X:Cx) (pins:List (Addr×Obj)) (σ:St) (Q:List V→Hp→Prop) (us:List Value) (s':Shared):Prop:=∃vs H',Inv X pins σ H' s'∧a0F vs us∧Q vs H'
def SP (X:Cx) (pins:List (Addr×Obj)) (D:b1q) (f:Flow) (s':Shared):Prop:=
 match f with
 | .next=>∃σ' H',Inv X pins σ' H' s'∧D.nx σ' H'
 | .brk=>∃σ' H',Inv X pins σ' H' s'∧D.bk σ' H'
 | .cont=>∃σ' H',Inv X pins σ' H' s'∧D.ct σ' H'
 | .ret u=>∃v σ' H',Inv X pins σ' H' s'∧a0R v u∧D.rt v H'
def PE (X:Cx) (e:Expr) (t:TE):Prop:=
 ∀(pins:List (Addr×Obj)) (s:Shared) (σ:St) (H:Hp) (Q:VK),Inv X pins σ H s→t σ H Q→wpAny (model X.prog X.w) X.A (eval e X.env) (EP X pins σ Q) X.xe s
def PT (X:Cx) (e:Expr) (t:TT):Prop:=
 ∀(pins:List (Addr×Obj)) (s:Shared) (σ:St) (H:Hp) (Q:Bool→Hp→Prop),Inv X pins σ H s→t σ H Q→wpAny (model X.prog X.w) X.A (isTrue e X.env (eval e X.env)) (TP X pins σ Q) X.xe s
def PW (X:Cx) (e:Expr) (t:TT):Prop:=
 ∀(whole:Sem Value) (pins:List (Addr×Obj)) (s:Shared) (σ:St) (H:Hp) (Q:Bool→Hp→Prop),Inv X pins σ H s→t σ H Q→wpAny (model X.prog X.w) X.A (isTrue e X.env whole) (TP X pins σ Q) X.xe s
theorem PW.pt {X:Cx} {e:Expr} {t:TT} (h:PW X e t):PT X e t:=h _
def PA (X:Cx) (es:List Expr) (t:TA):Prop:=
 ∀(pos:Pos) (pins:List (Addr×Obj)) (s:Shared) (σ:St) (H:Hp) (Q:List V→Hp→Prop),Inv X pins σ H s→t σ H Q→wpAny (model X.prog X.w) X.A (spliced (backTo pos (starEach es X.env))) (AP X pins σ Q) X.xe s
def PS (X:Cx) (st:Stmt) (t:TS):Prop:=
 ∀(pins:List (Addr×Obj)) (s:Shared) (σ:St) (H:Hp) (D:b1q),Inv X pins σ H s→t D σ H→wpAny (model X.prog X.w) X.A (exec st X.env) (SP X pins D) X.xe s
def PSs (X:Cx) (st:List Stmt) (t:TS):Prop:=
 ∀(pins:List (Addr×Obj)) (s:Shared) (σ:St) (H:Hp) (D:b1q),Inv X pins σ H s→t D σ H→wpAny (model X.prog X.w) X.A (execs st X.env) (SP X pins D) X.xe s
theorem thn {α:Type} {t:Sem α} {Q Q':α→Shared→Prop} {M:Model} {A:Around} {E:Value→Shared→Prop} {s:Shared} (h:wpAny M A t Q E s) (hQ:∀a s,Q a s→Q' a s):wpAny M A t Q' E s:=wpAny_mono h hQ fun _ _ x=>x
section
variable {X:Cx}
theorem bin {a b:Expr} {ta tb:TE} (ha:PE X a ta) (hb:PE X b tb) {pins:List (Addr×Obj)} {s:Shared} {σ:St} {H:Hp} {R:V→V→Hp→Prop} (I:Inv X pins σ H s) (h:ta σ H fun x H1=>tb σ H1 fun y H2=>R x y H2)
  {α:Type} {Q:α→Shared→Prop} {f:Value→Value→Sem α}
  (hf:∀v u s2 x y H2,Inv X pins σ H2 s2→a0R x v→a0R y u→R x y H2→wpAny (model X.prog X.w) X.A (f v u) Q X.xe s2):
  wpAny (model X.prog X.w) X.A (eval a X.env) (fun v s₁=>wpAny (model X.prog X.w) X.A (eval b X.env) (fun u s₂=>wpAny (model X.prog X.w) X.A (f v u) Q X.xe s₂) X.xe s₁) X.xe s:=by
 refine thn (ha pins s σ H _ I h) fun v s1 ⟨x,H1,I1,r1,q1⟩=>?_
 refine thn (hb pins s1 σ H1 _ I1 q1) fun u s2 ⟨y,H2,I2,r2,q2⟩=>?_
 exact hf v u s2 x y H2 I2 r1 r2 q2
def a0l (i:Nat):TE:=fun σ H Q=>∃v,σ[i]?=some (some v)∧Q v H
def tC (v:V):TE:=fun _ H Q=>Q v H
theorem b6o {i:Nat} {x:Str} {pos:Pos} (hN:X.N[i]?=some x) (hv:Vis X.env.scope x) (hd:(x == ("__debug__":Str))=false:=by decide) (hcd:(x == ("__classdict__":Str))=false:=by decide):PE X (.Name x pos) (a0l i):=by
 intro pins s σ H Q I h
 obtain ⟨v,e,h⟩:=h
 obtain ⟨m,hn,hl⟩:=I.loc
 obtain ⟨u,r,l⟩:=hl i x v hN e hv
 have fin:EP X pins σ Q u s:=⟨v,H,I,r,h⟩
 rcases l with ⟨hk,hm⟩ | ⟨hk,c,hc,hcell⟩
 ·exact wpAny_Name (wpAny_loadName_local I.ok.kind hk hn hm fin) hd
 ·rcases hk with hk | hk
  ·exact wpAny_Name (wpAny_loadName_cell I.ok.kind hk hc hcell fin) hd
  ·exact wpAny_Name (wpAny_loadName_free I.ok.kind hk hc hcell fin hcd) hd
theorem b7l {i j pos}:PE X (.Constant (.int i) j pos) (tC (.int i)):=fun _ _ _ H _ I h=>wpAny_Constant_int ⟨.int i,H,I.tok _,⟨_,rfl⟩,h⟩
theorem c0O {b j pos}:PE X (.Constant (.bool b) j pos) (tC (.bl b)):=fun _ _ _ H _ I h=>Constant_bool ⟨.bl b,H,I,rfl,h⟩
theorem b7Q {x j pos}:PE X (.Constant (.str x) j pos) (tC (.str x)):=fun _ _ _ H _ I h=>Calls.Constant_str ⟨.str x,H,I.tok _,⟨_,rfl⟩,h⟩
def Gl (X:Cx) (x:Str):Prop:=X.env.kindOf x=some .globalImplicit
theorem a6D {E:Value→Shared→Prop} {pins:List (Addr×Obj)} {s:Shared} {σ:St} {H:Hp} {x:Str} {u:Value} {pos:Pos} {Q:Value→Shared→Prop} (I:Inv X pins σ H s) (hg:Gl X x) (hm:X.mg x=some u) (h:Q u s)
  (hd:(x == ("__debug__":Str))=false:=by decide):wpAny (model X.prog X.w) X.A (eval (.Name x pos) X.env) Q E s:=
 Calls.Name_function_global I.ok.kind hg (Calls.loadGlobal_global (by rw [I.ok.glob];exact I.mod.glob.keeps I.bk) hm h) hd
theorem a3i {E:Value→Shared→Prop} {pins:List (Addr×Obj)} {s:Shared} {σ:St} {H:Hp} {x:Str} {u:Value} {pos:Pos} {Q:Value→Shared→Prop} (I:Inv X pins σ H s) (hg:Gl X x) (hm:X.mg x=none) (hv:bootBuiltins x=some u) (h:Q u s)
  (hn:x≠"__name__":=by decide) (hd:(x == ("__debug__":Str))=false:=by decide):wpAny (model X.prog X.w) X.A (eval (.Name x pos) X.env) Q E s:=by
 obtain ⟨mb,h1,h2⟩:=I.mod.blt
 exact Calls.Name_function_global I.ok.kind hg (Calls.loadGlobal_builtin (by rw [I.ok.glob];exact I.mod.glob.keeps I.bk) hm (by rw [I.ok.blt];exact h1.keeps I.bk) ((h2 x hn).trans hv) h) hd
theorem b5z {x:Str} {v:V} {u:Value} {pos:Pos} (hg:Gl X x) (hm:X.mg x=some u) (r:a0R v u) (hd:(x == ("__debug__":Str))=false:=by decide):PE X (.Name x pos) (tC v):=
 fun _ _ _ H _ I h=>a6D I hg hm ⟨v,H,I,r,h⟩ hd
theorem b4Q {x:Str} {v:V} {u:Value} {pos:Pos} (hg:Gl X x) (hm:X.mg x=none) (hv:bootBuiltins x=some u) (r:a0R v u) (hn:x≠"__name__":=by decide) (hd:(x == ("__debug__":Str))=false:=by decide):PE X (.Name x pos) (tC v):=
 fun _ _ _ H _ I h=>a3i I hg hm hv ⟨v,H,I,r,h⟩ hn hd
variable {a b:Expr} {ta tb:TE} {pos:Pos}
def PC (X:Cx) (op:CmpOp) (a b:Expr) (t:TE):Prop:=
 ∀(pins:List (Addr×Obj)) (s:Shared) (σ:St) (H:Hp) (Q:VK),Inv X pins σ H s→t σ H Q→
  wpAny (model X.prog X.w) X.A (eval a X.env) (fun v s₁=>wpAny (model X.prog X.w) X.A (eval b X.env) (fun u s₂=>wpAny (model X.prog X.w) X.A (compareOp op v u) (EP X pins σ Q) X.xe s₂) X.xe s₁) X.xe s
theorem a7l (b:Expr) {op:CmpOp} (h:op≠.In) (h2:op≠.NotIn):behindInMarks op b=false:=by
 have e1:(op == CmpOp.In)=false:=by cases op<;>first | rfl | exact absurd rfl h
 have e2:(op == CmpOp.NotIn)=false:=by cases op<;>first | rfl | exact absurd rfl h2
 cases b<;>simp [behindInMarks,e1,e2]
def tB (t:TE):TT:=fun σ H Q=>t σ H fun x H1=>∃c,x=.bl c∧Q c H1
theorem b7x {op:CmpOp} {t:TE} (h:PC X op a b t) (h1:behindInMarks op b=false:=by first | exact a7l _ ‹dc› ‹dc› | rfl):PE X (.Compare a [op] [b] pos) t:=fun pins s σ H Q I hw=>wpAny_Compare1 (h pins s σ H Q I hw) h1
theorem b7Z {op:CmpOp} {t:TE} (h:PC X op a b t) (h1:behindInMarks op b=false:=by first | exact a7l _ ‹dc› ‹dc› | rfl):PT X (.Compare a [op] [b] pos) (tB t):=by
 intro pins s σ H Q I hw
 refine wpAny_isTrue_Compare1 (thn (h pins s σ H _ I hw) fun v s1 h1=>thn h1 fun u s2 h2=>thn h2 fun c s3 ⟨x,H1,I1,r1,q1⟩=>?_) h1
 obtain ⟨d,rfl,q⟩:=q1
 cases r1
 exact wpAny_truthy_bool ⟨H1,I1,q⟩
theorem b6p {e:Expr} {t:TE} (h:PE X e t) (he:∀whole,isTrue e X.env whole=(do let v ←whole;standAt e.pos;holding [v] (truthy v)):=by intro _;rfl):PT X e (tB t):=by
 intro pins s σ H Q I hw
 refine isTrue_plain (thn (h pins s σ H _ I hw) fun v s1 ⟨x,H1,I1,r1,q1⟩=>?_) (he _)
 obtain ⟨d,rfl,q⟩:=q1
 cases r1
 exact wpAny_truthy_bool ⟨H1,I1,q⟩
variable {tA tB':TT} {a4d:List Expr}
def a6t (t u:TT):TT:=fun σ H Q=>t σ H fun c H1=>if c=true then u σ H1 Q else Q false H1
def tOr (t u:TT):TT:=fun σ H Q=>t σ H fun c H1=>if c=true then Q true H1 else u σ H1 Q
def a8P (t:TT):TT:=fun σ H Q=>t σ H fun c H1=>Q (!c) H1
theorem b5M (ha:PT X a tA):PW X (.BoolOp .And [a] pos) tA:=by
 intro wh pins s σ H Q I h
 refine isTrue_and (thn (ha pins s σ H Q I h) fun c s1 e=>?_)
 cases c with
 | true=>exact isTrue_and_nil e
 | false=>exact e
theorem b8Z (ha:PT X a tA):PW X (.BoolOp .Or [a] pos) tA:=by
 intro wh pins s σ H Q I h
 refine isTrue_or (thn (ha pins s σ H Q I h) fun c s1 e=>?_)
 cases c with
 | false=>exact isTrue_or_nil e
 | true=>exact e
theorem b8V (ha:PT X a tA) (hb:PW X (.BoolOp .And (b::a4d) pos) tB'):PW X (.BoolOp .And (a::b::a4d) pos) (a6t tA tB'):=by
 intro wh pins s σ H Q I h
 refine isTrue_and (thn (ha pins s σ H _ I h) fun c s1 ⟨H1,I1,q1⟩=>?_)
 cases c with
 | true=>exact hb wh pins s1 σ H1 Q I1 q1
 | false=>exact ⟨H1,I1,q1⟩
theorem c0t (ha:PT X a tA) (hb:PW X (.BoolOp .Or (b::a4d) pos) tB'):PW X (.BoolOp .Or (a::b::a4d) pos) (tOr tA tB'):=by
 intro wh pins s σ H Q I h
 refine isTrue_or (thn (ha pins s σ H _ I h) fun c s1 ⟨H1,I1,q1⟩=>?_)
 cases c with
 | true=>exact ⟨H1,I1,q1⟩
 | false=>exact hb wh pins s1 σ H1 Q I1 q1
theorem b8G (ha:PT X a tA):PT X (.UnaryOp .Not a pos) (a8P tA):=by
 intro pins s σ H Q I h
 exact isTrue_not (ha pins s σ H (fun c H1=>Q (!c) H1) I h)
def b8k (ta tb:TE):TE:=fun σ H Q=>ta σ H fun x H1=>∃c,x=.bl c∧if c=true then tb σ H1 Q else Q (.bl false) H1
def c0B (ta tb:TE):TE:=fun σ H Q=>ta σ H fun x H1=>∃c,x=.bl c∧if c=true then Q (.bl true) H1 else tb σ H1 Q
def b5A (ta:TE):TE:=fun σ H Q=>ta σ H fun x H1=>∃c,x=.bl c∧Q (.bl (!c)) H1
theorem b9M {op} {t:TE} (h:PE X a t):PE X (.BoolOp op [a] pos) t:=fun pins s σ H Q I hw=>BoolOp_one (h pins s σ H Q I hw)
theorem b8K (ha:PE X a ta) (hb:PE X (.BoolOp .And (b::a4d) pos) tb):PE X (.BoolOp .And (a::b::a4d) pos) (b8k ta tb):=by
 intro pins s σ H Q I h
 refine BoolOp_and (thn (ha pins s σ H _ I h) fun v s1 ⟨x,H1,I1,r1,q1⟩=>?_)
 obtain ⟨c,rfl,q1⟩:=q1
 cases r1
 refine wpAny_truthy_bool ?_
 cases c with
 | true=>exact hb pins s1 σ H1 Q I1 q1
 | false=>exact ⟨.bl false,H1,I1,rfl,q1⟩
theorem c0H (ha:PE X a ta) (hb:PE X (.BoolOp .Or (b::a4d) pos) tb):PE X (.BoolOp .Or (a::b::a4d) pos) (c0B ta tb):=by
 intro pins s σ H Q I h
 refine BoolOp_or (thn (ha pins s σ H _ I h) fun v s1 ⟨x,H1,I1,r1,q1⟩=>?_)
 obtain ⟨c,rfl,q1⟩:=q1
 cases r1
 refine wpAny_truthy_bool ?_
 cases c with
 | false=>exact hb pins s1 σ H1 Q I1 q1
 | true=>exact ⟨.bl true,H1,I1,rfl,q1⟩
theorem b8J (ha:PE X a ta):PE X (.UnaryOp .Not a pos) (b5A ta):=by
 intro pins s σ H Q I h
 refine UnaryOp_ (thn (ha pins s σ H _ I h) fun v s1 ⟨x,H1,I1,r1,q1⟩=>?_)
 obtain ⟨c,rfl,q1⟩:=q1
 cases r1
 exact not_of (wpAny_truthy_bool ⟨.bl (!c),H1,I1,rfl,q1⟩)
def tIf (t:TT) (ta tb:TE):TE:=fun σ H Q=>t σ H fun c H1=>if c=true then ta σ H1 Q else tb σ H1 Q
theorem b1U {c:Expr} (hc:PT X c tA) (ha:PE X a ta) (hb:PE X b tb):PE X (.IfExp c a b pos) (tIf tA ta tb):=by
 intro pins s σ H Q I h
 refine wpAny_IfExp (thn (hc pins s σ H _ I h) fun d s1 ⟨H1,I1,q1⟩=>?_)
 cases d with
 | true=>exact ha pins s1 σ H1 Q I1 q1
 | false=>exact hb pins s1 σ H1 Q I1 q1
end
def SqL (K:Qe) (H:Hp) (a:Addr) (xs:List V):Prop:=
 Rd H a (.lst xs)∨
  ∃(o:Obj) (its:Array Value) (n:Nat),K.lookup a=some o∧o.cls=.type "list"∧o.dict=none∧o.data=.seq its n∧its.size≤sizeLine∧a0F xs its.toList
def SqT (K:Qe) (H:Hp) (a:Addr) (xs:List V):Prop:=
 Rd H a (.tup xs)∨
  ∃(o:Obj) (its:Array Value) (n:Nat),K.lookup a=some o∧o.cls=.type "tuple"∧o.data=.seq its n∧its.size≤sizeLine∧a0F xs its.toList
def c5W:Value→Option V
 | .none=>some .non
 | .bool b=>some (.bl b)
 | .int i _=>some (.int i)
 | .str x _=>some (.str x)
 | .bytes b _=>some (.byt b)
 | .float b _=>some (.flt b)
 | .ref a=>some (.ref a)
 | .type n=>some (.ty n)
 | _=>none
theorem a0R.abs {x:V} {u:Value} (r:a0R x u):c5W u=some x:=by
 cases x with
 | non=>cases r;rfl
 | bl _=>cases r;rfl
 | int _=>obtain ⟨t,rfl⟩:=r;rfl
 | str _=>obtain ⟨t,rfl⟩:=r;rfl
 | byt _=>obtain ⟨t,rfl⟩:=r;rfl
 | flt _=>obtain ⟨t,rfl⟩:=r;rfl
 | ref _=>cases r;rfl
 | ty _=>cases r;rfl
theorem a0R.inj {x y:V} {u:Value} (r:a0R x u) (q:a0R y u):x=y:=Option.some.inj (r.abs.symm.trans q.abs)
theorem a0F.inj:∀{xs ys:List V} {us:List Value},a0F xs us→a0F ys us→xs=ys
 | _,_,_,.nil,.nil=>rfl
 | _,_,_,.cons r t,.cons r' t'=>by rw [r.inj r',a0F.inj t t']
section
variable {X:Cx} {pins:List (Addr×Obj)} {σ:St} {H:Hp} {s:Shared} {a:Addr} {xs ys:List V}
theorem SqL.of {K:Qe} (h:H a=some (.lst xs)):SqL K H a xs:=.inl (.inl h)
theorem SqT.of {K:Qe} (h:H a=some (.tup xs)):SqT K H a xs:=.inl (.inl h)
theorem Inv.list (I:Inv X pins σ H s) (h:SqL X.K H a xs):∃its:List Value,a0F xs its∧PlainL s.heap a its.toArray∧xs.length≤sizeLine:=by
 rcases h with h | ⟨o,its,n,hk,hc,hd,hs,hz,r⟩
 ·obtain ⟨z,its,n,r,e⟩:=h.ok I.hok
  exact ⟨its,r,⟨_,n,e,rfl,rfl,rfl⟩,z⟩
 ·refine ⟨its.toList,r,⟨o,n,I.kIn a o hk,hc,hd,by simpa using hs⟩,?_⟩
  have e:=r.length
  simp only [Xb] at e
  omega
theorem Inv.tuple (I:Inv X pins σ H s) (h:SqT X.K H a xs):∃its:List Value,a0F xs its∧IsTup s.heap a its.toArray∧xs.length≤sizeLine:=by
 rcases h with h | ⟨o,its,n,hk,hc,hs,hz,r⟩
 ·obtain ⟨z,its,r,p⟩:=h.ok I.hok
  exact ⟨its,r,p,z⟩
 ·refine ⟨its.toList,r,⟨o,I.kIn a o hk,hc,n,by simpa using hs⟩,?_⟩
  have e:=r.length
  simp only [Xb] at e
  omega
theorem Inv.list_inj (I:Inv X pins σ H s) (h:SqL X.K H a xs) (h':SqL X.K H a ys):xs=ys:=by
 obtain ⟨its,r,⟨o,n,e,_,_,d⟩,_⟩:=I.list h
 obtain ⟨its',r',⟨o',n',e',_,_,d'⟩,_⟩:=I.list h'
 rw [e] at e';cases e'
 rw [d] at d'
 injection d' with d1 _
 have:its=its':=by simpa using congrArg Array.toList d1
 subst this
 exact r.inj r'
theorem Inv.tuple_inj (I:Inv X pins σ H s) (h:SqT X.K H a xs) (h':SqT X.K H a ys):xs=ys:=by
 obtain ⟨its,r,⟨o,e,_,n,d⟩,_⟩:=I.tuple h
 obtain ⟨its',r',⟨o',e',_,n',d'⟩,_⟩:=I.tuple h'
 rw [e] at e';cases e'
 rw [d] at d'
 injection d' with d1 _
 have:its=its':=by simpa using congrArg Array.toList d1
 subst this
 exact r.inj r'
end
abbrev Cx.wish (X:Cx) (E:Value→Shared→Prop):Cx:={X with xe:=E}
abbrev Cx.nox (X:Cx):Cx:=X.wish fun _ _=>False
theorem Cx.Ok.wish {X:Cx} (ok:X.Ok) (E:Value→Shared→Prop):(X.wish E).Ok:=
 ⟨ok.mod,ok.kind,ok.glob,ok.blt,ok.above,ok.inj,ok.has,ok.cab,ok.hd,ok.frames,ok.stk,ok.exf,ok.bs,ok.bsz,ok.noex,ok.exfs,ok.funs,ok.frf⟩
theorem Cx.Ok.unwish {X:Cx} {E:Value→Shared→Prop} (ok:(X.wish E).Ok):X.Ok:=
 ⟨ok.mod,ok.kind,ok.glob,ok.blt,ok.above,ok.inj,ok.has,ok.cab,ok.hd,ok.frames,ok.stk,ok.exf,ok.bs,ok.bsz,ok.noex,ok.exfs,ok.funs,ok.frf⟩
section
variable {X:Cx} {pins:List (Addr×Obj)} {σ:St} {H:Hp} {s:Shared} {E:Value→Shared→Prop}
theorem Inv.wish (I:Inv X pins σ H s) (E:Value→Shared→Prop):Inv (X.wish E) pins σ H s:=⟨I.ok.wish E,I.os,I.bare,I.base,I.loc,I.cell,I.free,I.freeC,I.pin,I.hok,I.len⟩
theorem Inv.unwish (I:Inv (X.wish E) pins σ H s):Inv X pins σ H s:=⟨I.ok.unwish,I.os,I.bare,I.base,I.loc,I.cell,I.free,I.freeC,I.pin,I.hok,I.len⟩
theorem SP.unwish {D:b1q} {f:Flow} {s':Shared} (h:SP (X.wish E) pins D f s'):SP X pins D f s':=by
 cases f with
 | next=>obtain ⟨σ',H',I,q⟩:=h;exact ⟨σ',H',I.unwish,q⟩
 | brk=>obtain ⟨σ',H',I,q⟩:=h;exact ⟨σ',H',I.unwish,q⟩
 | cont=>obtain ⟨σ',H',I,q⟩:=h;exact ⟨σ',H',I.unwish,q⟩
 | ret u=>obtain ⟨v,σ',H',I,r,q⟩:=h;exact ⟨v,σ',H',I.unwish,r,q⟩
theorem PSs.nox {st:List Stmt} {t:TS} (h:PSs X.nox st t):PSs X st t:=fun pins s σ H D I hw=>
 wpAny_mono (h pins s σ H D (I.wish _) hw) (fun _ _ q=>q.unwish) fun _ _ z=>False.elim z
end
section
variable {X:Cx} {st:Stmt} {a4d:List Stmt} {t u:TS} {e:Expr} {te:TE} {pos:Pos}
def a0K:TS:=fun D σ H=>D.nx σ H
def a1x (t u:TS):TS:=fun D σ H=>t {D with nx:=u D} σ H
theorem b4l:PSs X [] a0K:=fun _ _ σ H _ I h=>wpAny_execs_nil ⟨σ,H,I,h⟩
theorem b2D (h1:PS X st t) (h2:PSs X a4d u):PSs X (st::a4d) (a1x t u):=by
 intro pins s σ H D I h
 refine wpAny_execs_cons (thn (h1 pins s σ H {D with nx:=u D} I h) fun f s1 q=>?_)
 cases f with
 | next=>
  obtain ⟨σ',H',I',q⟩:=q
  exact h2 pins s1 σ' H' D I' q
 | ret v=>exact q
 | brk=>exact q
 | cont=>exact q
theorem b4A (h1:PS X st t):PSs X [st] t:=by
 intro pins s σ H D I h
 refine wpAny_execs_cons (thn (h1 pins s σ H D I h) fun f s1 q=>?_)
 cases f with
 | next=>exact wpAny_execs_nil q
 | ret v=>exact q
 | brk=>exact q
 | cont=>exact q
def b7c:TS:=fun D σ H=>D.ct σ H
theorem a6x:PS X (.Continue pos) b7c:=fun _ _ σ H _ I h=>wpAny_Continue ⟨σ,H,I,h⟩
theorem Inv.quiet {pins:List (Addr×Obj)} {σ:St} {H:Hp} {s:Shared} (I:Inv X pins σ H s):interactive X.env=false:=by simp [interactive,I.ok.kind]
def a2X (te:TE):TS:=fun D σ H=>te σ H fun _ H1=>D.nx σ H1
theorem b5d (he:PE X e te) (hs:swapsWith e none pos.line X.env=pure false:=by rfl):PS X (.Expr e pos) (a2X te):=by
 intro pins s σ H D I h
 exact wpAny_Expr_any (thn (he pins s σ H _ I h) fun v s1 ⟨x,H1,I1,r1,q1⟩=>⟨σ,H1,I1,q1⟩) I.quiet hs
def a0O (te:TE):TS:=fun D σ H=>te σ H D.rt
theorem b9o (he:PE X e te):PS X (.Return (some e) pos) (a0O te):=by
 intro pins s σ H D I h
 exact wpAny_Return_some (thn (he pins s σ H _ I h) fun v s1 ⟨x,H1,I1,r1,q1⟩=>⟨x,σ,H1,I1,r1,q1⟩)
def a1O (c:TT) (t u:TS):TS:=fun D σ H=>c σ H fun b H1=>if b=true then t D σ H1 else u D σ H1
theorem c0C {c:Expr} {a b:List Stmt} {tc:TT} (hc:PT X c tc) (ha:PSs X a t) (hb:PSs X b u):PS X (.If c a b pos) (a1O tc t u):=by
 intro pins s σ H D I h
 refine wpAny_If (thn (hc pins s σ H _ I h) fun d s1 ⟨H1,I1,q1⟩=>?_)
 cases d with
 | true=>exact ha pins s1 σ H1 D I1 q1
 | false=>exact hb pins s1 σ H1 D I1 q1
end
abbrev TG:=V→St→Hp→(St→Hp→Prop)→Prop
abbrev TGs:=List V→St→Hp→(St→Hp→Prop)→Prop
def PG (X:Cx) (target:Expr) (t:TG):Prop:=
 ∀(pins:List (Addr×Obj)) (s:Shared) (σ:St) (H:Hp) (v:V) (u:Value) (Q:St→Hp→Prop),Inv X pins σ H s→a0R v u→t v σ H Q→
  wpAny (model X.prog X.w) X.A (assign target X.env u) (fun _ s'=>∃σ' H',Inv X pins σ' H' s'∧Q σ' H') X.xe s
def PGs (X:Cx) (ts:List Expr) (t:TGs):Prop:=
 ∀(pins:List (Addr×Obj)) (s:Shared) (σ:St) (H:Hp) (vs:List V) (us:List Value) (Q:St→Hp→Prop),Inv X pins σ H s→a0F vs us→t vs σ H Q→
  wpAny (model X.prog X.w) X.A (assignInOrder ((assignEach ts X.env).map (·.2)) us) (fun _ s'=>∃σ' H',Inv X pins σ' H' s'∧Q σ' H') X.xe s
abbrev c0z:=V→V→V→Hp→(Hp→Prop)→Prop
def c3D (X:Cx) (t:c0z):Prop:=
 ∀(pins:List (Addr×Obj)) (s:Shared) (σ:St) (H:Hp) (o i v:V) (ov iv u:Value) (Q:Hp→Prop),Inv X pins σ H s→a0R o ov→a0R i iv→a0R v u→t o i v H Q→
  wpAny (model X.prog X.w) X.A (setItem ov iv u) (fun _ s'=>∃H',Inv X pins σ H' s'∧Q H') X.xe s
section
variable {X:Cx} {pos:Pos}
def a0s (i:Nat):TG:=fun v σ H Q=>Q (σ.set i (some v)) H
theorem b4P {i:Nat} {x:Str} (hN:X.N.Nodup) (hi:X.N[i]?=some x) (hx:Loc X.env.scope x) (hf:X.fn x=true∨X.env.scope.names.lookup x=some .local:=by first | exact .inl rfl | exact .inr rfl | assumption):PG X (.Name x pos) (a0s i):=by
 intro pins s σ H v u Q I r h
 exact wpAny_assign_Name (a7z I hN hi hx r (fun s' I'=>⟨_,H,I',h⟩) hf)
def b6X:TGs:=fun vs σ H Q=>vs=[]∧Q σ H
def a6L (t:TG) (u:TGs):TGs:=fun vs σ H Q=>∃v r,vs=v::r∧t v σ H fun σ' H'=>u r σ' H' Q
theorem b4s:PGs X [] b6X:=by
 intro pins s σ H vs us Q I r h
 obtain ⟨e,h⟩:=h
 subst e
 cases r
 exact assignInOrder_nil ⟨σ,H,I,h⟩
theorem b2f {e:Expr} {es:List Expr} {t:TG} {u:TGs} (h1:PG X e t) (h2:PGs X es u)
  (hs:(assignEach (e::es) X.env).map (·.2)=assign e X.env::(assignEach es X.env).map (·.2):=by rfl):PGs X (e::es) (a6L t u):=by
 intro pins s σ H vs us Q I r h
 obtain ⟨v,vr,e1,h⟩:=h
 subst e1
 cases r with
 | cons r rr=>
  rw [hs]
  refine assignInOrder_cons (thn (h1 pins s σ H _ _ _ I r h) fun _ s1 ⟨σ1,H1,I1,q1⟩=>?_)
  exact h2 pins s1 σ1 H1 _ _ Q I1 rr q1
def b6b (K:Qe) (n:Nat) (t:TGs):TG:=fun v σ H Q=>∃a xs,v=.ref a∧SqT K H a xs∧xs.length=n∧t xs σ H Q
theorem b3O {es:List Expr} {k:Nat} {t:TGs} {n:Nat} (hc:X.calm=true) (h:PGs X es t)
  (hn:(assignEach es X.env).length=n:=by rfl) (hst:(assignEach es X.env).findIdx? (·.1)=none:=by rfl):PG X (.Tuple es k pos) (b6b X.K n t):=by
 intro pins s σ H v u Q I r hw
 obtain ⟨a,xs,e1,hq,hl,hw⟩:=hw
 subst e1
 cases r
 obtain ⟨its,rv,ht,hz⟩:=I.tuple hq
 refine assign_Tuple_tuple (I.ok.hd hc) ht (by simp [hn,←hl,rv.length]) hst fun h' hx=>?_
 have I1:Inv X pins σ H {s with heap:=h'}:=I.kept (t':=s.toks) fun b o e=>hx b o (Qx (Qs e)) e
 exact h pins _ σ H xs _ Q I1 (by simpa using rv) hw
def c1X (to ti:TE) (t:c0z):TG:=fun v σ H Q=>to σ H fun o H1=>ti σ H1 fun i H2=>t o i v H2 fun H3=>Q σ H3
theorem b9u {o i:Expr} {to ti:TE} {t:c0z} (ho:PE X o to) (hi:PE X i ti) (hs:c3D X t)
  (ha:∀v,assign (.Subscript o i pos) X.env v=(do
   let ov ←holding [v] (eval o X.env)
   let iv ←holding [v,ov] (eval i X.env)
   standAt pos
   holding [v,ov,iv] (setItem ov iv v)
   release [v,ov,iv] []):=by intro _;rfl):PG X (.Subscript o i pos) (c1X to ti t):=by
 intro pins s σ H v u Q I r h
 rw [ha]
 refine wpAny_bind (wpAny_holding (thn (ho pins s σ H _ I h) fun ov s1 ⟨x,H1,I1,r1,q1⟩=>?_))
 refine wpAny_bind (wpAny_holding (thn (hi pins s1 σ H1 _ I1 q1) fun iv s2 ⟨y,H2,I2,r2,q2⟩=>?_))
 refine wpAny_bind (wpAny_standAt (wpAny_bind (wpAny_holding (thn (hs pins s2 σ H2 x y v ov iv u _ I2 r1 r2 r q2) fun _ s3 ⟨H3,I3,q3⟩=>?_))))
 exact wpAny_release ⟨σ,H3,I3,q3⟩
def a2a (te:TE) (g:TG):TS:=fun D σ H=>te σ H fun x H1=>g x σ H1 D.nx
theorem b8r {tg e:Expr} {te:TE} {g:TG} (he:PE X e te) (hg:PG X tg g) (hs:swapsWithSole [tg] e pos.line X.env=pure false:=by rfl) (hw:swappedStores [tg] e X.env=pure none:=by rfl)
  (h1:(assignEach [tg] X.env).map (·.2)=[assign tg X.env]:=by rfl):PS X (.Assign [tg] e pos) (a2a te g):=by
 intro pins s σ H D I h
 refine wpAny_Assign_stores (thn (he pins s σ H _ I h) fun v s1 ⟨x,H1,I1,r1,q1⟩=>?_) hs hw
 rw [h1]
 exact thn (hg pins s1 σ H1 x v _ I1 r1 q1) fun _ s2 q=>q
theorem b7H {i:Nat} {x:Str} {e:Expr} {te:TE} {pos':Pos} (hN:X.N.Nodup) (hi:X.N[i]?=some x) (hx:Loc X.env.scope x) (he:PE X e te) (hs:swapsWith e (some (.Name x pos')) pos.line X.env=pure false:=by rfl) (hf:X.fn x=true∨X.env.scope.names.lookup x=some .local:=by first | exact .inl rfl | exact .inr rfl | assumption):
  PS X (.Assign [.Name x pos'] e pos) (a2a te (a0s i)):=by
 intro pins s σ H D I h
 refine wpAny_Assign_Name (thn (he pins s σ H _ I h) fun v s1 ⟨y,H1,I1,r1,q1⟩=>?_) hs
 exact a7z I1 hN hi hx r1 (fun s2 I2=>⟨_,H1,I2,q1⟩) hf
end
section
variable {X:Cx} {pos:Pos}
def b2T (c:TT) (tb:TS):TS:=fun D σ H=>∃W:Nat→St→Hp→Prop,(∃m,W m σ H)∧∀m σ H,W m σ H→
 c σ H fun b H1=>if b=true then ∃N:St→Hp→Prop,(∀σ' H',N σ' H'→∃m',m' < m∧W m' σ' H')∧tb {D with nx:=N,ct:=N,bk:=D.nx} σ H1 else D.nx σ H1
theorem b1O {c:Expr} {body:List Stmt} {tc:TT} {tb:TS} (hp:PassesOwn (model X.prog X.w) X.A X.env X.xe) (hc:PT X c tc) (hb:PSs X body tb):PS X (.While c body [] pos) (b2T tc tb):=by
 intro pins s σ H D I h
 obtain ⟨W,⟨m0,w0⟩,turn⟩:=h
 refine wpAny_While (codeAny_whileLoop (fun n s'=>∃σ' H',Inv X pins σ' H' s'∧W n σ' H') ?_ m0 ⟨σ,H,I,w0⟩)
 rintro n s1 ⟨σ1,H1,I1,w1⟩
 refine wpAny_passesOwn hp (thn (hc pins s1 σ1 H1 _ I1 (turn n σ1 H1 w1)) fun b s2 ⟨H2,I2,q2⟩=>?_)
 cases b with
 | true=>
  obtain ⟨N,hN,q2⟩:=q2
  rw [if_pos rfl]
  refine wpAny_passesOwn hp (thn (hb pins s2 σ1 H2 _ I2 q2) fun f s3 q3=>?_)
  cases f with
  | next=>
   obtain ⟨σ3,H3,I3,n3⟩:=q3
   obtain ⟨m',hm,w3⟩:=hN σ3 H3 n3
   exact ⟨m',hm,σ3,H3,I3,w3⟩
  | cont=>
   obtain ⟨σ3,H3,I3,n3⟩:=q3
   obtain ⟨m',hm,w3⟩:=hN σ3 H3 n3
   exact ⟨m',hm,σ3,H3,I3,w3⟩
  | brk=>exact q3
  | ret v=>exact q3
 | false=>
  rw [if_neg Qq]
  exact wpAny_execs_nil ⟨σ1,H2,I2,q2⟩
end
structure It where
 go:Nat→Hp→Prop
 yld:Nat→Hp→V→Hp→Prop
 stop:Nat→Hp→Prop
def a8u (X:Cx) (pins:List (Addr×Obj)) (H:Hp) (b:Addr):Prop:=
 H b=none∧b≠X.env.locals∧b∉X.fs∧(b∈X.ex∨X.s₀.heap.objs.size≤b)∧(∀x c,X.env.cells.lookup x=some c→c≠b)∧∀p∈X.pn++pins,p.1≠b
theorem Inv.fpOk {X:Cx} {pins:List (Addr×Obj)} {σ:St} {H H':Hp} {s:Shared} {b:Addr} (I:Inv X pins σ H s) (hb:s.heap.objs.size≤b) (hn:H' b=none):a8u X pins H' b:=by
 refine ⟨hn,Ut (Xr I.lt hb),I.nofs hb,.inr (Qj I.sz hb),fun x c e z=>?_,fun p hp z=>?_⟩
 ·obtain ⟨v,q⟩:=I.cell x c e
  exact absurd (Xr q.lt (by rw [z];exact hb)) (Jr _)
 ·exact absurd (Xr (Qs (I.pin p hp).1) (by rw [z];exact hb)) (Jr _)
structure b5Y (P:Program) (w:World) (K:Qe) (tg:Expr) (J:It) (fp:List Addr) (it:Addr) (tn:Nat→Heap→Prop):Prop where
 mem:it∈fp
 obj:∀i h,tn i h→∀b∈fp,∃o,h.get? b=some o∧∀v,o.data≠.cell v
 keep:∀i h h',tn i h→(∀b∈fp,∀o,h.get? b=some o→h'.get? b=some o)→tn i h'
 item:∀(X:Cx),X.prog=P→X.w=w→X.K=K→X.calm=true→∀(i:Nat) (pins:List (Addr×Obj)) (s:Shared) (σ:St) (H:Hp) (E:Value→Shared→Prop),Inv X pins σ H s→(∀b∈fp,a8u X pins H b)→tn i s.heap→J.go i H→
  wpAny (model P w) X.A (pyNext (.ref it)) (fun r s1=>∃u,r=some u∧
   wpAny (model P w) X.A (letOwnedTupleGo tg (.ref it) u) (fun _ s2=>∃x H',Inv X pins σ H' s2∧a0R x u∧J.yld i H x H'∧tn (i+1) s2.heap∧∀b∈fp,H' b=none) E s1) E s
 done:∀(X:Cx),X.prog=P→X.w=w→X.K=K→X.calm=true→∀(i:Nat) (pins:List (Addr×Obj)) (s:Shared) (σ:St) (H:Hp) (E:Value→Shared→Prop),Inv X pins σ H s→(∀b∈fp,a8u X pins H b)→tn i s.heap→J.stop i H→
  wpAny (model P w) X.A (pyNext (.ref it)) (fun r s1=>r=none∧Inv X pins σ H s1) E s
 self:∀(A:Around) (i:Nat) (s:Shared) (Q:Value→Shared→Prop) (E:Value→Shared→Prop),tn i s.heap→Q (.ref it) s→wpAny (model P w) A (pyIter (.ref it)) Q E s
abbrev TI:=St→Hp→(It→Hp→Prop)→Prop
def PIE (X:Cx) (pins:List (Addr×Obj)) (σ:St) (tg:Expr) (R:It→Hp→Prop) (itv:Value) (s2:Shared):Prop:=
 ∃(it:Addr) (fp:List Addr) (tn:Nat→Heap→Prop) (J:It) (H':Hp),itv=.ref it∧Inv X pins σ H' s2∧b5Y X.prog X.w X.K tg J fp it tn∧tn 0 s2.heap∧(∀b∈fp,a8u X pins H' b)∧R J H'
def PI (X:Cx) (tg iter:Expr) (wi:TI):Prop:=
 ∀(pins:List (Addr×Obj)) (s:Shared) (σ:St) (H:Hp) (R:It→Hp→Prop),Inv X pins σ H s→wi σ H R→
  wpAny (model X.prog X.w) X.A (eval iter X.env) (fun v s1=>wpAny (model X.prog X.w) X.A (pyIter v) (PIE X pins σ tg R) X.xe s1) X.xe s
theorem b4w {M:Model} {A:Around} {E:Value→Shared→Prop} {s:Shared} {tg:Expr} {it:Addr} {u:Value} {o:Obj} {n:String} {vs:Array Value} {Q:Unit→Shared→Prop} (ho:s.heap.get? it=some o) (hc:o.cls=.type n) (hd:o.data=.fields vs)
  (hn:["enumerate","zip","dict_itemiterator","dict_reverseitemiterator","odict_iterator","itertools.zip_longest","itertools.pairwise"].contains n=false) (hQ:Q () s):wpAny M A (letOwnedTupleGo tg (.ref it) u) Q E s:=by
 unfold letOwnedTupleGo
 cases tg<;>first
  | exact wpAny_pure hQ
  | (cases u<;>first
    | exact wpAny_pure hQ
    | (refine wpAny_bind (wpAny_load ho ?_);rw [hc,hd];show wpAny M A (if (["enumerate","zip","dict_itemiterator","dict_reverseitemiterator","odict_iterator","itertools.zip_longest","itertools.pairwise"].contains n && vs[0]? == some (rawInt _))=true then _ else _) Q E s;rw [if_neg (by intro h;rw [hn,Zl] at h;cases h)];exact wpAny_pure hQ))
def Itl (K:Qe) (a:Addr):It:=
 ⟨fun i H=>∃xs x,SqL K H a xs∧xs[i]?=some x,fun i H x H'=>H'=H∧∀xs,SqL K H a xs→xs[i]?=some x,fun i H=>∃xs,SqL K H a xs∧xs.length≤i⟩
def Itt (K:Qe) (a:Addr):It:=
 ⟨fun i H=>∃xs x,SqT K H a xs∧xs[i]?=some x,fun i H x H'=>H'=H∧∀xs,SqT K H a xs→xs[i]?=some x,fun i H=>∃xs,SqT K H a xs∧xs.length≤i⟩
def Itr (lo:Int) (n:Nat):It:=⟨fun i _=>i < n,fun i H x H'=>H'=H∧x=.int (lo+i),fun i _=>n≤i⟩
theorem b1g {P:Program} {w:World} {K:Qe} {tg:Expr} (a it:Addr):b5Y P w K tg (Itl K a) [it] it (fun i h=>h.IsListIter it a i) where
 mem:=by simp
 obj:=fun i h st b hb=>by
  have e:b=it:=by simpa using hb
  subst e
  obtain ⟨o,e,c,d⟩:=st
  exact ⟨o,e,fun v z=>by rw [d] at z;cases z⟩
 keep:=fun i h h' st k=>st.at fun o e=>k it (by simp) o e
 item:=by
  intro X hP hw hK hc i pins s σ H E I hf st hg
  subst hP hw hK
  obtain ⟨xs,x,hq,hx⟩:=hg
  obtain ⟨its,rv,p,hz⟩:=I.list hq
  obtain ⟨u,hu,ru⟩:=rv.get hx
  obtain ⟨f0,f1,f2,f3,f4,f5⟩:=hf it (by simp)
  refine wpAny_pyNext_list_item st p.isList (x:=u) (by simpa using hu) fun h' st' sb=>?_
  have I1:Inv X pins σ H {s with heap:=h'}:=I.turned (t':=s.toks) (fun b o hb e=>(sb.2 b hb).trans e) f0 f1 f3 f4 f5
  obtain ⟨o,e,c,d⟩:=id st'
  exact ⟨u,rfl,b4w (s:={s with heap:=h'}) e c d ‹dc› ⟨x,H,I1,ru,⟨rfl,fun ys hy=>by rw [I.list_inj hy hq];exact hx⟩,st',fun b hb=>(hf b hb).1⟩⟩
 done:=by
  intro X hP hw hK hc i pins s σ H E I hf st hg
  subst hP hw hK
  obtain ⟨xs,hq,hx⟩:=hg
  obtain ⟨its,rv,p,hz⟩:=I.list hq
  obtain ⟨f0,f1,f2,f3,f4,f5⟩:=hf it (by simp)
  have hl:=rv.length
  exact wpAny_pyNext_list_end (I.ok.hd hc) st p.isList (by simp;omega) fun h' eb=>⟨rfl,I.turned (t':=s.toks) (fun b o hb e=>eb b o hb e) f0 f1 f3 f4 f5⟩
 self:=fun _ _ _ _ _ st h=>wpAny_pyIter_listiter st h
theorem a7L {P:Program} {w:World} {K:Qe} {tg:Expr} (a it:Addr):b5Y P w K tg (Itt K a) [it] it (fun i h=>h.IsTupleIter it a i) where
 mem:=by simp
 obj:=fun i h st b hb=>by
  have e:b=it:=by simpa using hb
  subst e
  obtain ⟨o,e,c,d⟩:=st
  exact ⟨o,e,fun v z=>by rw [d] at z;cases z⟩
 keep:=fun i h h' st k=>st.at fun o e=>k it (by simp) o e
 item:=by
  intro X hP hw hK hc i pins s σ H E I hf st hg
  subst hP hw hK
  obtain ⟨xs,x,hq,hx⟩:=hg
  obtain ⟨its,rv,p,hz⟩:=I.tuple hq
  obtain ⟨u,hu,ru⟩:=rv.get hx
  obtain ⟨f0,f1,f2,f3,f4,f5⟩:=hf it (by simp)
  refine wpAny_pyNext_tuple_item st (show s.heap.IsTuple a its.toArray from p) (x:=u) (by simpa using hu) fun h' st' sb=>?_
  have I1:Inv X pins σ H {s with heap:=h'}:=I.turned (t':=s.toks) (fun b o hb e=>(sb.2 b hb).trans e) f0 f1 f3 f4 f5
  obtain ⟨o,e,c,d⟩:=id st'
  exact ⟨u,rfl,b4w (s:={s with heap:=h'}) e c d ‹dc› ⟨x,H,I1,ru,⟨rfl,fun ys hy=>by rw [I.tuple_inj hy hq];exact hx⟩,st',fun b hb=>(hf b hb).1⟩⟩
 done:=by
  intro X hP hw hK hc i pins s σ H E I hf st hg
  subst hP hw hK
  obtain ⟨xs,hq,hx⟩:=hg
  obtain ⟨its,rv,p,hz⟩:=I.tuple hq
  obtain ⟨f0,f1,f2,f3,f4,f5⟩:=hf it (by simp)
  have hl:=rv.length
  exact wpAny_pyNext_tuple_end (I.ok.hd hc) st (show s.heap.IsTuple a its.toArray from p) (by simp;omega) fun h' eb=>⟨rfl,I.turned (t':=s.toks) (fun b o hb e=>eb b o hb e) f0 f1 f3 f4 f5⟩
 self:=fun _ _ _ _ _ st h=>wpAny_pyIter_tupleiter st h
theorem a8M {P:Program} {w:World} {K:Qe} {tg:Expr} (it:Addr) (lo:Int) (n:Nat):b5Y P w K tg (Itr lo n) [it] it (fun i h=>IsRangeIter h it (lo+(i:Nat) * 1) ((n:Int) - (i:Nat)) 1) where
 mem:=by simp
 obj:=fun i h st b hb=>by
  have e:b=it:=by simpa using hb
  subst e
  exact ⟨_,st,fun v z=>by
   have z':Data.fields _=Data.cell v:=z
   cases z'⟩
 keep:=fun i h h' st k=>k it (by simp) _ st
 item:=by
  intro X hP hw hK hc i pins s σ H E I hf st hg
  subst hP hw hK
  obtain ⟨f0,f1,f2,f3,f4,f5⟩:=hf it (by simp)
  have W:=Walks.range (prog:=X.prog) (w:=X.w) (I.ok.hd hc) it lo 1 n
  refine W.item i s _ _ hg st fun v h' tk hv st' kk=>?_
  obtain ⟨t,rfl⟩:=hv
  have I1:Inv X pins σ H {s with heap:=h',toks:=tk}:=I.turned (fun b o hb e=>kk b o (by simpa using hb) e) f0 f1 f3 f4 f5
  refine ⟨_,rfl,b4w (s:={s with heap:=h',toks:=tk}) (n:="range_iterator") st' rfl rfl ‹dc› ⟨.int (lo+i),H,I1,⟨t,?_⟩,⟨rfl,rfl⟩,st',fun b hb=>(hf b hb).1⟩⟩
  rw [Int.mul_one]
 done:=by
  intro X hP hw hK hc i pins s σ H E I hf st hg
  subst hP hw hK
  obtain ⟨f0,f1,f2,f3,f4,f5⟩:=hf it (by simp)
  exact wpAny_pyNext_range_end (I.ok.hd hc) st (by have:n≤i:=hg;omega) fun h' eb=>⟨rfl,I.turned (t':=s.toks) (fun b o hb e=>eb b o hb e) f0 f1 f3 f4 f5⟩
 self:=fun _ _ _ _ _ st h=>wpAny_pyIter_rangeiter st h
section
variable {X:Cx} {tg:Expr}
def a1c (K:Qe) (tl:TE):TI:=fun σ H R=>tl σ H fun x H1=>∃a,x=.ref a∧(∃xs,SqL K H1 a xs)∧R (Itl K a) H1
def b3n (K:Qe) (tl:TE):TI:=fun σ H R=>tl σ H fun x H1=>∃a,x=.ref a∧(∃xs,SqT K H1 a xs)∧R (Itt K a) H1
theorem b5H {l:Expr} {tl:TE} (hl:PE X l tl):PI X tg l (a1c X.K tl):=by
 intro pins s σ H R I h
 refine thn (hl pins s σ H _ I h) fun v s1 ⟨x,H1,I1,r1,q1⟩=>?_
 obtain ⟨a,e,⟨xs,hq⟩,q⟩:=q1
 subst e
 cases r1
 obtain ⟨its,rv,p,hz⟩:=I1.list hq
 refine wpAny_pyIter_list p.isList ?_
 refine ⟨s1.heap.objs.size,[s1.heap.objs.size],_,_,H1,rfl,I1.kept (t':=s1.toks) fun b o e=>Qi _ e,b1g a _,⟨_,Qu _ rfl,rfl,rfl⟩,fun b hb=>?_,q⟩
 have e:b=s1.heap.objs.size:=by simpa using hb
 subst e
 exact I1.fpOk (Qk _) (I1.hok.fresh (Qk _))
theorem b6G {l:Expr} {tl:TE} (hl:PE X l tl):PI X tg l (b3n X.K tl):=by
 intro pins s σ H R I h
 refine thn (hl pins s σ H _ I h) fun v s1 ⟨x,H1,I1,r1,q1⟩=>?_
 obtain ⟨a,e,⟨xs,hq⟩,q⟩:=q1
 subst e
 cases r1
 obtain ⟨its,rv,p,hz⟩:=I1.tuple hq
 refine wpAny_pyIter_tuple (show s1.heap.IsTuple a its.toArray from p) ?_
 refine ⟨s1.heap.objs.size,[s1.heap.objs.size],_,_,H1,rfl,I1.kept (t':=s1.toks) fun b o e=>Qi _ e,a7L a _,⟨_,Qu _ rfl,rfl,rfl⟩,fun b hb=>?_,q⟩
 have e:b=s1.heap.objs.size:=by simpa using hb
 subst e
 exact I1.fpOk (Qk _) (I1.hok.fresh (Qk _))
theorem a7H {pins:List (Addr×Obj)} {σ:St} {H:Hp} {s:Shared} {R:It→Hp→Prop} {E:Value→Shared→Prop} {lo hi:Int} {t u v:Tok} {tk:Nat} (I:Inv X pins σ H s) (h1:-(2 ^ 62)≤lo) (h2:lo < 2 ^ 62) (h3:-(2 ^ 62)≤hi) (h4:hi < 2 ^ 62)
  (q:R (Itr lo (hi - lo).toNat) H):wpAny (model X.prog X.w) X.A (pyIter (.ref s.heap.objs.size)) (PIE X pins σ tg R) E {s with heap:=s.heap.push {cls:=.type "range",data:=.fields #[.int lo t,.int hi u,.int 1 v]},toks:=tk}:=by
 refine wpAny_pyIter_range (IsRange.new ..) (small_one h1 h2 h3 h4) ?_
 have I1:Inv X pins σ H {s with heap:=s.heap.push {cls:=.type "range",data:=.fields #[.int lo t,.int hi u,.int 1 v]},toks:=tk}:=I.kept fun b o e=>Qi _ e
 refine ⟨(s.heap.push {cls:=.type "range",data:=.fields #[.int lo t,.int hi u,.int 1 v]}).objs.size,[(s.heap.push {cls:=.type "range",data:=.fields #[.int lo t,.int hi u,.int 1 v]}).objs.size],_,_,H,rfl,
  I1.kept (t':=tk) fun b o e=>Qi _ e,a8M _ lo (hi - lo).toNat,?_,fun b hb=>?_,q⟩
 ·have e1:lo+((0:Nat):Int) * 1=lo:=by simp
  have e2:(((hi - lo).toNat:Nat):Int) - ((0:Nat):Int)=Builtin.Range.rangeSize lo hi 1:=by rw [rangeSize_one];split<;>omega
  show IsRangeIter _ _ (lo+((0:Nat):Int) * 1) ((((hi - lo).toNat:Nat):Int) - ((0:Nat):Int)) 1
  rw [e1,e2]
  exact Qu _ rfl
 ·have e:b=(s.heap.push {cls:=.type "range",data:=.fields #[.int lo t,.int hi u,.int 1 v]}).objs.size:=by simpa using hb
  subst e
  exact I1.fpOk (Qk _) (I1.hok.fresh (Qk _))
def a8x (ta:TA):TI:=fun σ H R=>ta σ H fun vs H1=>∃j:Int,vs=[.int j]∧-(2 ^ 62)≤j∧j < 2 ^ 62∧R (Itr 0 j.toNat) H1
def b7R (ta:TA):TI:=fun σ H R=>ta σ H fun vs H1=>∃i j:Int,vs=[.int i,.int j]∧(-(2 ^ 62)≤i∧i < 2 ^ 62∧-(2 ^ 62)≤j∧j < 2 ^ 62)∧R (Itr i (j - i).toNat) H1
theorem b0p {a:Expr} {ta:TA} {p pos:Pos} (hg:Gl X "range") (hm:X.mg "range"=none) (ha:PA X [a] ta) (hs:starEach [a] X.env=[(false,eval a X.env)]:=by rfl):PI X tg (.Call (.Name "range" p) [a] [] pos) (a8x ta):=by
 intro pins s σ H R I h
 refine Call_ (a3i I hg hm boot_range (PyProof.Rows.callWith_type1 (thn (ha pos pins s σ H _ I h) fun us s1 ⟨vs,H1,I1,r1,q1⟩=>?_) hs rfl))
 obtain ⟨j,e,q1,q2,q⟩:=q1
 subst e
 cases r1 with
 | cons r rr=>
  cases rr
  obtain ⟨t,rfl⟩:=r
  exact call_range_1 (a7H I1 ‹om› ‹om› q1 q2 (by simpa using q))
theorem a8T {a b:Expr} {ta:TA} {p pos:Pos} (hg:Gl X "range") (hm:X.mg "range"=none) (ha:PA X [a,b] ta) (hs:starEach [a,b] X.env=[(false,eval a X.env),(false,eval b X.env)]:=by rfl) (hs2:starEach [b] X.env=[(false,eval b X.env)]:=by rfl):
  PI X tg (.Call (.Name "range" p) [a,b] [] pos) (b7R ta):=by
 intro pins s σ H R I h
 refine Call_ (a3i I hg hm boot_range (PyProof.Rows.callWith_type1 (thn (ha pos pins s σ H _ I h) fun us s1 ⟨vs,H1,I1,r1,q1⟩=>?_) (by rw [hs,hs2]) (by rw [hs2];rfl)))
 obtain ⟨i,j,e,⟨q1,q2,q3,q4⟩,q⟩:=q1
 subst e
 cases r1 with
 | cons r rr=>
  cases rr with
  | cons r' rr=>
   cases rr
   obtain ⟨t,rfl⟩:=r
   obtain ⟨t',rfl⟩:=r'
   exact call_range_2 (a7H I1 q1 q2 q3 q4 q)
def c3R (wi:TI) (g:TG) (tb:TS):TS:=fun D σ H=>wi σ H fun J H1=>∃W:Nat→Nat→St→Hp→Prop,(∃m,W 0 m σ H1)∧∀i m σ H,W i m σ H→
 (J.stop i H∧D.nx σ H)∨(J.go i H∧∃N:St→Hp→Prop,(∀σ' H',N σ' H'→∃m',m' < m∧W (i+1) m' σ' H')∧∀x H',J.yld i H x H'→g x σ H' fun σ2 H2=>tb {D with nx:=N,ct:=N,bk:=D.nx} σ2 H2)
def a5y (fp:List Addr) (h:Heap):List (Addr×Obj):=fp.filterMap fun b=>(h.get? b).map fun o=>(b,o)
theorem a2t {fp:List Addr} {h:Heap} {b:Addr} {o:Obj} (hb:b∈fp) (e:h.get? b=some o):(b,o)∈a5y fp h:=Gk.mpr ⟨b,hb,by rw [e];rfl⟩
theorem b0L {fp:List Addr} {h:Heap} {p:Addr×Obj} (hp:p∈a5y fp h):p.1∈fp∧h.get? p.1=some p.2:=by
 obtain ⟨b,hb,e⟩:=Gk.mp hp
 cases q:h.get? b with
 | none=>rw [q] at e;cases e
 | some o=>
  rw [q] at e
  have e':(b,o)=p:=Option.some.inj e
  subst e'
  exact ⟨hb,q⟩
theorem Inv.pinned {pins:List (Addr×Obj)} {σ:St} {H:Hp} {s:Shared} {fp:List Addr} (I:Inv X pins σ H s) (hf:∀b∈fp,a8u X pins H b) (ho:∀b∈fp,∃o,s.heap.get? b=some o∧∀v,o.data≠.cell v):Inv X (pins++a5y fp s.heap) σ H s:=
 I.pins_of fun p hp=>(Xn.mp hp).elim (fun z=>I.pin p (Ye _ z)) fun z=>by
  obtain ⟨hb,e⟩:=b0L z
  obtain ⟨f0,f1,f2,_⟩:=hf p.1 hb
  obtain ⟨o,e',d⟩:=ho p.1 hb
  rw [e] at e';cases e'
  exact ⟨e,f0,f1,f2,d⟩
theorem Inv.unpinned {pins pl:List (Addr×Obj)} {σ:St} {H:Hp} {s:Shared} (I:Inv X (pins++pl) σ H s):Inv X pins σ H s:=I.pins_of fun p hp=>I.pin p (Ye _ (Zx _ hp))
theorem b7h {iter:Expr} {body:List Stmt} {wi:TI} {g:TG} {tb:TS} {pos:Pos} (hp:PassesOwn (model X.prog X.w) X.A X.env X.xe) (hc:X.calm=true) (hi:PI X tg iter wi) (hg:PG X tg g) (hb:PSs X body tb)
  (hs:∀x,foldedSetIterable iter X.env x=pure x:=by intro _;rfl):PS X (.For tg iter body [] pos) (c3R wi g tb):=by
 intro pins s σ H D I h
 refine wpAny_For (thn (hi pins s σ H _ I h) fun v s1 h1=>thn h1 fun itv s2 h2=>?_) hs
 obtain ⟨it,fp,tn,J,H2,e,I2,T,st2,f2,W,⟨m0,w0⟩,turn⟩:=h2
 subst e
 have stat:∀{H':Hp},(∀b∈fp,H' b=none)→∀b∈fp,a8u X pins H' b:=fun hn b hb=>⟨hn b hb,(f2 b hb).2⟩
 refine codeAny_forLoop_any (fun n s'=>∃i σ' H',Inv X pins σ' H' s'∧tn i s'.heap∧(∀b∈fp,H' b=none)∧W i n σ' H') ?_ m0 ⟨0,σ,H2,I2,st2,fun b hb=>(f2 b hb).1,w0⟩
 rintro n s3 ⟨i,σ3,H3,I3,st3,fr3,w3⟩
 rcases turn i n σ3 H3 w3 with ⟨stop,qn⟩ | ⟨go,N,hN,step⟩
 ·refine wpAny_passesOwn hp (thn (T.done X rfl rfl rfl hc i pins s3 σ3 H3 X.xe I3 (stat fr3) st3 stop) fun r s4 ⟨hr,I4⟩=>?_)
  subst hr
  exact wpAny_execs_nil ⟨σ3,H3,I4,qn⟩
 ·refine wpAny_passesOwn hp (thn (T.item X rfl rfl rfl hc i pins s3 σ3 H3 X.xe I3 (stat fr3) st3 go) fun r s4 ⟨u,hr,h4⟩=>?_)
  subst hr
  refine wpAny_passesOwn hp (thn h4 fun _ s5 ⟨x,H5,I5,r5,y5,st5,fr5⟩=>?_)
  have I5':=I5.pinned (stat fr5) (T.obj _ _ st5)
  refine wpAny_passesOwn hp (thn (hg _ s5 σ3 H5 x u _ I5' r5 (step x H5 y5)) fun _ s6 ⟨σ6,H6,I6,q6⟩=>?_)
  refine wpAny_passesOwn hp (thn (hb _ s6 σ6 H6 _ I6 q6) fun f s7 q7=>?_)
  have again:∀{σ7:St} {H7:Hp},Inv X (pins++a5y fp s5.heap) σ7 H7 s7→N σ7 H7→∃m,m < n∧∃i σ' H',Inv X pins σ' H' s7∧tn i s7.heap∧(∀b∈fp,H' b=none)∧W i m σ' H':=fun {σ7 H7} I7 n7=>by
   obtain ⟨m',hm,w7⟩:=hN σ7 H7 n7
   refine ⟨m',hm,i+1,σ7,H7,I7.unpinned,T.keep _ _ _ st5 fun b hb o e=>(I7.pin (b,o) (Ye _ (Ye _ (a2t hb e)))).1,fun b hb=>?_,w7⟩
   obtain ⟨o,e,d⟩:=T.obj _ _ st5 b hb
   exact (I7.pin (b,o) (Ye _ (Ye _ (a2t hb e)))).2.1
  cases f with
  | next=>obtain ⟨σ7,H7,I7,n7⟩:=q7;exact again I7 n7
  | cont=>obtain ⟨σ7,H7,I7,n7⟩:=q7;exact again I7 n7
  | brk=>obtain ⟨σ7,H7,I7,q7⟩:=q7;exact ⟨σ7,H7,I7.unpinned,q7⟩
  | ret v=>obtain ⟨x7,σ7,H7,I7,r7,q7⟩:=q7;exact ⟨x7,σ7,H7,I7.unpinned,r7,q7⟩
end
theorem a1j {K:Qe} {a:Addr} {xs:List V} {g:TG} {tb:TS} {D:b1q} {σ:St} {H:Hp} (Pv:Nat→St→Hp→Prop) (h0:Pv 0 σ H) (hl:∀i σ H,i≤xs.length→Pv i σ H→SqL K H a xs)
  (hs:∀i x σ H,xs[i]?=some x→Pv i σ H→g x σ H fun σ2 H2=>tb {D with nx:=Pv (i+1),ct:=Pv (i+1),bk:=D.nx} σ2 H2) (hd:∀σ H,Pv xs.length σ H→D.nx σ H):
  ∃W:Nat→Nat→St→Hp→Prop,(∃m,W 0 m σ H)∧∀i m σ H,W i m σ H→
   ((Itl K a).stop i H∧D.nx σ H)∨((Itl K a).go i H∧∃N:St→Hp→Prop,(∀σ' H',N σ' H'→∃m',m' < m∧W (i+1) m' σ' H')∧∀x H',(Itl K a).yld i H x H'→g x σ H' fun σ2 H2=>tb {D with nx:=N,ct:=N,bk:=D.nx} σ2 H2):=by
 refine ⟨fun i m σ H=>m=xs.length - i∧i≤xs.length∧Pv i σ H,⟨xs.length,by simp,Xg _,h0⟩,?_⟩
 rintro i m σ H ⟨rfl,hi,p⟩
 have q:=hl i σ H hi p
 by_cases hlt:i < xs.length
 ·refine .inr ⟨⟨xs,xs[i],q,by simp [hlt]⟩,Pv (i+1),fun σ' H' p'=>⟨xs.length - (i+1),by omega,rfl,hlt,p'⟩,fun x H' y=>?_⟩
  obtain ⟨e,y⟩:=y
  subst e
  exact hs i x σ _ (y xs q) p
 ·have e:i=xs.length:=by omega
  subst e
  exact .inl ⟨⟨xs,q,Qk _⟩,hd σ H p⟩
theorem a3H {K:Qe} {a:Addr} {xs:List V} {g:TG} {tb:TS} {D:b1q} {σ:St} {H:Hp} (Pv:Nat→St→Hp→Prop) (h0:Pv 0 σ H) (hl:∀i σ H,i≤xs.length→Pv i σ H→SqT K H a xs)
  (hs:∀i x σ H,xs[i]?=some x→Pv i σ H→g x σ H fun σ2 H2=>tb {D with nx:=Pv (i+1),ct:=Pv (i+1),bk:=D.nx} σ2 H2) (hd:∀σ H,Pv xs.length σ H→D.nx σ H):
  ∃W:Nat→Nat→St→Hp→Prop,(∃m,W 0 m σ H)∧∀i m σ H,W i m σ H→
   ((Itt K a).stop i H∧D.nx σ H)∨((Itt K a).go i H∧∃N:St→Hp→Prop,(∀σ' H',N σ' H'→∃m',m' < m∧W (i+1) m' σ' H')∧∀x H',(Itt K a).yld i H x H'→g x σ H' fun σ2 H2=>tb {D with nx:=N,ct:=N,bk:=D.nx} σ2 H2):=by
 refine ⟨fun i m σ H=>m=xs.length - i∧i≤xs.length∧Pv i σ H,⟨xs.length,by simp,Xg _,h0⟩,?_⟩
 rintro i m σ H ⟨rfl,hi,p⟩
 have q:=hl i σ H hi p
 by_cases hlt:i < xs.length
 ·refine .inr ⟨⟨xs,xs[i],q,by simp [hlt]⟩,Pv (i+1),fun σ' H' p'=>⟨xs.length - (i+1),by omega,rfl,hlt,p'⟩,fun x H' y=>?_⟩
  obtain ⟨e,y⟩:=y
  subst e
  exact hs i x σ _ (y xs q) p
 ·have e:i=xs.length:=by omega
  subst e
  exact .inl ⟨⟨xs,q,Qk _⟩,hd σ H p⟩
theorem a2N {lo:Int} {n:Nat} {g:TG} {tb:TS} {D:b1q} {σ:St} {H:Hp} (Pv:Nat→St→Hp→Prop) (h0:Pv 0 σ H)
  (hs:∀i σ H,i < n→Pv i σ H→g (.int (lo+i)) σ H fun σ2 H2=>tb {D with nx:=Pv (i+1),ct:=Pv (i+1),bk:=D.nx} σ2 H2) (hd:∀σ H,Pv n σ H→D.nx σ H):
  ∃W:Nat→Nat→St→Hp→Prop,(∃m,W 0 m σ H)∧∀i m σ H,W i m σ H→
   ((Itr lo n).stop i H∧D.nx σ H)∨((Itr lo n).go i H∧∃N:St→Hp→Prop,(∀σ' H',N σ' H'→∃m',m' < m∧W (i+1) m' σ' H')∧∀x H',(Itr lo n).yld i H x H'→g x σ H' fun σ2 H2=>tb {D with nx:=N,ct:=N,bk:=D.nx} σ2 H2):=by
 refine ⟨fun i m σ H=>m=n - i∧i≤n∧Pv i σ H,⟨n,by simp,Xg _,h0⟩,?_⟩
 rintro i m σ H ⟨rfl,hi,p⟩
 by_cases hlt:i < n
 ·refine .inr ⟨hlt,Pv (i+1),fun σ' H' p'=>⟨n - (i+1),by omega,rfl,hlt,p'⟩,fun x H' y=>?_⟩
  obtain ⟨e,y⟩:=y
  subst e y
  exact hs i σ _ hlt p
 ·have e:i=n:=by omega
  subst e
  exact .inl ⟨Qk _,hd σ H p⟩
abbrev R2:=V→V→Hp→VK→Prop
def OpR (X:Cx) (f:Value→Value→Sem Value) (r:R2):Prop:=
 ∀(pins:List (Addr×Obj)) (s:Shared) (σ:St) (H:Hp) (x y:V) (v u:Value) (Q:VK),Inv X pins σ H s→a0R x v→a0R y u→r x y H Q→
  wpAny (model X.prog X.w) X.A (f v u) (EP X pins σ Q) X.xe s
def UnR (X:Cx) (f:Value→Sem Value) (r:V→Hp→VK→Prop):Prop:=
 ∀(pins:List (Addr×Obj)) (s:Shared) (σ:St) (H:Hp) (x:V) (v:Value) (Q:VK),Inv X pins σ H s→a0R x v→r x H Q→
  wpAny (model X.prog X.w) X.A (f v) (EP X pins σ Q) X.xe s
def a1t (X:Cx) (f:Value) (r:List V→Hp→VK→Prop):Prop:=
 ∀(pins:List (Addr×Obj)) (s:Shared) (σ:St) (H:Hp) (xs:List V) (us:List Value) (Q:VK),Inv X pins σ H s→a0F xs us→r xs H Q→
  wpAny (model X.prog X.w) X.A (call f us) (EP X pins σ Q) X.xe s
def tOp (r:R2) (ta tb:TE):TE:=fun σ H Q=>ta σ H fun x H1=>tb σ H1 fun y H2=>r x y H2 Q
def tUn (r:V→Hp→VK→Prop) (ta:TE):TE:=fun σ H Q=>ta σ H fun x H1=>r x H1 Q
def rI (C:Int→Int→Prop) (g:Int→Int→V):R2:=fun x y H Q=>∃i j,x=.int i∧y=.int j∧C i j∧Q (g i j) H
def rI0 (g:Int→Int→V):R2:=fun x y H Q=>∃i j,x=.int i∧y=.int j∧Q (g i j) H
def rU (g:Int→V):V→Hp→VK→Prop:=fun x H Q=>∃i,x=.int i∧Q (g i) H
section
variable {X:Cx} {a b c:Expr} {ta tb tc:TE} {pos:Pos}
theorem c0R (ha:PE X a ta) (hb:PE X b tb) {pins:List (Addr×Obj)} {s:Shared} {σ:St} {H:Hp} {R:V→V→Hp→Prop} (I:Inv X pins σ H s)
  (h:ta σ H fun x H1=>tb σ H1 fun y H2=>R x y H2) {Q:Value→Shared→Prop} {f:Value→Value→Sem Value}
  (hf:∀v u s2 x y H2,Inv X pins σ H2 s2→a0R x v→a0R y u→R x y H2→wpAny (model X.prog X.w) X.A (f v u) Q X.xe s2):
  wpAny (model X.prog X.w) X.A (eval a X.env) (fun v s₁=>wpAny (model X.prog X.w) X.A (eval b X.env) (fun u s₂=>wpAny (model X.prog X.w) X.A (f v u) Q X.xe s₂) X.xe s₁) X.xe s:=by
 refine thn (ha pins s σ H _ I h) fun v s1 ⟨x,H1,I1,r1,q1⟩=>?_
 refine thn (hb pins s1 σ H1 _ I1 q1) fun u s2 ⟨y,H2,I2,r2,q2⟩=>?_
 exact hf v u s2 x y H2 I2 r1 r2 q2
theorem c0V {op:Operator} {r:R2} (ho:OpR X (binaryOp op) r) (ha:PE X a ta) (hb:PE X b tb):PE X (.BinOp a op b pos) (tOp r ta tb):=by
 intro pins s σ H Q I h
 exact wpAny_BinOp (c0R ha hb I h fun v u s2 x y H2 I2 rx ry q=>ho pins s2 σ H2 x y v u Q I2 rx ry q)
theorem c0M {op:UnaryOp} {r:V→Hp→VK→Prop} (ho:UnR X (unaryOp op) r) (ha:PE X a ta):PE X (.UnaryOp op a pos) (tUn r ta):=by
 intro pins s σ H Q I h
 exact UnaryOp_ (thn (ha pins s σ H _ I h) fun v s1 ⟨x,H1,I1,r1,q1⟩=>ho pins s1 σ H1 x v Q I1 r1 q1)
theorem opI {f:Value→Value→Sem Value} {C:Int→Int→Prop} {g:Int→Int→Int}
  (rule:∀(i j:Int) (t u:Tok) (s:Shared) (Q:Value→Shared→Prop) (E:Value→Shared→Prop),C i j→Q (.int (g i j) s.toks) {s with toks:=s.toks+1}→wpAny (model X.prog X.w) X.A (f (.int i t) (.int j u)) Q E s):
  OpR X f (rI C fun i j=>.int (g i j)):=by
 intro pins s σ H x y v u Q I rx ry h
 obtain ⟨i,j,rfl,rfl,hc,q⟩:=h
 obtain ⟨t,rfl⟩:=rx
 obtain ⟨t',rfl⟩:=ry
 exact rule i j t t' s _ _ hc ⟨.int (g i j),H,I.tok _,⟨_,rfl⟩,q⟩
theorem c0p {f:Value→Value→Sem Value} {g:Int→Int→Int}
  (rule:∀(i j:Int) (t u:Tok) (s:Shared) (Q:Value→Shared→Prop) (E:Value→Shared→Prop),Q (.int (g i j) s.toks) {s with toks:=s.toks+1}→wpAny (model X.prog X.w) X.A (f (.int i t) (.int j u)) Q E s):
  OpR X f (rI0 fun i j=>.int (g i j)):=by
 intro pins s σ H x y v u Q I rx ry h
 obtain ⟨i,j,rfl,rfl,q⟩:=h
 obtain ⟨t,rfl⟩:=rx
 obtain ⟨t',rfl⟩:=ry
 exact rule i j t t' s _ _ ⟨.int (g i j),H,I.tok _,⟨_,rfl⟩,q⟩
theorem c5I {f:Value→Value→Sem Value} {g:Int→Int→Bool}
  (rule:∀(i j:Int) (t u:Tok) (s:Shared) (Q:Value→Shared→Prop) (E:Value→Shared→Prop),Q (.bool (g i j)) s→wpAny (model X.prog X.w) X.A (f (.int i t) (.int j u)) Q E s):
  OpR X f (rI0 fun i j=>.bl (g i j)):=by
 intro pins s σ H x y v u Q I rx ry h
 obtain ⟨i,j,rfl,rfl,q⟩:=h
 obtain ⟨t,rfl⟩:=rx
 obtain ⟨t',rfl⟩:=ry
 exact rule i j t t' s _ _ ⟨.bl (g i j),H,I,rfl,q⟩
def a8X (i j:Int):Prop:=0 < j∧j < 1073741824
def b5X (i j:Int):Prop:=(-(2 ^ 64) < i∧i < 2 ^ 64)∨(-(2 ^ 64) < j∧j < 2 ^ 64)
theorem b5X.ok {i j:Int} (h:b5X i j):IntMulOk i j:=by
 rcases h with ⟨h1,h2⟩ | ⟨h1,h2⟩
 ·exact .of_left (intBits_le_64 h1 h2)
 ·exact .of_right (intBits_le_64 h1 h2)
theorem a8L (k:Nat):(0:Int)≤2 ^ k:=by
 rw [two_pow_cast]
 exact Int.natCast_nonneg _
theorem b9T:OpR X (binaryOp .Add) (rI0 fun i j=>.int (i+j)):=c0p fun _ _ _ _ _ _ _ q=>add_int q
theorem b9p:OpR X (binaryOp .Sub) (rI0 fun i j=>.int (i - j)):=c0p fun _ _ _ _ _ _ _ q=>sub_int q
theorem a4w:OpR X (binaryOp .Mult) (rI b5X fun i j=>.int (i * j)):=opI fun _ _ _ _ _ _ _ hc q=>mul_int q hc.ok
theorem a1K:OpR X (binaryOp .FloorDiv) (rI a8X fun i j=>.int (i / j)):=opI fun i j _ _ _ _ _ hc q=>by
 have h1:(0:Int) < j:=hc.1
 have h2:j < 1073741824:=hc.2
 exact floordiv_int ‹om› (by rw [Vn i ‹om›];exact q) (.inl (PyProof.noPylong_small ‹om›))
theorem a0L:OpR X (binaryOp .Mod) (rI (fun _ j=>0 < j) fun i j=>.int (i % j)):=opI fun i j _ _ _ _ _ hc q=>by
 have h1:(0:Int) < j:=hc
 exact mod_int' ‹om› (by rw [Int.fmod_eq_emod_of_nonneg i ‹om›];exact q)
theorem b7Y:OpR X (binaryOp .RShift) (rI (fun _ j=>0≤j) fun i j=>.int (i / 2 ^ j.toNat)):=opI fun i j _ _ _ _ _ hc q=>
 rshift_int hc (by rw [Vn i (a8L _)];exact q)
theorem b7d:OpR X (binaryOp .BitAnd) (rI0 fun i j=>.int (Builtin.bitAnd i j)):=c0p fun _ _ _ _ _ _ _ q=>and_int q
theorem unI {f:Value→Sem Value} {g:Int→Int}
  (rule:∀(i:Int) (t:Tok) (s:Shared) (Q:Value→Shared→Prop) (E:Value→Shared→Prop),Q (.int (g i) s.toks) {s with toks:=s.toks+1}→wpAny (model X.prog X.w) X.A (f (.int i t)) Q E s):
  UnR X f (rU fun i=>.int (g i)):=by
 intro pins s σ H x v Q I rx h
 obtain ⟨i,rfl,q⟩:=h
 obtain ⟨t,rfl⟩:=rx
 exact rule i t s _ _ ⟨.int (g i),H,I.tok _,⟨_,rfl⟩,q⟩
theorem b6L:UnR X (unaryOp .USub) (rU fun i=>.int (-i)):=unI fun _ _ _ _ _ q=>neg_int q
end
def c1i:V→V→Bool
 | .non,.non=>true | .non,.int _=>true | .int _,.non=>true | .non,.bl _=>true | .bl _,.non=>true | .non,.str _=>true | .str _,.non=>true
 | .int _,.int _=>true | .bl _,.bl _=>true | .str _,.str _=>true | .byt _,.byt _=>true
 | .int _,.str _=>true | .str _,.int _=>true | .bl _,.str _=>true | .str _,.bl _=>true
 | _,_=>false
def rEq:R2:=fun x y H Q=>c1i x y=true∧Q (.bl (decide (x=y))) H
def rNe:R2:=fun x y H Q=>c1i x y=true∧Q (.bl (!decide (x=y))) H
theorem b0b {i j:Int}:decide (V.int i=V.int j)=(i == j):=by
 rw [Yh]
 simp
theorem b3o {i j:Bool}:decide (V.bl i=V.bl j)=(i == j):=by
 rw [Yh]
 simp
theorem a9j {i j:Str}:decide (V.str i=V.str j)=(i == j):=by
 rw [Yh]
 simp
theorem b0n {i j:Array UInt8}:decide (V.byt i=V.byt j)=(i.toList == j.toList):=by
 rw [Yh]
 cases i
 cases j
 simp
section
variable {X:Cx} {a b c:Expr} {ta tb tc:TE} {pos:Pos}
theorem a0C {pins:List (Addr×Obj)} {σ:St} {H:Hp} {s:Shared} {Q:VK} {k k':Bool} (I:Inv X pins σ H s) (q:Q (.bl k) H) (e:k=k'):EP X pins σ Q (.bool k') s:=by
 subst e
 exact ⟨.bl k,H,I,rfl,q⟩
theorem c0L:OpR X (compareOp .Eq) rEq:=by
 intro pins s σ H x y v u Q I rx ry h
 obtain ⟨hs,q⟩:=h
 cases x with
 | non=>
  cases rx
  cases y with
  | non=>cases ry;exact PySem.EqNone.eq_none_none (a0C I q (by simp))
  | bl j=>cases ry;exact PySem.EqNone.eq_none_bool (a0C I q (by simp))
  | int j=>obtain ⟨t',rfl⟩:=ry;exact PySem.EqNone.eq_none_int (a0C I q (by simp))
  | str j=>obtain ⟨t',rfl⟩:=ry;exact PySem.EqNone.eq_none_str (a0C I q (by simp))
  | _=>exact absurd (show false=true from hs) Qq
 | bl i=>
  cases rx
  cases y with
  | non=>cases ry;exact PySem.EqNone.eq_bool_none (a0C I q (by simp))
  | bl j=>cases ry;exact eq_bool (a0C I q b3o)
  | str j=>obtain ⟨t',rfl⟩:=ry;exact PySem.EqMixed.eq_bool_str (a0C I q (by simp))
  | _=>exact absurd (show false=true from hs) Qq
 | int i=>
  obtain ⟨t,rfl⟩:=rx
  cases y with
  | non=>cases ry;exact PySem.EqNone.eq_int_none (a0C I q (by simp))
  | int j=>obtain ⟨t',rfl⟩:=ry;exact eq_int (a0C I q b0b)
  | str j=>obtain ⟨t',rfl⟩:=ry;exact PySem.EqMixed.eq_int_str (a0C I q (by simp))
  | _=>exact absurd (show false=true from hs) Qq
 | str i=>
  obtain ⟨t,rfl⟩:=rx
  cases y with
  | non=>cases ry;exact PySem.EqNone.eq_str_none (a0C I q (by simp))
  | bl j=>cases ry;exact PySem.EqMixed.eq_str_bool (a0C I q (by simp))
  | int j=>obtain ⟨t',rfl⟩:=ry;exact PySem.EqMixed.eq_str_int (a0C I q (by simp))
  | str j=>obtain ⟨t',rfl⟩:=ry;exact eq_str (a0C I q a9j)
  | _=>exact absurd (show false=true from hs) Qq
 | byt i=>
  obtain ⟨t,rfl⟩:=rx
  cases y with
  | byt j=>obtain ⟨t',rfl⟩:=ry;exact PySem.W.eq_bytes (a0C I q b0n)
  | _=>exact absurd (show false=true from hs) Qq
 | _=>cases y<;>exact absurd (show false=true from hs) Qq
theorem c0N:OpR X (compareOp .NotEq) rNe:=by
 intro pins s σ H x y v u Q I rx ry h
 obtain ⟨hs,q⟩:=h
 cases x with
 | non=>
  cases rx
  cases y with
  | non=>cases ry;exact PySem.EqNone.ne_none_none (a0C I q (by simp))
  | bl j=>cases ry;exact PySem.EqNone.ne_none_bool (a0C I q (by simp))
  | int j=>obtain ⟨t',rfl⟩:=ry;exact PySem.EqNone.ne_none_int (a0C I q (by simp))
  | str j=>obtain ⟨t',rfl⟩:=ry;exact PySem.EqNone.ne_none_str (a0C I q (by simp))
  | _=>exact absurd (show false=true from hs) Qq
 | bl i=>
  cases rx
  cases y with
  | non=>cases ry;exact PySem.EqNone.ne_bool_none (a0C I q (by simp))
  | bl j=>cases ry;exact ne_bool (a0C I q (congrArg not b3o))
  | str j=>obtain ⟨t',rfl⟩:=ry;exact PySem.EqMixed.ne_bool_str (a0C I q (by simp))
  | _=>exact absurd (show false=true from hs) Qq
 | int i=>
  obtain ⟨t,rfl⟩:=rx
  cases y with
  | non=>cases ry;exact PySem.EqNone.ne_int_none (a0C I q (by simp))
  | int j=>obtain ⟨t',rfl⟩:=ry;exact ne_int (a0C I q (congrArg not b0b))
  | str j=>obtain ⟨t',rfl⟩:=ry;exact PySem.EqMixed.ne_int_str (a0C I q (by simp))
  | _=>exact absurd (show false=true from hs) Qq
 | str i=>
  obtain ⟨t,rfl⟩:=rx
  cases y with
  | non=>cases ry;exact PySem.EqNone.ne_str_none (a0C I q (by simp))
  | bl j=>cases ry;exact PySem.EqMixed.ne_str_bool (a0C I q (by simp))
  | int j=>obtain ⟨t',rfl⟩:=ry;exact PySem.EqMixed.ne_str_int (a0C I q (by simp))
  | str j=>obtain ⟨t',rfl⟩:=ry;exact ne_str (a0C I q (congrArg not a9j))
  | _=>exact absurd (show false=true from hs) Qq
 | byt i=>
  obtain ⟨t,rfl⟩:=rx
  cases y with
  | byt j=>obtain ⟨t',rfl⟩:=ry;exact PySem.W.ne_bytes (a0C I q (congrArg not b0n))
  | _=>exact absurd (show false=true from hs) Qq
 | _=>cases y<;>exact absurd (show false=true from hs) Qq
theorem c0v:OpR X (compareOp .Lt) (rI0 fun i j=>.bl (decide (i < j))):=c5I fun _ _ _ _ _ _ _ q=>lt_int q
theorem a9o:OpR X (compareOp .Lt) (fun x y H Q=>∃i j,x=.str i∧y=.str j∧Q (.bl (decide (i.cps.toList < j.cps.toList))) H):=by
 intro pins s σ H x y v u Q I rx ry h
 obtain ⟨i,j,rfl,rfl,q⟩:=h
 obtain ⟨t,rfl⟩:=rx
 obtain ⟨t',rfl⟩:=ry
 exact lt_str (a0C I q rfl)
theorem b1v:OpR X (compareOp .In) (fun x y H Q=>∃i j,x=.str i∧y=.str j∧Q (.bl (!(Builtin.Str.occurrences j i 0 j.length 1).isEmpty)) H):=by
 intro pins s σ H x y v u Q I rx ry h
 obtain ⟨i,j,rfl,rfl,q⟩:=h
 obtain ⟨t,rfl⟩:=rx
 obtain ⟨t',rfl⟩:=ry
 exact in_str (a0C I q rfl)
theorem a5P:OpR X (compareOp .NotIn) (fun x y H Q=>∃i j,x=.str i∧y=.str j∧Q (.bl (!(!(Builtin.Str.occurrences j i 0 j.length 1).isEmpty))) H):=by
 intro pins s σ H x y v u Q I rx ry h
 obtain ⟨i,j,rfl,rfl,q⟩:=h
 obtain ⟨t,rfl⟩:=rx
 obtain ⟨t',rfl⟩:=ry
 exact notIn_str (a0C I q rfl)
theorem OpR.or {f:Value→Value→Sem Value} {r r':R2} (h:OpR X f r) (h':OpR X f r'):OpR X f (fun x y H Q=>r x y H Q∨r' x y H Q):=by
 intro pins s σ H x y v u Q I rx ry q
 rcases q with q | q
 ·exact h pins s σ H x y v u Q I rx ry q
 ·exact h' pins s σ H x y v u Q I rx ry q
theorem a0o (b:Expr) {op:CmpOp} (h:op≠.In:=by decide) (h2:op≠.NotIn:=by decide):behindInMarks op b=false:=by
 have e1:(op == CmpOp.In)=false:=by cases op<;>first | rfl | exact absurd rfl h
 have e2:(op == CmpOp.NotIn)=false:=by cases op<;>first | rfl | exact absurd rfl h2
 cases b<;>simp [behindInMarks,e1,e2]
theorem b5I {op:CmpOp} {r:R2} (ho:OpR X (compareOp op) r) (ha:PE X a ta) (hb:PE X b tb) (hm:behindInMarks op b=false):PE X (.Compare a [op] [b] pos) (tOp r ta tb):=by
 intro pins s σ H Q I h
 exact wpAny_Compare1 (c0R ha hb I h fun v u s2 x y H2 I2 rx ry q=>ho pins s2 σ H2 x y v u Q I2 rx ry q) hm
def a0D (t:TE):TT:=fun σ H Q=>t σ H fun x H'=>∃k,x=.bl k∧Q k H'
theorem b5q {op:CmpOp} {r:R2} (ho:OpR X (compareOp op) r) (ha:PE X a ta) (hb:PE X b tb) (hm:behindInMarks op b=false):PT X (.Compare a [op] [b] pos) (a0D (tOp r ta tb)):=by
 intro pins s σ H Q I h
 refine wpAny_isTrue_Compare1 (thn (ha pins s σ H _ I h) fun v s1 ⟨x,H1,I1,r1,q1⟩=>thn (hb pins s1 σ H1 _ I1 q1) fun u s2 ⟨y,H2,I2,r2,q2⟩=>
  thn (ho pins s2 σ H2 x y v u _ I2 r1 r2 q2) fun c s3 ⟨z,H3,I3,r3,k,e,q3⟩=>?_) hm
 subst e
 cases r3
 exact wpAny_truthy_bool ⟨H3,I3,q3⟩
theorem a6p:(sizeLine:Nat) < 2 ^ 63:=by rw [sizeLine_eq];decide
theorem a8G:OpR X (binaryOp .Add) (fun x y H Q=>∃i j,x=.str i∧y=.str j∧i.length+j.length≤sizeLine∧Q (.str (i++j)) H):=by
 intro pins s σ H x y v u Q I rx ry h
 obtain ⟨i,j,rfl,rfl,hz,q⟩:=h
 obtain ⟨t,rfl⟩:=rx
 obtain ⟨t',rfl⟩:=ry
 exact add_str (fun t' tk=>⟨.str (i++j),H,I.tok _,⟨_,rfl⟩,q⟩) hz
theorem a2w {x:V} {us:List Value} (r:a0F [x] us):∃u,us=[u]∧a0R x u:=by
 cases r with
 | cons r1 r2=>cases r2;exact ⟨_,rfl,r1⟩
theorem c0E {x y:V} {us:List Value} (r:a0F [x,y] us):∃u w',us=[u,w']∧a0R x u∧a0R y w':=by
 cases r with
 | cons r1 r2=>
  cases r2 with
  | cons r3 r4=>cases r4;exact ⟨_,_,rfl,r1,r3⟩
theorem a9D:a1t X (.type "int") (fun xs H Q=>(∃i,xs=[.int i]∧Q (.int i) H)∨∃k,xs=[.bl k]∧Q (.int (if k then 1 else 0)) H):=by
 intro pins s σ H xs us Q I r h
 rcases h with ⟨i,rfl,q⟩ | ⟨k,rfl,q⟩
 ·obtain ⟨u,rfl,t,rfl⟩:=a2w r
  exact call_int_int ⟨.int i,H,I,⟨_,rfl⟩,q⟩
 ·obtain ⟨u,rfl,r1⟩:=a2w r
  cases r1
  exact call_int_bool ⟨.int (if k then 1 else 0),H,I.tok _,⟨_,rfl⟩,q⟩
theorem a5u:a1t X (.type "str") (fun xs H Q=>∃i,xs=[.int i]∧i.natAbs.log2 < 1920∧Q (.str (toString i)) H):=by
 intro pins s σ H xs us Q I r h
 obtain ⟨i,rfl,hz,q⟩:=h
 obtain ⟨u,rfl,t,rfl⟩:=a2w r
 exact PySem.P.str_of_int hz ⟨.str _,H,I.tok _,⟨_,rfl⟩,q⟩
def c1K (K:Qe) (x:V) (H:Hp) (n:Nat):Prop:=
 match x with
 | .str y=>y.length≤sizeLine∧n=y.length
 | .byt y=>y.size≤sizeLine∧n=y.size
 | .ref p=>(∃xs,SqL K H p xs∧n=xs.length)∨∃xs,SqT K H p xs∧n=xs.length
 | _=>False
theorem b2c:a1t X (.builtin "len") (fun xs H Q=>∃x n,xs=[x]∧c1K X.K x H n∧Q (.int n) H):=by
 intro pins s σ H xs us Q I r h
 obtain ⟨x,n,rfl,e,q⟩:=h
 obtain ⟨u,rfl,rx⟩:=a2w r
 have hl:=a6p
 have hs:sizeLine=16777216:=sizeLine_eq
 cases x with
 | str y=>
  obtain ⟨t,rfl⟩:=rx
  obtain ⟨hy,e'⟩:y.length≤sizeLine∧n=y.length:=e
  subst e'
  exact len_str ‹om› ⟨.int _,H,I.tok _,⟨_,rfl⟩,q⟩
 | byt y=>
  obtain ⟨t,rfl⟩:=rx
  obtain ⟨hy,e'⟩:y.size≤sizeLine∧n=y.size:=e
  subst e'
  exact PySem.W.len_bytes ‹om› ⟨.int _,H,I.tok _,⟨_,rfl⟩,q⟩
 | ref p=>
  cases rx
  have e':(∃xs,SqL X.K H p xs∧n=xs.length)∨∃xs,SqT X.K H p xs∧n=xs.length:=e
  rcases e' with ⟨xs,hx,e'⟩ | ⟨xs,hx,e'⟩
  ·subst e'
   obtain ⟨its,r',pl,hz⟩:=I.list hx
   have hlen:=r'.length
   exact Calls.call_len_list pl.isList (by simp only [Qo];omega) ⟨.int xs.length,H,I.tok _,⟨_,by simp only [Qo];rw [hlen]⟩,q⟩
  ·subst e'
   obtain ⟨its,r',pl,hz⟩:=I.tuple hx
   have hlen:=r'.length
   exact len_tuple pl (by simp only [Qo];omega) ⟨.int xs.length,H,I.tok _,⟨_,by simp only [Qo];rw [hlen]⟩,q⟩
 | _=>exact (show False from e).elim
end
structure b4V (h:Heap) (x dx C:Addr) (mA:Str→Option Value):Prop where
 obj:h.get? x=some (Zw C dx)
 ns:h.Ns1 dx mA
 ne:dx≠x
theorem b0e {h:Heap} {dx:Addr} {mA:Str→Option Value} (n:h.Ns1 dx mA):∃od,h.get? dx=some od∧∀name,Vf name od=some (mA name):=by
 obtain ⟨o,es,ep,ho,hd,hk,_,hm⟩:=n
 refine ⟨o,ho,fun name=>?_⟩
 have e:=hm name
 unfold nsFind findBy at e
 rw [←Array.find?_toList] at e
 unfold Vf
 rw [hd]
 dsimp only
 split
 ·rename_i y q
  rw [q] at e
  exact congrArg some e
 ·rename_i q
  rw [q] at e
  have a:es.toList.any (·.refKey)=false:=by
   rw [List.any_eq_false]
   intro y hy
   obtain ⟨z,t,hkey⟩:=hk y (Array.mem_toList_iff.mp hy)
   simp [DictEntry.refKey,hkey]
  have a':¬es.toList.any (·.refKey)=true:=by rw [a];exact Qq
  rw [if_neg a']
  exact congrArg some e
theorem b4V.look {h:Heap} {x dx C:Addr} {mA:Str→Option Value} (I:b4V h x dx C mA):∃od,PySem.W.InstAt h x (Zw C dx) C (some od)∧∀name,Vf name od=some (mA name):=
 let ⟨od,ho,hl⟩:=b0e I.ns
 ⟨od,⟨I.obj,rfl,rfl,ho⟩,hl⟩
section
variable {prog:Program} {w:World} {A:Around} {E:Value→Shared→Prop} {s:Shared} {K:Qe} {x dx C f:Addr} {mA:Str→Option Value} {name:Str} {v:Value}
theorem b4o {expr:Bool} {Q:Value→Shared→Prop} (X:K.In s.heap) (I:b4V s.heap x dx C mA) (hg:Um K C name=true) (hh:Vq K C=true)
  (ha:Yz K (.ref C) name=some none) (hv:mA name=some v) (hv':Gu v=true) (h:Q v {s with toks:=s.toks+1}):
  wpAny (model prog w) A (getAttr (.ref x) name expr) Q E s:=by
 obtain ⟨od,J,hl⟩:=I.look
 exact PySem.W.get_value X J (Vb hg).1 (PySem.W.findObj_own hh ha rfl (by rw [hl,hv])) hv' h
theorem b1M {pl:Sem Bool} {Q:Value×List Value→Shared→Prop} (X:K.In s.heap) (I:b4V s.heap x dx C mA) (hg:Um K C name=true)
  (hf:Yz K (.ref C) name=some (some (.ref f))) (ht:Gm K (.ref f)=true) (hv:mA name=none) (h:Q (.ref f,[.ref x]) s):
  wpAny (model prog w) A (getMethod (.ref x) name pl) Q E s:=by
 obtain ⟨od,J,hl⟩:=I.look
 exact PySem.W.method_fn X J (Vb hg).1 (Vb hg).2 hf (beq_iff_eq.mp ht) (by show (Vf name od).map (·.isSome)=some false;rw [hl,hv];rfl) h
theorem b5n {ns:List Str} {Q:Unit→Shared→Prop} (X:K.In s.heap) (I:b4V s.heap x dx C mA)
  (hs:Yz K (.ref C) "__setattr__"=some (some (.builtin "object.__setattr__"))) (hp:Gq K C=true) (ht:Wi K C name=some none) (hh:Vq K C=true)
  (hw:PySem.Within mA ns) (hsz:ns.length≤sizeLine)
  (h:∀h',b4V h' x dx C (fun y=>if y=name then some v else mA y)→Yl dx s.heap h'→Q () {s with heap:=h',toks:=s.toks+2}):
  wpAny (model prog w) A (setAttr (.ref x) name v) Q E s:=by
 obtain ⟨od,J,hl⟩:=I.look
 refine PySem.W.set_plain X J hs (PySem.W.osa_open (s:={s with toks:=s.toks+1}) (r:=none) X J hp ht fun b=>?_)
 obtain ⟨cd,hc,hd'⟩:=PySem.W.any_some hh
 have hx:s.heap.get? x=some ⟨.ref C,some dx,.plain,#[]⟩:=I.obj
 refine wpAny_bind (wpAny_pure (wpAny_bind (wpAny_bind (wpAny_loadPart hx (wpAny_bind (PySem.W.Looks.here (s:={s with toks:=s.toks+1}) (PySem.W.looks_clsIn X hc) ?_))))))
 rw [hd']
 refine wpAny_pure (a:=some dx) (wpAny_bind (wpAny_pure (wpAny_bind ?_)))
 refine wpAny_nsSet1 (s:={s with toks:=s.toks+1}) I.ns fun h' hn2 hs2=>?_
 obtain ⟨oD,esD,epD,hoD,hdD,hcD⟩:=hn2.count (PySem.Within.cons name v hw)
 refine wpAny_bind (wpAny_lookBehind hoD (by rw [hdD];exact pastItsLine_dict (Qj hcD (by rw [Qt];omega))) ?_)
 exact wpAny_pure (h _ ⟨(hs2.2 _ (Ne.symm I.ne)).trans I.obj,hn2,I.ne⟩ hs2)
theorem b2n {R:Result→Shared→Prop} {vs:List Value} {kw:List (Str×Value)} (X:K.In s.heap) (hm:Gx K C=true)
  (hi:Yz K (.ref C) "__init__"=some (some (.ref f))) (hf:Wr K (.ref f)=some (.type "function"))
  (h:codeAny (model prog w) (A.under (.builtin "type.__call__" ⟨.ref C::vs,kw⟩)) (.call (.ref f) ⟨.ref (s.heap.objs.size+1)::vs,kw⟩) (PySem.W.InitBack (s.heap.objs.size+1) R)
   {s with heap:=(s.heap.push Zi).push (Zw C s.heap.objs.size)}):
  codeAny (model prog w) A (.call (.ref C) ⟨vs,kw⟩) R s:=by
 obtain ⟨hh,g,d,t,os⟩:=s
 exact PySem.W.make_core (PySem.W.makes_of X hm) (PySem.W.looks_findIn X hi) (fun self=>PySem.W.bind_fn X self hf) (.inl rfl) h
end
def a1F (f:Str) (v:V):List (Str×V)→List (Str×V)
 | []=>[(f,v)]
 | (g,x)::r=>if g=f then (g,v)::r else (g,x)::a1F f v r
theorem a0j (f g:Str) (v:V):∀fs:List (Str×V),(a1F f v fs).lookup g=if g=f then some v else fs.lookup g
 | []=>by
  show Jf g [(f,v)]=_
  by_cases h:g=f
  ·have hb:(g == f)=true:=beq_iff_eq.mpr h
   simp only [Jf,hb,if_pos h]
  ·have hb:(g == f)=false:=beq_eq_false_iff_ne.mpr h
   simp only [Jf,hb,if_neg h]
 | (k,x)::r=>by
  have ih:=a0j f g v r
  rw [show a1F f v ((k,x)::r)=(if k=f then (k,v)::r else (k,x)::a1F f v r) from rfl]
  by_cases hk:k=f
  ·rw [if_pos hk]
   by_cases h:g=k
   ·have hb:(g == k)=true:=beq_iff_eq.mpr h
    simp only [Jf,hb,if_pos (h.trans hk)]
   ·have hb:(g == k)=false:=beq_eq_false_iff_ne.mpr h
    simp only [Jf,hb,if_neg (fun e:g=f=>h (e.trans hk.symm))]
  ·rw [if_neg hk]
   by_cases h:g=k
   ·have hb:(g == k)=true:=beq_iff_eq.mpr h
    simp only [Jf,hb,if_neg (fun e:g=f=>hk (h.symm.trans e))]
   ·have hb:(g == k)=false:=beq_eq_false_iff_ne.mpr h
    simp only [Jf,hb]
    exact ih
theorem a3J (f:Str) (v:V):∀fs:List (Str×V),f∈(a1F f v fs).map (·.1)∧∀g,g∈fs.map (·.1)→g∈(a1F f v fs).map (·.1)
 | []=>⟨by simp [a1F],fun g h=>by simp at h⟩
 | (k,x)::r=>by
  obtain ⟨i1,i2⟩:=a3J f v r
  rw [show a1F f v ((k,x)::r)=(if k=f then (k,v)::r else (k,x)::a1F f v r) from rfl]
  by_cases hk:k=f
  ·rw [if_pos hk]
   subst hk
   exact ⟨by simp,fun g h=>by simpa using h⟩
  ·rw [if_neg hk]
   refine ⟨?_,fun g h=>?_⟩
   ·rw [Xj]
    exact Qp _ i1
   ·rw [Xj] at h ⊢
    rcases Qn.mp h with e | e
    ·exact Qn.mpr (.inl e)
    ·exact Qp _ (i2 g e)
theorem a3U (f:Str) (v:V):∀fs:List (Str×V),(a1F f v fs).length≤fs.length+1
 | []=>by simp [a1F]
 | (k,x)::r=>by
  have ih:=a3U f v r
  rw [show a1F f v ((k,x)::r)=(if k=f then (k,v)::r else (k,x)::a1F f v r) from rfl]
  by_cases hk:k=f
  ·rw [if_pos hk,Qt,Qt];omega
  ·rw [if_neg hk,Qt,Qt];omega
theorem a4L.some_of {v:V} {o:Option Value} (r:a4L (some v) o):∃u,o=some u∧a0R v u:=by
 cases o with
 | none=>exact (show False from r).elim
 | some u=>exact ⟨u,rfl,r⟩
theorem a4L.none_of {o:Option Value} (r:a4L none o):o=none:=by
 cases o with
 | none=>rfl
 | some u=>exact (show False from r).elim
theorem a9G {v:V} {u:Value} (r:a0R v u):Gu u=true:=by
 cases v with
 | non=>cases (show u=Value.none from r);rfl
 | bl b=>cases (show u=Value.bool b from r);rfl
 | int i=>obtain ⟨t,e⟩:=(show ∃t,u=Value.int i t from r);cases e;rfl
 | str x=>obtain ⟨t,e⟩:=(show ∃t,u=Value.str x t from r);cases e;rfl
 | byt b=>obtain ⟨t,e⟩:=(show ∃t,u=Value.bytes b t from r);cases e;rfl
 | flt b=>obtain ⟨t,e⟩:=(show ∃t,u=Value.float b t from r);cases e;rfl
 | ref a=>cases (show u=Value.ref a from r);rfl
 | ty n=>cases (show u=Value.type n from r);rfl
section
variable {P:Program} {w:World} {H H':Hp} {h h':Heap} {a C dx:Addr} {fs fs':List (Str×V)}
theorem a4R (hok:HOk P w H h) (e:H a=some (.ins C dx fs)):∃mA,b4V h a dx C mA∧(∀f,a4L (fs.lookup f) (mA f))∧PySem.Within mA (fs.map (·.1))∧fs.length≤1000∧H dx=some (.own a):=by
 obtain ⟨d,z,ne,ob,mA,n,r,q⟩:=(show a1m P w H h a (.ins C dx fs) from hok a _ e)
 exact ⟨mA,⟨ob,n,ne⟩,r,q,z,d⟩
end
structure Cls (K:Qe) (C:Addr):Prop where
 pg:Um K C Up=true
 hd:Vq K C=true
 po:Gq K C=true
 sa:Yz K (.ref C) "__setattr__"=some (some (.builtin "object.__setattr__"))
theorem Cls.get {K:Qe} {C:Addr} (c:Cls K C) (f:Str):Um K C f=true:=c.pg
def a0M (K:Qe) (C:Addr) (f:Str):Prop:=Yz K (.ref C) f=some none
theorem a0M.taker {K:Qe} {C:Addr} {f:Str} (n:a0M K C f):Wi K C f=some none:=by
 unfold Wi
 rw [show Yz K (.ref C) f=some none from n]
 rfl
structure a4i (K:Qe) (C:Addr) (m:Str) (f:Addr):Prop where
 at_:Yz K (.ref C) m=some (some (.ref f))
 fn:Gm K (.ref f)=true
 kp:Jg K (.ref f)=true
section
variable {X:Cx} {pins:List (Addr×Obj)} {σ:St} {H:Hp} {s:Shared} {a C dx:Addr} {fs:List (Str×V)} {f:Str} {v:V} {A:Around} {E:Value→Shared→Prop}
theorem a7K {b:Bool} {Q:Value→Shared→Prop} (I:Inv X pins σ H s) (e:H a=some (.ins C dx fs)) (c:Cls X.K C) (n:a0M X.K C f) (l:fs.lookup f=some v)
  (h:∀u s',Inv X pins σ H s'→a0R v u→Q u s'):wpAny (model X.prog X.w) A (getAttr (.ref a) f b) Q E s:=by
 obtain ⟨mA,O,r,_,_,_⟩:=a4R I.hok e
 obtain ⟨u,hu,ru⟩:=a4L.some_of (v:=v) (o:=mA f) (by rw [←l];exact r f)
 exact b4o I.kIn O (c.get f) c.hd n hu (a9G ru) (h u _ (I.tok _) ru)
theorem a4t {m:Str} {g:Addr} {pl:Sem Bool} {Q:Value×List Value→Shared→Prop} (I:Inv X pins σ H s) (e:H a=some (.ins C dx fs)) (c:Cls X.K C) (k:a4i X.K C m g) (l:fs.lookup m=none)
  (h:Q (.ref g,[.ref a]) s):wpAny (model X.prog X.w) A (getMethod (.ref a) m pl) Q E s:=by
 obtain ⟨mA,O,r,_,_,_⟩:=a4R I.hok e
 have hn:mA m=none:=a4L.none_of (by rw [←l];exact r m)
 exact b1M I.kIn O (c.get m) k.at_ k.fn hn h
theorem a8N {y:V} {u:Value} {Q:Unit→Shared→Prop} (I:Inv X pins σ H s) (e:H a=some (.ins C dx fs)) (c:Cls X.K C) (n:a0M X.K C f) (hl:fs.length < 1000) (ry:a0R y u)
  (h:∀s',Inv X pins σ (upd H a (.ins C dx (a1F f y fs))) s'→Q () s'):wpAny (model X.prog X.w) A (setAttr (.ref a) f u) Q E s:=by
 obtain ⟨mA,O,r,wi,_,ho⟩:=a4R I.hok e
 have hz:(fs.map (·.1)).length≤sizeLine:=by rw [Qd,sizeLine_eq];omega
 refine b5n I.kIn O c.sa c.po n.taker c.hd wi hz fun h' O' sb=>h _ ?_
 have hd:∃o,h'.get? dx=some o:=let ⟨o,_,_,e',_⟩:=O'.ns;⟨o,e'⟩
 refine I.write (x:=a) (e:=dx) (by rw [e];exact True.intro) (.inr ho) (fun b q hb z=>(sb.2 b hb).trans z) hd ?_
 refine ⟨by rw [a0d O.ne];exact ho,?_,O.ne,O'.obj,_,O'.ns,fun g=>?_,fun g hg=>?_⟩
 ·have:=a3U f y fs;omega
 ·show a4L ((a1F f y fs).lookup g) (if g=f then some u else mA g)
  rw [a0j]
  by_cases q:g=f
  ·rw [if_pos q,if_pos q];exact ry
  ·rw [if_neg q,if_neg q];exact r g
 ·by_cases q:g=f
  ·rw [q];exact (a3J f y fs).1
  ·refine (a3J f y fs).2 g (wi g fun z=>hg ?_)
   show (if g=f then some u else mA g)=none
   rw [if_neg q];exact z
theorem Inv.made (I:Inv X pins σ H s):Inv X pins σ (upd (upd H s.heap.objs.size (.own (s.heap.objs.size+1))) (s.heap.objs.size+1) (.ins C s.heap.objs.size []))
  {s with heap:=(s.heap.push Zi).push (Zw C s.heap.objs.size)}:=by
 have e1:(s.heap.push Zi).get? s.heap.objs.size=some Zi:=Qu s.heap rfl
 have e2:((s.heap.push Zi).push (Zw C s.heap.objs.size)).get? (s.heap.objs.size+1)=some (Zw C s.heap.objs.size):=by
  have:=Qu (s.heap.push Zi) (o:=Zw C s.heap.objs.size) rfl
  rwa [Ja] at this
 have e3:(s.heap.push Zi).Ns s.heap.objs.size (fun _=>none):=⟨Zi,#[],_,e1,rfl,(fun e he=>absurd he (by simp)),fun _=>rfl⟩
 have I1:=I.laid (a:=s.heap.objs.size) (o:=.own (s.heap.objs.size+1)) (h':=s.heap.push Zi) (t':=s.toks) (fun b u q=>Qi _ q) (Qk _) ⟨_,e1⟩
 refine I1.laid (a:=s.heap.objs.size+1) (o:=.ins C s.heap.objs.size []) (t':=s.toks) (fun b u q=>Qi _ q) (Uu (Ja _ _)) ?_
 have ne:s.heap.objs.size≠s.heap.objs.size+1:=Qx (Yv _)
 refine ⟨by rw [a0d ne,a0e],Xg _,ne,e2,fun _=>none,(Heap.Ns1.of_empty e3).at fun o q=>Qi _ q,fun _=>True.intro,fun y hy=>absurd rfl hy⟩
theorem b5s {prog:Program} {w:World} {env:Env} {e:Expr} {f:Str} {pos:Pos} {s:Shared} {Q:Value→Shared→Prop} (hb:attributeBase e f env (eval e env)=eval e env)
  (h:wpAny (model prog w) A (eval e env) (fun o s₁=>wpAny (model prog w) A (getAttr o f true) Q E s₁) E s):wpAny (model prog w) A (eval (.Attribute e f pos) env) Q E s:=
 Attribute_any_ h (by rw [arm_eval_Attribute,hb])
end
def a3s (K:Qe) (ta:TE) (f:Str):TE:=fun σ H Q=>ta σ H fun x H1=>∃a C dx fs v,x=.ref a∧H1 a=some (.ins C dx fs)∧Cls K C∧a0M K C f∧fs.lookup f=some v∧Q v H1
def c0g (K:Qe) (ta tv:TE) (f:Str):TS:=fun D σ H=>tv σ H fun y H1=>ta σ H1 fun x H2=>∃a C dx fs,x=.ref a∧H2 a=some (.ins C dx fs)∧Cls K C∧a0M K C f∧fs.length < 1000∧
 D.nx σ (upd H2 a (.ins C dx (a1F f y fs)))
section
variable {X:Cx} {o e value:Expr} {f:Str} {pos pos' tpos:Pos} {ta tv:TE}
theorem b3g (he:PE X e ta) (hb:attributeBase e f X.env (eval e X.env)=eval e X.env):PE X (.Attribute e f pos) (a3s X.K ta f):=by
 intro pins s σ H Q I h
 refine b5s hb (thn (he pins s σ H _ I h) fun u s1 ⟨x,H1,I1,rx,a,C,dx,fs,v,ex,ea,c,n,l,q⟩=>?_)
 subst ex
 obtain rfl:u=Value.ref a:=rx
 exact a7K I1 ea c n l fun u' s2 I2 ru=>⟨v,H1,I2,ru,q⟩
theorem b6W (ha:PE X o ta) (hv:PE X value tv) (hs:swapsWith value (some (.Attribute o f pos')) pos.line X.env=pure false):PS X (.Assign [.Attribute o f pos'] value pos) (c0g X.K ta tv f):=by
 intro pins s σ H D I h
 refine plainObj_wpAny_Assign_Attribute (thn (hv pins s σ H _ I h) fun u s1 ⟨y,H1,I1,ry,q⟩=>thn (ha pins s1 σ H1 _ I1 q) fun ov s2 ⟨x,H2,I2,rx,a,C,dx,fs,ex,ea,c,n,l,q2⟩=>?_) hs
 subst ex
 obtain rfl:ov=Value.ref a:=rx
 exact a8N I2 ea c n l ry fun s3 I3=>⟨σ,_,I3,q2⟩
end
section
variable {X:Cx} {pins:List (Addr×Obj)} {σ:St} {H:Hp} {s:Shared} {A:Around} {E:Value→Shared→Prop} {Q:Value→Shared→Prop} {c:Value} {b:Bool}
inductive a7P (K:Qe) (H:Hp):V→Value→Prop where
 | non:a7P K H .non (.type "NoneType")
 | bl (x:Bool):a7P K H (.bl x) (.type "bool")
 | int (i:Int):a7P K H (.int i) (.type "int")
 | str (x:Str):a7P K H (.str x) (.type "str")
 | flt (x:UInt64):a7P K H (.flt x) (.type "float")
 | lst {a:Addr} {xs:List V} (e:H a=some (.lst xs)):a7P K H (.ref a) (.type "list")
 | frz {a:Addr} {o:Obj} {xs:List V} (e:H a=some (.frz o (.lst xs))):a7P K H (.ref a) (.type "list")
 | tup {a:Addr} {xs:List V} (e:H a=some (.tup xs)):a7P K H (.ref a) (.type "tuple")
 | dK {a:Addr} {kvs:List (Key×V)} (e:H a=some (.dK kvs)):a7P K H (.ref a) (.type "dict")
 | dT {a:Addr} {kvs:List (List Key×V)} (e:H a=some (.dT kvs)):a7P K H (.ref a) (.type "dict")
 | ins {a C dx:Addr} {fs:List (Str×V)} (e:H a=some (.ins C dx fs)) (cl:Cls K C) (ha:Yz K (.ref C) "__class__"=some (some (.builtin "object.__class__")))
   (hn:Vr K (.builtin "object.__class__") "__get__"=some (some (.builtin "getset_descriptor.__get__"))) (htk:Gy K (.builtin "object.__class__")=some true)
   (hm:PySem.W.mroIn K C (.type "object")=some true):a7P K H (.ref a) (.ref C)
theorem b0r {x:V} {u t:Value} (I:Inv X pins σ H s) (rx:a0R x u) (ty:a7P X.K H x t) (e:Yn X.K t c=some b) (h:∀tk,Q (.bool b) {s with toks:=tk}):
  wpAny (model X.prog X.w) A (call (.builtin "isinstance") [u,c]) Q E s:=by
 cases ty with
 | non=>cases (show u=Value.none from rx);exact Zd PySem.W.kitx_none I.kIn True.intro e (fun z=>nomatch z) h
 | bl y=>cases (show u=Value.bool y from rx);exact Zd PySem.W.kitx_bool I.kIn True.intro e (fun z=>nomatch z) h
 | int i=>obtain ⟨t,q⟩:=(show ∃t,u=Value.int i t from rx);cases q;exact Zd PySem.W.kitx_int I.kIn True.intro e (fun z=>nomatch z) h
 | str y=>obtain ⟨t,q⟩:=(show ∃t,u=Value.str y t from rx);cases q;exact Zd PySem.W.kitx_str I.kIn True.intro e (fun z=>nomatch z) h
 | flt y=>obtain ⟨t,q⟩:=(show ∃t,u=Value.float y t from rx);cases q;exact Zd PySem.W.kitx_float I.kIn True.intro e (fun z=>nomatch z) h
 | @lst a xs ea=>
  cases (show u=Value.ref a from rx)
  obtain ⟨_,_,n,_,h1⟩:=(show a1m X.prog X.w H s.heap a (.lst xs) from I.hok a _ ea)
  exact Zd Gr I.kIn ⟨_,h1,rfl⟩ e (fun z=>nomatch z) h
 | @frz a ob xs ea=>
  cases (show u=Value.ref a from rx)
  obtain ⟨_,_,_,n,_,h1⟩:=(show a1m X.prog X.w H s.heap a (.frz ob (.lst xs)) from I.hok a _ ea)
  exact Zd Gr I.kIn ⟨_,h1,rfl⟩ e (fun z=>nomatch z) h
 | @tup a xs ea=>
  cases (show u=Value.ref a from rx)
  obtain ⟨_,_,_,p⟩:=(show a1m X.prog X.w H s.heap a (.tup xs) from I.hok a _ ea)
  obtain ⟨o,h1,h2,_⟩:=p
  exact Zd PySem.W.kitx_tuple I.kIn ⟨o,h1,h2⟩ e (fun z=>nomatch z) h
 | @dK a kvs ea=>
  cases (show u=Value.ref a from rx)
  obtain ⟨_,_,vs,_,p⟩:=(show a1m X.prog X.w H s.heap a (.dK kvs) from I.hok a _ ea)
  obtain ⟨o,es,ep,h1,h2,_⟩:=p
  exact Zd Gs I.kIn ⟨o,h1,h2.1⟩ e (fun z=>nomatch z) h
 | @dT a kvs ea=>
  cases (show u=Value.ref a from rx)
  obtain ⟨_,_,xs,_,o,es,ep,h1,h2,_⟩:=(show a1m X.prog X.w H s.heap a (.dT kvs) from I.hok a _ ea)
  exact Zd Gs I.kIn ⟨o,h1,h2.1⟩ e (fun z=>nomatch z) h
 | @ins a C dx fs ea cl ha hn htk hm=>
  cases (show u=Value.ref a from rx)
  obtain ⟨mA,O,_⟩:=a4R I.hok ea
  obtain ⟨od,J,_⟩:=O.look
  exact Zd (PySem.W.kitx_own (cl.get _) cl.hd ha hn htk hm) I.kIn J e (fun z=>nomatch z) h
end
structure a3c (k:Nat) (A:Around):Prop where
 hd:A.handled=none
 dp:A.depth+3 * k+5 < recursionLimit
 un:A.units+16 * k+200 < cLine
theorem a3c.mono {j k:Nat} {A:Around} (r:a3c k A) (h:j≤k):a3c j A:=⟨r.hd,by have:=r.dp;omega,by have:=r.un;omega⟩
theorem a3c.deeper {k:Nat} {A:Around} (r:a3c (k+1) A) (env:Env):a3c k (A.deeper env):=
 ⟨r.hd,by have:=r.dp;show A.depth+1+3 * k+5 < _;omega,by have:=r.un;show A.units+3+16 * k+200 < _;omega⟩
theorem a8A {A:Around} {C:Addr} {us:List Value} {kw:List (Str×Value)}:(A.under (.builtin "type.__call__" ⟨.ref C::us,kw⟩)).depth=A.depth+1:=by
 first | rfl | simp [Around.under,Code.weight,Code.isCreation,Code.isGuard,Code.isCaller,Code.frames,Code.isFrame,guardIds]
theorem a8y {A:Around} {C:Addr} {us:List Value} {kw:List (Str×Value)}:(A.under (.builtin "type.__call__" ⟨.ref C::us,kw⟩)).units=A.units+1:=by
 first | rfl | simp [Around.under,Code.cUnits,Code.frames,Code.isFrame]
theorem a3c.make {k:Nat} {A:Around} (r:a3c (k+1) A) (C:Addr) (us:List Value) (kw:List (Str×Value)):a3c k (A.under (.builtin "type.__call__" ⟨.ref C::us,kw⟩)):=
 ⟨r.hd,by have:=r.dp;rw [a8A];omega,by have:=r.un;rw [a8y];omega⟩
theorem a3c.depth {k:Nat} {A:Around} (r:a3c k A):A.depth < recursionLimit:=by have:=r.dp;omega
theorem a3c.units {k:Nat} {A:Around} (r:a3c k A):A.units+64 < cLine:=by have:=r.un;omega
def a0v:TA:=fun _ H Q=>Q [] H
def a0h (ta:TE) (tr:TA):TA:=fun σ H Q=>ta σ H fun x H1=>tr σ H1 fun xs H2=>Q (x::xs) H2
section
variable {X:Cx} {e:Expr} {es:List Expr} {te:TE} {t:TA} {pos:Pos}
theorem b6A:PA X [] a0v:=fun _ _ _ _ H Q I h=>Calls.spliced_nil ⟨[],H,I,.nil,h⟩
theorem b4G (ha:PE X e te) (hr:PA X es t) (hs:starEach (e::es) X.env=(false,eval e X.env)::starEach es X.env:=by rfl):PA X (e::es) (a0h te t):=by
 intro pos pins s σ H Q I h
 rw [hs]
 show wpAny _ _ (spliced ((false,eval e X.env)::backTo pos (starEach es X.env))) _ _ s
 refine Calls.spliced_cons (thn (ha pins s σ H _ I h) fun u s1 ⟨x,H1,I1,r1,q1⟩=>?_)
 exact thn (hr pos pins s1 σ H1 _ I1 q1) fun us s2 ⟨xs,H2,I2,r2,q2⟩=>⟨x::xs,H2,I2,.cons r1 r2,q2⟩
def a6u (t:TA):TE:=fun σ H Q=>t σ H fun xs H1=>xs.length≤sizeLine∧∀p,H1 p=none→Q (.ref p) (upd H1 p (.tup xs))
def a4a (t:TA):TE:=fun σ H Q=>t σ H fun xs H1=>xs.length≤sizeLine∧∀p,H1 p=none→Q (.ref p) (upd H1 p (.lst xs))
theorem b9P {x1} (h:PA X es t):PE X (.Tuple es x1 pos) (a6u t):=by
 intro pins s σ H Q I hq
 refine wpAny_Tuple_spliced (thn (h pos pins s σ H _ I hq) fun us s1 ⟨xs,H1,I1,r,z,q⟩=>⟨by rw [←r.length];exact z,?_⟩)
 have hf:H1 s1.heap.objs.size=none:=I1.hok.fresh (Qk _)
 refine ⟨.ref s1.heap.objs.size,upd H1 s1.heap.objs.size (.tup xs),I1.laid (t':=s1.toks) (fun b u e=>Qi _ e) (Qk _) ?_,rfl,q _ hf⟩
 exact ⟨z,us,r,⟨_,Qu _ rfl,rfl,_,rfl⟩⟩
theorem b7K (h:PA X es t):PE X (.List es pos) (a4a t):=by
 intro pins s σ H Q I hq
 refine wpAny_List_spliced (thn (h pos pins s σ H _ I hq) fun us s1 ⟨xs,H1,I1,r,z,q⟩=>⟨by rw [←r.length];exact z,?_⟩)
 have hf:H1 s1.heap.objs.size=none:=I1.hok.fresh (Qk _)
 refine ⟨.ref s1.heap.objs.size,upd H1 s1.heap.objs.size (.lst xs),I1.laid (t':=s1.toks) (fun b u e=>Qi _ e) (Qk _) ?_,rfl,q _ hf⟩
 exact ⟨z,us,0,r,Qu _ rfl⟩
end
abbrev Sp:=List V→Hp→VK→XK→Prop
abbrev CXT:=List Env→Hp→Shared→XK→Value→Shared→Prop
structure b5m (P:Program) (w:World) (K:Qe) (mg:Str→Option Value) (base:Heap) (A:Around) (outer:List Env) (s:Shared) (H:Hp):Prop where
 frames:A.frames=some outer
 mod:Mod K mg base
 bs:∀b o,base.get? b=some o→s.heap.get? b=some o∧H b=none
 bsz:base.objs.size≤s.heap.objs.size
 funs:s.heap.FunFrames base outer
 frf:∀b∈frs outer,H b=none
 hok:HOk P w H s.heap
 bare:AllBare s.gens
def CE (outer:List Env) (P:Program) (w:World) (H:Hp) (s:Shared) (Q:VK) (u:Value) (s':Shared):Prop:=
 ∃v H',s'.os=s.os∧AllBare s'.gens∧Un (frs outer) [] H H' s.heap s'.heap∧HOk P w H' s'.heap∧a0R v u∧Q v H'
def CR (CX:CXT) (outer:List Env) (P:Program) (w:World) (H:Hp) (s:Shared) (Q:VK) (E:XK) (r:Result) (s':Shared):Prop:=
 match r with
 | .ok (.ret u)=>CE outer P w H s Q u s'
 | .ok _=>False
 | .error e=>CX outer H s E e s'
structure a1a (P:Program) (w:World) (K:Qe) (mg:Str→Option Value) (base:Heap) (CX:CXT) (k:Nat) (f:Addr) (fd:FuncData) (ps:List Str) (sp:Sp):Prop where
 len:∀vs H Q E,sp vs H Q E→vs.length=ps.length
 run:∀(A:Around) (outer:List Env) (s:Shared) (H:Hp) (args:Args) (us:List Value) (vs:List V) (Q:VK) (E:XK),a3c k A→b5m P w K mg base A outer s H→BindsTo s fd args (ps.zip us)→a0F vs us→sp vs H Q E→
  codeAny (model P w) A (.call (.ref f) args) (CR CX outer P w H s Q E) s
theorem b5m.make {P:Program} {w:World} {K:Qe} {mg:Str→Option Value} {base:Heap} {A:Around} {outer:List Env} {s:Shared} {H:Hp} (e:b5m P w K mg base A outer s H) (C:Addr) (us:List Value) (kw:List (Str×Value)):
  b5m P w K mg base (A.under (.builtin "type.__call__" ⟨.ref C::us,kw⟩)) outer s H:=⟨by first | exact e.frames | (simpa [Around.under,Code.envs,Code.isFrame,pushEnvs] using e.frames),e.mod,e.bs,e.bsz,e.funs,e.frf,e.hok,e.bare⟩
section
variable {X:Cx} {pins:List (Addr×Obj)} {σ:St} {H:Hp} {s s':Shared}
theorem Inv.env0 (I:Inv X pins σ H s):b5m X.prog X.w X.K X.mg X.base X.A X.stack s H:=
 ⟨I.ok.frames,I.ok.mod,I.bs,Qj I.ok.bsz I.sz,I.stack,I.stkFree,I.hok,I.bare⟩
theorem Inv.after {Q:VK} {u:Value} (I:Inv X pins σ H s) (h:CE X.stack X.prog X.w H s Q u s'):EP X pins σ Q u s':=by
 obtain ⟨v,H',os,bare,un,hok,r,q⟩:=h
 obtain ⟨hh,g,d,t,os'⟩:=s'
 obtain rfl:os'=s.os:=os
 exact ⟨v,H',I.call (h':=hh) (g':=g) (d':=d) (t':=t) (ch:=[]) un hok bare (fun b z=>absurd z (by simp)),r,q⟩
end
def a0B (sp:Sp) (dvs:List V) (E:XK) (t:TA):TE:=fun σ H Q=>t σ H fun vs H1=>sp (vs++dvs) H1 Q E
def a2F (C:Addr) (m:Str) (sp:Sp) (dvs:List V) (E:XK) (ta:TE) (t:TA):TE:=fun σ H Q=>ta σ H fun x H1=>∃a dx fs,x=.ref a∧H1 a=some (.ins C dx fs)∧fs.lookup m=none∧
 t σ H1 fun vs H2=>sp (x::(vs++dvs)) H2 Q E
def b2e (C:Addr) (sp:Sp) (dvs:List V) (E:XK) (t:TA):TE:=fun σ H Q=>t σ H fun vs H1=>∀x dx,H1 x=none→H1 dx=none→dx≠x→
 sp (.ref x::(vs++dvs)) (upd (upd H1 dx (.own x)) x (.ins C dx [])) (fun v H2=>v=.non∧Q (.ref x) H2) E
def a0r (K:Qe) (fd:FuncData) (ps:List Str) (ds:List Value):Prop:=
 ∀(s:Shared) (us:List Value),K.In s.heap→(us++ds).length=ps.length→BindsTo s fd ⟨us,[]⟩ (ps.zip (us++ds))
theorem a0r.all {K:Qe} {fd:FuncData} {ps:List Str} (h:∀us:List Value,us.length=ps.length→bindArgs fd ⟨us,[]⟩=pure (ps.zip us)):a0r K fd ps []:=fun s us _ hl=>by
 rw [Qf] at hl ⊢
 exact .of_eq (h us hl)
def a3h (CX:CXT) (X:Cx) (E:XK):Prop:=∀(pins:List (Addr×Obj)) (σ:St) (H:Hp) (s:Shared) (e:Value) (s':Shared),Inv X pins σ H s→CX X.stack H s E e s'→X.xe e s'
section
variable {X:Cx} {CX:CXT} {k:Nat} {f C:Addr} {fd:FuncData} {ps:List Str} {sp:Sp} {dvs:List V} {ds:List Value} {E:XK} {x m:Str} {p pos apos:Pos} {e o:Expr} {es:List Expr} {ta:TE} {t:TA}
theorem a7n {pins:List (Addr×Obj)} {σ:St} {H:Hp} {s:Shared} {Q:VK} {us:List Value} {vs:List V} (F:a1a X.prog X.w X.K X.mg X.base CX k f fd ps sp) (hr:a3c k X.A) (hb:a0r X.K fd ps ds) (hd:a0F dvs ds) (hx:a3h CX X E)
  (I:Inv X pins σ H s) (r:a0F vs us) (h:sp (vs++dvs) H Q E):wpAny (model X.prog X.w) X.A (call (.ref f) us) (EP X pins σ Q) X.xe s:=by
 have r2:a0F (vs++dvs) (us++ds):=r.append hd
 have hl:(us++ds).length=ps.length:=by rw [←r2.length];exact F.len _ _ _ _ h
 refine wpAny_call (codeAny_mono (F.run X.A X.stack s H ⟨us,[]⟩ (us++ds) (vs++dvs) Q E hr I.env0 (hb s us I.kIn hl) r2 h) fun r s' hq=>?_)
 cases r with
 | error e=>exact hx pins σ H s e s' I hq
 | ok fl=>
  cases fl with
  | ret u=>exact I.after hq
  | next=>exact False.elim hq
  | brk=>exact False.elim hq
  | cont=>exact False.elim hq
theorem b5B (F:a1a X.prog X.w X.K X.mg X.base CX k f fd ps sp) (hr:a3c k X.A) (hg:Gl X x) (hm:X.mg x=some (.ref f)) (hk:Jg X.K (.ref f)=true) (hb:a0r X.K fd ps ds) (hd:a0F dvs ds) (hx:a3h CX X E)
  (ha:PA X (e::es) t) (hdb:(x == ("__debug__":Str))=false:=by decide) (he:starEach (e::es) X.env=(false,eval e X.env)::starEach es X.env:=by rfl) (hpl:(backTo pos (starEach es X.env)).any (·.1)=false:=by rfl):
  PE X (.Call (.Name x p) (e::es) [] pos) (a0B sp dvs E t):=by
 intro pins s σ H Q I h
 refine wpAny_Call_Name_kw (a6D I hg hm ?_ hdb)
 refine Jx (h₀:=X.base) I.ok.mod.kin hk (thn (ha pos pins s σ H _ I h) fun us s1 ⟨vs,H1,I1,r,q⟩=>⟨I1.kIn,?_⟩) he hpl
 exact a7n F hr hb hd hx I1 r q
theorem b4z {pl:Sem Bool} (he:PE X o ta) (c:Cls X.K C) (hm:a4i X.K C m f) (F:a1a X.prog X.w X.K X.mg X.base CX k f fd ps sp) (hr:a3c k X.A) (hb:a0r X.K fd ps ds) (hd:a0F dvs ds) (hx:a3h CX X E) (ha:PA X (e::es) t)
  (hst:starEach (e::es) X.env=(false,eval e X.env)::starEach es X.env:=by rfl) (hpl:(backTo pos (starEach es X.env)).any (·.1)=false:=by rfl)
  (ht:eval (.Call (.Attribute o m apos) (e::es) [] pos) X.env=(do
   let ov ←eval o X.env
   standAt apos.atName
   let (f,first) ←holding [ov] (getMethod ov m pl)
   callWith pos f first (backTo pos (starEach (e::es) X.env)) (backToKw pos (keywordEach [] X.env))):=by rfl):
  PE X (.Call (.Attribute o m apos) (e::es) [] pos) (a2F C m sp dvs E ta t):=by
 intro pins s σ H Q I h
 refine Uq (pl:=pl) (thn (he pins s σ H _ I h) fun u s1 ⟨x,H1,I1,rx,a,dx,fs,ex,ea,l,q⟩=>?_) ht
 subst ex
 obtain rfl:u=Value.ref a:=rx
 refine a4t I1 ea c hm l ?_
 refine Jx (first:=[.ref a]) (h₀:=X.base) I.ok.mod.kin hm.kp (thn (ha pos pins s1 σ H1 _ I1 q) fun us s2 ⟨vs,H2,I2,r,q2⟩=>⟨I2.kIn,?_⟩) hst hpl
 exact a7n (us:=.ref a::us) (vs:=.ref a::vs) F hr hb hd hx I2 (.cons rfl r) q2
theorem b1K {pl:Sem Bool} (he:PE X o ta) (c:Cls X.K C) (hm:a4i X.K C m f) (F:a1a X.prog X.w X.K X.mg X.base CX k f fd ps sp) (hr:a3c k X.A) (hb:a0r X.K fd ps ds) (hd:a0F dvs ds) (hx:a3h CX X E)
  (ht:eval (.Call (.Attribute o m apos) [] [] pos) X.env=(do
   let ov ←eval o X.env
   standAt apos.atName
   let (f,first) ←holding [ov] (getMethod ov m pl)
   callWith pos f first (backTo pos (starEach [] X.env)) (backToKw pos (keywordEach [] X.env))):=by rfl):
  PE X (.Call (.Attribute o m apos) [] [] pos) (a2F C m sp dvs E ta a0v):=by
 intro pins s σ H Q I h
 refine Uq (pl:=pl) (thn (he pins s σ H _ I h) fun u s1 ⟨x,H1,I1,rx,a,dx,fs,ex,ea,l,q⟩=>?_) ht
 subst ex
 obtain rfl:u=Value.ref a:=rx
 refine a4t I1 ea c hm l ?_
 exact PySem.W.callWith_K0 (first:=[.ref a]) I1.kIn hm.kp (a7n (us:=[.ref a]) (vs:=[.ref a]) F hr hb hd hx I1 (.cons rfl .nil) q)
structure Mk (K:Qe) (C f:Addr):Prop where
 makes:Gx K C=true
 init:Yz K (.ref C) "__init__"=some (some (.ref f))
 fn:Gm K (.ref f)=true
 kp:Jg K (.ref C)=true
theorem b1F {pins:List (Addr×Obj)} {σ:St} {H:Hp} {s:Shared} {Q:VK} {us:List Value} {vs:List V} (M:Mk X.K C f) (F:a1a X.prog X.w X.K X.mg X.base CX k f fd ps sp) (hr:a3c (k+1) X.A) (hb:a0r X.K fd ps ds) (hd:a0F dvs ds)
  (hx:a3h CX X E) (I:Inv X pins σ H s) (r:a0F vs us)
  (h:∀x dx,H x=none→H dx=none→dx≠x→sp (.ref x::(vs++dvs)) (upd (upd H dx (.own x)) x (.ins C dx [])) (fun v H2=>v=.non∧Q (.ref x) H2) E):
  wpAny (model X.prog X.w) X.A (call (.ref C) us) (EP X pins σ Q) X.xe s:=by
 have hq:=h (s.heap.objs.size+1) s.heap.objs.size (I.hok.fresh (Zg _)) (I.hok.fresh (Qk _)) (Qx (Yv _))
 have I2:=Inv.made (C:=C) I
 have r2:a0F (V.ref (s.heap.objs.size+1)::(vs++dvs)) (Value.ref (s.heap.objs.size+1)::(us++ds)):=.cons rfl (r.append hd)
 have hl:(Value.ref (s.heap.objs.size+1)::us++ds).length=ps.length:=by
  have e:=r2.length
  rw [F.len _ _ _ _ hq] at e
  exact e.symm
 refine wpAny_call (b2n (f:=f) I.kIn M.makes M.init (beq_iff_eq.mp M.fn) (codeAny_mono (F.run _ X.stack _ _ ⟨Value.ref (s.heap.objs.size+1)::us,[]⟩ (Value.ref (s.heap.objs.size+1)::(us++ds)) _ _ E (hr.make C us [])
  (I2.env0.make C us []) (hb _ (Value.ref (s.heap.objs.size+1)::us) I2.kIn hl) r2 hq) fun r s' hq'=>?_))
 cases r with
 | error e=>exact hx pins σ _ _ e s' I2 hq'
 | ok fl=>
  cases fl with
  | ret u=>
   obtain ⟨v,H',I3,rv,ev,q3⟩:=I2.after hq'
   subst ev
   exact ⟨rv,⟨V.ref (s.heap.objs.size+1),H',I3,rfl,q3⟩⟩
  | next=>exact False.elim hq'
  | brk=>exact False.elim hq'
  | cont=>exact False.elim hq'
theorem b4T (M:Mk X.K C f) (F:a1a X.prog X.w X.K X.mg X.base CX k f fd ps sp) (hr:a3c (k+1) X.A) (hg:Gl X x) (hm:X.mg x=some (.ref C)) (hb:a0r X.K fd ps ds) (hd:a0F dvs ds) (hx:a3h CX X E)
  (ha:PA X (e::es) t) (hdb:(x == ("__debug__":Str))=false:=by decide) (he:starEach (e::es) X.env=(false,eval e X.env)::starEach es X.env:=by rfl) (hpl:(backTo pos (starEach es X.env)).any (·.1)=false:=by rfl):
  PE X (.Call (.Name x p) (e::es) [] pos) (b2e C sp dvs E t):=by
 intro pins s σ H Q I h
 refine wpAny_Call_Name_kw (a6D I hg hm ?_ hdb)
 refine Jx (h₀:=X.base) I.ok.mod.kin M.kp (thn (ha pos pins s σ H _ I h) fun us s1 ⟨vs,H1,I1,r,q⟩=>⟨I1.kIn,?_⟩) he hpl
 exact b1F M F hr hb hd hx I1 r q
end
structure a0f (N P:List Str) (sc:Scope):Prop where
 kind:sc.kind=.function
 co:sc.isCoroutine=false
 gen:sc.isGenerator=false
 nd:N.Nodup
 pre:N.take P.length=P
 par:∀x∈P,sc.names.lookup x=some .local∨sc.names.lookup x=some .cell
 nofree:∀y∈sc.names,y.2≠.free
theorem a5t {kindOf:Str→Option NameKind} {x:Str}:∀{binds:List (Str×Value)} {m:Str→Option Value},(∀v,(x,v)∉binds)→bindL kindOf binds m x=m x
 | [],_,_=>rfl
 | (n,v)::r,m,h=>by
  unfold bindL
  rw [a5t fun w hw=>h w (Qp _ hw)]
  split
  ·have:x≠n:=by rintro rfl;exact h v Qm
   simp [this]
  ·rfl
theorem a5n {kindOf:Str→Option NameKind} {x:Str}:∀{binds:List (Str×Value)} {m:Str→Option Value},(∀v,(x,v)∉binds)→bindC kindOf binds m x=m x
 | [],_,_=>rfl
 | (n,v)::r,m,h=>by
  unfold bindC
  rw [a5n fun w hw=>h w (Qp _ hw)]
  split
  ·rfl
  ·have:x≠n:=by rintro rfl;exact h v Qm
   simp [this]
theorem a5K {kindOf:Str→Option NameKind} {x:Str} {v:Value}:∀{P:List Str} {vs:List Value} {i:Nat} {m:Str→Option Value},P.Nodup→P[i]?=some x→vs[i]?=some v→kindOf x=some .local→
  bindL kindOf (P.zip vs) m x=some v
 | [],_,_,_,_,h,_,_=>by simp at h
 | _::_,[],_,_,_,_,h,_=>by simp at h
 | p::P,w::vs,0,m,nd,h1,h2,hk=>by
  simp at h1 h2;subst h1;subst h2
  show bindL kindOf ((p,w)::P.zip vs) m p=_
  unfold bindL
  rw [a5t fun v hv=>(Xu.mp nd).1 (Wj hv).1,if_pos hk]
  simp
 | p::P,w::vs,i+1,m,nd,h1,h2,hk=>by
  show bindL kindOf ((p,w)::P.zip vs) m x=_
  unfold bindL
  exact a5K (i:=i) (Xu.mp nd).2 (by simpa using h1) (by simpa using h2) hk
theorem a5x {kindOf:Str→Option NameKind} {x:Str} {v:Value}:∀{P:List Str} {vs:List Value} {i:Nat} {m:Str→Option Value},P.Nodup→P[i]?=some x→vs[i]?=some v→kindOf x≠some .local→
  bindC kindOf (P.zip vs) m x=some v
 | [],_,_,_,_,h,_,_=>by simp at h
 | _::_,[],_,_,_,_,h,_=>by simp at h
 | p::P,w::vs,0,m,nd,h1,h2,hk=>by
  simp at h1 h2;subst h1;subst h2
  show bindC kindOf ((p,w)::P.zip vs) m p=_
  unfold bindC
  rw [a5n fun v hv=>(Xu.mp nd).1 (Wj hv).1,if_neg hk]
  simp
 | p::P,w::vs,i+1,m,nd,h1,h2,hk=>by
  show bindC kindOf ((p,w)::P.zip vs) m x=_
  unfold bindC
  exact a5x (i:=i) (Xu.mp nd).2 (by simpa using h1) (by simpa using h2) hk
def a0t (N:List Str) (vs:List V):St:=vs.map some++List.replicate (N.length - vs.length) none
def b5Z (CX:CXT) (P:Program) (w:World) (K:Qe) (mg:Str→Option Value) (base:Heap) (N:List Str) (qual:Str) (scope:Scope) (f:Addr) (cd:Value) (A:Around) (outer:List Env) (s:Shared) (H:Hp) (E:XK):Cx where
 prog:=P
 w:=w
 K:=K
 mg:=mg
 base:=base
 A:=A.deeper (envOfC qual scope s.heap.objs.size f cd)
 N:=N
 s₀:=s
 H₀:=H
 env:=envOfC qual scope s.heap.objs.size f cd
 outer:=outer
 stack:=envOfC qual scope s.heap.objs.size f cd::outer
 ex:=[]
 calm:=true
 fn:=fun _=>true
 pn:=[]
 xe:=fun e s'=>wpAny (model P w) (A.deeper (envOfC qual scope s.heap.objs.size f cd)) (leaving (envOfC qual scope s.heap.objs.size f cd) e) (fun _ s''=>CX outer H s E e s'') (fun e' s''=>CX outer H s E e' s'') s'
theorem a7h {sc:Scope} {n:Nat} {x:Str} (h:sc.names.lookup x=some .cell):∃c,(cellsFrom n sc.names []).lookup x=some c:=by
 have q:=Wl sc.names n [] (.inl h)
 exact Vx.mp q
theorem b1f {CX:CXT} {P:Program} {w:World} {K:Qe} {mg:Str→Option Value} {base:Heap} {N ps:List Str} {qual:Str} {scope:Scope} {f:Addr} {cd:Value} {A:Around} {outer:List Env} {s s1:Shared} {H:Hp} {E:XK} {us:List Value} {vs:List V}
  (S:a0f N ps scope) (hd:A.handled=none) (e0:b5m P w K mg base A outer s H) (hl:vs.length=ps.length) (r:a0F vs us)
  (x:InCallC s s.heap.objs.size (bindL (envOfC qual scope s.heap.objs.size f cd).kindOf (ps.zip us) fun _=>none) (cellsFrom (s.heap.objs.size+1) scope.names []) (bindC (envOfC qual scope s.heap.objs.size f cd).kindOf (ps.zip us) fun _=>none) s1):
  Inv (b5Z CX P w K mg base N qual scope f cd A outer s H E) [] (a0t N vs) H s1:=by
 have hpl:ps.length≤N.length:=by have:=congrArg Zp S.pre;rw [Xo] at this;omega
 obtain ⟨h1,tk,rfl,hk⟩:=x.done
 have noA:∀b:Addr,b∉(b5Z CX P w K mg base N qual scope f cd A outer s H E).ex:=fun b z=>absurd (show b∈([]:List Addr) from z) (by simp)
 refine ⟨⟨e0.mod,S.kind,rfl,rfl,Qk _,fun y z c h1 h2=>?_,fun y hy=>?_,fun y c _ h=>?_,fun _=>hd,Around.frames_deeper e0.frames,.inr ⟨rfl,rfl⟩,fun b z=>absurd z (noA b),e0.bs,e0.bsz,fun b _ _=>noA b,fun b z=>absurd z (noA b),e0.funs,e0.frf⟩,
  rfl,e0.bare,Un.kept hk,⟨_,x.toInCall.ns,fun i y v h1 h2 h3=>?_⟩,fun y c h=>⟨_,x.cell y c h⟩,e0.hok.fresh (Qk _),fun y c h=>?_,fun p hp=>absurd (show p∈([]:List (Addr×Obj)) from hp) (by simp),e0.hok.kept hk,?_⟩
 ·exact name_of_addr x.apart (PySem.mem_of_lookup h1) (PySem.mem_of_lookup h2)
 ·have hy:scope.names.lookup y=some .cell∨scope.names.lookup y=some .free:=hy
  rcases hy with hy | hy
  ·exact a7h hy
  ·exact absurd rfl (S.nofree _ (PySem.mem_of_lookup hy))
 ·exact Gj (x.above y c (PySem.mem_of_lookup h))
 ·have hi:i < vs.length:=by
   unfold a0t at h2
   by_cases hi:i < vs.length
   ·exact hi
   ·rw [Ys (by simpa using hi)] at h2
    rw [List.getElem?_replicate] at h2
    split at h2<;>cases h2
  have ha:vs[i]?=some v:=by
   unfold a0t at h2
   rw [Yx (by simpa using hi),Qr] at h2
   cases e:vs[i]? with
   | none=>rw [e] at h2;cases h2
   | some a=>rw [e] at h2;cases h2;rfl
  obtain ⟨u,hu,rv⟩:=r.get ha
  have hp:ps[i]?=some y:=by
   rw [←S.pre,List.getElem?_take_of_lt ‹om›];exact h1
  have ndP:ps.Nodup:=by rw [←S.pre];exact S.nd.sublist (List.take_sublist _ _)
  refine ⟨u,rv,?_⟩
  rcases S.par y (Jq hp) with k | k
  ·exact .inl ⟨k,a5K ndP hp hu k⟩
  ·obtain ⟨c,e⟩:=a7h (n:=s.heap.objs.size+1) k
   refine .inr ⟨.inl k,c,e,?_⟩
   have q:=x.cell y c e
   rw [a5x ndP hp hu (by show scope.names.lookup y≠_;rw [k];decide)] at q
   exact q
 ·exact e0.hok.fresh (Gj (x.above y c (PySem.mem_of_lookup h)))
 ·unfold a0t
  show _=N.length
  rw [Xk,Qd,List.length_replicate]
  omega
theorem c0n {CX:CXT} {P:Program} {w:World} {K:Qe} {mg:Str→Option Value} {base:Heap} {k:Nat} {f:Addr} {name qual:Str} {params:Arguments} {body:List Stmt} {scope:Scope} {dV kV doc pm cdv ct oc:Value} {an od:Option Addr}
  {osl:Array (Option Value)} {N ps:List Str} {sp:Sp} (lk:K.lookup f=some ⟨oc,od,.func (Jy name qual params body scope dV kV doc pm an cdv ct),osl⟩) (hcd:Vg K cdv qual=true) (S:a0f N ps scope)
  (len:∀vs H Q E,sp vs H Q E→vs.length=ps.length)
  (hbody:∀(A:Around) (outer:List Env) (s:Shared) (H:Hp) (vs:List V) (Q:VK) (E:XK),a3c k (A.deeper (envOfC qual scope s.heap.objs.size f cdv))→sp vs H Q E→
   ∃t,PSs (b5Z CX P w K mg base N qual scope f cdv A outer s H E) body t∧t {nx:=fun _ H'=>Q .non H',rt:=Q} (a0t N vs) H):
  a1a P w K mg base CX (k+1) f (Jy name qual params body scope dV kV doc pm an cdv ct) ps sp:=by
 refine ⟨len,fun A outer s H args us vs Q E hr e0 hb r hsp=>?_⟩
 have hl:=len _ _ _ _ hsp
 have KX:K.In s.heap:=e0.mod.kin.keeps fun b o e=>(e0.bs b o e).1
 have lim:s.heap.NoLimit:=e0.mod.nolimit.keeps fun b o e=>(e0.bs b o e).1
 have hkind:∀y∈ps.zip us,scope.names.lookup y.1=some .local∨(scope.names.lookup y.1=some .cell∧((cellsFrom (s.heap.objs.size+1) scope.names []).lookup y.1).isSome=true):=fun ⟨n,v⟩ hy=>by
  rcases S.par n (Wj hy).1 with q | q
  ·exact .inl q
  ·exact .inr ⟨q,Wl _ _ _ (.inl q)⟩
 refine codeAny_call_function hr.depth (KX _ _ lk) rfl S.co S.gen rfl (PySem.W.codeRec_of KX hcd) (hb _ _ _ _ ?_)
 refine wpAny_newFunctionEnv_cells S.kind hkind fun env he s1 x=>?_
 subst he
 refine ⟨lim.keeps x.toInCall.keep,codeAny_func ?_⟩
 obtain ⟨t,ht,hq⟩:=hbody A outer s H vs Q E (hr.deeper _) hsp
 have I:Inv (b5Z CX P w K mg base N qual scope f cdv A outer s H E) [] (a0t N vs) H s1:=b1f S hr.hd e0 hl r x
 refine wpAny_mono (ht [] s1 (a0t N vs) H _ I hq) (fun fl s' hs=>?_) fun e s' hs=>hs
 have fin:∀{σ':St} {H':Hp} {v:V} {u:Value},Inv (b5Z CX P w K mg base N qual scope f cdv A outer s H E) [] σ' H' s'→a0R v u→Q v H'→CE outer P w H s Q u s':=
  fun {σ' H' v u} J rv q=>⟨v,H',J.os,J.bare,J.base,J.hok,rv,q⟩
 cases fl with
 | ret u=>
  obtain ⟨v,σ',H',J,rv,q⟩:=hs
  exact fin J rv q
 | next=>
  obtain ⟨σ',H',J,q⟩:=hs
  exact fin (v:=V.non) (u:=Value.none) J rfl q
 | brk=>
  obtain ⟨_,_,_,q⟩:=hs
  exact False.elim q
 | cont=>
  obtain ⟨_,_,_,q⟩:=hs
  exact False.elim q
section
variable {X:Cx} {x:Str} {p pos:Pos} {e:Expr} {es:List Expr} {t:TA} {id T:String} {r:List V→Hp→VK→Prop}
def tCB (r:List V→Hp→VK→Prop) (t:TA):TE:=fun σ H Q=>t σ H fun vs H1=>r vs H1 Q
theorem b2r (hc:a1t X (.builtin id) r) (hg:Gl X x) (hm:X.mg x=none) (hv:bootBuiltins x=some (.builtin id)) (ha:PA X (e::es) t) (hn:x≠"__name__":=by decide) (hdb:(x == ("__debug__":Str))=false:=by decide)
  (he:starEach (e::es) X.env=(false,eval e X.env)::starEach es X.env:=by rfl) (hpl:(backTo pos (starEach es X.env)).any (·.1)=false:=by rfl):PE X (.Call (.Name x p) (e::es) [] pos) (tCB r t):=by
 intro pins s σ H Q I h
 refine wpAny_Call_Name_kw (a3i I hg hm hv ?_ hn hdb)
 exact PyProof.Rows.callWith_builtin1 (thn (ha pos pins s σ H _ I h) fun us s1 ⟨vs,H1,I1,r1,q1⟩=>hc pins s1 σ H1 vs us Q I1 r1 q1) he hpl
theorem b1y (hc:a1t X (.type T) r) (hg:Gl X x) (hm:X.mg x=none) (hv:bootBuiltins x=some (.type T)) (ha:PA X (e::es) t) (hn:x≠"__name__":=by decide) (hdb:(x == ("__debug__":Str))=false:=by decide)
  (he:starEach (e::es) X.env=(false,eval e X.env)::starEach es X.env:=by rfl) (hpl:(backTo pos (starEach es X.env)).any (·.1)=false:=by rfl):PE X (.Call (.Name x p) (e::es) [] pos) (tCB r t):=by
 intro pins s σ H Q I h
 refine wpAny_Call_Name_kw (a3i I hg hm hv ?_ hn hdb)
 exact PyProof.Rows.callWith_type1 (thn (ha pos pins s σ H _ I h) fun us s1 ⟨vs,H1,I1,r1,q1⟩=>hc pins s1 σ H1 vs us Q I1 r1 q1) he hpl
end
end L2
namespace HT
open PySem PyProof.Rows
section
variable {prog:Program} {w:World} {A:Around} {E:Value→Shared→Prop} {s:Shared}
theorem cat_tup {t b:Addr} {vs ws:List Value} {Q:Value→Shared→Prop} (ht:IsTup s.heap t vs.toArray) (hb:IsTup s.heap b ws.toArray) (hv:vs≠[])
  (h1:ws=[]→Q (.ref t) s) (h2:ws≠[]→Q (.ref s.heap.objs.size) {s with heap:=s.heap.push {cls:=.type "tuple",data:=.seq (vs++ws).toArray}})
  (hsz:vs.length+ws.length≤sizeLine):wpAny (model prog w) A (binaryOp .Add (.ref t) (.ref b)) Q E s:=by
 obtain ⟨⟨cls,dd,data,sl⟩,ho,hc,n,hd⟩:=id ht
 obtain ⟨⟨cls2,dd2,data2,sl2⟩,ho2,hc2,n2,hd2⟩:=id hb
 simp only at hc hd hc2 hd2
 subst hc hd hc2 hd2
 have e:vs.toArray++ws.toArray=(vs++ws).toArray:=by simp
 by_cases hw:ws=[]
 ·exact concat_meets ⟨_,ho,rfl⟩ ⟨_,ho2,rfl⟩ noFill_tuple_add seq_tuple_add Wm We (Vy _ _)
   (tuple_addW1 t b vs.toArray ws.toArray n n2 dd dd2 sl sl2 (by simpa using hv) (by simp [hw])) ⟨ho,ho2,h1 hw⟩
 ·refine concat_meets ⟨_,ho,rfl⟩ ⟨_,ho2,rfl⟩ noFill_tuple_add seq_tuple_add Wm We (Vy _ _)
   (tuple_addW2 t b vs.toArray ws.toArray n n2 dd dd2 sl sl2 (by simpa using hv) (by simpa using hw) (by rw [Qo,Qo];exact hsz)) ⟨ho,ho2,?_⟩
  rw [e]
  exact h2 hw
def sIx (n d:Nat):Option Int→Nat
 | none=>d
 | some v=>if v < 0 then (v+(n:Int)).toNat else min v.toNat n
theorem sIx_nat (n d k:Nat):sIx n d (some (k:Int))=min k n:=by
 show (if (k:Int) < 0 then ((k:Int)+(n:Int)).toNat else min (k:Int).toNat n)=min k n
 rw [if_neg ‹om›,Zj]
theorem b8X (n d:Nat) (hd:d≤n) (o:Option Int):sIx n d o≤n:=by
 cases o with
 | none=>exact hd
 | some v=>
  show (if v < 0 then (v+(n:Int)).toNat else min v.toNat n)≤n
  by_cases hv:v < 0
  ·rw [if_pos hv];omega
  ·rw [if_neg hv];exact Nat.min_le_right _ _
theorem b1r (v:Int) (n d:Nat):(if v < 0 then max (v+(n:Int)) 0 else min v (n:Int))=((sIx n d (some v):Nat):Int):=by
 show (if v < 0 then max (v+(n:Int)) 0 else min v (n:Int))=(((if v < 0 then (v+(n:Int)).toNat else min v.toNat n):Nat):Int)
 by_cases hv:v < 0
 ·simp only [if_pos hv];omega
 ·simp only [if_neg hv];omega
theorem a8l (lo hi:Option Int) (n:Nat):Builtin.Slice.sliceAdjust lo hi 1 (n:Int)=(((sIx n 0 lo:Nat):Int),((sIx n n hi:Nat):Int)):=by
 have h1:¬((1:Int) < 0):=by omega
 unfold Builtin.Slice.sliceAdjust
 simp only [h1,if_false]
 refine Prod.ext ?_ ?_
 ·cases lo with
  | none=>rfl
  | some v=>exact b1r v n 0
 ·cases hi with
  | none=>rfl
  | some v=>exact b1r v n n
theorem a7T (i j:Nat):Builtin.Slice.slicePlaces (i:Int) (j:Int) 1=j - i:=by
 unfold Builtin.Slice.slicePlaces
 have h1:(1:Int) > 0:=by omega
 simp only [h1,if_true,Int.ediv_one]
 split<;>omega
theorem a4o {v:Value} {o:Option Int} {Q:Option Int→Shared→Prop} (p:IsPart v o) (h:Q o s):wpAny (model prog w) A (Builtin.Slice.slicePartIndex v) Q E s:=by
 cases p with
 | none=>exact slicePart_none h
 | int i t=>exact slicePart_int h
theorem a3q {sl:Addr} {vl vu:Value} {lo hi:Option Int} {n:Nat} {Q:Int×Int×Nat→Shared→Prop} (hs:s.heap.IsSliceOf sl vl vu .none) (pl:IsPart vl lo) (pu:IsPart vu hi)
  (h:Q (((sIx n 0 lo:Nat):Int),1,sIx n n hi - sIx n 0 lo) s):wpAny (model prog w) A (Builtin.Slice.sliceApplied (.ref sl) (pure (n:Int))) Q E s:=by
 obtain ⟨os,hos,hcs,hds⟩:=id hs
 unfold Builtin.Slice.sliceApplied Builtin.Slice.sliceFields
 refine wpAny_bind (wpAny_bind (wpAny_field hos hds (x:=vl) rfl (wpAny_bind (wpAny_field hos hds (x:=vu) rfl (wpAny_bind (wpAny_field hos hds (x:=.none) rfl (wpAny_pure ?_)))))))
 refine wpAny_bind (slicePart_none ?_)
 show wpAny _ _ (if ((1:Int) == 0)=true then _ else _) _ _ s
 rw [if_neg ‹dc›]
 refine wpAny_bind (a4o pl (wpAny_bind (a4o pu (wpAny_bind (wpAny_pure ?_)))))
 show wpAny _ _ (match Builtin.Slice.sliceAdjust lo hi 1 (n:Int) with | (lo,hi)=>pure (lo,(1:Int),Builtin.Slice.slicePlaces lo hi 1)) _ _ s
 rw [a8l lo hi n]
 show wpAny _ _ (pure (((sIx n 0 lo:Nat):Int),(1:Int),Builtin.Slice.slicePlaces ((sIx n 0 lo:Nat):Int) ((sIx n n hi:Nat):Int) 1)) _ _ s
 rw [a7T]
 exact wpAny_pure h
theorem b2v (xs:Array Value) (i k:Nat):((Yb k).filterMap fun (m:Nat)=>xs[((i:Int)+(m:Int) * 1).toNat]?).toArray=((xs.toList.drop i).take k).toArray:=by
 have e:(fun (m:Nat)=>xs[((i:Int)+(m:Int) * 1).toNat]?)=fun m=>xs[i+m]?:=by
  funext m
  have:((i:Int)+(m:Int) * 1).toNat=i+m:=by omega
  rw [this]
 rw [e]
 have:=pick_run xs i k
 rw [List.filterMap_map] at this
 have e2:((fun x=>xs[x]?)∘fun x=>i+x)=fun m=>xs[i+m]?:=rfl
 rw [e2] at this
 rw [this]
theorem getItem_tuple_cut {t sl:Addr} {items:Array Value} {vl vu:Value} {lo hi:Option Int} {Q:Value→Shared→Prop} (ht:IsTup s.heap t items) (hs:s.heap.IsSliceOf sl vl vu .none) (pl:IsPart vl lo) (pu:IsPart vu hi)
  (hw:¬(sIx items.size 0 lo=0∧sIx items.size items.size hi=items.size))
  (h:Q (.ref s.heap.objs.size) {s with heap:=s.heap.push {cls:=.type "tuple",data:=.seq ((items.toList.drop (sIx items.size 0 lo)).take (sIx items.size items.size hi - sIx items.size 0 lo)).toArray}})
  (hsz:items.size≤sizeLine):wpAny (model prog w) A (getItem (.ref t) (.ref sl)) Q E s:=by
 have htake:sizeOk (.seq ((items.toList.drop (sIx items.size 0 lo)).take (sIx items.size items.size hi - sIx items.size 0 lo)).toArray):=by
  show ((items.toList.drop (sIx items.size 0 lo)).take (sIx items.size items.size hi - sIx items.size 0 lo)).toArray.size≤sizeLine
  rw [Qo,Xo,Uo,Xb]
  omega
 have hj:sIx items.size items.size hi≤items.size:=b8X _ _ (Qk _) hi
 obtain ⟨os,hos,hcs,hds⟩:=id hs
 have hTs:s.TypeIs (.ref sl) "slice":=⟨os,hos,hcs⟩
 unfold getItem
 try with_reducible refine wpAny_holding ?_
 first | refine wpAny_bind (wpAny_pure ?_) | skip
 refine wpAny_bind (wpAny_sequenceKey ht.typeIs ‹dc› ?_)
 refine wpAny_bind (wpAny_callSpecial?_slot (name:=Xw "__getitem__") ht.typeIs PyProof.Rows.slot_tuple_getitem
  (wpAny_call_entry PyProof.Rows.slot_tuple_getitem ht.typeIs entry_tuple_getitem ?_ (args_tuple_getitem _ _)))
 show wpAny _ _ (Builtin.Tuple.tupleItemsOf (.ref t) >>= _) _ _ s
 refine wpAny_bind (tupleItemsOf_ ht ?_)
 refine wpAny_bind (wpAny_typeOf hTs ?_)
 rw [if_pos ‹dc›]
 refine wpAny_bind (a3q hs pl pu ?_)
 have hno:¬((((sIx items.size 0 lo:Nat):Int) == 0 && (1:Int) == 1 && (sIx items.size items.size hi - sIx items.size 0 lo) == items.size)=true):=by
  intro q
  rw [Ql,Ql] at q
  have q1:((sIx items.size 0 lo:Nat):Int)=0:=eq_of_beq q.1.1
  have q2:sIx items.size items.size hi - sIx items.size 0 lo=items.size:=eq_of_beq q.2
  exact hw ⟨by omega,by omega⟩
 show wpAny _ _ (if (((sIx items.size 0 lo:Nat):Int) == 0 && (1:Int) == 1 && (sIx items.size items.size hi - sIx items.size 0 lo) == items.size)=true then _ else _) _ _ s
 rw [if_neg hno,b2v]
 first
  | exact wpAny_bind (m:=Builtin.Tuple.tupleExact _) (wpAny_newObj_type (wpAny_pure ⟨_,rfl,wpAny_pure h⟩) htake)
  | exact wpAny_bind (m:=Builtin.Tuple.tupleExact _) (wpAny_newObj_type (wpAny_bind (wpAny_pure (wpAny_pure ⟨_,rfl,wpAny_pure h⟩))) htake)
  | exact wpAny_bind (wpAny_bind (m:=Builtin.Tuple.tupleExact _) (wpAny_newObj_type (wpAny_pure (wpAny_pure ⟨_,rfl,wpAny_pure h⟩)) htake))
  | exact wpAny_bind (wpAny_bind (m:=Builtin.Tuple.tupleExact _) (wpAny_newObj_type (wpAny_pure ⟨_,rfl,wpAny_pure h⟩) htake))
end
end HT
namespace L2
open PySem PySem.Spec PyProof.Rows
abbrev TO:=St→Hp→(Option Int→Hp→Prop)→Prop
def PO (X:Cx) (e:Option Expr) (t:TO):Prop:=
 ∀(pins:List (Addr×Obj)) (s:Shared) (σ:St) (H:Hp) (Q:Option Int→Hp→Prop),Inv X pins σ H s→t σ H Q→
  wpAny (model X.prog X.w) X.A (evalPart e X.env) (fun u s'=>∃o H',Inv X pins σ H' s'∧IsPart u o∧Q o H') X.xe s
def a1T:TO:=fun _ H Q=>Q none H
def a3n (t:TE):TO:=fun σ H Q=>t σ H fun x H1=>∃i,x=.int i∧Q (some i) H1
section
variable {X:Cx} {e:Expr} {te:TE} {lo hi:Option Expr} {tl th:TO} {pos p2:Pos}
theorem b5E:PO X none a1T:=by
 intro pins s σ H Q I h
 rw [evalPart_none]
 exact wpAny_pure ⟨none,H,I,.none,h⟩
theorem b5P (h:PE X e te):PO X (some e) (a3n te):=by
 intro pins s σ H Q I hw
 rw [evalPart_some]
 refine thn (h pins s σ H _ I hw) fun u s1 ⟨x,H1,I1,r1,q1⟩=>?_
 obtain ⟨i,rfl,q⟩:=q1
 obtain ⟨t,rfl⟩:=r1
 exact ⟨some i,H1,I1,.int i t,q⟩
def SlR (X:Cx) (r:V→Option Int→Option Int→Hp→VK→Prop):Prop:=
 ∀(pins:List (Addr×Obj)) (s:Shared) (σ:St) (H:Hp) (x:V) (v vl vu:Value) (lo hi:Option Int) (sl:Addr) (Q:VK),Inv X pins σ H s→a0R x v→s.heap.IsSliceOf sl vl vu .none→IsPart vl lo→IsPart vu hi→r x lo hi H Q→
  ∃T id,typeLookup (.type T) "__getitem__"=pure (some (.builtin id))∧s.TypeIs v T∧wpAny (model X.prog X.w) X.A (getItem v (.ref sl)) (EP X pins σ Q) X.xe s
theorem SlR.or {r r':V→Option Int→Option Int→Hp→VK→Prop} (h:SlR X r) (h':SlR X r'):SlR X (fun x lo hi H Q=>r x lo hi H Q∨r' x lo hi H Q):=by
 intro pins s σ H x v vl vu lo hi sl Q I rx hs pl pu q
 rcases q with q | q
 ·exact h pins s σ H x v vl vu lo hi sl Q I rx hs pl pu q
 ·exact h' pins s σ H x v vl vu lo hi sl Q I rx hs pl pu q
def tSl (r:V→Option Int→Option Int→Hp→VK→Prop) (te:TE) (tl th:TO):TE:=fun σ H Q=>te σ H fun x H1=>tl σ H1 fun l H2=>th σ H2 fun u H3=>r x l u H3 Q
theorem b2l {r:V→Option Int→Option Int→Hp→VK→Prop} (hr:SlR X r) (he:PE X e te) (hl:PO X lo tl) (hu:PO X hi th):PE X (.Subscript e (.Slice lo hi none p2) pos) (tSl r te tl th):=by
 intro pins s σ H Q I h
 refine Subscript_ (thn (he pins s σ H _ I h) fun v s1 ⟨x,H1,I1,r1,q1⟩=>?_)
 refine wpAny_Slice (thn (hl pins s1 σ H1 _ I1 q1) fun vl s2 ⟨l,H2,I2,pl,q2⟩=>thn (hu pins s2 σ H2 _ I2 q2) fun vu s3 ⟨u,H3,I3,pu,q3⟩=>?_)
 rw [evalPart_none]
 refine wpAny_pure ?_
 have I4:Inv X pins σ H3 {s3 with heap:=s3.heap.push {cls:=.type "slice",data:=.fields #[vl,vu,.none]}}:=I3.kept (t':=s3.toks) fun b ob q=>Qi _ q
 obtain ⟨T,id,hT,ht,hg⟩:=hr pins {s3 with heap:=s3.heap.push {cls:=.type "slice",data:=.fields #[vl,vu,.none]}} σ H3 x v vl vu l u s3.heap.objs.size Q I4 r1 (Heap.IsSliceOf.new ..) pl pu q3
 show wpAny (model X.prog X.w) X.A (subscriptTail e (.Slice lo hi none p2) v (.ref s3.heap.objs.size)) (EP X pins σ Q) X.xe {s3 with heap:=s3.heap.push {cls:=.type "slice",data:=.fields #[vl,vu,.none]}}
 exact tail_any (ops:=[.ref s3.heap.objs.size,v]) ht hT hg (by with_unfolding_all rfl)
def a4j (xs:List V) (lo hi:Option Int):List V:=(xs.drop (HT.sIx xs.length 0 lo)).take (HT.sIx xs.length xs.length hi - HT.sIx xs.length 0 lo)
theorem a2D (xs:List V) (lo hi:Option Int):(a4j xs lo hi).length≤xs.length:=by
 unfold a4j
 rw [Xo,Uo]
 omega
def c1h (K:Qe):V→Option Int→Option Int→Hp→VK→Prop:=fun x lo hi H Q=>∃a xs,x=.ref a∧SqT K H a xs∧
 ¬(HT.sIx xs.length 0 lo=0∧HT.sIx xs.length xs.length hi=xs.length)∧∀p,H p=none→Q (.ref p) (upd H p (.tup (a4j xs lo hi)))
theorem b9E:SlR X (c1h X.K):=by
 intro pins s σ H x v vl vu lo hi sl Q I rx hs pl pu h
 obtain ⟨a,xs,rfl,hx,hw,q⟩:=h
 cases rx
 obtain ⟨its,r,ht,hz⟩:=I.tuple hx
 have hlen:its.toArray.size=xs.length:=by rw [Qo];exact r.length.symm
 refine ⟨"tuple",_,PyProof.Rows.slot_tuple_getitem.lookup,ht.typeIs,?_⟩
 refine HT.getItem_tuple_cut ht hs pl pu (by rw [hlen];exact hw) ?_ (by rw [hlen];exact hz)
 rw [hlen]
 refine ⟨.ref s.heap.objs.size,_,I.laid (t':=s.toks) (o:=.tup (a4j xs lo hi)) (fun b ob q=>Qi _ q) (Qk _) ?_,rfl,q _ (I.hok.fresh (Qk _))⟩
 exact ⟨Qj (a2D xs lo hi) hz,_,(r.drop (HT.sIx xs.length 0 lo)).take (HT.sIx xs.length xs.length hi - HT.sIx xs.length 0 lo),IsTup.new _ _⟩
def b9j (K:Qe):R2:=fun x y H Q=>∃a b xs ys,x=.ref a∧y=.ref b∧SqT K H a xs∧SqT K H b ys∧xs≠[]∧xs.length+ys.length≤sizeLine∧
 (ys=[]→Q (.ref a) H)∧(ys≠[]→∀p,H p=none→Q (.ref p) (upd H p (.tup (xs++ys))))
theorem a0F.nil_iff {xs:List V} {us:List Value} (r:a0F xs us):us=[]↔xs=[]:=by
 cases r with
 | nil=>simp
 | cons _ _=>simp
theorem b5b:OpR X (binaryOp .Add) (b9j X.K):=by
 intro pins s σ H x y v u Q I rx ry h
 obtain ⟨a,b,xs,ys,rfl,rfl,ha,hb,hx,hz,q1,q2⟩:=h
 cases rx
 cases ry
 obtain ⟨its,r1,p1,_⟩:=I.tuple ha
 obtain ⟨its2,r2,p2,_⟩:=I.tuple hb
 refine HT.cat_tup p1 p2 (fun z=>hx (r1.nil_iff.mp z)) (fun z=>⟨.ref a,H,I,rfl,q1 (r2.nil_iff.mp z)⟩) (fun z=>?_) (by rw [←r1.length,←r2.length];exact hz)
 refine ⟨.ref s.heap.objs.size,_,I.laid (t':=s.toks) (o:=.tup (xs++ys)) (fun b ob q=>Qi _ q) (Qk _) ?_,rfl,q2 (fun w=>z (r2.nil_iff.mpr w)) _ (I.hok.fresh (Qk _))⟩
 exact ⟨by rw [Xk];exact hz,_,r1.append r2,IsTup.new _ _⟩
end
def ixN (n:Nat) (i:Int):Option Nat:=if 0≤i then (if i < n then some i.toNat else none) else if -(n:Int)≤i then some (i+n).toNat else none
def atI {α:Type} (xs:List α) (i:Int):Option α:=(ixN xs.length i).bind fun j=>xs[j]?
theorem a9A {n:Nat} {i:Int} {j:Nat} (h:ixN n i=some j):seqIndex? i n=some j∧j < n∧-(n:Int)≤i∧i < n:=by
 unfold ixN at h
 by_cases h0:0≤i
 ·rw [if_pos h0] at h
  by_cases h1:i < n
  ·rw [if_pos h1] at h
   have e:i.toNat=j:=Option.some.inj h
   exact ⟨by rw [seqIndex_of h0 h1,e],by omega,by omega,h1⟩
  ·rw [if_neg h1] at h;cases h
 ·rw [if_neg h0] at h
  by_cases h1:-(n:Int)≤i
  ·rw [if_pos h1] at h
   have e:(i+n).toNat=j:=Option.some.inj h
   exact ⟨by rw [seqIndex_neg ‹om› h1,e],by omega,h1,by omega⟩
  ·rw [if_neg h1] at h;cases h
theorem a5a {α:Type} {xs:List α} {i:Int} {v:α} (h:atI xs i=some v):∃j,seqIndex? i xs.length=some j∧xs[j]?=some v∧j < xs.length∧-(xs.length:Int)≤i∧i < xs.length:=by
 unfold atI at h
 cases e:ixN xs.length i with
 | none=>rw [e] at h;cases h
 | some j=>
  rw [e] at h
  obtain ⟨h1,h2,h3,h4⟩:=a9A e
  exact ⟨j,h1,h,h2,h3,h4⟩
def b4L (b:Expr):Prop:=∀o i,subscripted b false o i=operate [o,i] (getItem o i)
def IxR (X:Cx) (r:R2):Prop:=
 ∀(value slice:Expr) (pins:List (Addr×Obj)) (s:Shared) (σ:St) (H:Hp) (x y:V) (v u:Value) (Q:VK),Inv X pins σ H s→a0R x v→a0R y u→r x y H Q→
  subscripted slice false v u=operate [v,u] (getItem v u)→wpAny (model X.prog X.w) X.A (subscriptTail value slice v u) (EP X pins σ Q) X.xe s
def MtR (X:Cx) (id:String) (r:V→List V→Hp→VK→Prop):Prop:=
 ∀(pins:List (Addr×Obj)) (s:Shared) (σ:St) (H:Hp) (x:V) (xs:List V) (v:Value) (us:List Value) (Q:VK),Inv X pins σ H s→a0R x v→a0F xs us→r x xs H Q→
  wpAny (model X.prog X.w) X.A (call (.builtin id) (v::us)) (EP X pins σ Q) X.xe s
section
variable {X:Cx} {a b:Expr} {ta tb:TE} {pos:Pos}
theorem IxR.or {r r':R2} (h:IxR X r) (h':IxR X r'):IxR X (fun x y H Q=>r x y H Q∨r' x y H Q):=by
 intro value slice pins s σ H x y v u Q I rx ry q hs
 rcases q with q | q
 ·exact h value slice pins s σ H x y v u Q I rx ry q hs
 ·exact h' value slice pins s σ H x y v u Q I rx ry q hs
theorem c0o {r:R2} (hr:IxR X r) (ha:PE X a ta) (hb:PE X b tb) (hs:b4L b):PE X (.Subscript a b pos) (tOp r ta tb):=by
 intro pins s σ H Q I h
 exact Subscript_ (c0R ha hb I h fun v u s2 x y H2 I2 rx ry q=>hr a b pins s2 σ H2 x y v u Q I2 rx ry q (hs _ _))
def c3g (K:Qe):R2:=fun x y H Q=>∃p xs i v,x=.ref p∧y=.int i∧SqL K H p xs∧atI xs i=some v∧Q v H
def c1g (K:Qe):R2:=fun x y H Q=>∃p xs i v,x=.ref p∧y=.int i∧SqT K H p xs∧atI xs i=some v∧Q v H
def c1a:R2:=fun x y H Q=>∃z i c,x=.str z∧y=.int i∧z.length≤sizeLine∧atI z.cps.toList i=some c∧Q (.str ⟨#[c]⟩) H
theorem b4d:IxR X (c3g X.K):=by
 intro value slice pins s σ H x y v u Q I rx ry h hs
 obtain ⟨p,xs,i,z,rfl,rfl,hq,he,q⟩:=h
 cases rx
 obtain ⟨t,rfl⟩:=ry
 obtain ⟨its,r,pl,hz⟩:=I.list hq
 obtain ⟨j,h1,h2,h3,h4,h5⟩:=a5a he
 obtain ⟨w,ew,rw'⟩:=r.get h2
 have hl:=r.length
 have hn:=a6p
 have fin:EP X pins σ Q w s:=⟨z,H,I,rw',q⟩
 by_cases h0:0≤i
 ·have hj:i.toNat=j:=by
   rw [seqIndex_of h0 h5] at h1
   exact Option.some.inj h1
  exact item_listR pl.isList h0 ‹om› (by rw [hj];simpa using ew) fin hs
 ·have hj:(i+(its.toArray.size:Int)).toNat=j:=by
   rw [seqIndex_neg ‹om› h4] at h1
   rw [Qo,←hl]
   exact Option.some.inj h1
  exact subscriptTail_builtinR (x:=w) pl.isList.typeIs slot_list_getitem.lookup
   (wpAny_getItem_list_neg (Q:=fun r s'=>r=w∧EP X pins σ Q r s') pl.isList ‹om› (by rw [Qo]<;>omega) ‹om› (by rw [hj];simpa using ew) ⟨rfl,fin⟩) hs
theorem b8s:IxR X (c1g X.K):=by
 intro value slice pins s σ H x y v u Q I rx ry h hs
 obtain ⟨p,xs,i,z,rfl,rfl,hq,he,q⟩:=h
 cases rx
 obtain ⟨t,rfl⟩:=ry
 obtain ⟨its,r,pl,hz⟩:=I.tuple hq
 obtain ⟨j,h1,h2,h3,h4,h5⟩:=a5a he
 obtain ⟨w,ew,rw'⟩:=r.get h2
 have hl:=r.length
 have hn:=a6p
 have fin:EP X pins σ Q w s:=⟨z,H,I,rw',q⟩
 exact subscriptTail_builtinR (x:=w) pl.typeIs slot_tuple_getitem.lookup
  (getItem_tuple (j:=j) (Q:=fun r s'=>r=w∧EP X pins σ Q r s') pl ‹om› ‹om› (by rw [Qo,←hl];exact h1) (by simpa using ew) ⟨rfl,fin⟩) hs
theorem b6N:IxR X c1a:=by
 intro value slice pins s σ H x y v u Q I rx ry h hs
 obtain ⟨z,i,c,rfl,rfl,hz,he,q⟩:=h
 obtain ⟨t,rfl⟩:=rx
 obtain ⟨t',rfl⟩:=ry
 obtain ⟨j,h1,h2,h3,h4,h5⟩:=a5a he
 have hl:z.cps.toList.length=z.length:=by simp [Str.length]
 rw [hl] at h1 h4 h5
 have hn:=a6p
 exact tail_any (typeIs_str s z t) slot_str_getitem.lookup (getItem_str (c:=c) (by
  have e1:decide (i < -(2 ^ 63:Int))=false:=decide_eq_false ‹om›
  have e2:decide (i≥2 ^ 63)=false:=decide_eq_false ‹om›
  rw [e1,e2,Gc]) (by rw [h1];simpa using h2) ⟨.str ⟨#[c]⟩,H,I.tok _,⟨_,rfl⟩,q⟩) hs
def rIx (K:Qe):R2:=fun x y H Q=>c3g K x y H Q∨c1g K x y H Q∨c1a x y H Q
theorem a0i:IxR X (rIx X.K):=b4d.or (b8s.or b6N)
theorem a8s (its:List Value) (n j:Nat) (u:Value):Obj.mapSeq (·.setIfInBounds j u) {cls:=.type "list",data:=.seq its.toArray n}={cls:=.type "list",data:=.seq (its.set j u).toArray n}:=by
 simp [Obj.mapSeq]
theorem Inv.lst {pins:List (Addr×Obj)} {σ:St} {H:Hp} {s:Shared} {p:Addr} {xs:List V} (I:Inv X pins σ H s) (h:H p=some (.lst xs)):
  ∃(its:List Value) (n:Nat),a0F xs its∧s.heap.get? p=some {cls:=.type "list",data:=.seq its.toArray n}∧xs.length≤sizeLine:=by
 obtain ⟨z,its,n,r,e⟩:=I.hok p _ h
 exact ⟨its,n,r,e,z⟩
theorem Inv.lstUpd {pins:List (Addr×Obj)} {σ:St} {H:Hp} {s:Shared} {p:Addr} {xs ys:List V} {its its':List Value} {n n':Nat} {f:Obj→Obj} (I:Inv X pins σ H s) (h:H p=some (.lst xs))
  (ho:s.heap.get? p=some {cls:=.type "list",data:=.seq its.toArray n}) (hf:f {cls:=.type "list",data:=.seq its.toArray n}={cls:=.type "list",data:=.seq its'.toArray n'}) (r:a0F ys its') (hz:ys.length≤sizeLine) (t:Nat):
  Inv X pins σ (upd H p (.lst ys)) {s with heap:=s.heap.update p f,toks:=t}:=by
 have e:(s.heap.update p f).get? p=some {cls:=.type "list",data:=.seq its'.toArray n'}:=by
  rw [Za f ho (by rw [hf]<;>rfl),hf]
 refine I.write (x:=p) (e:=p) (by rw [h];trivial) (.inl rfl) (fun b u hb q=>(Zh _ _ (Ne.symm hb)).trans q) ⟨_,e⟩ ?_
 exact ⟨hz,its',n',r,e⟩
def b7q:V→V→V→Hp→(Hp→Prop)→Prop:=fun o i v H Q=>∃p xs k j,o=.ref p∧i=.int k∧H p=some (.lst xs)∧ixN xs.length k=some j∧Q (upd H p (.lst (xs.set j v)))
theorem b2y:c3D X b7q:=by
 intro pins s σ H o i v ov iv u Q I ro ri rv h
 obtain ⟨p,xs,k,j,rfl,rfl,hp,hj,q⟩:=h
 cases ro
 obtain ⟨t,rfl⟩:=ri
 obtain ⟨its,n,r,ho,hz⟩:=I.lst hp
 obtain ⟨h1,h2,h3,h4⟩:=a9A hj
 have hl:=r.length
 have hn:=a6p
 have I':Inv X pins σ (upd H p (.lst (xs.set j v))) {s with heap:=s.heap.update p (Obj.mapSeq (·.setIfInBounds j u))}:=
  I.lstUpd hp ho (a8s its n j u) (r.set rv j) (by rw [List.length_set];exact hz) s.toks
 by_cases h0:0≤k
 ·have hk:k.toNat=j:=by
   rw [seqIndex_of h0 h4] at h1
   exact Option.some.inj h1
  exact PySem.W.ki_setAt ho h0 ‹om› (by rw [Qo,←hl];exact h4) (by rw [hk];exact ⟨_,I',q⟩)
 ·have hk:(k+(its.toArray.size:Int)).toNat=j:=by
   rw [seqIndex_neg ‹om› h3] at h1
   rw [Qo,←hl]
   exact Option.some.inj h1
  exact PySem.W.ki_setBack ho ‹om› (by rw [Qo,←hl];exact h3) ‹om› (by rw [hk];exact ⟨_,I',q⟩)
theorem a5F (lo hi:Option Int) (n:Nat):(sliceBounds lo hi none n).1=((HT.sIx n 0 lo:Nat):Int)∧(sliceBounds lo hi none n).2.1=((HT.sIx n n hi:Nat):Int)∧(sliceBounds lo hi none n).2.2=1:=by
 refine ⟨?_,?_,rfl⟩
 ·cases lo with
  | none=>simp [sliceBounds,HT.sIx]
  | some i=>
   simp only [sliceBounds,HT.sIx,Gv,show (1:Int) > 0 by decide,if_true]
   by_cases h:i < 0
   ·simp only [h,if_true]<;>omega
   ·simp only [h,if_false]<;>omega
 ·cases hi with
  | none=>simp [sliceBounds,HT.sIx]
  | some i=>
   simp only [sliceBounds,HT.sIx,Gv,show (1:Int) > 0 by decide,if_true]
   by_cases h:i < 0
   ·simp only [h,if_true]<;>omega
   ·simp only [h,if_false]<;>omega
theorem a5g (its:List Value) (lo hi:Option Int):slicePick its.toArray lo hi none=((its.drop (HT.sIx its.length 0 lo)).take (HT.sIx its.length its.length hi - HT.sIx its.length 0 lo)).toArray:=by
 obtain ⟨h1,h2,h3⟩:=a5F lo hi its.toArray.size
 unfold slicePick
 rw [h1,h2,h3]
 simp only [sliceRange_one,pick_run,Qo]<;>rfl
def c1B (K:Qe):V→Option Int→Option Int→Hp→VK→Prop:=fun x lo hi H Q=>∃a xs,x=.ref a∧SqL K H a xs∧∀p,H p=none→Q (.ref p) (upd H p (.lst (a4j xs lo hi)))
theorem b5o:SlR X (c1B X.K):=by
 intro pins s σ H x v vl vu lo hi sl Q I rx hs pl pu h
 obtain ⟨a,xs,rfl,hx,q⟩:=h
 cases rx
 obtain ⟨its,r,ht,hz⟩:=I.list hx
 have hlen:=r.length
 refine ⟨"list",_,slot_list_getitem.lookup,ht.isList.typeIs,?_⟩
 refine wpAny_getItem_list_slice ht.isList hs pl pu .none (by simp) ?_ (by rw [Qo]<;>omega)
 rw [a5g,←hlen]
 refine ⟨.ref s.heap.objs.size,_,I.laid (t':=s.toks) (o:=.lst (a4j xs lo hi)) (fun b ob q=>Qi _ q) (Qk _) ?_,rfl,q _ (I.hok.fresh (Qk _))⟩
 exact ⟨Qj (a2D xs lo hi) hz,_,0,(r.drop (HT.sIx xs.length 0 lo)).take (HT.sIx xs.length xs.length hi - HT.sIx xs.length 0 lo),Qu _ rfl⟩
def a4W:V→Bool
 | .non=>true
 | .bl _=>true
 | .int _=>true
 | .str _=>true
 | _=>false
def eqV:V→V→Bool
 | .non,.non=>true
 | .bl a,.bl b=>a == b
 | .bl a,.int b=>(if a then 1 else 0) == b
 | .int a,.bl b=>a == (if b then 1 else 0)
 | .int a,.int b=>a == b
 | .str a,.str b=>a == b
 | _,_=>false
theorem b9h {A:Around} {s:Shared} {y x:V} {u v:Value} (ry:a0R y u) (rx:a0R x v) (fy:a4W y=true) (fx:a4W x=true):Yq A s u v (eqV y x):=by
 cases y with
 | non=>
  cases ry
  cases x with
  | non=>cases rx;exact Yq.same _
  | bl b=>cases rx;exact Yq.none_bool b
  | int b=>obtain ⟨t,rfl⟩:=rx;exact Yq.none_int b t
  | str b=>obtain ⟨t,rfl⟩:=rx;exact Yq.none_str b t
  | _=>exact absurd (show false=true from fx) Qq
 | bl a=>
  cases ry
  cases x with
  | non=>cases rx;exact Yq.bool_none a
  | bl b=>cases rx;exact Yq.bool_bool a b
  | int b=>obtain ⟨t,rfl⟩:=rx;exact Yq.bool_int a b t
  | str b=>obtain ⟨t,rfl⟩:=rx;exact Yq.bool_str a b t
  | _=>exact absurd (show false=true from fx) Qq
 | int a=>
  obtain ⟨t',rfl⟩:=ry
  cases x with
  | non=>cases rx;exact Yq.int_none a t'
  | bl b=>cases rx;exact Yq.int_bool a t' b
  | int b=>obtain ⟨t,rfl⟩:=rx;exact Yq.int_int a t' b t
  | str b=>obtain ⟨t,rfl⟩:=rx;exact Yq.int_str a t' b t
  | _=>exact absurd (show false=true from fx) Qq
 | str a=>
  obtain ⟨t',rfl⟩:=ry
  cases x with
  | non=>cases rx;exact Yq.str_none a t'
  | bl b=>cases rx;exact Yq.str_bool a t' b
  | int b=>obtain ⟨t,rfl⟩:=rx;exact Yq.str_int a t' b t
  | str b=>obtain ⟨t,rfl⟩:=rx;exact Yq.str_str a t' b t
  | _=>exact absurd (show false=true from fx) Qq
 | _=>exact absurd (show false=true from fy) Qq
def eqU (x:V) (u:Value):Bool:=match u with
 | .none=>eqV .non x
 | .bool b=>eqV (.bl b) x
 | .int i _=>eqV (.int i) x
 | .str z _=>eqV (.str z) x
 | _=>false
theorem b3T {x y:V} {u:Value} (r:a0R y u) (f:a4W y=true):eqU x u=eqV y x:=by
 cases y with
 | non=>cases r;rfl
 | bl b=>cases r;rfl
 | int i=>obtain ⟨t,rfl⟩:=r;rfl
 | str z=>obtain ⟨t,rfl⟩:=r;rfl
 | _=>exact absurd (show false=true from f) Qq
theorem a3N {x:V}:∀{xs:List V} {us:List Value},a0F xs us→xs.all a4W=true→us.any (eqU x)=xs.any fun y=>eqV y x
 | _,_,.nil,_=>rfl
 | y::xs,u::us,.cons r t,f=>by
  rw [Vo,Ql] at f
  rw [Uj,Uj,b3T r f.1,a3N t f.2]
theorem a2I {A:Around} {s:Shared} {x:V} {v:Value} (rx:a0R x v) (fx:a4W x=true):∀{xs:List V} {us:List Value},a0F xs us→xs.all a4W=true→∀u∈us,Yq A s u v (eqU x u)
 | _,_,.nil,_=>fun u hu=>by cases hu
 | y::xs,u::us,.cons r t,f=>fun u' hu=>by
  rw [Vo,Ql] at f
  rcases Qn.mp hu with rfl | hu
  ·rw [b3T r f.1];exact b9h r rx f.1 fx
  ·exact a2I rx fx t f.2 u' hu
def inV (x:V) (xs:List V):Bool:=xs.any fun y=>eqV y x
def rIn (K:Qe) (neg:Bool):R2:=fun x y H Q=>∃p xs,y=.ref p∧(SqL K H p xs∨SqT K H p xs)∧a4W x=true∧xs.all a4W=true∧Q (.bl (if neg then !inV x xs else inV x xs)) H
theorem a9z:OpR X (compareOp .In) (rIn X.K false):=by
 intro pins s σ H x y v u Q I rx ry h
 obtain ⟨p,xs,rfl,hq,fx,fs,q⟩:=h
 cases ry
 rcases hq with hq | hq
 ·obtain ⟨its,r,pl,hz⟩:=I.list hq
  refine SeqAt.in_listAt (eqU x) pl.isList (fun w hw=>a2I rx fx r fs w (by simpa using hw)) ⟨.bl _,H,I,rfl,?_⟩
  rw [show its.toArray.any (eqU x)=its.any (eqU x) by simp,a3N r fs]
  exact q
 ·obtain ⟨its,r,pl,hz⟩:=I.tuple hq
  refine SeqAt.in_tupleAt (eqU x) pl (fun w hw=>a2I rx fx r fs w (by simpa using hw)) ⟨.bl _,H,I,rfl,?_⟩
  rw [show its.toArray.any (eqU x)=its.any (eqU x) by simp,a3N r fs]
  exact q
theorem a5L:OpR X (compareOp .NotIn) (rIn X.K true):=by
 intro pins s σ H x y v u Q I rx ry h
 obtain ⟨p,xs,rfl,hq,fx,fs,q⟩:=h
 cases ry
 rcases hq with hq | hq
 ·obtain ⟨its,r,pl,hz⟩:=I.list hq
  refine Gn (eqU x) pl.isList (fun w hw=>a2I rx fx r fs w (by simpa using hw)) ⟨.bl _,H,I,rfl,?_⟩
  rw [show its.toArray.any (eqU x)=its.any (eqU x) by simp,a3N r fs]
  exact q
 ·obtain ⟨its,r,pl,hz⟩:=I.tuple hq
  refine SeqAt.notIn_tupleAt (eqU x) pl (fun w hw=>a2I rx fx r fs w (by simpa using hw)) ⟨.bl _,H,I,rfl,?_⟩
  rw [show its.toArray.any (eqU x)=its.any (eqU x) by simp,a3N r fs]
  exact q
theorem a1t.or {f:Value} {r r':List V→Hp→VK→Prop} (h:a1t X f r) (h':a1t X f r'):a1t X f (fun xs H Q=>r xs H Q∨r' xs H Q):=by
 intro pins s σ H xs us Q I rs q
 rcases q with q | q
 ·exact h pins s σ H xs us Q I rs q
 ·exact h' pins s σ H xs us Q I rs q
theorem a5s:a1t X (.type "list") (fun xs H Q=>∃p ys,xs=[.ref p]∧(SqL X.K H p ys∨SqT X.K H p ys)∧∀l,H l=none→Q (.ref l) (upd H l (.lst ys))):=by
 intro pins s σ H xs us Q I r h
 obtain ⟨p,ys,rfl,hq,q⟩:=h
 obtain ⟨u,rfl,rx⟩:=a2w r
 cases rx
 have fin:∀(its:List Value),a0F ys its→ys.length≤sizeLine→∀(h':Heap) (c':Nat),(∀b o',s.heap.get? b=some o'→h'.get? b=some o')→
   h'.get? s.heap.objs.size=some {cls:=.type "list",dict:=none,data:=.seq its.toArray c',slots:=#[]}→EP X pins σ Q (.ref s.heap.objs.size) {s with heap:=h'}:=fun its r' hz h' c' kp e=>
  ⟨.ref s.heap.objs.size,_,I.laid (t':=s.toks) kp (Qk _) (show a1m X.prog X.w _ h' _ (.lst ys) from ⟨hz,its,c',r',e⟩),rfl,q _ (I.hok.fresh (Qk _))⟩
 rcases hq with hq | hq
 ·obtain ⟨its,r',pl,hz⟩:=I.list hq
  have hlen:=r'.length
  obtain ⟨o,ho,hc,n,hd⟩:=pl.isList
  exact call_list_seq p (.inl rfl) ho hc hd (fun h' c' kp e=>fin its r' hz h' c' kp e) (by simp only [Qo]<;>omega)
 ·obtain ⟨its,r',pl,hz⟩:=I.tuple hq
  have hlen:=r'.length
  obtain ⟨o,ho,hc,n,hd⟩:=pl
  exact call_list_seq p (.inr rfl) ho hc hd (fun h' c' kp e=>fin its r' hz h' c' kp e) (by simp only [Qo]<;>omega)
theorem a5j:a1t X (.type "tuple") (fun xs H Q=>∃p ys,xs=[.ref p]∧((SqL X.K H p ys∧∀l,H l=none→Q (.ref l) (upd H l (.tup ys)))∨(SqT X.K H p ys∧Q (.ref p) H))):=by
 intro pins s σ H xs us Q I r h
 obtain ⟨p,ys,rfl,h⟩:=h
 obtain ⟨u,rfl,rx⟩:=a2w r
 cases rx
 rcases h with ⟨hq,q⟩ | ⟨hq,q⟩
 ·obtain ⟨its,r',pl,hz⟩:=I.list hq
  have hlen:=r'.length
  refine call_tuple_list pl.isList (fun h' kp=>?_) (by simp only [Qo]<;>omega)
  have I1:Inv X pins σ H {s with heap:=h'}:=I.kept (t':=s.toks) kp
  have I2:Inv X pins σ (upd H h'.objs.size (.tup ys)) {s with heap:=h'.push {cls:=.type "tuple",data:=.seq its.toArray}}:=
   I1.laid (t':=s.toks) (fun b o e=>Qi _ e) (Qk _) (show a1m X.prog X.w _ _ _ (.tup ys) from ⟨hz,its,r',IsTup.new _ _⟩)
  exact ⟨.ref h'.objs.size,_,I2,rfl,q _ (I1.hok.fresh (Qk _))⟩
 ·obtain ⟨its,r',pl,hz⟩:=I.tuple hq
  exact call_tuple_same pl ⟨.ref p,H,I,rfl,q⟩
def tyV (K:Qe) (T:String) (x:V) (H:Hp):Prop:=match x with
 | .str _=>T="str"
 | .int _=>T="int"
 | .ref p=>(T="list"∧∃xs,SqL K H p xs)∨(T="tuple"∧∃o,K.lookup p=some o∧o.cls=.type "tuple"∧o.dict=none)∨
   (T="dict"∧((∃kvs,H p=some (.dK kvs))∨∃kvs,H p=some (.dT kvs)))∨(T="set"∧∃S n,H p=some (.set S n))
 | _=>False
theorem b3F {pins:List (Addr×Obj)} {σ:St} {H:Hp} {s:Shared} {T:String} {x:V} {v:Value} (I:Inv X pins σ H s) (r:a0R x v) (ty:tyV X.K T x H):
  s.TypeIs v T∧∀a,v=.ref a→∃ob,s.heap.get? a=some ob∧ob.dict=none:=by
 cases x with
 | str z=>
  obtain ⟨t,rfl⟩:=r
  cases (show T="str" from ty)
  exact ⟨typeIs_str s z t,fun _ e=>nomatch e⟩
 | int i=>
  obtain ⟨t,rfl⟩:=r
  cases (show T="int" from ty)
  exact ⟨typeIs_int s i t,fun _ e=>nomatch e⟩
 | ref p=>
  cases r
  rcases ty with ⟨rfl,xs,hq⟩ | ⟨rfl,o,hk,hc,hd⟩ | ⟨rfl,hk⟩ | ⟨rfl,S,n,hk⟩
  ·obtain ⟨its,_,pl,_⟩:=I.list hq
   refine ⟨pl.isList.typeIs,fun a e=>?_⟩
   cases e
   obtain ⟨o,n,e,c,hd,_⟩:=pl
   exact ⟨o,e,hd⟩
  ·refine ⟨⟨o,I.kIn p o hk,hc⟩,fun a e=>?_⟩
   cases e
   exact ⟨o,I.kIn _ o hk,hd⟩
  ·have z:∃o,s.heap.get? p=some o∧o.ExactDict:=by
    rcases hk with ⟨kvs,hk⟩ | ⟨kvs,hk⟩
    ·obtain ⟨_,_,_,_,o,_,_,e,ex,_⟩:=I.hok p _ hk
     exact ⟨o,e,ex⟩
    ·obtain ⟨_,_,_,_,o,_,_,e,ex,_⟩:=I.hok p _ hk
     exact ⟨o,e,ex⟩
   obtain ⟨o,e,ex⟩:=z
   refine ⟨⟨o,e,ex.1⟩,fun a e2=>?_⟩
   cases e2
   exact ⟨o,e,ex.2.1⟩
  ·obtain ⟨o,_,_,_,e,ex,_⟩:=I.hok p _ hk
   refine ⟨⟨o,e,ex.1⟩,fun a e2=>?_⟩
   cases e2
   exact ⟨o,e,ex.2.1⟩
 | _=>exact False.elim ty
def c4t (K:Qe) (T:String) (r:V→List V→Hp→VK→Prop) (to:TE):TE:=fun σ H Q=>to σ H fun x H1=>tyV K T x H1∧r x [] H1 Q
def tBM (K:Qe) (T:String) (r:V→List V→Hp→VK→Prop) (to:TE) (t:TA):TE:=fun σ H Q=>to σ H fun x H1=>tyV K T x H1∧t σ H1 fun xs H2=>r x xs H2 Q
variable {o e:Expr} {es:List Expr} {to:TE} {t:TA} {name:Str} {apos cpos:Pos} {T id:String} {r:V→List V→Hp→VK→Prop}
theorem b7e (pa:PlainAttrs T) (slot:Slot T name id) (hty:typeOf (.builtin id)=pure (.type "method_descriptor")) (hm:MtR X id r) (ho:PE X o to)
  (hbase:attributeBase o name X.env (eval o X.env)=eval o X.env:=by rfl) (hline:(apos.endLine == cpos.line)=true:=by rfl):PE X (.Call (.Attribute o name apos) [] [] cpos) (c4t X.K T r to):=by
 intro pins s σ H Q I h
 refine wpAny_Call_method0_late hbase hline (thn (ho pins s σ H _ I h) fun v s1 ⟨x,H1,I1,r1,ty,q1⟩=>?_)
 obtain ⟨h1,h2⟩:=b3F I1 r1 ty
 exact ⟨T,id,pa,slot,hty,h1,h2,Calls.callWith_builtin rfl (PySem.evalArgs_none (hm pins s1 σ H1 x [] v [] Q I1 r1 .nil q1))⟩
theorem c0y (pa:PlainAttrs T) (slot:Slot T name id) (hty:typeOf (.builtin id)=pure (.type "method_descriptor")) (hm:MtR X id r) (ho:PE X o to) (ha:PA X (e::es) t)
  (hbase:attributeBase o name X.env (eval o X.env)=eval o X.env:=by rfl)
  (hfew:((backTo cpos (starEach (e::es) X.env)).all (fun x=>!x.1) && (backToKw cpos (keywordEach [] X.env)).all (fun x=>x.1.isSome)
   && decide ((e::es).length+([]:List Keyword).length+(if ([]:List Keyword).isEmpty then 0 else 1) < 30))=true:=by rfl)
  (hline:(apos.endLine == cpos.line)=true:=by rfl) (hs:starEach (e::es) X.env=(false,eval e X.env)::starEach es X.env:=by rfl) (hplain:(backTo cpos (starEach es X.env)).any (·.1)=false:=by rfl):
  PE X (.Call (.Attribute o name apos) (e::es) [] cpos) (tBM X.K T r to t):=by
 intro pins s σ H Q I h
 refine wpAny_Call_method_late hbase hfew hline rfl (thn (ho pins s σ H _ I h) fun v s1 ⟨x,H1,I1,r1,ty,q1⟩=>?_)
 obtain ⟨h1,h2⟩:=b3F I1 r1 ty
 refine ⟨T,id,pa,slot,hty,h1,h2,?_⟩
 have hA:=ha cpos pins s1 σ H1 _ I1 q1
 rw [hs] at hA ⊢
 refine Calls.callWith_builtin (by show (false || (backTo cpos (starEach es X.env)).any (·.1))=false;rw [hplain]<;>rfl) (Calls.evalArgs_plain ?_)
 exact thn hA fun us s2 ⟨vs,H2,I2,r2,q2⟩=>hm pins s2 σ H2 x vs v us Q I2 r1 r2 q2
end
def MtM (X:Cx) (id:String) (r:V→List V→Hp→VK→Prop):Prop:=
 ∀(pins:List (Addr×Obj)) (s:Shared) (σ:St) (H:Hp) (x:V) (xs:List V) (v:Value) (us:List Value) (Q:VK),Inv X pins σ H s→a0R x v→a0F xs us→r x xs H Q→
  wpAny (model X.prog X.w) X.A (call (.builtin id) (v::us)) (EP X pins σ Q) X.xe s
theorem a0F.one:∀{x:V} {us:List Value},a0F [x] us→∃u,us=[u]∧a0R x u
 | _,_,.cons r .nil=>⟨_,rfl,r⟩
theorem a0F.zero:∀{us:List Value},a0F [] us→us=[]
 | _,.nil=>rfl
theorem a0F.dropLast {xs:List V} {us:List Value} (h:a0F xs us):a0F xs.dropLast us.dropLast:=by
 induction h with
 | nil=>exact .nil
 | cons r t ih=>
  cases t with
  | nil=>exact .nil
  | cons q t'=>exact .cons r ih
theorem a0F.eraseIdx:∀{xs:List V} {us:List Value} (i:Nat),a0F xs us→a0F (xs.eraseIdx i) (us.eraseIdx i)
 | _,_,_,.nil=>.nil
 | _,_,0,.cons _ t=>t
 | _,_,i+1,.cons r t=>.cons r (a0F.eraseIdx i t)
theorem a0F.reverse {xs:List V} {us:List Value} (h:a0F xs us):a0F xs.reverse us.reverse:=by
 induction h with
 | nil=>exact .nil
 | cons r t ih=>rw [List.reverse_cons,List.reverse_cons];exact a0F.append ih (.cons r .nil)
theorem a8D {α:Type} (l:List α):l.eraseIdx (l.length - 1)=l.dropLast:=by
 induction l with
 | nil=>rfl
 | cons a r ih=>
  cases r with
  | nil=>rfl
  | cons b r=>
   have e:(a::b::r).length - 1=((b::r).length - 1)+1:=by
    have h1:(a::b::r).length=r.length+2:=rfl
    have h2:(b::r).length=r.length+1:=rfl
    omega
   rw [e,List.eraseIdx_cons_succ,ih]
   all_goals rfl
theorem a5G {α:Type}:∀(l:List α) (i:Nat),(l.eraseIdx i).length≤l.length
 | [],_=>Qk _
 | _::_,0=>Zg _
 | _::r,i+1=>Nat.succ_le_succ (a5G r i)
section
variable {X:Cx} {pins:List (Addr×Obj)} {σ:St} {H:Hp} {s:Shared} {l b:Addr} {xs ys zs:List V}
theorem Inv.lset {its its':List Value} {n:Nat} {f:Array Value→Array Value} {t':Nat} (I:Inv X pins σ H s) (hH:H l=some (.lst xs))
  (e:s.heap.get? l=some {cls:=.type "list",data:=.seq its.toArray n}) (hf:f its.toArray=its'.toArray) (hv:a0F ys its') (hz:ys.length≤sizeLine):
  Inv X pins σ (upd H l (.lst ys)) {s with heap:=s.heap.update l (Obj.mapSeq f),toks:=t'}:=by
 have q:=PySem.IsL.update e f
 rw [hf] at q
 refine I.write (x:=l) (e:=l) (by rw [hH];exact trivial) (.inl rfl) (fun b' u hb hu=>(Zh s.heap (Obj.mapSeq f) (Ne.symm hb)).trans hu) ⟨_,q⟩ ?_
 exact ⟨hz,its',_,hv,q⟩
theorem Inv.lnew {its:List Value} {t':Nat} (I:Inv X pins σ H s) (hv:a0F ys its) (hz:ys.length≤sizeLine):
  Inv X pins σ (upd H s.heap.objs.size (.lst ys)) {s with heap:=s.heap.push {cls:=.type "list",data:=.seq its.toArray},toks:=t'}:=
 I.laid (fun _ _ q=>Qi _ q) (Qk _) ⟨hz,its,0,hv,Qu _ rfl⟩
theorem Inv.fresh (I:Inv X pins σ H s):H s.heap.objs.size=none:=I.hok.fresh (Qk _)
theorem Inv.lstM (I:Inv X pins σ H s) (hH:H l=some (.lst xs)):xs.length≤sizeLine∧∃(its:List Value) (n:Nat),a0F xs its∧xs.length=its.length∧s.heap.get? l=some {cls:=.type "list",data:=.seq its.toArray n}:=by
 obtain ⟨z,its,n,r,e⟩:=I.hok l _ hH
 exact ⟨z,its,n,r,r.length,e⟩
theorem b2A {n:Nat} (h:n≤sizeLine):Builtin.List.listTooLong n=false:=by
 unfold Builtin.List.listTooLong
 exact decide_eq_false ‹om›
end
section
variable {X:Cx}
def b3V:V→List V→Hp→VK→Prop:=fun x vs H Q=>∃l xs y,x=.ref l∧vs=[y]∧H l=some (.lst xs)∧xs.length < sizeLine∧Q .non (upd H l (.lst (xs++[y])))
theorem a0E:MtM X "list.append" b3V:=by
 intro pins s σ H x vs v us Q I rx rv h
 obtain ⟨l,xs,y,rfl,rfl,hH,hz,q⟩:=h
 cases rx
 obtain ⟨u,rfl,ru⟩:=rv.one
 obtain ⟨z,its,n,r,hl,e⟩:=I.lstM hH
 refine call_meets F.slot_list_append ⟨_,e,rfl⟩ F.entry_list_append (F.args_list_append_2 _ _) (PySem.list_append l its.toArray n u (by rw [Qo];omega)) ⟨e,?_⟩
 refine ⟨.non,_,I.lset (its':=its++[u]) hH e (by simp) (r.append (.cons ru .nil)) ?_,rfl,q⟩
 rw [Xk,Jo]
 omega
def b4j:V→List V→Hp→VK→Prop:=fun x vs H Q=>∃l b xs zs,x=.ref l∧vs=[.ref b]∧H l=some (.lst xs)∧H b=some (.lst zs)∧xs.length+zs.length≤sizeLine∧Q .non (upd H l (.lst (xs++zs)))
theorem b0z:MtM X "list.extend" b4j:=by
 intro pins s σ H x vs v us Q I rx rv h
 obtain ⟨l,b,xs,zs,rfl,rfl,hH,hB,hz,q⟩:=h
 cases rx
 obtain ⟨u,rfl,ru⟩:=rv.one
 cases ru
 obtain ⟨z,its,n,r,hl,e⟩:=I.lstM hH
 obtain ⟨z2,its2,n2,r2,hl2,e2⟩:=I.lstM hB
 have hsz:its.toArray.size+its2.toArray.size≤sizeLine:=by rw [Qo,Qo];omega
 have hlong:¬(!its.toArray.isEmpty && Builtin.List.listTooLong (its.toArray.size+its2.toArray.size))=true:=by
  rw [b2A hsz,Ud]
  exact Qq
 refine call_meets F.slot_list_extend ⟨_,e,rfl⟩ F.entry_list_extend (F.args_list_extend_2 _ _)
  (AutoSeq1.list_extend_list_list_0 l its.toArray n b its2.toArray n2 hlong (by rw [Qo];omega) ‹om›) ⟨e,e2,?_⟩
 refine ⟨.non,_,I.lset (its':=its++its2) hH e (by simp) (r.append r2) ?_,rfl,q⟩
 rw [Xk]
 omega
def c6f:V→List V→Hp→VK→Prop:=fun x vs H Q=>∃l xs y,x=.ref l∧vs=[]∧H l=some (.lst xs)∧xs[xs.length - 1]?=some y∧Q y (upd H l (.lst xs.dropLast))
theorem b8L:MtM X "list.pop" c6f:=by
 intro pins s σ H x vs v us Q I rx rv h
 obtain ⟨l,xs,y,rfl,rfl,hH,hy,q⟩:=h
 cases rx
 have hus:=rv.zero
 subst hus
 obtain ⟨z,its,n,r,hl,e⟩:=I.lstM hH
 obtain ⟨u,hu,ru⟩:=r.get hy
 have hy':its.toArray[its.toArray.size - 1]?=some u:=by
  show its.toArray[its.length - 1]?=some u
  rw [←Zb,←hl]
  exact hu
 refine call_meets F.slot_list_pop ⟨_,e,rfl⟩ F.entry_list_pop (F.args_list_pop_1 _) (MeetsSeq.list_pop_last l its.toArray n u hy' (by rw [Qo];omega)) ⟨e,?_⟩
 refine ⟨y,_,I.lset (its':=its.dropLast) hH e ?_ r.dropLast ?_,ru,q⟩
 ·show its.toArray.eraseIdxIfInBounds (its.toArray.size - 1)=its.dropLast.toArray
  rw [Qo,Us,a8D]
 ·rw [List.length_dropLast]
  omega
def b7g:V→List V→Hp→VK→Prop:=fun x vs H Q=>∃l xs i k y,x=.ref l∧vs=[.int i]∧H l=some (.lst xs)∧-(2 ^ 63)≤i∧i < 2 ^ 63∧seqIndex? i xs.length=some k∧xs[k]?=some y∧Q y (upd H l (.lst (xs.eraseIdx k)))
theorem b1P:MtM X "list.pop" b7g:=by
 intro pins s σ H x vs v us Q I rx rv h
 obtain ⟨l,xs,i,k,y,rfl,rfl,hH,h1,h2,hk,hy,q⟩:=h
 cases rx
 obtain ⟨u,rfl,ru⟩:=rv.one
 obtain ⟨t,rfl⟩:=ru
 obtain ⟨z,its,n,r,hl,e⟩:=I.lstM hH
 obtain ⟨w,hw,rw'⟩:=r.get hy
 refine call_meets F.slot_list_pop ⟨_,e,rfl⟩ F.entry_list_pop (F.args_list_pop_2 _ _)
  (MeetsSeq.list_pop_at l its.toArray n i t k w (fitsIndex_both h1 h2) (by rw [Qo,←hl];exact hk) (by rw [←Zb];exact hw) (by rw [Qo];omega)) ⟨e,?_⟩
 refine ⟨y,_,I.lset (its':=its.eraseIdx k) hH e ?_ (r.eraseIdx k) ?_,rw',q⟩
 ·show its.toArray.eraseIdxIfInBounds k=(its.eraseIdx k).toArray
  rw [Us]
 ·have:=a5G xs k
  omega
def c4y:R2:=fun x y H Q=>∃l b xs zs,x=.ref l∧y=.ref b∧H l=some (.lst xs)∧H b=some (.lst zs)∧xs.length+zs.length≤sizeLine∧∀p,H p=none→Q (.ref p) (upd H p (.lst (xs++zs)))
theorem b9R:OpR X (binaryOp .Add) c4y:=by
 intro pins s σ H x y v u Q I rx ry h
 obtain ⟨l,b,xs,zs,rfl,rfl,hH,hB,hz,q⟩:=h
 cases rx
 cases ry
 obtain ⟨z,its,n,r,hl,e⟩:=I.lstM hH
 obtain ⟨z2,its2,n2,r2,hl2,e2⟩:=I.lstM hB
 refine PySem.P.add_list e e2 ?_ (by rw [Qo,Qo];omega)
 have ea:its.toArray++its2.toArray=(its++its2).toArray:=by simp
 rw [ea]
 exact ⟨.ref _,_,I.lnew (t':=s.toks) (r.append r2) (by rw [Xk];omega),rfl,q _ I.fresh⟩
end
section
variable {prog:Program} {w:World} {A:Around} {E:Value→Shared→Prop} {s:Shared}
set_option maxRecDepth 100000 in
end
section
variable {κ:Type} [DecidableEq κ]
def a1Z (kvs:List (κ×V)) (k:κ):Option V:=(kvs.find? fun kv=>decide (kv.1=k)).map (·.2)
def a4e (kvs:List (κ×V)) (k:κ) (v:V):List (κ×V):=
 if (kvs.any fun kv=>decide (kv.1=k))=true then kvs.map (fun kv=>if kv.1=k then (kv.1,v) else kv) else kvs++[(k,v)]
def c0a (kvs:List (κ×V)) (k:κ):List (κ×V):=kvs.filter fun kv=>decide (kv.1≠k)
theorem a1i {p:κ×V} {r:List (κ×V)} {k:κ} (e:p.1=k):a1Z (p::r) k=some p.2:=by simp [a1Z,Jl,e]
theorem a1h {p:κ×V} {r:List (κ×V)} {k:κ} (e:¬p.1=k):a1Z (p::r) k=a1Z r k:=by simp [a1Z,Jl,e]
theorem a2V (k:κ):∀kvs:List (κ×V),(kvs.any fun kv=>decide (kv.1=k))=(a1Z kvs k).isSome
 | []=>rfl
 | p::r=>by
  rw [Uj]
  by_cases e:p.1=k
  ·simp only [a1i e,decide_eq_true e,Bool.true_or,Option.isSome_some]
  ·rw [a1h e,decide_eq_false e,Bool.false_or];exact a2V k r
theorem a7E (k j:κ) (y:V):∀kvs:List (κ×V),a1Z (kvs.map fun kv=>if kv.1=k then (kv.1,y) else kv) j=(a1Z kvs j).map fun x=>if j=k then y else x
 | []=>rfl
 | p::r=>by
  have ih:=a7E k j y r
  rw [Xj]
  by_cases h:p.1=k
  ·rw [if_pos h]
   by_cases e:p.1=j
   ·rw [a1i (p:=(p.1,y)) e,a1i e,Ju,if_pos (e.symm.trans h)]
   ·rw [a1h (p:=(p.1,y)) e,a1h e,ih]
  ·rw [if_neg h]
   by_cases e:p.1=j
   ·rw [a1i (p:=p) e,a1i e,Ju,if_neg (fun z=>h (e.trans z))]
   ·rw [a1h (p:=p) e,a1h e,ih]
theorem a5D (k j:κ) (y:V):∀kvs:List (κ×V),a1Z kvs k=none→a1Z (kvs++[(k,y)]) j=if j=k then some y else a1Z kvs j
 | [],_=>by
  by_cases e:k=j
  ·rw [if_pos e.symm];exact a1i (p:=(k,y)) e
  ·rw [if_neg (fun z=>e z.symm)];exact a1h (p:=(k,y)) e
 | p::r,hn=>by
  rw [List.cons_append]
  have hk:¬p.1=k:=fun z=>by rw [a1i z] at hn;cases hn
  rw [a1h hk] at hn
  have ih:=a5D k j y r hn
  by_cases e:p.1=j
  ·rw [a1i e,a1i e,if_neg (fun z=>hk (e.trans z))]
  ·rw [a1h e,a1h e,ih]
theorem a3v (kvs:List (κ×V)) (k j:κ) (y:V):a1Z (a4e kvs k y) j=if j=k then some y else a1Z kvs j:=by
 unfold a4e
 by_cases a:(kvs.any fun kv=>decide (kv.1=k))=true
 ·rw [if_pos a,a7E]
  rw [a2V] at a
  by_cases e:j=k
  ·obtain ⟨x,hx⟩:=Vx.mp a
   rw [if_pos e,e,hx,Ju,if_pos rfl]
  ·rw [if_neg e]
   cases a1Z kvs j with
   | none=>rfl
   | some x=>rw [Ju,if_neg e]
 ·rw [if_neg a]
  refine a5D k j y kvs ?_
  rw [a2V] at a
  cases q:a1Z kvs k with
  | none=>rfl
  | some x=>rw [q] at a;exact (a rfl).elim
theorem a1w (kvs:List (κ×V)) (k:κ) (v:V):(a4e kvs k v).length≤kvs.length+1:=by
 unfold a4e
 split
 ·rw [Qd];omega
 ·rw [Xk,Qt,Xl];omega
theorem a4L.isSome_eq {o:Option V} {u:Option Value} (r:a4L o u):o.isSome=u.isSome:=by
 cases o with
 | none=>cases u with
  | none=>rfl
  | some _=>exact (show False from r).elim
 | some _=>cases u with
  | none=>exact (show False from r).elim
  | some _=>rfl
theorem a4L.getD {o:Option V} {u:Option Value} {d:V} {d':Value} (r:a4L o u) (rd:a0R d d'):a0R (o.getD d) (u.getD d'):=by
 cases o with
 | none=>cases u with
  | none=>exact rd
  | some _=>exact (show False from r).elim
 | some _=>cases u with
  | none=>exact (show False from r).elim
  | some _=>exact r
theorem KV.val {kvs:List (κ×V)} {vs:List (κ×Value)} (r:KV kvs vs) (k:κ):a4L (a1Z kvs k) (valueAt vs k):=by
 unfold KV at r
 induction r with
 | nil=>exact True.intro
 | @cons p q ps qs h t ih=>
  obtain ⟨h1,h2⟩:=h
  by_cases e:p.1=k
  ·have e':q.1=k:=h1.symm.trans e
   have b:valueAt (q::qs) k=some q.2:=by simp [valueAt,Jl,e']
   rw [a1i e,b];exact h2
  ·have e':¬q.1=k:=fun z=>e (h1.trans z)
   have b:valueAt (q::qs) k=valueAt qs k:=by simp [valueAt,Jl,e']
   rw [a1h e,b];exact ih
theorem KV.any {kvs:List (κ×V)} {vs:List (κ×Value)} (r:KV kvs vs) (k:κ):(kvs.any fun kv=>decide (kv.1=k))=vs.any fun kv=>decide (kv.1=k):=by
 unfold KV at r
 induction r with
 | nil=>rfl
 | cons h t ih=>rw [Uj,Uj,ih,h.1]
theorem KV.repl {kvs:List (κ×V)} {vs:List (κ×Value)} (r:KV kvs vs) (k:κ) {y:V} {u:Value} (ry:a0R y u):
  KV (kvs.map fun kv=>if kv.1=k then (kv.1,y) else kv) (vs.map fun kv=>if kv.1=k then (kv.1,u) else kv):=by
 unfold KV at r ⊢
 induction r with
 | nil=>exact .nil
 | @cons p q ps qs h t ih=>
  rw [Xj,Xj]
  refine .cons ?_ ih
  obtain ⟨h1,h2⟩:=h
  by_cases e:p.1=k
  ·rw [if_pos e,if_pos (h1.symm.trans e)];exact ⟨h1,ry⟩
  ·rw [if_neg e,if_neg (fun z=>e (h1.trans z))];exact ⟨h1,h2⟩
theorem KV.put {kvs:List (κ×V)} {vs:List (κ×Value)} (r:KV kvs vs) (k:κ) {y:V} {u:Value} (ry:a0R y u):KV (a4e kvs k y) (stored vs k u):=by
 unfold a4e stored
 rw [r.any k]
 by_cases e:(vs.any fun kv=>decide (kv.1=k))=true
 ·rw [if_pos e,if_pos e];exact r.repl k ry
 ·rw [if_neg e,if_neg e];exact Paired.snoc r ⟨rfl,ry⟩
theorem KV.drop {kvs:List (κ×V)} {vs:List (κ×Value)} (r:KV kvs vs) (k:κ):KV (c0a kvs k) (without vs k):=by
 unfold KV at r ⊢
 unfold c0a without
 induction r with
 | nil=>exact .nil
 | @cons p q ps qs h t ih=>
  obtain ⟨h1,h2⟩:=h
  rw [Jh,Jh]
  by_cases e:p.1=k
  ·have a:¬decide (p.1≠k)=true:=by simp [e]
   have b:¬decide (q.1≠k)=true:=by simp [h1.symm.trans e]
   rw [if_neg a,if_neg b];exact ih
  ·have e':¬q.1=k:=fun z=>e (h1.trans z)
   have a:decide (p.1≠k)=true:=by simp [e]
   have b:decide (q.1≠k)=true:=by simp [e']
   rw [if_pos a,if_pos b];exact .cons ⟨h1,h2⟩ ih
theorem KV.length {kvs:List (κ×V)} {vs:List (κ×Value)} (r:KV kvs vs):kvs.length=vs.length:=Paired.length r
end
theorem a8z {P:Program} {w:World} {k:Key} {u:Value} (r:a0R (kV k) u):(a0Q P w).is k u=true:=by
 cases k with
 | inl i=>obtain ⟨t,e⟩:=(show ∃t,u=Value.int i t from r);subst e;exact a6y P w i t
 | inr x=>obtain ⟨t,e⟩:=(show ∃t,u=Value.str x t from r);subst e;exact a3D P w x t
theorem a6a {P:Program} {w:World}:∀{ks:List Key} {us:List Value},a0F (ks.map kV) us→ItemsAre (a0Q P w) ks us
 | [],_,r=>by rw [Vz] at r;cases r;exact .nil
 | k::ks,_,r=>by
  rw [Xj] at r
  cases r with
  | cons h t=>exact .cons (a8z h) (a6a t)
abbrev KT (H:Hp):List (List Key×V)→List (List Key×Addr×Value)→Prop:=Paired fun p q=>p.1=q.1∧H q.2.1=some (.tup (p.1.map kV))∧a0R p.2 q.2.2
theorem KT.val {H:Hp} {kvs:List (List Key×V)} {xs:List (List Key×Addr×Value)} (r:KT H kvs xs) (k:List Key):a4L (a1Z kvs k) ((atKey xs k).map (·.2)):=by
 induction r with
 | nil=>exact True.intro
 | @cons p q ps qs h t ih=>
  obtain ⟨h1,_,h2⟩:=h
  by_cases e:p.1=k
  ·have e':q.1=k:=h1.symm.trans e
   have b:atKey (q::qs) k=some q.2:=by simp [atKey,Jl,e']
   rw [a1i e,b];exact h2
  ·have e':¬q.1=k:=fun z=>e (h1.trans z)
   have b:atKey (q::qs) k=atKey qs k:=by simp [atKey,Jl,e']
   rw [a1h e,b];exact ih
theorem KT.repl {H:Hp} {kvs:List (List Key×V)} {xs:List (List Key×Addr×Value)} (r:KT H kvs xs) (k:List Key) {y:V} {u:Value} (ry:a0R y u):
  KT H (kvs.map fun kv=>if kv.1=k then (kv.1,y) else kv) (xs.map (putAt k u)):=by
 induction r with
 | nil=>exact .nil
 | @cons p q ps qs h t ih=>
  rw [Xj,Xj]
  refine .cons ?_ ih
  obtain ⟨h1,h2,h3⟩:=h
  unfold putAt
  by_cases e:p.1=k
  ·rw [if_pos e,if_pos (h1.symm.trans e)];exact ⟨h1,h2,ry⟩
  ·rw [if_neg e,if_neg (fun z=>e (h1.trans z))];exact ⟨h1,h2,h3⟩
theorem KT.put {H:Hp} {kvs:List (List Key×V)} {xs:List (List Key×Addr×Value)} (r:KT H kvs xs) (k:List Key) {b:Addr} {y:V} {u:Value} (hb:H b=some (.tup (k.map kV))) (ry:a0R y u):
  KT H (a4e kvs k y) (storedH xs k b u):=by
 have e:(kvs.any fun kv=>decide (kv.1=k))=(atKey xs k).isSome:=by
  rw [a2V,(r.val k).isSome_eq,Vs]
 unfold a4e storedH
 rw [e]
 by_cases q:(atKey xs k).isSome=true
 ·rw [if_pos q,if_pos q];exact r.repl k ry
 ·rw [if_neg q,if_neg q];exact Paired.snoc r ⟨rfl,hb,ry⟩
theorem KT.keeps {H H':Hp} {kvs:List (List Key×V)} {xs:List (List Key×Addr×Value)} (r:KT H kvs xs) (ht:∀b ys,H b=some (.tup ys)→H' b=some (.tup ys)):KT H' kvs xs:=
 Paired.mapP r fun _ _ z=>⟨z.1,ht _ _ z.2.1,z.2.2⟩
section
variable {P:Program} {w:World} {H:Hp} {h:Heap} {a:Addr}
theorem b9d {u:HO} (ok:HOk P w H h) (e:Rd H a u):a1m P w H h a u:=e.ok ok
theorem a6w {kvs:List (Key×V)} (ok:HOk P w H h) (e:Rd H a (.dK kvs)):kvs.length≤sizeLine∧(a == sysModules)=false∧∃vs,KV kvs vs∧h.DictOf (a0Q P w) a vs:=
 show a1m P w H h a (.dK kvs) from b9d ok e
theorem b9L {kvs:List (Key×V)} (ok:HOk P w H h) (e:H a=some (.dK kvs)):kvs.length≤sizeLine∧(a == sysModules)=false∧∃vs,KV kvs vs∧h.DictOf (a0Q P w) a vs:=a6w ok (.inl e)
theorem a5H {ks:List Key} (ok:HOk P w H h) (e:H a=some (.tup (ks.map kV))):(tupleKind (a0Q P w)).is h ks a:=by
 obtain ⟨_,its,r,o,h1,h2,n,h3⟩:=(show a1m P w H h a (.tup (ks.map kV)) from ok a _ e)
 exact ⟨o,its.toArray,n,h1,h2,h3,by simpa using a6a r⟩
theorem b1l {kvs:List (List Key×V)} (ok:HOk P w H h) (e:Rd H a (.dT kvs)):kvs.length≤sizeLine∧(a == sysModules)=false∧
  ∃xs,KT H kvs xs∧h.DictOfH (tupleKind (a0Q P w)) a xs:=by
 obtain ⟨z,y,xs,r,o,es,ep,h1,h2,h3,h4,h5⟩:=(show a1m P w H h a (.dT kvs) from b9d ok e)
 refine ⟨z,y,xs,r,o,es,ep,h1,h2,h3,h4,fun x hx=>?_,h5⟩
 have all:∀{l:List (List Key×V)} {m:List (List Key×Addr×Value)},KT H l m→∀x∈m,(tupleKind (a0Q P w)).is h x.1 x.2.1:=by
  intro l m q
  induction q with
  | nil=>intro x hx;exact nomatch hx
  | @cons p q ps qs hq t ih=>
   intro x hx
   rcases Qn.mp hx with e | hx
   ·subst e
    exact a5H ok (by rw [←hq.1];exact hq.2.1)
   ·exact ih x hx
 exact all r x hx
theorem c0m {kvs:List (List Key×V)} (ok:HOk P w H h) (e:H a=some (.dT kvs)):kvs.length≤sizeLine∧(a == sysModules)=false∧
  ∃xs,KT H kvs xs∧h.DictOfH (tupleKind (a0Q P w)) a xs:=b1l ok (.inl e)
end
def a5m (H:Hp) (a:Addr) (y:V) (r:Option V):Prop:=
 (∃kvs k,Rd H a (.dK kvs)∧y=kV k∧r=a1Z kvs k)∨∃kvs k b,Rd H a (.dT kvs)∧y=.ref b∧H b=some (.tup (k.map kV))∧r=a1Z kvs k
def b1E (H:Hp) (a:Addr) (y v:V) (H':Hp):Prop:=
 (∃kvs k,H a=some (.dK kvs)∧y=kV k∧kvs.length < sizeLine∧H'=upd H a (.dK (a4e kvs k v)))∨
 ∃kvs k b,H a=some (.dT kvs)∧y=.ref b∧H b=some (.tup (k.map kV))∧kvs.length < sizeLine∧H'=upd H a (.dT (a4e kvs k v))
theorem a5m.k {H:Hp} {a:Addr} {kvs:List (Key×V)} {k:Key} (e:H a=some (.dK kvs)):a5m H a (kV k) (a1Z kvs k):=.inl ⟨kvs,k,.inl e,rfl,rfl⟩
theorem a5m.t {H:Hp} {a b:Addr} {kvs:List (List Key×V)} {k:List Key} (e:H a=some (.dT kvs)) (eb:H b=some (.tup (k.map kV))):a5m H a (.ref b) (a1Z kvs k):=.inr ⟨kvs,k,b,.inl e,rfl,eb,rfl⟩
theorem b1E.k {H:Hp} {a:Addr} {kvs:List (Key×V)} {k:Key} {v:V} (e:H a=some (.dK kvs)) (hl:kvs.length < sizeLine):b1E H a (kV k) v (upd H a (.dK (a4e kvs k v))):=.inl ⟨kvs,k,e,rfl,hl,rfl⟩
theorem b1E.t {H:Hp} {a b:Addr} {kvs:List (List Key×V)} {k:List Key} {v:V} (e:H a=some (.dT kvs)) (eb:H b=some (.tup (k.map kV))) (hl:kvs.length < sizeLine):
  b1E H a (.ref b) v (upd H a (.dT (a4e kvs k v))):=.inr ⟨kvs,k,b,e,rfl,eb,hl,rfl⟩
section
variable {X:Cx} {pins:List (Addr×Obj)} {σ:St} {H:Hp} {s:Shared} {a:Addr} {y v:V} {u r:Value} {o:Option V} {A:Around} {E:Value→Shared→Prop}
theorem Inv.big (I:Inv X pins σ H s):sysModules < s.heap.objs.size:=by
 have h:mainGlobals < s.heap.objs.size:=(I.mod.glob.keeps I.bk).lt
 exact Wa ‹dc› h
theorem c6l {Q:Value→Shared→Prop} (hu:A.units+1 < cLine) (I:Inv X pins σ H s) (g:a5m H a y o) (ry:a0R y u) (h:∀s',Inv X pins σ H s'→Q (.bool o.isSome) s'):
  wpAny (model X.prog X.w) A (compareOp .In u (.ref a)) Q E s:=by
 rcases g with ⟨kvs,k,e,ey,l⟩ | ⟨kvs,k,b,e,ey,eb,l⟩
 ·subst ey
  obtain ⟨z,hd,vs,rel,dd⟩:=a6w I.hok e
  refine wpAny_in_of (a8z ry) hd dd.mapOf ?_
  rw [←(rel.val k).isSome_eq,←l]
  exact h _ (I.tok _)
 ·subst ey
  cases (show u=Value.ref b from ry)
  obtain ⟨z,hd,xs,rel,dd⟩:=b1l I.hok e
  refine wpAny_in_heap (tupleKind_room_in1 hu) (a5H I.hok eb) hd dd ?_
  have q:=(rel.val k).isSome_eq
  rw [Vs] at q
  rw [←q,←l]
  exact h _ (I.tok _)
theorem b5a {Q:Value→Shared→Prop} (hu:A.units+1 < cLine) (I:Inv X pins σ H s) (g:a5m H a y o) (ry:a0R y u) (h:∀s',Inv X pins σ H s'→Q (.bool (!o.isSome)) s'):
  wpAny (model X.prog X.w) A (compareOp .NotIn u (.ref a)) Q E s:=by
 rcases g with ⟨kvs,k,e,ey,l⟩ | ⟨kvs,k,b,e,ey,eb,l⟩
 ·subst ey
  obtain ⟨z,hd,vs,rel,dd⟩:=a6w I.hok e
  refine wpAny_notIn_of (a8z ry) hd dd.mapOf ?_
  rw [←(rel.val k).isSome_eq,←l]
  exact h _ (I.tok _)
 ·subst ey
  cases (show u=Value.ref b from ry)
  obtain ⟨z,hd,xs,rel,dd⟩:=b1l I.hok e
  refine wpAny_notIn_heap (tupleKind_room_in1 hu) (a5H I.hok eb) hd dd ?_
  have q:=(rel.val k).isSome_eq
  rw [Vs] at q
  rw [←q,←l]
  exact h _ (I.tok _)
theorem a6C {h':Heap} {t':Nat} {ob:HO} (I:Inv X pins σ H s) (mu:Mut (H a)) (hs:Yl a s.heap h') (he:∃q,h'.get? a=some q) (new:a1m X.prog X.w (upd H a ob) h' a ob):
  Inv X pins σ (upd H a ob) {s with heap:=h',toks:=t'}:=
 I.write (x:=a) (e:=a) mu (.inl rfl) (fun b q hb z=>(hs.2 b hb).trans z) he new
theorem b2U {P:Program} {w:World} {H':Hp} {h':Heap} {kvs:List (Key×V)} {vs:List (Key×Value)} (z:kvs.length≤sizeLine) (hd:(a == sysModules)=false) (rel:KV kvs vs) (dd:h'.DictOf (a0Q P w) a vs):
  a1m P w H' h' a (.dK kvs):=⟨z,hd,vs,rel,dd⟩
theorem b0t {H':Hp} {Q:Unit→Shared→Prop} (hu:A.units+1 < cLine) (I:Inv X pins σ H s) (g:b1E H a y v H') (ry:a0R y u) (rv:a0R v r) (h:∀s',Inv X pins σ H' s'→Q () s'):
  wpAny (model X.prog X.w) A (setItem (.ref a) u r) Q E s:=by
 rcases g with ⟨kvs,k,e,ey,l,eH⟩ | ⟨kvs,k,b,e,ey,eb,l,eH⟩
 ·subst ey eH
  obtain ⟨z,hd,vs,rel,dd⟩:=b9L I.hok e
  have hz:vs.length≤sizeLine:=by rw [←rel.length];exact z
  have hl:(a4e kvs k v).length≤sizeLine:=by have:=a1w kvs k v;omega
  refine wpAny_setItem_pairs (hsz:=hz) (a8z ry) dd fun h' dd' hs=>h _ ?_
  have he:∃q,h'.get? a=some q:=let ⟨q,_,_,hq,_⟩:=dd';⟨q,hq⟩
  exact a6C I (by rw [e];exact True.intro) hs he (b2U hl hd (rel.put k rv) dd')
 ·subst ey eH
  cases (show u=Value.ref b from ry)
  obtain ⟨z,hd,xs,rel,dd⟩:=c0m I.hok e
  have hz:xs.length≤sizeLine:=by rw [←Paired.length rel];exact z
  have hl:(a4e kvs k v).length≤sizeLine:=by have:=a1w kvs k v;omega
  refine wpAny_setItem_heap (hsz:=hz) (tupleKind_room_in1 hu) (a5H I.hok eb) dd fun h' dd' hs=>h _ ?_
  obtain ⟨q,es,ep,hq,h2,h3,h4,_,h5⟩:=dd'
  refine a6C I (by rw [e];exact True.intro) hs ⟨q,hq⟩ ⟨hl,hd,_,(rel.put k eb rv).keeps fun c ys ec=>?_,q,es,ep,hq,h2,h3,h4,h5⟩
  rw [a0d (a1S ec e (fun z=>nomatch z))]
  exact ec
end
section
variable {X:Cx} {pins:List (Addr×Obj)} {σ:St} {H:Hp} {s:Shared} {a:Addr} {kvs:List (Key×V)} {k:Key} {u:Value} {A:Around} {E:Value→Shared→Prop}
theorem c0u {Q:Value→Shared→Prop} (I:Inv X pins σ H s) (e:Rd H a (.dK kvs)) (h:∀t s',Inv X pins σ H s'→Q (.int kvs.length t) s'):wpAny (model X.prog X.w) A (call (.builtin "len") [.ref a]) Q E s:=by
 obtain ⟨z,hd,vs,rel,dd⟩:=a6w I.hok e
 refine call_len_dict hd dd (by rw [←rel.length];rw [sizeLine_eq] at z;omega) ?_
 rw [←rel.length]
 exact h _ _ (I.tok _)
end
def b5W (ty td:TE):TE:=fun σ H Q=>ty σ H fun y H1=>td σ H1 fun x H2=>∃a o,x=.ref a∧a5m H2 a y o∧Q (.bl o.isSome) H2
def a8U (ty td:TE):TE:=fun σ H Q=>ty σ H fun y H1=>td σ H1 fun x H2=>∃a o,x=.ref a∧a5m H2 a y o∧Q (.bl (!o.isSome)) H2
def a6A (td ty tv:TE):TS:=fun D σ H=>tv σ H fun v H1=>td σ H1 fun x H2=>ty σ H2 fun y H3=>∃a H4,x=.ref a∧b1E H3 a y v H4∧D.nx σ H4
section
variable {X:Cx} {o i e value:Expr} {pos pos' tpos:Pos} {td ty tv:TE}
theorem a2L (hu:X.A.units+1 < cLine) (hi:PE X i ty) (ho:PE X o td):PC X .In i o (b5W ty td):=by
 intro pins s σ H Q I h
 refine thn (hi pins s σ H _ I h) fun iv s1 ⟨y,H1,I1,ry,q1⟩=>thn (ho pins s1 σ H1 _ I1 q1) fun u s2 ⟨x,H2,I2,rx,a,ov,ex,g,q2⟩=>?_
 subst ex
 obtain rfl:u=Value.ref a:=rx
 exact c6l hu I2 g ry fun s3 I3=>⟨.bl ov.isSome,H2,I3,rfl,q2⟩
theorem b1D (hu:X.A.units+1 < cLine) (hi:PE X i ty) (ho:PE X o td):PC X .NotIn i o (a8U ty td):=by
 intro pins s σ H Q I h
 refine thn (hi pins s σ H _ I h) fun iv s1 ⟨y,H1,I1,ry,q1⟩=>thn (ho pins s1 σ H1 _ I1 q1) fun u s2 ⟨x,H2,I2,rx,a,ov,ex,g,q2⟩=>?_
 subst ex
 obtain rfl:u=Value.ref a:=rx
 exact b5a hu I2 g ry fun s3 I3=>⟨.bl (!ov.isSome),H2,I3,rfl,q2⟩
theorem b4n (hu:X.A.units+1 < cLine) (ho:PE X o td) (hi:PE X i ty) (hv:PE X value tv) (hs:swapsWith value (some (.Subscript o i pos')) pos.line X.env=pure false):
  PS X (.Assign [.Subscript o i pos'] value pos) (a6A td ty tv):=by
 intro pins s σ H D I h
 refine wpAny_Assign_Subscript (thn (hv pins s σ H _ I h) fun r s1 ⟨v,H1,I1,rv,q1⟩=>thn (ho pins s1 σ H1 _ I1 q1) fun u s2 ⟨x,H2,I2,rx,q2⟩=>thn (hi pins s2 σ H2 _ I2 q2) fun iv s3 ⟨y,H3,I3,ry,a,H4,ex,g,q3⟩=>?_) hs
 subst ex
 obtain rfl:u=Value.ref a:=rx
 exact b0t hu I3 g ry rv fun s4 I4=>⟨σ,H4,I4,q3⟩
end
theorem b1N {P:Program} {w:World} {H:Hp} (h:Heap) (hb:sysModules < h.objs.size):a1m P w H (h.push {cls:=.type "dict",data:=.dict #[]}) h.objs.size (.dK []):=
 ⟨Xg _,beq_eq_false_iff_ne.mpr (Ne.symm (Qx hb)),[],.nil,Heap.DictOf.new h⟩
theorem b2x {P:Program} {w:World} {H:Hp} (h:Heap) (hb:sysModules < h.objs.size):a1m P w H (h.push {cls:=.type "dict",data:=.dict #[]}) h.objs.size (.dT []):=
 ⟨Xg _,beq_eq_false_iff_ne.mpr (Ne.symm (Qx hb)),[],.nil,_,#[],0,Qu _ rfl,⟨rfl,rfl,rfl⟩,rfl,rfl,Yi⟩
def a6n:TE:=fun _ H Q=>∀p,H p=none→Q (.ref p) (upd H p (.dK []))
def b8F:TE:=fun _ H Q=>∀p,H p=none→Q (.ref p) (upd H p (.dT []))
section
variable {X:Cx} {pos:Pos}
theorem b2L:PE X (.Dict [] [] pos) a6n:=fun pins s σ H Q I h=>
 wpAny_Dict_empty ⟨.ref s.heap.objs.size,_,I.laid (a:=s.heap.objs.size) (o:=.dK []) (t':=s.toks) (fun _ _ q=>Qi _ q) (Qk _) (b1N s.heap I.big),rfl,h _ (I.hok.fresh (Qk _))⟩
theorem b2h:PE X (.Dict [] [] pos) b8F:=fun pins s σ H Q I h=>
 wpAny_Dict_empty ⟨.ref s.heap.objs.size,_,I.laid (a:=s.heap.objs.size) (o:=.dT []) (t':=s.toks) (fun _ _ q=>Qi _ q) (Qk _) (b2x s.heap I.big),rfl,h _ (I.hok.fresh (Qk _))⟩
end
structure M2 (X:Cx) (o:Expr) (m:Str) (apos:Pos) (e f:Expr) (cpos:Pos):Prop where
 base:attributeBase o m X.env (eval o X.env)=eval o X.env
 few:((backTo cpos (starEach [e,f] X.env)).all (fun x=>!x.1) && (backToKw cpos (keywordEach [] X.env)).all (fun x=>x.1.isSome)
  && decide (([e,f]:List Expr).length+([]:List Keyword).length+(if ([]:List Keyword).isEmpty then 0 else 1) < 30))=true
 line:(apos.endLine == cpos.line)=true
 trees:backTo cpos (starEach [e,f] X.env)=[(false,eval e X.env),(false,eval f X.env)]
def IsD (H:Hp) (a:Addr):Prop:=(∃kvs,Rd H a (.dK kvs))∨∃kvs,Rd H a (.dT kvs)
theorem b3S {X:Cx} {pins:List (Addr×Obj)} {σ:St} {H:Hp} {s:Shared} {a:Addr} (I:Inv X pins σ H s) (d:IsD H a):
  s.TypeIs (.ref a) "dict"∧(∀b,Value.ref a=.ref b→∃ob,s.heap.get? b=some ob∧ob.dict=none)∧(a == sysModules)=false:=by
 rcases d with ⟨kvs,e⟩ | ⟨kvs,e⟩
 ·obtain ⟨_,hd,vs,_,dd⟩:=a6w I.hok e
  refine ⟨dd.typeIs,fun b q=>?_,hd⟩
  cases q
  obtain ⟨ob,_,_,h1,h2,_⟩:=dd
  exact ⟨ob,h1,h2.2.1⟩
 ·obtain ⟨_,hd,xs,_,dd⟩:=b1l I.hok e
  refine ⟨dd.typeIs,fun b q=>?_,hd⟩
  cases q
  obtain ⟨ob,_,_,h1,h2,_⟩:=dd
  exact ⟨ob,h1,h2.2.1⟩
section
variable {X:Cx} {pins:List (Addr×Obj)} {σ:St} {H:Hp} {s:Shared} {a:Addr} {y d:V} {u r:Value} {o:Option V} {A:Around} {E:Value→Shared→Prop}
theorem b8j {Q:Value→Shared→Prop} (hu:A.units+1 < cLine) (I:Inv X pins σ H s) (g:a5m H a y o) (ry:a0R y u) (rd:a0R d r) (h:∀w' s',Inv X pins σ H s'→a0R (o.getD d) w'→Q w' s'):
  wpAny (model X.prog X.w) A (call (.builtin "dict.get") [.ref a,u,r]) Q E s:=by
 rcases g with ⟨kvs,k,e,ey,l⟩ | ⟨kvs,k,b,e,ey,eb,l⟩
 ·subst ey
  obtain ⟨z,hd,vs,rel,dd⟩:=a6w I.hok e
  refine call_meetsIn Ur dd.typeIs Wn (Wf _ _ _) (meets_dict_get_default (a0Q X.prog X.w) a (a8z ry) hd r) ⟨_,dd.mapOf,h _ _ (I.tok _) ?_⟩
  rw [l]
  exact (rel.val k).getD rd
 ·subst ey
  cases (show u=Value.ref b from ry)
  obtain ⟨z,hd,xs,rel,dd⟩:=b1l I.hok e
  refine call_meetsIn Ur dd.typeIs Wn (Wf _ _ _) (meetsH_dict_get_default (tupleKind (a0Q X.prog X.w)) a b hd r) ⟨tupleKind_room_in1 hu,k,xs,a5H I.hok eb,dd,h _ _ (I.tok _) ?_⟩
  rw [l]
  exact (rel.val k).getD rd
end
def b3l (td ty tx:TE):TE:=fun σ H Q=>td σ H fun x H1=>∃a,x=.ref a∧IsD H1 a∧ty σ H1 fun y H2=>tx σ H2 fun z H3=>∃o,a5m H3 a y o∧Q (o.getD z) H3
section
variable {X:Cx} {o e f:Expr} {apos cpos:Pos} {td ty tx:TE}
theorem b2Q (hu:X.A.units+1 < cLine) (ho:PE X o td) (he:PE X e ty) (hf:PE X f tx) (m:M2 X o "get" apos e f cpos):PE X (.Call (.Attribute o "get" apos) [e,f] [] cpos) (b3l td ty tx):=by
 intro pins s σ H Q I h
 refine wpAny_Call_method m.base m.few m.line Wg Ur PySem.F.type_dict_get (thn (ho pins s σ H _ I h) fun u s1 ⟨x,H1,I1,rx,a,ex,d,q1⟩=>?_)
 subst ex
 obtain rfl:u=Value.ref a:=rx
 obtain ⟨t1,t2,_⟩:=b3S I1 d
 refine ⟨t1,t2,?_⟩
 rw [m.trees]
 refine Calls.callWith_builtin rfl (Calls.evalArgs_plain (Calls.spliced_cons (thn (he pins s1 σ H1 _ I1 q1) fun iv s2 ⟨y,H2,I2,ry,q2⟩=>
  Calls.spliced_cons (thn (hf pins s2 σ H2 _ I2 q2) fun fv s3 ⟨z,H3,I3,rz,ov,g,q3⟩=>Calls.spliced_nil ?_))))
 exact b8j hu I3 g ry rz fun w' s4 I4 rw'=>⟨_,H3,I4,rw',q3⟩
end
end L2
namespace Att
open PySem PySem.W PySem.Calls PyProof.Rows
theorem a3P {P:Params} {h:Heap}:∀(ns:List Int) (vs:List Value),WellAll P h vs (ns.map WData.int)→IntsAre vs ns:=by
 intro ns
 induction ns with
 | nil=>
  intro vs w
  rw [Vz] at w
  cases w
  exact .nil
 | cons n ns ih=>
  intro vs w
  rw [Xj] at w
  cases w with
  | cons a b=>
   cases a
   exact .cons _ _ (ih _ b)
theorem a8W {l:OpenLaw} {n:Nat} (hn:l.most=some n) {P:Params} {h:Heap} {args:List WData} {vals:List Value}
  (hpre:l.row.toRowW.claim.pre args=true) (hwl:WellAll P h vals args):
  ∃a vs ns,vals=[Value.ref a]∧args=[WData.list (ns.map WData.int)]∧h.get? a=some {cls:=.type "list",data:=.seq vs.toArray}∧IntsAre vs ns∧ns.length≤n:=by
 have hsh:WShape.hasAll [] args [.list .int]=true:=(pre_splitW hpre).1
 have hc:l.pre.holds [] {args:=args}=true:=(pre_splitW hpre).2
 obtain ⟨d,r,rfl,h1,h2⟩:=hasAllW_cons hsh
 obtain rfl:=hasAllW_nil h2
 obtain ⟨xs,rfl,h3⟩:=hasW_list h1
 obtain ⟨ns,rfl⟩:=items_int h3
 have hlen:ns.length≤n:=by
  unfold OpenLaw.pre at hc
  have h4:(WTm.not (.lt (.lit (.int (n:Int))) (.len (.arg 0)))).holds [] {args:=[.list (ns.map .int)]}=true:=by
   have h4:=(holds_andW hc).1
   rw [hn] at h4
   exact h4
  have h5:=condW_of h4 (w_not (w_lt w_lit (w_len_list (w_arg rfl))))
  rw [Qd] at h5
  refine Nat.le_of_not_lt fun q=>?_
  have q':(n:Int) < ((ns.length:Nat):Int):=by omega
  first
   | (rw [decide_eq_true q'] at h5;exact absurd h5 ‹dc›)
   | (simp at h5;omega)
 cases hwl with
 | cons w1 w2=>
  cases w2
  cases w1 with
  | list ho hall=>exact ⟨_,_,ns,rfl,rfl,ho,a3P ns _ hall,hlen⟩
theorem a9Z (l:OpenLaw) (args:List WData):l.row.toRowW.claim.post args (.bool true) args=true:=
 postW_of (r:=l.row.toRowW) (X:=(true == true))
  (show WShape.has [] (.bool true) .bool=true by first | rfl | decide | simp [WShape.has,WShape.arms,WShape.armsAll])
  (show (WTm.eq .res (.lit (.bool true))).value [] {args:=args,res:=some (.bool true),after:=args}=some (.bool (true == true)) from w_eq_bool (w_res rfl) w_lit) rfl
theorem attach_call {l:OpenLaw} {n:Nat} {q:Program} {loose:List Str} {XP:(Str→Option Value)→Heap→Prop} {YP:World→Heap→Prop} {d:DefRec}
  (hn:l.most=some n) (hdf:d.params.defaults=[])
  (call:∀(w:World) (s₀ s₁:Shared) (mg mb:Str→Option Value) (fa:Addr) (o:Obj) (pm cd doc:Value) (a:Addr) (vs:List Value) (ns:List Int),
   Ground q loose [] XP w s₀ mg mb s₁.heap→YP w s₁.heap→
   s₁.heap.get? fa=some o→o.data=.func (docDef d.name d.params d.body d.scope pm cd doc)→s₁.heap.CodeRec cd d.name→mg d.name=some (.ref fa)→
   s₁.heap.get? a=some {cls:=.type "list",data:=.seq vs.toArray}→IntsAre vs ns→ns.length≤n→s₁.gens=#[]→
   codeAny (model l.prog w) callerA (.call (.ref fa) ⟨[.ref a],[]⟩) (fun r s'=>r=.ok (.ret (.bool true))∧OldK s₁.heap s'.heap∧s'.os=s₁.os∧AllBare s'.gens) s₁):
  WalkO q loose XP YP l.row.toRowW d [] (fun f vs=>PySem.call f vs):=by
 intro w s₀ s₁ mg mb G Y fa o pm cd doc dV kV ho hd hcd hD hmg hg args vals as hpre hlay hrd hwl hlo
 obtain rfl:dV=.none:=Dflts.none hD hdf
 obtain rfl:kV=.none:=Dflts.noKw hD
 obtain ⟨a,vs,ns,rfl,rfl,hobj,hints,hlen⟩:=a8W hn hpre hwl
 refine enter_call (codeAny_mono (call w s₀ s₁ mg mb fa o pm cd doc a vs ns G Y ho (fd_plain hd) hcd hmg hobj hints hlen hg) fun r s' hq=>?_)
 obtain ⟨rfl,h2,h3,h4⟩:=hq
 exact ⟨.inl ⟨.bool true,.bool true,[],rfl,fun _=>rfl,.bool true,a9Z l _,fun _=>⟨List.Pairwise.nil,fun _ hm=>(nomatch hm)⟩⟩,h2,h3,h4⟩
end Att
namespace L2
open PySem PySem.Spec PyProof.Rows
theorem a6l:∀{vs:List Value} {ns:List Int},IntsAre vs ns→a0F (ns.map V.int) vs
 | _,_,.nil=>.nil
 | _,_,.cons n t h=>.cons ⟨t,rfl⟩ (a6l h)
def b8N (H:Hp):Prop:=∀b,H b=none∨∃o xs,H b=some (.frz o (.lst xs))
theorem b2F {P:Program} {w:World} {K:Qe} {mg mb:Str→Option Value} {CX:CXT} {k:Nat} {fa a:Addr} {fd:FuncData} {x:Str} {sp:Sp} {s₁:Shared} {vs:List Value} {ns:List Int}
  (KX:K.In s₁.heap) (hns:s₁.heap.Ns mainGlobals mg) (hb:s₁.heap.Ns builtinsNs mb) (hbb:∀x:Str,x≠"__name__"→mb x=bootBuiltins x) (hlim:s₁.heap.NoLimit) (hg:s₁.gens=#[])
  (ha:s₁.heap.get? a=some {cls:=.type "list",data:=.seq vs.toArray}) (hi:IntsAre vs ns) (hl:ns.length≤sizeLine) (hr:a3c k callerA)
  (F:∀base:Heap,K.In base→base.Ns mainGlobals mg→a1a P w K mg base CX k fa fd [x] sp) (hbind:∀(s:Shared) (u:Value),BindsTo s fd ⟨[u],[]⟩ [(x,u)])
  (hsp:∀H:Hp,b8N H→SqL K H a (ns.map V.int)→sp [.ref a] H (fun v _=>v=.bl true) fun _ _ _=>False)
  (hCX:∀H e s',CX [] H s₁ (fun _ _ _=>False) e s'→False):
  codeAny (model P w) callerA (.call (.ref fa) ⟨[.ref a],[]⟩) (fun r s'=>r=.ok (.ret (.bool true))∧OldK s₁.heap s'.heap∧s'.os=s₁.os∧AllBare s'.gens) s₁:=by
 have rv:=a6l hi
 have lenV:=hi.length
 have core:∀H:Hp,b8N H→SqL K H a (ns.map V.int)→HOk P w H s₁.heap→(∀b,H b≠none→b=a)→(H a≠none→K.lookup a=none)→
   codeAny (model P w) callerA (.call (.ref fa) ⟨[.ref a],[]⟩) (fun r s'=>r=.ok (.ret (.bool true))∧OldK s₁.heap s'.heap∧s'.os=s₁.os∧AllBare s'.gens) s₁:=by
  intro H hO hS hok hA hK
  have base_of:∀{b:Addr} {o:Obj},s₁.heap.get? b=some o→H b=none→(b2G s₁.heap H).get? b=some o:=fun e n=>b1L e n
  have noA:∀{b:Addr} {o:Obj} {es:Array DictEntry} {ep:Nat},s₁.heap.get? b=some o→o.data=.dict es ep→H b=none:=fun {b o es ep} e d=>by
   cases q:H b with
   | none=>rfl
   | some u=>
    have e':b=a:=hA b (by rw [q];simp)
    subst e'
    rw [ha] at e;cases e
    have d':Data.seq vs.toArray _=Data.dict es ep:=d
    cases d'
  have nsK:∀{b:Addr} {m:Str→Option Value},s₁.heap.Ns b m→(b2G s₁.heap H).Ns b m:=fun {b m} ⟨o,es,ep,e,d,r⟩=>⟨o,es,ep,base_of e (noA e d),d,r⟩
  have hKb:K.In (b2G s₁.heap H):=fun b o e=>base_of (KX b o e) (by
   cases q:H b with
   | none=>rfl
   | some u=>
    have e':b=a:=hA b (by rw [q];simp)
    subst e'
    rw [hK (by rw [q];simp)] at e;cases e)
  have hM:Mod K mg (b2G s₁.heap H):=⟨hKb,nsK hns,⟨mb,nsK hb,hbb⟩,let ⟨mc,h1,h2⟩:=hlim;⟨mc,nsK h1,h2⟩⟩
  have e0:b5m P w K mg (b2G s₁.heap H) callerA [] s₁ H:=⟨rfl,hM,fun b o e=>b5J e,Uu (a9c _ _),trivial,fun b hb=>absurd (show b∈([]:List Addr) from hb) (by simp),hok,.of_eq hg⟩
  refine codeAny_mono ((F _ hKb (nsK hns)).run callerA [] s₁ H ⟨[.ref a],[]⟩ [.ref a] [.ref a] _ _ hr e0 (hbind s₁ (.ref a)) (.cons rfl .nil) (hsp H hO hS)) fun r s' h=>?_
  cases r with
  | error e=>exact (hCX H e s' h).elim
  | ok fl=>
   cases fl with
   | next=>exact False.elim h
   | brk=>exact False.elim h
   | cont=>exact False.elim h
   | ret u=>
    obtain ⟨v,H',os,bare,un,hok',r',q⟩:=h
    have q':v=.bl true:=q
    subst q'
    obtain rfl:u=Value.bool true:=r'
    refine ⟨rfl,OldK.of_keep fun b o e=>?_,os,bare⟩
    cases q:H b with
    | none=>exact un.keep b o e q (by intro z;exact absurd (show b∈([]:List Addr) from z) (by simp)) (by simp)
    | some u=>
     rcases hO b with z | ⟨ob,xs,z⟩
     ·rw [q] at z;cases z
     ·have z2:=un.frzs b ob _ z
      obtain ⟨e1,_⟩:=hok b _ z
      obtain ⟨e2,_⟩:=hok' b _ z2
      rw [e] at e1;cases e1
      exact e2
 cases hk:K.lookup a with
 | some o=>
  have e:=KX a o hk
  rw [ha] at e
  cases e
  refine core (fun _=>none) (fun _=>.inl rfl) (.inr ⟨_,vs.toArray,_,hk,rfl,rfl,rfl,by rw [Qo,lenV];exact hl,by simpa using rv⟩) (fun b u z=>by have z':(none:Option HO)=some u:=z;cases z') (fun b z=>absurd rfl z) fun z=>absurd rfl z
 | none=>
  refine core (fun b=>if b=a then some (.frz {cls:=.type "list",data:=.seq vs.toArray} (.lst (ns.map V.int))) else none) (fun b=>?_) (.inl (.inr ⟨{cls:=.type "list",data:=.seq vs.toArray},if_pos rfl⟩)) (fun b u z=>?_) (fun b z=>?_) fun _=>hk
  ·by_cases hb:b=a
   ·exact .inr ⟨_,_,if_pos hb⟩
   ·exact .inl (if_neg hb)
  ·by_cases hb:b=a
   ·have z':=(if_pos hb).symm.trans z
    cases z'
    subst hb
    exact ⟨ha,by rw [Qd];exact hl,vs,_,rv,ha⟩
   ·have z':=(if_neg hb).symm.trans z
    cases z'
  ·by_cases hb:b=a
   ·exact hb
   ·exact absurd (if_neg hb) z
abbrev KOf {K:Qe} {h:Heap} (_:K.In h):Qe:=K
theorem b4Z {l:Gz} {n k:Nat} {q:Program} {loose:List Str} {XP:(Str→Option Value)→Heap→Prop} {YP:World→Heap→Prop} {d:DefRec} {K:Params→Qe} {CX:World→CXT} {sp:World→Sp} {x:Str}
  (hn:l.most=some n) (hn2:n≤sizeLine) (hdf:d.params.defaults=[]) (hr:a3c k callerA)
  (hY:∀(w:World) (h:Heap),YP w h→(K w.params).In h)
  (F:∀(w:World) (mg:Str→Option Value) (fa:Addr) (h:Heap),(K w.params).In h→h.Ns mainGlobals mg→mg d.name=some (.ref fa)→
   ∃fd:FuncData,(∀(s:Shared) (u:Value),BindsTo s fd ⟨[u],[]⟩ [(x,u)])∧
    ∀base:Heap,(K w.params).In base→base.Ns mainGlobals mg→a1a l.prog w (K w.params) mg base (CX w) k fa fd [x] (sp w))
  (hsp:∀(w:World) (H:Hp) (a:Addr) (ns:List Int),ns.length≤n→b8N H→SqL (K w.params) H a (ns.map V.int)→sp w [.ref a] H (fun v _=>v=.bl true) fun _ _ _=>False)
  (hCX:∀(w:World) (H:Hp) (s:Shared) (e:Value) (s':Shared),CX w [] H s (fun _ _ _=>False) e s'→False):
  PySem.W.WalkO q loose XP YP l.row.toRowW d [] (fun f vs=>PySem.call f vs):=by
 refine Att.attach_call hn hdf fun w s₀ s₁ mg mb fa o pm cd doc a vs ns G Y ho hd hcd hmg hobj hints hlen hg=>?_
 have KX:=hY w _ Y
 obtain ⟨fd,hb,hF⟩:=F w mg fa _ KX G.T.g hmg
 exact b2F KX G.T.g G.T.b G.T.builtins G.T.nolimit hg hobj hints (Qj hlen hn2) hr hF hb (fun H hO hS=>hsp w H a ns hlen hO hS) fun H e s'=>hCX w H s₁ e s'
theorem b1X {l:Gz} {n k:Nat} {q:Program} {loose:List Str} {XP:(Str→Option Value)→Heap→Prop} {YP:World→Heap→Prop} {d:DefRec} {K:Params→Qe} {CX:CXT} {sp:Qe→Sp} {x:Str}
  (hn:l.most=some n) (hn2:n≤sizeLine) (hdf:d.params.defaults=[]) (hr:a3c k callerA)
  (hY:∀(w:World) (h:Heap),YP w h→(K w.params).In h)
  (F:∀(w:World) (mg:Str→Option Value) (fa:Addr) (h:Heap),(K w.params).In h→h.Ns mainGlobals mg→mg d.name=some (.ref fa)→
   ∃fd:FuncData,(∀(s:Shared) (u:Value),BindsTo s fd ⟨[u],[]⟩ [(x,u)])∧
    ∀base:Heap,(K w.params).In base→base.Ns mainGlobals mg→a1a l.prog w (K w.params) mg base CX k fa fd [x] (sp (K w.params)))
  (hsp:∀(K:Qe) (H:Hp) (a:Addr) (ns:List Int),ns.length≤n→b8N H→SqL K H a (ns.map V.int)→sp K [.ref a] H (fun v _=>v=.bl true) fun _ _ _=>False)
  (hCX:∀(H:Hp) (s:Shared) (e:Value) (s':Shared),CX [] H s (fun _ _ _=>False) e s'→False):
  PySem.W.WalkO q loose XP YP l.row.toRowW d [] (fun f vs=>PySem.call f vs):=
 b4Z (K:=K) (CX:=fun _=>CX) (sp:=fun w=>sp (K w.params)) hn hn2 hdf hr hY F (fun w H a ns h1 h2 h3=>hsp (K w.params) H a ns h1 h2 h3) fun _ H s e s'=>hCX H s e s'












abbrev CX0:CXT:=fun _ _ _ _ _ _=>False
abbrev E0:XK:=fun _ _ _=>False
theorem b0h {X:Cx}:a3h CX0 X E0:=fun _ _ _ _ _ _ _ h=>h.elim
structure Fun (K:Qe) (x qual:Str) (st:Stmt) (f:Addr) (fd:FuncData):Prop where
 ex:∃(oc:Value) (od:Option Addr) (kV doc pm:Value) (an:Option Addr) (cdv ct:Value) (osl:Array (Option Value)),
  fd=Jy x qual (a3A st) (a2W st) (a0a st) .none kV doc pm an cdv ct∧K.lookup f=some ⟨oc,od,.func fd,osl⟩∧Vg K cdv qual=true
 kp:Jg K (.ref f)=true
section
variable {P:Program} {w:World} {K:Qe} {mg:Str→Option Value} {base:Heap}
theorem Fun.ok {x qual:Str} {st:Stmt} {f:Addr} {fd:FuncData} {N ps:List Str} {k:Nat} {sp:Sp} (F:Fun K x qual st f fd) (S:a0f N ps (a0a st)) (len:∀vs H Q E,sp vs H Q E→vs.length=ps.length)
  (hbody:∀(cdv:Value) (A:Around) (outer:List Env) (s:Shared) (H:Hp) (vs:List V) (Q:VK) (E:XK),a3c k (A.deeper (envOfC qual (a0a st) s.heap.objs.size f cdv))→sp vs H Q E→
   ∃t,PSs (b5Z CX0 P w K mg base N qual (a0a st) f cdv A outer s H E).nox (a2W st) t∧t {nx:=fun _ H'=>Q .non H',rt:=Q} (a0t N vs) H):a1a P w K mg base CX0 (k+1) f fd ps sp:=by
 obtain ⟨oc,od,kV,doc,pm,an,cdv,ct,osl,rfl,lk,hcd⟩:=F.ex
 refine c0n lk hcd S len fun A outer s H vs Q E hr hsp=>?_
 obtain ⟨t,h,q⟩:=hbody cdv A outer s H vs Q E hr hsp
 exact ⟨t,h.nox,q⟩
theorem b7t {x qual:Str} {st:Stmt} {f:Addr} {oc:Value} {od an:Option Addr} {osl:Array (Option Value)} {kV doc pm cdv ct:Value} (l:K.lookup f=some ⟨oc,od,.func (Jy x qual (a3A st) (a2W st) (a0a st) .none kV doc pm an cdv ct),osl⟩)
  (c:Vg K cdv qual=true) (k:Jg K (.ref f)=true):Fun K x qual st f (Jy x qual (a3A st) (a2W st) (a0a st) .none kV doc pm an cdv ct):=⟨⟨oc,od,kV,doc,pm,an,cdv,ct,osl,rfl,l,c⟩,k⟩
end
theorem a3p {A:Around} {k:Nat} (hr:a3c k A):A.units+1 < cLine:=Xv (Nat.add_le_add_left (by decide:1≤64) _) hr.units
section
variable {X:Cx}
theorem pv (i:Nat) {x:Str} {pos:Pos} (hN:X.N[i]?=some x:=by rfl) (hv:Vis X.env.scope x:=by first | exact Or.inl rfl | exact Or.inr (Or.inl rfl) | exact Or.inr (Or.inr rfl)) (hd:(x == ("__debug__":Str))=false:=by decide)
  (hcd:(x == ("__classdict__":Str))=false:=by decide):PE X (.Name x pos) (a0l i):=b6o hN hv hd hcd
end
theorem a0S {c A B:Prop} [Decidable c] (h1:c→A) (h2:¬c→B):if c then A else B:=by
 by_cases h:c
 ·rw [if_pos h]
  exact h1 h
 ·rw [if_neg h]
  exact h2 h
def a0g (H H':Hp):Prop:=∀b o,H b=some o→H' b=some o
theorem a0g.refl (H:Hp):a0g H H:=fun _ _ h=>h
theorem a0g.trans {H H1 H2:Hp} (a:a0g H H1) (b:a0g H1 H2):a0g H H2:=fun c o h=>b c o (a c o h)
theorem a0g.free {H H':Hp} (e:a0g H H') {l:Addr} (h:H' l=Option.none):H l=Option.none:=by
 cases q:H l with
 | none=>rfl
 | some o=>
  rw [e l o q] at h
  cases h
theorem a0g.seq {K:Qe} {H H':Hp} {a:Addr} {xs:List V} (e:a0g H H') (h:SqL K H a xs):SqL K H' a xs:=by
 rcases h with (h | ⟨o,h⟩) | h
 ·exact .inl (.inl (e _ _ h))
 ·exact .inl (.inr ⟨o,e _ _ h⟩)
 ·exact .inr h
section
variable {X:Cx}
theorem a9R:a1t X (.builtin "len") (fun xs H Q=>∃a kvs,xs=[V.ref a]∧H a=some (.dK kvs)∧Q (.int kvs.length) H):=by
 intro pins s σ H xs us Q I r h
 obtain ⟨a,kvs,rfl,ha,q⟩:=h
 obtain ⟨u,rfl,ru⟩:=a2w r
 cases ru
 exact c0u I (.inl ha) fun t s' I'=>⟨.int kvs.length,H,I',⟨t,rfl⟩,q⟩
end
end L2
namespace Tx
open PySem PySem.Builtin PySem.Builtin.Str PySem.StrLaws PyProof.Rows
abbrev mk (l:List Nat):Str:=⟨l.toArray⟩
theorem b7B (x:Str):mk x.cps.toList=x:=by obtain ⟨⟨l⟩⟩:=x;rfl
theorem a2y (l:List Nat):(mk l).length=l.length:=by show l.toArray.size=_;simp
theorem a5M (a b:List Nat):mk a++mk b=mk (a++b):=by
 show (⟨a.toArray++b.toArray⟩:Str)=_
 simp
theorem a3Y {a b:List Nat} (h:mk a=mk b):a=b:=by simpa [mk] using h
theorem a9Y (l:List Nat) (c i:Nat):subAt (mk l) (mk [c]) i=decide (l[i]?=some c):=by
 rw [subAt_eq]
 show ((l.drop i).take 1 == [c])=_
 cases e:l[i]? with
 | none=>
  have:l.drop i=[]:=List.drop_eq_nil_of_le (by simpa using e)
  rw [this];simp
 | some d=>
  have hi:=(Xa.mp e)
  obtain ⟨h1,h2⟩:=hi
  rw [Vv h1,h2]
  show (d == c && true)=decide (some d=some c)
  by_cases z:d=c
  ·subst z;simp
  ·simp [z]
theorem b6O (l:List Nat) (i j:Nat):strSub (mk l) i j=mk ((l.drop i).take (j - i)):=by
 rw [←b7B (strSub (mk l) i j),strSub_toList]
theorem a8v (c:Nat) (l:List Nat):Jp (mk l) (mk [c])=decide (l[0]?=some c):=by
 unfold Jp
 rw [a9Y,a2y,a2y]
 cases l with
 | nil=>rfl
 | cons d r=>simp
end Tx
namespace L2
open PySem PySem.Spec PyProof.Rows
abbrev NoE:Value→Shared→Prop:=fun _ _=>False
section
variable {prog:Program} {w:World} {A:Around} {R:Result→Shared→Prop} {s:Shared}
theorem a5o {elt target iter:Expr} {ifs:List Expr} {scope:Scope} {pos:Pos} {it acc:Value} {env:Env} (I:Nat→Shared→Prop)
  (turn:∀n s,I n s→wpAny (model prog w) A (pyNext it) (fun r s₁=>match r with
   | none=>R (.ok .next) s₁
   | some v=>wpAny (model prog w) A (letOwnedTupleGo target it v) (fun _ s₂=>wpAny (model prog w) A (assign target env v) (fun _ s₃=>
     wpAny (model prog w) A (forIn ifs true fun c r=>if r=true then do let ok ←isTrue c env (eval c env);pure (ForInStep.yield ok) else pure (ForInStep.yield r)) (fun ok s₄=>
      if ok=true then wpAny (model prog w) A (eval elt env) (fun x s₅=>wpAny (model prog w) A (call (.builtin "list.append") [acc,x]) (fun _ s₆=>∃m,m < n∧I m s₆) NoE s₅) NoE s₄
      else ∃m,m < n∧I m s₄) NoE s₃) NoE s₂) NoE s₁) NoE s)
  (n:Nat) (h:I n s):codeAny (model prog w) A (.compLoop (.ListComp elt [⟨target,iter,ifs,0⟩] scope pos) 0 it acc env) R s:=by
 refine codeAny_loop rfl I (fun n s hI=>?_) n h
 show wpAny _ A ((compTurn (.ListComp elt [⟨target,iter,ifs,0⟩] scope pos) 0 it acc env).onRaise (fun x=>do noteFrame x env;theTreesLotGoes x)) _ _ s
 refine wpAny_noted ?_
 rw [compTurn_list]
 refine wpAny_noRaise ?_
 refine wpAny_bind (wpAny_standAt (wpAny_bind (wpAny_mono (turn n s hI) (fun r s₁ h₁=>?_) fun _ _ h'=>h')))
 cases r with
 | none=>exact wpAny_pure h₁
 | some v=>
  refine wpAny_bind (wpAny_mono h₁ (fun _ s₂ h₂=>wpAny_bind (wpAny_mono h₂ (fun _ s₃ h₃=>wpAny_bind (wpAny_mono h₃ (fun ok s₄ h₄=>?_) fun _ _ h'=>h')) fun _ _ h'=>h')) fun _ _ h'=>h')
  cases ok with
  | false=>exact wpAny_pure ⟨rfl,h₄⟩
  | true=>exact wpAny_bind (wpAny_bind (wpAny_mono h₄ (fun x s₅ h₅=>wpAny_bind (wpAny_mono h₅ (fun _ s₆ h₆=>wpAny_pure (wpAny_pure ⟨rfl,h₆⟩)) fun _ _ h'=>h')) fun _ _ h'=>h'))
end
def a3k (env:Env):List (Str×NameKind)→List (Str×Addr)→List (Str×Addr)
 | [],cs=>cs
 | (n,k)::r,cs=>a3k env r (if (k == NameKind.free)=true then (n,(env.cells.lookup n).getD 0)::cs else cs)
theorem a2k {scope:Scope} {env:Env} (h:∀y∈scope.names,y.2=NameKind.free→∃c,env.cells.lookup y.1=some c):closureFor scope env=pure (a3k env scope.names []):=by
 have all:∀(l:List (Str×NameKind)) (cs:List (Str×Addr)),(∀y∈l,y.2=NameKind.free→∃c,env.cells.lookup y.1=some c)→
   (forIn l cs fun (x:Str×NameKind) (cs:List (Str×Addr))=>(if (x.2 == NameKind.free)=true then do let a ←cellOf env x.1;pure (ForInStep.yield ((x.1,a)::cs)) else pure (ForInStep.yield cs):Sem (ForInStep (List (Str×Addr)))))=pure (a3k env l cs):=by
  intro l
  induction l with
  | nil=>intro cs _;rfl
  | cons y l ih=>
   intro cs hy
   obtain ⟨n,k⟩:=y
   rw [List.forIn_cons]
   by_cases hk:(k == NameKind.free)=true
   ·obtain ⟨c,hc⟩:=hy (n,k) Qm (by simpa using hk)
    have e1:cellOf env n=pure c:=by unfold cellOf;rw [hc]
    have e2:a3k env ((n,k)::l) cs=a3k env l ((n,c)::cs):=by
     show a3k env l (if (k == NameKind.free)=true then (n,(env.cells.lookup n).getD 0)::cs else cs)=_
     rw [if_pos hk,hc];rfl
    rw [e2,←ih ((n,c)::cs) fun z hz=>hy z (Qp _ hz)]
    simp only [hk,if_true,e1,pure_bind]
   ·have e2:a3k env ((n,k)::l) cs=a3k env l cs:=by
     show a3k env l (if (k == NameKind.free)=true then (n,(env.cells.lookup n).getD 0)::cs else cs)=_
     rw [if_neg hk]
    rw [e2,←ih cs fun z hz=>hy z (Qp _ hz)]
    have hk':(k == NameKind.free)=false:=by simpa using hk
    simp only [hk',Zk,if_false,pure_bind]
 have e:=all scope.names [] h
 unfold closureFor
 first
  | (rw [show (pure (a3k env scope.names []):Sem (List (Str×Addr)))=(pure (a3k env scope.names []) >>= fun cs=>pure cs) from rfl,←e];rfl)
  | (simp only [bind_pure];exact e)
  | (simpa using e)
theorem a5O {env:Env} {x:Str} {c:Addr}:∀{l:List (Str×NameKind)} {cs:List (Str×Addr)},(∀y∈l,y.2=NameKind.free→∃c,env.cells.lookup y.1=some c)→
  (∀y d,cs.lookup y=some d→env.cells.lookup y=some d)→(a3k env l cs).lookup x=some c→env.cells.lookup x=some c
 | [],_,_,hc,h=>hc x c h
 | (n,k)::r,cs,hy,hc,h=>by
  refine a5O (l:=r) (cs:=if (k == NameKind.free)=true then (n,(env.cells.lookup n).getD 0)::cs else cs) (fun z hz=>hy z (Qp _ hz)) (fun y d q=>?_) h
  by_cases hk:(k == NameKind.free)=true
  ·rw [if_pos hk] at q
   obtain ⟨c',hc'⟩:=hy (n,k) Qm (by simpa using hk)
   rw [hc',Yw] at q
   by_cases e:(y == n)=true
   ·rw [e] at q
    have e':y=n:=by simpa using e
    rw [e',hc'];exact q
   ·have e':(y == n)=false:=by simpa using e
    rw [e'] at q
    exact hc y d q
  ·rw [if_neg hk] at q
   exact hc y d q
theorem a4Z {env:Env} {x:Str}:∀{l:List (Str×NameKind)} {cs:List (Str×Addr)},((x,NameKind.free)∈l∨∃c,cs.lookup x=some c)→∃c,(a3k env l cs).lookup x=some c
 | [],_,h=>by
  rcases h with h | h
  ·cases h
  ·exact h
 | (n,k)::r,cs,h=>by
  refine a4Z (l:=r) (cs:=if (k == NameKind.free)=true then (n,(env.cells.lookup n).getD 0)::cs else cs) ?_
  rcases h with h | ⟨c,h⟩
  ·rcases Qn.mp h with e | e
   ·cases e
    refine .inr ?_
    rw [if_pos (by rfl),Yw,beq_self_eq_true]
    exact ⟨_,rfl⟩
   ·exact .inl e
  ·refine .inr ?_
   by_cases hk:(k == NameKind.free)=true
   ·rw [if_pos hk,Yw]
    by_cases e:(x == n)=true
    ·rw [e];exact ⟨_,rfl⟩
    ·have e':(x == n)=false:=by simpa using e
     rw [e'];exact ⟨c,h⟩
   ·rw [if_neg hk];exact ⟨c,h⟩
theorem a1J {env:Env}:∀{names:List (Str×NameKind)} {x:Str},names.lookup x=some .free→
  (names.map fun (n,k)=>if (k == NameKind.free && env.scope.kind == .function && env.kindOf n == some .cell) then (n,NameKind.cell) else (n,k)).lookup x=some .cell∨
  (names.map fun (n,k)=>if (k == NameKind.free && env.scope.kind == .function && env.kindOf n == some .cell) then (n,NameKind.cell) else (n,k)).lookup x=some .free
 | [],_,h=>by simp at h
 | (n,k)::r,x,h=>by
  have ih:=@a1J env r x
  rw [Xj]
  show Jf x ((if (k == NameKind.free && env.scope.kind == .function && env.kindOf n == some .cell)=true then (n,NameKind.cell) else (n,k))::_)=_∨Jf x ((if (k == NameKind.free && env.scope.kind == .function && env.kindOf n == some .cell)=true then (n,NameKind.cell) else (n,k))::_)=_
  cases hx:x == n with
  | true=>
   simp only [Yw,hx] at h
   cases h
   by_cases hc:(NameKind.free == NameKind.free && env.scope.kind == .function && env.kindOf n == some .cell)=true
   ·rw [if_pos hc];exact .inl (by simp only [Yw,hx])
   ·rw [if_neg hc];exact .inr (by simp only [Yw,hx])
  | false=>
   simp only [Yw,hx] at h
   by_cases hc:(k == NameKind.free && env.scope.kind == .function && env.kindOf n == some .cell)=true
   ·rw [if_pos hc];simp only [Yw,hx];exact ih h
   ·rw [if_neg hc];simp only [Yw,hx];exact ih h
theorem a4F {env:Env}:∀{names:List (Str×NameKind)} {x:Str},(∀y∈names,y.2≠NameKind.cell)→
  ((names.map fun (n,k)=>if (k == NameKind.free && env.scope.kind == .function && env.kindOf n == some .cell) then (n,NameKind.cell) else (n,k)).lookup x=some .cell∨
  (names.map fun (n,k)=>if (k == NameKind.free && env.scope.kind == .function && env.kindOf n == some .cell) then (n,NameKind.cell) else (n,k)).lookup x=some .free)→(x,NameKind.free)∈names
 | [],_,_,h=>by rcases h with h | h<;>simp at h
 | (n,k)::r,x,hn,h=>by
  have ih:=@a4F env r x fun y hy=>hn y (Qp _ hy)
  have hk:=hn (n,k) Qm
  rw [Xj] at h
  by_cases hc:(k == NameKind.free && env.scope.kind == .function && env.kindOf n == some .cell)=true
  ·have hk1:k=NameKind.free:=by
    rw [Ql,Ql] at hc
    simpa using hc.1.1
   simp only [hc,if_true,Yw] at h
   cases hx:x == n with
   | true=>have e:x=n:=(by simpa using hx);rw [e,hk1];exact Qm
   | false=>rw [hx] at h;exact Qp _ (ih h)
  ·have hc':(k == NameKind.free && env.scope.kind == .function && env.kindOf n == some .cell)=false:=by simpa using hc
   simp only [hc',Zk,if_false,Yw] at h
   cases hx:x == n with
   | true=>
    rw [hx] at h
    have e:x=n:=by simpa using hx
    rcases h with h | h
    ·exact absurd (Option.some.inj h) hk
    ·rw [e,Option.some.inj h];exact Qm
   | false=>rw [hx] at h;exact Qp _ (ih h)
def a1s (X:Cx) (Nc:List Str) (scope:Scope) (cl:List (Str×Addr)) (C:Addr) (s:Shared) (H:Hp) (ex:List Addr):Cx where
 prog:=X.prog
 w:=X.w
 K:=X.K
 mg:=X.mg
 base:=X.base
 A:=X.A
 N:=Nc
 s₀:=s
 H₀:=H
 env:=compEnvC scope cl C X.env
 outer:=X.stack
 stack:=X.stack
 ex:=ex
 fn:=fun _=>false
 calm:=X.calm
 pn:=[]
 xe:=NoE
def a2l (js:List (Option Nat)) (σ:St):St:=js.map fun o=>match o with
 | none=>none
 | some j=>(σ[j]?).getD none
structure a7e (X:Cx) (Nc:List Str) (js:List (Option Nat)) (scope:Scope):Prop where
 kind:scope.kind=.function
 nocell:∀y∈scope.names,y.2≠NameKind.cell
 names:∀y∈scope.names,y.2=NameKind.local→scope.names.lookup y.1=some NameKind.local
 free:∀y∈scope.names,y.2=NameKind.free→X.env.kindOf y.1=some NameKind.cell∨X.env.kindOf y.1=some NameKind.free
 len:js.length=Nc.length
 map:∀(i:Nat) (y:Str) (j:Nat),Nc[i]?=some y→js[i]?=some (some j)→X.N[j]?=some y∧scope.names.lookup y=some NameKind.free
def b9V (sc:Scope) (N Nc:List Str) (js:List (Option Nat)) (scope:Scope):Bool:=
 scope.kind == .function && scope.names.all (fun y=>y.2 != NameKind.cell) && scope.names.all (fun y=>y.2 != NameKind.local || scope.names.lookup y.1 == some NameKind.local) &&
 scope.names.all (fun y=>y.2 != NameKind.free || sc.names.lookup y.1 == some NameKind.cell || sc.names.lookup y.1 == some NameKind.free) && js.length == Nc.length &&
 (Nc.zip js).all (fun p=>match p.2 with | none=>true | some j=>N[j]? == some p.1 && scope.names.lookup p.1 == some NameKind.free)
theorem a9O {X:Cx} {sc:Scope} {N Nc:List Str} {js:List (Option Nat)} {scope:Scope} (hsc:X.env.scope=sc) (hN:X.N=N) (h:b9V sc N Nc js scope=true):a7e X Nc js scope:=by
 unfold b9V at h
 rw [Ql,Ql,Ql,Ql,Ql] at h
 obtain ⟨⟨⟨⟨⟨h1,h2⟩,h3⟩,h4⟩,h5⟩,h6⟩:=h
 rw [Jb] at h2 h3 h4 h6
 have h5':js.length=Nc.length:=by simpa using h5
 refine ⟨by simpa using h1,fun y hy=>by simpa using h2 y hy,fun y hy e=>?_,fun y hy e=>?_,h5',fun i y j e1 e2=>?_⟩
 ·have q:=h3 y hy
  rw [e] at q
  simpa using q
 ·have q:=h4 y hy
  rw [e] at q
  show X.env.scope.names.lookup y.1=_∨X.env.scope.names.lookup y.1=_
  rw [hsc]
  simpa using q
 ·have hm:(y,some j)∈Nc.zip js:=by
   refine Jq (i:=i) ?_
   rw [List.getElem?_zip_eq_some]
   exact ⟨e1,e2⟩
  have q:=h6 _ hm
  simp only [Ql,beq_iff_eq] at q
  rw [hN]
  exact q
def PTs (X:Cx) (ifs:List Expr) (t:TT):Prop:=
 ∀(pins:List (Addr×Obj)) (s:Shared) (σ:St) (H:Hp) (Q:Bool→Hp→Prop),Inv X pins σ H s→t σ H Q→
  wpAny (model X.prog X.w) X.A (forIn ifs true fun c r=>if r=true then do let ok ←isTrue c X.env (eval c X.env);pure (ForInStep.yield ok) else pure (ForInStep.yield r)) (TP X pins σ Q) X.xe s
def b4m:TT:=fun _ H Q=>Q true H
theorem b4F {X:Cx}:PTs X [] b4m:=fun pins s σ H Q I h=>wpAny_tests_nil ⟨H,I,h⟩
theorem b4t {X:Cx} {c:Expr} {t:TT} (hc:PT X c t):PTs X [c] t:=fun pins s σ H Q I h=>wpAny_tests_one (hc pins s σ H Q I h)
def b4c (js:List (Option Nat)) (wi:TI) (g:TG) (tt:TT) (te:TE):TE:=fun σ H Q=>wi σ H fun J H1=>∀D,H1 D=none→∃W:Nat→Nat→St→Hp→List V→Prop,(∃m,W 0 m (a2l js σ) (upd H1 D (.lst [])) [])∧
 ∀i m σ' H' ys,W i m σ' H' ys→H' D=some (.lst ys)∧((J.stop i H'∧Q (.ref D) H')∨(J.go i H'∧ys.length < sizeLine∧∀x H2,J.yld i H' x H2→g x σ' H2 fun σ2 H3=>tt σ2 H3 fun b H4=>
  if b=true then te σ2 H4 fun v H5=>H5 D=some (.lst ys)∧∃m',m' < m∧W (i+1) m' σ2 (upd H5 D (.lst (ys++[v]))) (ys++[v]) else ∃m',m' < m∧W (i+1) m' σ2 H4 ys))
section
variable {X:Cx} {elt target iter:Expr} {ifs:List Expr} {scope:Scope} {pos:Pos} {Nc:List Str} {js:List (Option Nat)} {wi:TI} {g:TG} {tt:TT} {te:TE}
theorem a4m {pins:List (Addr×Obj)} {σ:St} {H2:Hp} {s₂:Shared} {E:Value→Shared→Prop} {it:Addr} {fp:List Addr} {tn:Nat→Heap→Prop} {J:It} {Q:VK} {RR:Value→Addr→Result→Shared→Prop} (ok:a7e X Nc js scope) (hc:X.calm=true)
  (hg:∀C cl s H ex,PG (a1s X Nc scope cl C s H ex) target g) (ht:∀C cl s H ex,PTs (a1s X Nc scope cl C s H ex) ifs tt) (he:∀C cl s H ex,PE (a1s X Nc scope cl C s H ex) elt te)
  (I2:Inv X pins σ H2 s₂) (T:b5Y X.prog X.w X.K target J fp it tn) (st2:tn 0 s₂.heap) (f2:∀b∈fp,a8u X pins H2 b)
  (h:∀D,H2 D=none→∃W:Nat→Nat→St→Hp→List V→Prop,(∃m,W 0 m (a2l js σ) (upd H2 D (.lst [])) [])∧
   ∀i m σ' H' ys,W i m σ' H' ys→H' D=some (.lst ys)∧((J.stop i H'∧Q (.ref D) H')∨(J.go i H'∧ys.length < sizeLine∧∀x H2,J.yld i H' x H2→g x σ' H2 fun σ2 H3=>tt σ2 H3 fun b H4=>
    if b=true then te σ2 H4 fun v H5=>H5 D=some (.lst ys)∧∃m',m' < m∧W (i+1) m' σ2 (upd H5 D (.lst (ys++[v]))) (ys++[v]) else ∃m',m' < m∧W (i+1) m' σ2 H4 ys)))
  (hRR:∀(D C:Addr) (s':Shared) (H':Hp) (m:Str→Option Value),Inv X pins σ H' s'→s'.heap.Ns C m→a8u X pins H' C→Q (.ref D) H'→RR (.ref D) C (.ok .next) s'):
  wpAny (model X.prog X.w) X.A (newList []) (fun acc s₃=>wpAny (model X.prog X.w) X.A (newFunctionEnv scope X.env.globals (a3k X.env scope.names []) [] X.env.qual none .none (some X.env)) (fun cenv s₄=>
   codeAny (model X.prog X.w) X.A (.compStart (.ListComp elt [⟨target,iter,ifs,0⟩] scope pos) 0 (.ref it) acc {cenv with scope:=relabel scope X.env}) (RR acc cenv.locals) s₄) E s₃) E s₂:=by
 have hfr:∀y∈scope.names,y.2=NameKind.free→∃c,X.env.cells.lookup y.1=some c:=fun y hy e=>I2.ok.has y.1 (ok.free y hy e)
 refine wpAny_newObj_type (wpAny_newFunctionEnv ok.nocell (by intro y hy;simp at hy) (fun h₁ hns₁ hsb₁=>?_) ok.kind)
 dsimp only at hns₁ hsb₁ ⊢
 generalize hHL:s₂.heap.push {cls:=.type "list",dict:=none,data:=.seq ([]:List Value).toArray}=HL at hns₁ hsb₁ ⊢
 have hC:HL.objs.size=s₂.heap.objs.size+1:=by rw [←hHL,Ja]
 have hCle:s₂.heap.objs.size≤HL.objs.size:=by rw [hC];exact Zg _
 have hDC:s₂.heap.objs.size≠HL.objs.size:=by rw [hC];exact Qx (Yv _)
 have old:∀b o,s₂.heap.get? b=some o→h₁.get? b=some o:=fun b o e=>hsb₁.extBut b o (Qx (Xr (Qs e) hCle)) (Qi _ (hHL ▸ Qi _ e))
 have hacc:h₁.get? s₂.heap.objs.size=some {cls:=.type "list",dict:=none,data:=.seq ([]:List Value).toArray}:=hsb₁.extBut _ _ hDC (Qi _ (hHL ▸ Qu _ rfl))
 have hD0:H2 s₂.heap.objs.size=none:=I2.hok.fresh (Qk _)
 have hC0:H2 HL.objs.size=none:=I2.hok.fresh hCle
 obtain ⟨W,⟨m0,w0⟩,turn⟩:=h _ hD0
 have hlook:∀x c,(a3k X.env scope.names []).lookup x=some c→X.env.cells.lookup x=some c:=fun x c e=>a5O hfr (fun y d q=>by simp at q) e
 have hlt:∀b∈fp,b < s₂.heap.objs.size:=fun b hb=>let ⟨o,e,_⟩:=T.obj 0 _ st2 b hb;Qs e
 have okc:(a1s X Nc scope (a3k X.env scope.names []) HL.objs.size s₂ H2 fp).Ok:=by
  refine ⟨I2.ok.mod,by show scope.kind=_;exact ok.kind,I2.ok.glob,I2.ok.blt,hCle,fun x y c e1 e2=>I2.ok.inj x y c (hlook x c e1) (hlook y c e2),fun x hx=>?_,fun x c z _=>absurd z Qq,I2.ok.hd,I2.ok.frames,.inl rfl,fun b hb=>⟨?_,fun x c e=>(f2 b hb).2.2.2.2.1 x c (hlook x c e)⟩,
   I2.bs,Qj I2.ok.bsz I2.sz,fun b o e hb=>?_,fun b hb z=>?_,I2.stack,I2.stkFree⟩
  ·exact a4Z (.inl (a4F ok.nocell hx))
  ·exact Qx (Xr (hlt b hb) hCle)
  ·rcases (f2 b hb).2.2.2.1 with z | z
   ·exact I2.ok.noex b o e z
   ·exact absurd (Xr (Qs e) (Qj I2.ok.bsz z)) (Jr _)
  ·rcases Qn.mp (I2.stkSub b z) with e | e
   ·exact (f2 b hb).2.1 e
   ·exact (f2 b hb).2.2.1 e
 have fpc:∀{H':Hp},(∀b∈fp,H' b=none)→∀b∈fp,a8u (a1s X Nc scope (a3k X.env scope.names []) HL.objs.size s₂ H2 fp) [] H' b:=fun {H'} hn b hb=>
  ⟨hn b hb,(okc.exf b hb).1,okc.exfs b hb,.inl hb,(okc.exf b hb).2,fun p hp=>absurd (show p∈([]:List (Addr×Obj)) from hp) (by simp)⟩
 have Ic:Inv (a1s X Nc scope (a3k X.env scope.names []) HL.objs.size s₂ H2 fp) [] (a2l js σ) (upd H2 s₂.heap.objs.size (.lst [])) {s₂ with heap:=h₁,toks:=s₂.toks+([]:List (Str×Value)).length}:=by
  refine ⟨okc,rfl,I2.bare,Un.laid old (Qk _) hD0,⟨_,hns₁,fun i x v e1 e2 e3=>?_⟩,fun x c e=>?_,?_,fun x c e=>?_,fun p hp=>absurd (show p∈([]:List (Addr×Obj)) from hp) (by simp),?_,?_⟩
  ·have e1':Nc[i]?=some x:=e1
   unfold a2l at e2
   rw [Qr] at e2
   cases ej:js[i]? with
   | none=>rw [ej] at e2;simp at e2
   | some oj=>
    rw [ej] at e2
    cases oj with
    | none=>simp at e2
    | some j=>
     have e2':(σ[j]?).getD none=some v:=by simpa using e2
     have e2'':σ[j]?=some (some v):=by
      cases q:σ[j]? with
      | none=>rw [q] at e2';simp at e2'
      | some z=>rw [q] at e2';simp at e2';rw [e2']
     obtain ⟨hN,hF⟩:=ok.map i x j e1' ej
     have hmem:(x,NameKind.free)∈scope.names:=PySem.mem_of_lookup hF
     have hkX:=ok.free _ hmem rfl
     obtain ⟨m,hn,hl⟩:=I2.loc
     have hvis:Vis X.env.scope x:=by
      rcases hkX with z | z
      ·exact .inr (.inl z)
      ·exact .inr (.inr z)
     obtain ⟨u,ru,lk⟩:=hl j x v hN e2'' hvis
     refine ⟨u,ru,.inr ?_⟩
     rcases lk with ⟨k1,_⟩ | ⟨_,c,ec,ic⟩
     ·have k1':X.env.kindOf x=some NameKind.local:=k1
      rcases hkX with z | z
      ·rw [z] at k1';cases k1'
      ·rw [z] at k1';cases k1'
     ·obtain ⟨c',hc'⟩:=a4Z (env:=X.env) (l:=scope.names) (cs:=[]) (x:=x) (.inl hmem)
      have e':=hlook x c' hc'
      rw [ec] at e'
      cases e'
      exact ⟨a1J hF,c,hc',ic.keeps old⟩
  ·obtain ⟨v,q⟩:=I2.cell x c (hlook x c e)
   exact ⟨v,q.keeps old⟩
  ·show upd H2 s₂.heap.objs.size (.lst []) HL.objs.size=none
   rw [a0d (Ne.symm hDC)];exact hC0
  ·obtain ⟨v,q⟩:=I2.cell x c (hlook x c e)
   rw [a0d (Qx q.lt)]
   exact I2.freeC x c (hlook x c e)
  ·exact I2.hok.laid old (Qk _) ⟨Xg _,[],_,.nil,hacc⟩
  ·show (a2l js σ).length=Nc.length
   unfold a2l
   rw [Qd];exact ok.len
 have back:∀{σ':St} {H':Hp} {s':Shared},Inv (a1s X Nc scope (a3k X.env scope.names []) HL.objs.size s₂ H2 fp) [] σ' H' s'→Inv X pins σ H' s':=fun {σ' H' s'} I4=>
  I2.call' (ch:=fp) I4.os I4.base I4.hok I4.bare fun b hb=>⟨(f2 b hb).2.2.2.1,(f2 b hb).2.1,(f2 b hb).2.2.2.2.1,(f2 b hb).2.2.2.2.2⟩
 have st1:tn 0 h₁:=T.keep 0 _ _ st2 fun b _ o e=>old b o e
 have loop:∀s₃:Shared,s₃={s₂ with heap:=h₁,toks:=s₂.toks+([]:List (Str×Value)).length}→
   codeAny (model X.prog X.w) X.A (.compLoop (.ListComp elt [⟨target,iter,ifs,0⟩] scope pos) 0 (.ref it) (.ref s₂.heap.objs.size) (compEnvC scope (a3k X.env scope.names []) HL.objs.size X.env))
    (RR (.ref s₂.heap.objs.size) HL.objs.size) s₃:=by
  rintro s₃ rfl
  refine a5o (fun n s'=>∃i σ' H' ys,Inv (a1s X Nc scope (a3k X.env scope.names []) HL.objs.size s₂ H2 fp) [] σ' H' s'∧tn i s'.heap∧(∀b∈fp,H' b=none)∧W i n σ' H' ys) ?_ m0
   ⟨0,a2l js σ,_,[],Ic,st1,fun b hb=>by rw [a0d (Qx (hlt b hb))];exact (f2 b hb).1,w0⟩
  rintro n s3 ⟨i,σ3,H3,ys,I3,st3,fr3,w3⟩
  obtain ⟨hD3,tn3⟩:=turn i n σ3 H3 ys w3
  rcases tn3 with ⟨stop,q⟩ | ⟨go,hys,step⟩
  ·refine thn (T.done (a1s X Nc scope (a3k X.env scope.names []) HL.objs.size s₂ H2 fp) rfl rfl rfl hc i [] s3 σ3 H3 NoE I3 (fpc fr3) st3 stop) fun r s4 ⟨hr,I4⟩=>?_
   subst hr
   obtain ⟨m4,n4,_⟩:=I4.loc
   exact hRR _ _ s4 H3 m4 (back I4) n4 (I2.fpOk hCle I4.free) q
  ·refine thn (T.item (a1s X Nc scope (a3k X.env scope.names []) HL.objs.size s₂ H2 fp) rfl rfl rfl hc i [] s3 σ3 H3 NoE I3 (fpc fr3) st3 go) fun r s4 ⟨u,hr,h4⟩=>?_
   subst hr
   refine thn h4 fun _ s5 ⟨x,H5,I5,r5,y5,st5,fr5⟩=>?_
   have I5':=I5.pinned (fpc fr5) (T.obj _ _ st5)
   have fin:∀{σ7:St} {H7:Hp} {s7:Shared} {zs:List V} {m':Nat},Inv (a1s X Nc scope (a3k X.env scope.names []) HL.objs.size s₂ H2 fp) ([]++a5y fp s5.heap) σ7 H7 s7→m' < n→W (i+1) m' σ7 H7 zs→
     ∃m,m < n∧∃i σ' H' ys,Inv (a1s X Nc scope (a3k X.env scope.names []) HL.objs.size s₂ H2 fp) [] σ' H' s7∧tn i s7.heap∧(∀b∈fp,H' b=none)∧W i m σ' H' ys:=fun {σ7 H7 s7 zs m'} I7 hm w7=>by
    refine ⟨m',hm,i+1,σ7,H7,zs,I7.unpinned,T.keep _ _ _ st5 fun b hb o e=>(I7.pin (b,o) (Ye _ (Ye _ (a2t hb e)))).1,fun b hb=>?_,w7⟩
    obtain ⟨o,e,d⟩:=T.obj _ _ st5 b hb
    exact (I7.pin (b,o) (Ye _ (Ye _ (a2t hb e)))).2.1
   refine thn (hg _ _ _ _ _ _ s5 σ3 H5 x u _ I5' r5 (step x H5 y5)) fun _ s6 ⟨σ6,H6,I6,q6⟩=>?_
   refine thn (ht _ _ _ _ _ _ s6 σ6 H6 _ I6 q6) fun b s7 ⟨H7,I7,q7⟩=>?_
   cases b with
   | false=>
    obtain ⟨m',hm,w7⟩:=q7
    exact fin I7 hm w7
   | true=>
    refine thn (he _ _ _ _ _ _ s7 σ6 H7 _ I7 q7) fun v s8 ⟨y,H8,I8,r8,hD8,m',hm,w8⟩=>?_
    refine thn (a0E _ s8 σ6 H8 (.ref s₂.heap.objs.size) [y] (.ref s₂.heap.objs.size) [v] (fun _ H9=>H9=upd H8 s₂.heap.objs.size (.lst (ys++[y]))) I8 rfl (.cons r8 .nil) ⟨_,ys,y,rfl,rfl,hD8,hys,rfl⟩) fun v9 s9 ⟨_,H9,I9,_,e9⟩=>?_
    subst e9
    exact fin I9 hm w8
 exact codeAny_compStart_list (loop _ rfl) (T.self X.A 0 _ _ _ st1 (loop _ rfl))
theorem b4f (ok:a7e X Nc js scope) (hc:X.calm=true) (hi:PI X target iter wi)
  (hg:∀C cl s H ex,PG (a1s X Nc scope cl C s H ex) target g) (ht:∀C cl s H ex,PTs (a1s X Nc scope cl C s H ex) ifs tt) (he:∀C cl s H ex,PE (a1s X Nc scope cl C s H ex) elt te)
  (hs:∀x,foldedSetIterable iter X.env x=pure x:=by intro _;rfl):PE X (.ListComp elt [⟨target,iter,ifs,0⟩] scope pos) (b4c js wi g tt te):=by
 intro pins s σ H Q I h
 have hfr:∀y∈scope.names,y.2=NameKind.free→∃c,X.env.cells.lookup y.1=some c:=fun y hy e=>I.ok.has y.1 (ok.free y hy e)
 rw [eval_ListComp]
 refine wpAny_comprehension_free (use:=none) rfl hs (a2k hfr) ok.kind ok.names (thn (hi pins s σ H _ I h) fun v s1 h1=>thn h1 fun itv s2 h2=>?_)
 obtain ⟨it,fp,tn,J,H2,e,I2,T,st2,f2,h⟩:=h2
 subst e
 refine a4m (RR:=fun acc C=>compPost (model X.prog X.w) X.A X.xe none (EP X pins σ Q) acc C) (Q:=Q) ok hc hg ht he I2 T st2 f2 h ?_
 intro D C s' H' m I' n' fC q
 refine ⟨m,n',fun h' sb=>⟨.ref D,H',?_,rfl,q⟩⟩
 exact I'.turned (t':=s'.toks) (fun b o hb e=>(sb.2 b hb).trans e) fC.1 fC.2.1 fC.2.2.2.1 fC.2.2.2.2.1 fC.2.2.2.2.2
theorem a8m {i:Nat} {y:Str} {py spos:Pos} (ok:a7e X Nc js scope) (hc:X.calm=true) (hi:PI X target iter wi)
  (hg:∀C cl s H ex,PG (a1s X Nc scope cl C s H ex) target g) (ht:∀C cl s H ex,PTs (a1s X Nc scope cl C s H ex) ifs tt) (he:∀C cl s H ex,PE (a1s X Nc scope cl C s H ex) elt te)
  (hN:X.N.Nodup) (hy:X.N[i]?=some y) (hx:Loc X.env.scope y) (hsw:swapsWith (.ListComp elt [⟨target,iter,ifs,0⟩] scope pos) (some (.Name y py)) spos.line X.env=pure true)
  (hs:∀x,foldedSetIterable iter X.env x=pure x:=by intro _;rfl) (hf:X.fn y=true∨X.env.scope.names.lookup y=some .local:=by first | exact .inl rfl | exact .inr rfl | assumption):
  PS X (.Assign [.Name y py] (.ListComp elt [⟨target,iter,ifs,0⟩] scope pos) spos) (fun D σ H=>b4c js wi g tt te σ H fun v H'=>D.nx (σ.set i (some v)) H'):=by
 intro pins s σ H D I h
 have hfr:∀y∈scope.names,y.2=NameKind.free→∃c,X.env.cells.lookup y.1=some c:=fun y hy e=>I.ok.has y.1 (ok.free y hy e)
 rw [exec_Assign_Name_used _ _ _ _ hsw]
 refine wpAny_bind (wpAny_standAt (wpAny_bind ?_))
 show wpAny _ X.A (do let _ ←comprehension (.ListComp elt [⟨target,iter,ifs,0⟩] scope pos) scope X.env _ (newList []) false (eval iter X.env) (some (assign (.Name y py) X.env))) _ _ s
 refine wpAny_bind (thn (wpAny_comprehension_free (use:=some (assign (.Name y py) X.env)) (Q:=fun _ s'=>SP X pins D .next s') rfl hs (a2k hfr) ok.kind ok.names
  (thn (hi pins s σ H _ I h) fun v s1 h1=>thn h1 fun itv s2 h2=>?_)) fun _ s' hq=>wpAny_pure (wpAny_pure hq))
 obtain ⟨it,fp,tn,J,H2,e,I2,T,st2,f2,h⟩:=h2
 subst e
 refine a4m (RR:=fun acc C=>compPost (model X.prog X.w) X.A X.xe (some (assign (.Name y py) X.env)) (fun _ s'=>SP X pins D .next s') acc C) (Q:=fun v H'=>D.nx (σ.set i (some v)) H') ok hc hg ht he I2 T st2 f2 h ?_
 intro Da C s' H' m I' n' fC q
 show wpAny _ X.A (assign (.Name y py) X.env (.ref Da)) _ _ _
 refine wpAny_assign_Name (a5w I' hN hy hx (show a0R (.ref Da) (.ref Da) from rfl) (fun s'' I'' hsb=>?_) hf)
 obtain ⟨a,sb,ha⟩:=hsb
 have hCa:C≠a:=by
  rcases ha with e | e
  ·rw [e];exact fC.2.1
  ·exact fun z=>fC.2.2.2.2.1 y a e z.symm
 refine ⟨m,n'.sameBut sb hCa,fun h' sb'=>⟨σ.set i (some (.ref Da)),H',?_,q⟩⟩
 exact I''.turned (t':=s''.toks) (fun b o hb e=>(sb'.2 b hb).trans e) fC.1 fC.2.1 fC.2.2.2.1 fC.2.2.2.2.1 fC.2.2.2.2.2
end
section
variable {js:List (Option Nat)} {g:TG} {tt:TT} {te:TE} {σ:St} {H:Hp} {Q:VK}
def a4f (J:It) (js:List (Option Nat)) (g:TG) (tt:TT) (te:TE) (σ:St) (H:Hp) (Q:VK):Prop:=
 ∀D,H D=none→∃W:Nat→Nat→St→Hp→List V→Prop,(∃m,W 0 m (a2l js σ) (upd H D (.lst [])) [])∧
 ∀i m σ' H' ys,W i m σ' H' ys→H' D=some (.lst ys)∧((J.stop i H'∧Q (.ref D) H')∨(J.go i H'∧ys.length < sizeLine∧∀x H2,J.yld i H' x H2→g x σ' H2 fun σ2 H3=>tt σ2 H3 fun b H4=>
  if b=true then te σ2 H4 fun v H5=>H5 D=some (.lst ys)∧∃m',m' < m∧W (i+1) m' σ2 (upd H5 D (.lst (ys++[v]))) (ys++[v]) else ∃m',m' < m∧W (i+1) m' σ2 H4 ys))
structure Src (J:It) (n:Nat) (f:Nat→V) (Ok:Hp→Prop):Prop where
 go:∀i H,i < n→Ok H→J.go i H
 yld:∀i H x H',i < n→Ok H→J.yld i H x H'→H'=H∧x=f i
 stop:∀H,Ok H→J.stop n H
theorem a1E {K:Qe} {a:Addr} {xs:List V}:Src (Itl K a) xs.length (fun i=>(xs[i]?).getD .non) (fun H=>SqL K H a xs):=
 ⟨fun i H hi h=>⟨xs,xs[i],h,by simp [hi]⟩,fun i H x H' hi h y=>⟨y.1,by rw [y.2 xs h];rfl⟩,fun H h=>⟨xs,h,Qk _⟩⟩
theorem b0M {K:Qe} {a:Addr} {xs:List V}:Src (Itt K a) xs.length (fun i=>(xs[i]?).getD .non) (fun H=>SqT K H a xs):=
 ⟨fun i H hi h=>⟨xs,xs[i],h,by simp [hi]⟩,fun i H x H' hi h y=>⟨y.1,by rw [y.2 xs h];rfl⟩,fun H h=>⟨xs,h,Qk _⟩⟩
theorem a3V {lo:Int} {n:Nat}:Src (Itr lo n) n (fun i=>.int (lo+i)) (fun _=>True):=
 ⟨fun i H hi _=>hi,fun i H x H' hi _ y=>y,fun H _=>Qk _⟩
theorem a6O {J:It} {n:Nat} {f:Nat→V} {Ok:Hp→Prop} (S:Src J n f Ok) (hn:n≤sizeLine) (Pv:Addr→Nat→St→Hp→List V→Prop) (h0:∀D,H D=none→Pv D 0 (a2l js σ) (upd H D (.lst [])) [])
  (hk:∀D i σ' H' ys,H D=none→i≤n→Pv D i σ' H' ys→Ok H'∧H' D=some (.lst ys)∧ys.length≤i)
  (hs:∀D i σ' H' ys (R:St→Hp→List V→Prop),H D=none→i < n→Pv D i σ' H' ys→(∀a b c,Pv D (i+1) a b c→R a b c)→g (f i) σ' H' fun σ2 H3=>tt σ2 H3 fun b H4=>
   if b=true then te σ2 H4 fun v H5=>H5 D=some (.lst ys)∧R σ2 (upd H5 D (.lst (ys++[v]))) (ys++[v]) else R σ2 H4 ys)
  (hd:∀D σ' H' ys,H D=none→Pv D n σ' H' ys→Q (.ref D) H'):a4f J js g tt te σ H Q:=by
 intro D hD
 refine ⟨fun i m σ' H' ys=>m=n - i∧i≤n∧Pv D i σ' H' ys,⟨n,by simp,Xg _,h0 D hD⟩,?_⟩
 rintro i m σ' H' ys ⟨rfl,hi,p⟩
 obtain ⟨q1,q2,q3⟩:=hk D i σ' H' ys hD hi p
 refine ⟨q2,?_⟩
 by_cases hlt:i < n
 ·refine .inr ⟨S.go i H' hlt q1,by omega,fun x H2 y=>?_⟩
  obtain ⟨rfl,rfl⟩:=S.yld i H' x H2 hlt q1 y
  exact hs D i σ' _ ys (fun σ2 H3 ys'=>∃m',m' < n - i∧(m'=n - (i+1)∧i+1≤n∧Pv D (i+1) σ2 H3 ys')) hD hlt p fun a b c r=>⟨n - (i+1),by omega,rfl,hlt,r⟩
 ·have e:i=n:=by omega
  subst e
  exact .inl ⟨S.stop H' q1,hd D σ' H' ys hD p⟩
end
section
variable {X:Cx}
def c1U:V→Option Value
 | .ty n=>some (.type n)
 | .ref a=>some (.ref a)
 | _=>none
theorem b2P {c:V} {u v:Value} (h:c1U c=some u) (r:a0R c v):v=u:=by
 cases c with
 | ty n=>cases h;exact r
 | ref a=>cases h;exact r
 | _=>cases h
def c3B (K:Qe):List V→Hp→VK→Prop:=fun xs H Q=>∃x c u t b,xs=[x,c]∧c1U c=some u∧a7P K H x t∧Yn K t u=some b∧Q (.bl b) H
theorem a6H:a1t X (.builtin "isinstance") (c3B X.K):=by
 intro pins s σ H xs us Q I r h
 obtain ⟨x,c,u,t,b,rfl,hu,ty,e,q⟩:=h
 obtain ⟨v,u',rfl,rv,ru'⟩:=c0E r
 cases b2P hu ru'
 exact b0r I rv ty e fun tk=>⟨.bl b,H,I.tok _,rfl,q⟩
theorem a7u {bs:List Bool} {its:List Value} (r:a0F (bs.map V.bl) its) {i:Nat} {v:Value} (h:its[i]?=some v):∃b,bs[i]?=some b∧v=.bool b:=by
 have hi:i < its.length:=(Xa.mp h).1
 have hl:=r.length
 rw [Qd] at hl
 have hb:bs[i]?=some bs[i]:=Qc ‹om›
 obtain ⟨u,hu,ru⟩:=r.get (i:=i) (x:=V.bl bs[i]) (by rw [Qr,hb];rfl)
 rw [h] at hu;cases hu
 exact ⟨_,hb,ru⟩
theorem a1g (hc:X.calm=true):a1t X (.builtin "all") (fun xs H Q=>∃(p:Addr) (bs:List Bool),xs=[.ref p]∧SqL X.K H p (bs.map V.bl)∧Q (.bl (bs.all id)) H):=by
 intro pins s σ H xs us Q I r h
 obtain ⟨p,bs,rfl,hq,q⟩:=h
 obtain ⟨u,rfl,ru⟩:=a2w r
 cases ru
 obtain ⟨its,rv,pl,hz⟩:=I.list hq
 have hl:=pl.isList
 have hlt:p < s.heap.objs.size:=by obtain ⟨_,e,_⟩:=hl;exact Qs e
 refine call_all_walk (wpAny_pyIter_list hl ?_)
 refine ⟨s.heap.objs.size,[s.heap.objs.size,p],[s.heap.objs.size],its.toArray.size,_,_,fun i=>(bs[i]?).getD true,rfl,Walks.list (A:=X.A.in1) (I.ok.hd hc) _ p (Qx hlt) its.toArray,
  ⟨⟨_,Qu _ rfl,rfl,rfl⟩,hl.push _⟩,fun i v s' Q' E' hP hQ=>?_,fun h' tk hk=>?_⟩
 ·obtain ⟨b,e,rfl⟩:=a7u rv (i:=i) (v:=v) (by simpa using hP)
  simp only [e,Xs] at hQ
  exact wpAny_truthy_bool hQ
 ·have e:((Yb its.toArray.size).all fun i=>(bs[i]?).getD true)=bs.all id:=by
   have hb:=rv.length
   rw [Qd] at hb
   rw [Qo,←hb];exact LSm.range_all bs
  rw [e]
  exact ⟨.bl (bs.all id),H,I.kept (t':=tk) (LSm.kept_iter hk),rfl,q⟩
theorem a1f (hc:X.calm=true):a1t X (.builtin "any") (fun xs H Q=>∃(p:Addr) (bs:List Bool),xs=[.ref p]∧SqL X.K H p (bs.map V.bl)∧Q (.bl (bs.any id)) H):=by
 intro pins s σ H xs us Q I r h
 obtain ⟨p,bs,rfl,hq,q⟩:=h
 obtain ⟨u,rfl,ru⟩:=a2w r
 cases ru
 obtain ⟨its,rv,pl,hz⟩:=I.list hq
 have hl:=pl.isList
 have hlt:p < s.heap.objs.size:=by obtain ⟨_,e,_⟩:=hl;exact Qs e
 refine call_any_walk (wpAny_pyIter_list hl ?_)
 refine ⟨s.heap.objs.size,[s.heap.objs.size,p],[s.heap.objs.size],its.toArray.size,_,_,fun i=>(bs[i]?).getD false,rfl,Walks.list (A:=X.A.in1) (I.ok.hd hc) _ p (Qx hlt) its.toArray,
  ⟨⟨_,Qu _ rfl,rfl,rfl⟩,hl.push _⟩,fun i v s' Q' E' hP hQ=>?_,fun h' tk hk=>?_⟩
 ·obtain ⟨b,e,rfl⟩:=a7u rv (i:=i) (v:=v) (by simpa using hP)
  simp only [e,Xs] at hQ
  exact wpAny_truthy_bool hQ
 ·have e:((Yb its.toArray.size).any fun i=>(bs[i]?).getD false)=bs.any id:=by
   have hb:=rv.length
   rw [Qd] at hb
   rw [Qo,←hb];exact LSm.range_any bs
  rw [e]
  exact ⟨.bl (bs.any id),H,I.kept (t':=tk) (LSm.kept_iter hk),rfl,q⟩
def c2H:V→Option Int→Option Int→Hp→VK→Prop:=fun x lo hi H Q=>∃z,x=.str z∧z.length≤sizeLine∧Q (.str (Vj z lo hi)) H
theorem b7S:SlR X c2H:=by
 intro pins s σ H x v vl vu lo hi sl Q I rx hs pl pu h
 obtain ⟨z,rfl,hz,q⟩:=h
 obtain ⟨t,rfl⟩:=rx
 obtain ⟨o,ho,hc,hd⟩:=hs
 refine ⟨"str",_,PySem.F.slot_str_getitem.lookup,typeIs_str _ _ _,?_⟩
 have fin:∀(l u:Option Int) (t':Tok) (k:Nat),Q (.str (Vj z l u)) H→EP X pins σ Q (.str (Vj z l u) t') {s with toks:=k}:=fun l u t' k q=>⟨.str _,H,I.tok _,⟨_,rfl⟩,q⟩
 cases pl with
 | none=>
  cases pu with
  | none=>exact wpAny_getItem_str_slice (l:=none) (u:=none) (st:=none) ⟨o,ho,hc,hd⟩ rfl (post_val_or_str ⟨Qj (Wb z _ _) hz,fun t' k=>fin _ _ t' k q⟩)
  | int j uj=>exact wpAny_getItem_str_slice (l:=none) (u:=some (j,uj)) (st:=none) ⟨o,ho,hc,hd⟩ rfl (post_val_or_str ⟨Qj (Wb z _ _) hz,fun t' k=>fin _ _ t' k q⟩)
 | int i ui=>
  cases pu with
  | none=>exact wpAny_getItem_str_slice (l:=some (i,ui)) (u:=none) (st:=none) ⟨o,ho,hc,hd⟩ rfl (post_val_or_str ⟨Qj (Wb z _ _) hz,fun t' k=>fin _ _ t' k q⟩)
  | int j uj=>exact wpAny_getItem_str_slice (l:=some (i,ui)) (u:=some (j,uj)) (st:=none) ⟨o,ho,hc,hd⟩ rfl (post_val_or_str ⟨Qj (Wb z _ _) hz,fun t' k=>fin _ _ t' k q⟩)
theorem a4P:MtR X "str.startswith" (fun x xs H Q=>∃a b,x=.str a∧xs=[.str b]∧Q (.bl (Jp a b)) H):=by
 intro pins s σ H x xs v us Q I rx rs h
 obtain ⟨a,b,rfl,rfl,q⟩:=h
 obtain ⟨t,rfl⟩:=rx
 obtain ⟨u,rfl,t',rfl⟩:=a2w rs
 exact SC.startswith ⟨.bl _,H,I,rfl,q⟩
end
theorem a0y:bootBuiltins "len"=some (.builtin "len"):=by decide+kernel
theorem a3o:bootBuiltins "isinstance"=some (.builtin "isinstance"):=by decide+kernel
theorem a2o:bootBuiltins "all"=some (.builtin "all"):=by decide+kernel
theorem a2q:bootBuiltins "any"=some (.builtin "any"):=by decide+kernel
theorem b0Z:bootBuiltins "str"=some (.type "str"):=by decide+kernel
theorem a8g:bootBuiltins "bool"=some (.type "bool"):=by decide+kernel
theorem a9M:bootBuiltins "int"=some (.type "int"):=by decide+kernel
theorem a0z:bootBuiltins "list"=some (.type "list"):=by decide+kernel
theorem a3R:bootBuiltins "tuple"=some (.type "tuple"):=by decide+kernel
section
variable {X:Cx}
def c0q:R2:=fun x y H Q=>∃i j,x=.str i∧y=.str j∧i.length+j.length≤sizeLine∧Q (.str (i++j)) H
def c0D:R2:=rI0 fun i j=>.int (i+j)
def a8a (K:Qe):R2:=fun x y H Q=>c0D x y H Q∨c0q x y H Q∨c4y x y H Q∨b9j K x y H Q
theorem a0k:OpR X (binaryOp .Add) (a8a X.K):=b9T.or (a8G.or (b9R.or b5b))
theorem a0N {K:Qe} {i j:Int} {H:Hp} {Q:VK}:a8a K (.int i) (.int j) H Q↔Q (.int (i+j)) H:=by
 constructor
 ·rintro (⟨a,b,e1,e2,q⟩ | ⟨a,b,e1,_⟩ | ⟨a,b,_,_,e1,_⟩ | ⟨a,b,_,_,e1,_⟩)
  ·cases e1;cases e2;exact q
  ·cases e1
  ·cases e1
  ·cases e1
 ·exact fun q=>.inl ⟨i,j,rfl,rfl,q⟩
theorem a1Y {K:Qe} {i j:Str} {H:Hp} {Q:VK}:a8a K (.str i) (.str j) H Q↔(i.length+j.length≤sizeLine∧Q (.str (i++j)) H):=by
 constructor
 ·rintro (⟨a,b,e1,_⟩ | ⟨a,b,e1,e2,q⟩ | ⟨a,b,_,_,e1,_⟩ | ⟨a,b,_,_,e1,_⟩)
  ·cases e1
  ·cases e1;cases e2;exact q
  ·cases e1
  ·cases e1
 ·exact fun q=>.inr (.inl ⟨i,j,rfl,rfl,q⟩)
theorem a9e {i j:Int} {H:Hp} {Q:VK}:rEq (.int i) (.int j) H Q↔Q (.bl (decide (i=j))) H:=by
 unfold rEq
 have e:decide (V.int i=V.int j)=decide (i=j):=by
  by_cases h:i=j
  ·subst h;simp
  ·simp [h]
 rw [e]
 exact ⟨fun h=>h.2,fun h=>⟨rfl,h⟩⟩
theorem a8Y {i j:Str} {H:Hp} {Q:VK}:rEq (.str i) (.str j) H Q↔Q (.bl (decide (i=j))) H:=by
 unfold rEq
 have e:decide (V.str i=V.str j)=decide (i=j):=by
  by_cases h:i=j
  ·subst h;simp
  ·simp [h]
 rw [e]
 exact ⟨fun h=>h.2,fun h=>⟨rfl,h⟩⟩
def inS (c s:Str):Bool:=!(Builtin.Str.occurrences s c 0 s.length 1).isEmpty
def c3W:R2:=fun x y H Q=>∃i j,x=.str i∧y=.str j∧Q (.bl (inS i j)) H
def b0V:R2:=fun x y H Q=>∃i j,x=.str i∧y=.str j∧Q (.bl (!inS i j)) H
def b5T (K:Qe):R2:=fun x y H Q=>c3W x y H Q∨rIn K false x y H Q
def a5d (K:Qe):R2:=fun x y H Q=>b0V x y H Q∨rIn K true x y H Q
theorem b6E:OpR X (compareOp .In) c3W:=b1v
theorem b0k:OpR X (compareOp .NotIn) b0V:=a5P
theorem a1N:OpR X (compareOp .In) (b5T X.K):=b6E.or a9z
theorem a2H:OpR X (compareOp .NotIn) (a5d X.K):=b0k.or a5L
def b7M (K:Qe):List V→Hp→VK→Prop:=fun xs H Q=>(∃x n,xs=[x]∧c1K K x H n∧Q (.int n) H)∨∃a kvs,xs=[V.ref a]∧H a=some (.dK kvs)∧Q (.int kvs.length) H
theorem a0x:a1t X (.builtin "len") (b7M X.K):=b2c.or a9R
theorem a0w {K:Qe} {a:Addr} {xs:List V} {H:Hp} {Q:VK} (h:SqL K H a xs) (q:Q (.int xs.length) H):b7M K [.ref a] H Q:=.inl ⟨.ref a,xs.length,rfl,.inl ⟨xs,h,rfl⟩,q⟩
def c0i (K:Qe):V→Option Int→Option Int→Hp→VK→Prop:=fun x lo hi H Q=>c2H x lo hi H Q∨c1B K x lo hi H Q∨c1h K x lo hi H Q
theorem a1I:SlR X (c0i X.K):=b7S.or (b5o.or b9E)
theorem a7r {K:Qe} {z:Str} {lo hi:Option Int} {H:Hp} {Q:VK}:c0i K (.str z) lo hi H Q↔(z.length≤sizeLine∧Q (.str (Vj z lo hi)) H):=by
 constructor
 ·rintro (⟨x,e1,q⟩ | ⟨a,xs,e1,_⟩ | ⟨a,xs,e1,_⟩)
  ·cases e1;exact q
  ·cases e1
  ·cases e1
 ·exact fun q=>.inl ⟨z,rfl,q⟩
theorem a6Q {K:Qe} {z:Str} {i:Int} {H:Hp} {Q:VK}:rIx K (.str z) (.int i) H Q↔(z.length≤sizeLine∧∃c,atI z.cps.toList i=some c∧Q (.str ⟨#[c]⟩) H):=by
 constructor
 ·rintro (⟨p,xs,j,v,e1,_⟩ | ⟨p,xs,j,v,e1,_⟩ | ⟨y,j,c,e1,e2,h1,h2,q⟩)
  ·cases e1
  ·cases e1
  ·cases e1;cases e2;exact ⟨h1,c,h2,q⟩
 ·rintro ⟨h1,c,h2,q⟩
  exact .inr (.inr ⟨z,i,c,rfl,rfl,h1,h2,q⟩)
theorem a0m {K:Qe} {a:Addr} {xs:List V} {i:Int} {v:V} {H:Hp} {Q:VK} (h:SqL K H a xs) (e:atI xs i=some v) (q:Q v H):rIx K (.ref a) (.int i) H Q:=.inl ⟨a,xs,i,v,rfl,rfl,h,e,q⟩
theorem a0V {K:Qe} {a:Addr} {xs:List V} {i:Int} {v:V} {H:Hp} {Q:VK} (h:SqT K H a xs) (e:atI xs i=some v) (q:Q v H):rIx K (.ref a) (.int i) H Q:=.inr (.inl ⟨a,xs,i,v,rfl,rfl,h,e,q⟩)
theorem a0Y {C:Int→Int→Prop} {g:Int→Int→V} {i j:Int} {H:Hp} {Q:VK}:rI C g (.int i) (.int j) H Q↔(C i j∧Q (g i j) H):=by
 constructor
 ·rintro ⟨a,b,e1,e2,q⟩;cases e1;cases e2;exact q
 ·exact fun q=>⟨i,j,rfl,rfl,q⟩
theorem b0U {g:Int→Int→V} {i j:Int} {H:Hp} {Q:VK}:rI0 g (.int i) (.int j) H Q↔Q (g i j) H:=by
 constructor
 ·rintro ⟨a,b,e1,e2,q⟩;cases e1;cases e2;exact q
 ·exact fun q=>⟨i,j,rfl,rfl,q⟩
theorem b3C {g:Int→V} {i:Int} {H:Hp} {Q:VK}:rU g (.int i) H Q↔Q (g i) H:=by
 constructor
 ·rintro ⟨a,e1,q⟩;cases e1;exact q
 ·exact fun q=>⟨i,rfl,q⟩
theorem a1q {k:Bool} {P:Bool→Prop}:(∃c,V.bl k=V.bl c∧P c)↔P k:=by
 constructor
 ·rintro ⟨c,e,q⟩;cases e;exact q
 ·exact fun q=>⟨k,rfl,q⟩
theorem a3M {k:Int} {P:Int→Prop}:(∃c,V.int k=V.int c∧P c)↔P k:=by
 constructor
 ·rintro ⟨c,e,q⟩;cases e;exact q
 ·exact fun q=>⟨k,rfl,q⟩
theorem a0b {v:V} {P:V→Prop}:(∃x,some (some v)=some (some x)∧P x)↔P v:=by
 constructor
 ·rintro ⟨c,e,q⟩;cases e;exact q
 ·exact fun q=>⟨v,rfl,q⟩
end
theorem a0g.upd {H:Hp} {a:Addr} {o:HO} (h:H a=none):a0g H (upd H a o):=fun b u e=>by rw [a0d (a0c e h)];exact e
section
variable {X:Cx} {st:Stmt} {a4d:List Stmt} {t u:TS}
def c5b (t u:TS):TS:=fun D σ H=>∃M:St→Hp→Prop,t {D with nx:=M} σ H∧∀σ' H',M σ' H'→u D σ' H'
theorem b5K (h1:PS X st t) (h2:PSs X a4d u):PSs X (st::a4d) (c5b t u):=by
 intro pins s σ H D I h
 obtain ⟨M,q1,q2⟩:=h
 refine wpAny_execs_cons (thn (h1 pins s σ H {D with nx:=M} I q1) fun f s1 q=>?_)
 cases f with
 | next=>
  obtain ⟨σ',H',I',q⟩:=q
  exact h2 pins s1 σ' H' D I' (q2 σ' H' q)
 | ret v=>exact q
 | brk=>exact q
 | cont=>exact q
end
theorem a2M {K:Qe}:Yn K (.type "bool") (.type "bool")=some true:=by kernel_rfl
theorem a1o {k:Addr} {P:Addr→Prop}:(∃c,V.ref k=V.ref c∧P c)↔P k:=by
 constructor
 ·rintro ⟨c,e,q⟩;cases e;exact q
 ·exact fun q=>⟨k,rfl,q⟩
theorem b0N {i j:Str} {H:Hp} {Q:VK}:rNe (.str i) (.str j) H Q↔Q (.bl (!decide (i=j))) H:=by
 unfold rNe
 have e:decide (V.str i=V.str j)=decide (i=j):=by
  by_cases h:i=j
  ·subst h;simp
  ·simp [h]
 rw [e]
 exact ⟨fun h=>h.2,fun h=>⟨rfl,h⟩⟩
theorem a2O {α:Type} {xs:List α} {i:Int} (h0:0≤i) (h1:i < xs.length):∃v,atI xs i=some v∧v∈xs∧xs[i.toNat]?=some v:=by
 have hk:i.toNat < xs.length:=by omega
 refine ⟨xs[i.toNat],?_,Qv hk,Qc hk⟩
 unfold atI ixN
 rw [if_pos h0,if_pos h1]
 exact Qc hk
theorem a1y {i j:Int} (h:0 < j):0≤i % j∧i % j < j:=⟨Int.emod_nonneg _ ‹om›,Int.emod_lt_of_pos _ h⟩
theorem a2j {A B:Prop}:(if false=true then A else B)=B:=if_neg Qq
theorem b7f {A B:Prop}:(if true=false then A else B)=B:=if_neg ‹dc›
theorem a0I {H:Hp} {p:Addr} (hp:H p=none) (o:HO):∃H',upd H p o=H'∧a0g H H'∧H' p=some o:=⟨_,rfl,a0g.upd hp,a0e⟩
def c2W (J:It) (g:TG) (tb:TS) (D:b1q) (σ:St) (H:Hp):Prop:=∃W:Nat→Nat→St→Hp→Prop,(∃m,W 0 m σ H)∧∀i m σ H,W i m σ H→
 (J.stop i H∧D.nx σ H)∨(J.go i H∧∃N:St→Hp→Prop,(∀σ' H',N σ' H'→∃m',m' < m∧W (i+1) m' σ' H')∧∀x H',J.yld i H x H'→g x σ H' fun σ2 H2=>tb {D with nx:=N,ct:=N,bk:=D.nx} σ2 H2)
theorem a0J {wi:TI} {g:TG} {tb:TS} {D:b1q} {σ:St} {H:Hp}:c3R wi g tb D σ H=wi σ H fun J H1=>c2W J g tb D σ H1:=rfl
theorem a0p {js:List (Option Nat)} {wi:TI} {g:TG} {tt:TT} {te:TE} {σ:St} {H:Hp} {Q:VK}:b4c js wi g tt te σ H Q=wi σ H fun J H1=>a4f J js g tt te σ H1 Q:=rfl
theorem a4p {J:It} {n:Nat} {f:Nat→V} {Ok:Hp→Prop} {js:List (Option Nat)} {te:TE} {σ:St} {H:Hp} {Q:VK} (S:Src J n f Ok) (hn:n≤sizeLine) (σr:St) (hσ:a2l js σ=none::σr) (Pr:Nat→V→Prop)
  (hOk:∀H',a0g H H'→Ok H') (hs:∀i H' (R:V→Hp→Prop),i < n→a0g H H'→(∀v H'',a0g H' H''→Pr i v→R v H'')→te (some (f i)::σr) H' R)
  (hd:∀D H' ys,H D=none→a0g H H'→H' D=some (.lst ys)→ys.length=n→(∀i v,ys[i]?=some v→Pr i v)→Q (.ref D) H'):a4f J js (a0s 0) b4m te σ H Q:=by
 refine a6O S hn (fun D i σ' H' ys=>(∃a,σ'=a::σr)∧a0g H H'∧H' D=some (.lst ys)∧ys.length=i∧∀j v,ys[j]?=some v→Pr j v) ?_ ?_ ?_ ?_
 ·intro D hD
  exact ⟨⟨none,hσ⟩,a0g.upd hD,a0e,rfl,fun j v e=>by simp at e⟩
 ·rintro D i σ' H' ys hD hi ⟨_,s,h,hl,_⟩
  exact ⟨hOk _ s,h,Uu hl⟩
 ·rintro D i σ' H' ys R hD hi ⟨⟨a,rfl⟩,s,h,hl,hp⟩ hR
  show te (some (f i)::σr) H' _
  refine hs i H' _ hi s fun v H'' s2 pv=>⟨s2 _ _ h,hR _ _ _ ⟨⟨_,rfl⟩,?_,a0e,by simp [hl],fun j v' e=>?_⟩⟩
  ·intro b o e
   rw [a0d (a0c e hD)]
   exact s2 b o (s b o e)
  ·rw [Wz] at e
   split at e
   ·exact hp j v' e
   ·rename_i hj
    have e1:j=ys.length:=by
     have:=(Xa.mp e).1
     simp at this;omega
    subst e1
    simp at e
    subst e
    rw [hl];exact pv
 ·rintro D σ' H' ys hD ⟨_,s,h,hl,hp⟩
  exact hd D H' ys hD s h hl hp
section
variable {K:Qe} {H:Hp} {Q:VK}
theorem a5Z {z:Bool}:c3B K [.bl z,.ty "bool"] H Q↔Q (.bl true) H:=by
 constructor
 ·rintro ⟨x,c,u,t,b,e1,hu,ty,e,q⟩
  cases e1;cases hu;cases ty
  rw [a2M] at e;cases e;exact q
 ·exact fun q=>⟨_,_,_,_,_,rfl,rfl,.bl z,a2M,q⟩
end
section
variable {K:Qe} {H:Hp} {Q:VK}
def b0B:V→List V→Hp→VK→Prop:=fun x xs H Q=>∃a b,x=.str a∧xs=[.str b]∧Q (.bl (Jp a b)) H
def b9I (K:Qe):V→List V→Hp→VK→Prop:=fun x xs H Q=>∃z p ys,x=.str z∧xs=[.ref p]∧(SqL K H p (ys.map V.str)∨SqT K H p (ys.map V.str))∧(ys.map (·.length)).sum+ys.length * z.length≤16777216∧Q (.str (Txt.join z ys)) H
theorem a8e {a b:Str}:b0B (.str a) [.str b] H Q↔Q (.bl (Jp a b)) H:=⟨by rintro ⟨_,_,e1,e2,q⟩;cases e1;cases e2;exact q,fun q=>⟨_,_,rfl,rfl,q⟩⟩
theorem a7G {z:Str} {p:Addr} {ys:List Str} (h:SqL K H p (ys.map V.str)∨SqT K H p (ys.map V.str)) (hl:(ys.map (·.length)).sum+ys.length * z.length≤16777216) (q:Q (.str (Txt.join z ys)) H):b9I K (.str z) [.ref p] H Q:=⟨z,p,ys,rfl,rfl,h,hl,q⟩
theorem b0f {z:Str} {P:Prop}:(tyV K "str" (.str z) H∧P)↔P:=⟨fun h=>h.2,fun h=>⟨rfl,h⟩⟩
def b6n:List V→Hp→VK→Prop:=fun xs H Q=>(∃i,xs=[.int i]∧Q (.int i) H)∨∃k,xs=[.bl k]∧Q (.int (if k then 1 else 0)) H
theorem b1V {k:Bool}:b6n [.bl k] H Q↔Q (.int (if k then 1 else 0)) H:=⟨by
 rintro (⟨_,e,q⟩ | ⟨_,e,q⟩)
 ·cases e
 ·cases e;exact q,fun q=>.inr ⟨_,rfl,q⟩⟩
def b7p (K:Qe):List V→Hp→VK→Prop:=fun xs H Q=>∃p ys,xs=[.ref p]∧((SqL K H p ys∧∀l,H l=none→Q (.ref l) (upd H l (.tup ys)))∨SqT K H p ys∧Q (.ref p) H)
def b4e (K:Qe):List V→Hp→VK→Prop:=fun xs H Q=>∃p ys,xs=[.ref p]∧(SqL K H p ys∨SqT K H p ys)∧∀l,H l=none→Q (.ref l) (upd H l (.lst ys))
end
mutual
inductive Den (K:Qe) (H:Hp):V→PyData→Prop
 | non:Den K H .non .none
 | bl (b:Bool):Den K H (.bl b) (.bool b)
 | int (i:Int):Den K H (.int i) (.int i)
 | str (x:Str):Den K H (.str x) (.str x)
 | lst {a:Addr} {xs:List V} {ds:List PyData}:SqL K H a xs→DenAll K H xs ds→Den K H (.ref a) (.list ds)
 | tup {a:Addr} {xs:List V} {ds:List PyData}:SqT K H a xs→DenAll K H xs ds→Den K H (.ref a) (.tuple ds)
inductive DenAll (K:Qe) (H:Hp):List V→List PyData→Prop
 | nil:DenAll K H [] []
 | cons {x:V} {xs:List V} {d:PyData} {ds:List PyData}:Den K H x d→DenAll K H xs ds→DenAll K H (x::xs) (d::ds)
end
theorem a2B {K:Qe} {H:Hp}:∀ys:List Str,DenAll K H (ys.map V.str) (ys.map Yk)
 | []=>.nil
 | y::ys=>.cons (.str y) (a2B ys)
def c3a (K:Qe):R2:=fun x y H Q=>∃d e,Den K H x d∧Den K H y e∧Ji d=true∧Ji e=true∧Q (.bl (Yd d e)) H
def c4w (K:Qe):R2:=fun x y H Q=>∃d e,Den K H x d∧Den K H y e∧Ji d=true∧Ji e=true∧Q (.bl (!PyData.eqv d e)) H
def c0f (K:Qe):R2:=fun x y H Q=>rEq x y H Q∨c3a K x y H Q
def b5U (K:Qe):R2:=fun x y H Q=>rNe x y H Q∨c4w K x y H Q
section
variable {K:Qe} {H:Hp} {Q:VK}
theorem a1z {i j:Str}:c0f K (.str i) (.str j) H Q↔Q (.bl (decide (i=j))) H:=by
 constructor
 ·rintro (h | ⟨d,e,h1,h2,_,_,q⟩)
  ·exact a8Y.mp h
  ·cases h1;cases h2
   rw [show decide (i=j)=Yd (.str i) (.str j) from by simp only [Yd];by_cases z:i=j<;>simp [z]];exact q
 ·exact fun q=>.inl (a8Y.mpr q)
theorem a0G {i j:Int}:c0f K (.int i) (.int j) H Q↔Q (.bl (decide (i=j))) H:=by
 constructor
 ·rintro (h | ⟨d,e,h1,h2,_,_,q⟩)
  ·exact a9e.mp h
  ·cases h1;cases h2
   rw [show decide (i=j)=Yd (.int i) (.int j) from by simp only [Yd];by_cases z:i=j<;>simp [z]];exact q
 ·exact fun q=>.inl (a9e.mpr q)
theorem a4V {i j:Str}:b5U K (.str i) (.str j) H Q↔Q (.bl (!decide (i=j))) H:=by
 constructor
 ·rintro (h | ⟨d,e,h1,h2,_,_,q⟩)
  ·exact b0N.mp h
  ·cases h1;cases h2
   rw [show decide (i=j)=Yd (.str i) (.str j) from by simp only [Yd];by_cases z:i=j<;>simp [z]];exact q
 ·exact fun q=>.inl (b0N.mpr q)
end
section
variable {X:Cx}
theorem b1m:MtR X "str.startswith" b0B:=a4P
theorem a4J:∀{ys:List Str} {us:List Value},a0F (ys.map V.str) us→StrsAre us ys
 | [],_,r=>by rw [Vz] at r;cases r;exact .nil
 | y::ys,_,r=>by
  rw [Xj] at r
  cases r with
  | cons h t=>obtain ⟨tk,rfl⟩:=h;exact .cons y tk (a4J t)
theorem b1a:MtR X "str.join" (b9I X.K):=by
 intro pins s σ H x xs v us Q I rx rs h
 obtain ⟨z,p,ys,rfl,rfl,hq,hl,q⟩:=h
 obtain ⟨t,rfl⟩:=rx
 obtain ⟨u,rfl,ru⟩:=a2w rs
 cases ru
 rcases hq with hq | hq
 ·obtain ⟨its,r,pl,_⟩:=I.list hq
  exact join_list pl.isList (by simpa using a4J r) hl fun t' k=>⟨.str _,H,I.tok _,⟨_,rfl⟩,q⟩
 ·obtain ⟨its,r,pl,_⟩:=I.tuple hq
  exact join_tuple pl (by simpa using a4J r) hl fun t' k=>⟨.str _,H,I.tok _,⟨_,rfl⟩,q⟩
theorem a9q:a1t X (.type "int") b6n:=a9D
theorem a4C:a1t X (.type "tuple") (b7p X.K):=by
 intro pins s σ H xs us Q I r h
 obtain ⟨p,ys,e,h⟩:=h
 exact a5j pins s σ H xs us Q I r ⟨p,ys,e,h⟩
theorem a0u:a1t X (.type "list") (b4e X.K):=a5s
mutual
theorem Den.reads {pins:List (Addr×Obj)} {σ:St} {H:Hp} {s:Shared} (I:Inv X pins σ H s):∀{x:V} {d:PyData} {u:Value},Den X.K H x d→a0R x u→∃as,Reads s.heap u d as
 | _,_,_,.non,r=>by cases r;exact ⟨_,.none⟩
 | _,_,_,.bl b,r=>by cases r;exact ⟨_,.bool b⟩
 | _,_,_,.int i,r=>by obtain ⟨t,rfl⟩:=r;exact ⟨_,.int i t⟩
 | _,_,_,.str x,r=>by obtain ⟨t,rfl⟩:=r;exact ⟨_,.str x t⟩
 | _,_,_,.lst h hs,r=>by
  cases r
  obtain ⟨its,rv,pl,_⟩:=I.list h
  obtain ⟨o,ho,hc,n,hd⟩:=pl.isList
  obtain ⟨as,ra⟩:=DenAll.reads I hs rv
  exact ⟨_,.list ho hc hd (by simpa using ra)⟩
 | _,_,_,.tup h hs,r=>by
  cases r
  obtain ⟨its,rv,pl,_⟩:=I.tuple h
  obtain ⟨o,ho,hc,n,hd⟩:=pl
  obtain ⟨as,ra⟩:=DenAll.reads I hs rv
  exact ⟨_,.tuple ho hc hd (by simpa using ra)⟩
theorem DenAll.reads {pins:List (Addr×Obj)} {σ:St} {H:Hp} {s:Shared} (I:Inv X pins σ H s):∀{xs:List V} {ds:List PyData} {us:List Value},DenAll X.K H xs ds→a0F xs us→∃as,ReadsAll s.heap us ds as
 | _,_,_,.nil,r=>by cases r;exact ⟨_,.nil⟩
 | _,_,_,.cons h hs,r=>by
  cases r with
  | cons r1 r2=>
   obtain ⟨as,ra⟩:=Den.reads I h r1
   obtain ⟨bs,rb⟩:=DenAll.reads I hs r2
   exact ⟨_,.cons ra rb⟩
end
theorem b6t (hu:X.A.units+64 < cLine):OpR X (compareOp .Eq) (c3a X.K):=by
 intro pins s σ H x y v u Q I rx ry h
 obtain ⟨d,e,h1,h2,s1,s2,q⟩:=h
 obtain ⟨as,ra⟩:=h1.reads I rx
 obtain ⟨bs,rb⟩:=h2.reads I ry
 exact eq_dataH ra rb s1 s2 hu ⟨.bl _,H,I,rfl,q⟩
theorem b8T (hu:X.A.units+64 < cLine):OpR X (compareOp .NotEq) (c4w X.K):=by
 intro pins s σ H x y v u Q I rx ry h
 obtain ⟨d,e,h1,h2,s1,s2,q⟩:=h
 obtain ⟨as,ra⟩:=h1.reads I rx
 obtain ⟨bs,rb⟩:=h2.reads I ry
 exact ne_dataH ra rb s1 s2 hu ⟨.bl _,H,I,rfl,q⟩
theorem a0T (hu:X.A.units+64 < cLine):OpR X (compareOp .Eq) (c0f X.K):=c0L.or (b6t hu)
theorem a3j (hu:X.A.units+64 < cLine):OpR X (compareOp .NotEq) (b5U X.K):=c0N.or (b8T hu)
variable {K:Qe}
theorem a9l (h:X.K=K):OpR X (binaryOp .Add) (a8a K):=h ▸ a0k
theorem a9K (h:X.K=K):OpR X (compareOp .In) (b5T K):=h ▸ a1N
theorem a2r (h:X.K=K):OpR X (compareOp .NotIn) (a5d K):=h ▸ a2H
theorem a7c (hu:X.A.units+64 < cLine) (h:X.K=K):OpR X (compareOp .Eq) (c0f K):=h ▸ a0T hu
theorem b9x (hu:X.A.units+64 < cLine) (h:X.K=K):OpR X (compareOp .NotEq) (b5U K):=h ▸ a3j hu
theorem a2n (h:X.K=K):IxR X (rIx K):=h ▸ a0i
theorem b5u (h:X.K=K):SlR X (c0i K):=h ▸ a1I
end
end L2
namespace L2
open PySem PySem.Spec PyProof.Rows PySem.W
end L2
namespace L2
open PySem PySem.Spec PyProof.Rows
theorem b4y {J:It} {n:Nat} {f:Nat→V} {Ok:Hp→Prop} {js:List (Option Nat)} {te:TE} {σ:St} {H:Hp} {Q:VK} (S:Src J n f Ok) (hn:n≤sizeLine) (σr:St) (hσ:a2l js σ=none::σr) (Pr:Addr→Nat→V→Hp→Prop)
  (mono:∀D i v (H1 H2:Hp),(∀b o,b≠D→H1 b=some o→H2 b=some o)→Pr D i v H1→Pr D i v H2)
  (hOk:∀H',a0g H H'→Ok H') (hs:∀D i H' (R:V→Hp→Prop),i < n→H D=none→a0g H H'→(∃ys,H' D=some (.lst ys))→(∀v H'',a0g H' H''→Pr D i v H''→R v H'')→te (some (f i)::σr) H' R)
  (hd:∀D H' ys,H D=none→a0g H H'→H' D=some (.lst ys)→ys.length=n→(∀i v,ys[i]?=some v→Pr D i v H')→Q (.ref D) H'):a4f J js (a0s 0) b4m te σ H Q:=by
 refine a6O S hn (fun D i σ' H' ys=>(∃a,σ'=a::σr)∧a0g H H'∧H' D=some (.lst ys)∧ys.length=i∧∀j v,ys[j]?=some v→Pr D j v H') ?_ ?_ ?_ ?_
 ·intro D hD
  exact ⟨⟨none,hσ⟩,a0g.upd hD,a0e,rfl,fun j v e=>by simp at e⟩
 ·rintro D i σ' H' ys hD hi ⟨_,s,h,hl,_⟩
  exact ⟨hOk _ s,h,Uu hl⟩
 ·rintro D i σ' H' ys R hD hi ⟨⟨a,rfl⟩,s,h,hl,hp⟩ hR
  show te (some (f i)::σr) H' _
  refine hs D i H' _ hi hD s ⟨_,h⟩ fun v H'' s2 pv=>⟨s2 _ _ h,hR _ _ _ ⟨⟨_,rfl⟩,?_,a0e,by simp [hl],fun j v' e=>?_⟩⟩
  ·intro b o e
   rw [a0d (a0c e hD)]
   exact s2 b o (s b o e)
  ·have up:∀b o,b≠D→H'' b=some o→upd H'' D (.lst (ys++[v])) b=some o:=fun b o hb e=>by rw [a0d hb];exact e
   rw [Wz] at e
   split at e
   ·exact mono _ _ _ _ _ (fun b o hb e=>up b o hb (s2 b o e)) (hp j v' e)
   ·have e1:j=ys.length:=by
     have:=(Xa.mp e).1
     simp at this;omega
    subst e1
    simp at e
    subst e
    rw [hl];exact mono _ _ _ _ _ up pv
 ·rintro D σ' H' ys hD ⟨_,s,h,hl,hp⟩
  exact hd D H' ys hD s h hl hp
theorem a3C {J:It} {n:Nat} {f:Nat→V} {Ok:Hp→Prop} {js:List (Option Nat)} {tt:TT} {te:TE} {σ:St} {H:Hp} {Q:VK} (S:Src J n f Ok) (hn:n≤sizeLine) (σr:St) (hσ:a2l js σ=none::σr) (keep:Nat→Bool) (val:Nat→V)
  (hOk:∀H',a0g H H'→Ok H') (hs:∀i H' (R:Bool→Hp→Prop),i < n→a0g H H'→(∀H'',a0g H' H''→R (keep i) H'')→tt (some (f i)::σr) H' R)
  (he:∀i H' (R:V→Hp→Prop),i < n→a0g H H'→(∀H'',a0g H' H''→R (val i) H'')→te (some (f i)::σr) H' R)
  (hd:∀D H',H D=none→a0g H H'→H' D=some (.lst (((Yb n).filter keep).map val))→Q (.ref D) H'):a4f J js (a0s 0) tt te σ H Q:=by
 refine a6O S hn (fun D i σ' H' ys=>(∃a,σ'=a::σr)∧a0g H H'∧H' D=some (.lst ys)∧ys=((Yb i).filter keep).map val) ?_ ?_ ?_ ?_
 ·intro D hD
  exact ⟨⟨none,hσ⟩,a0g.upd hD,a0e,rfl⟩
 ·rintro D i σ' H' ys hD hi ⟨_,s,h,rfl⟩
  refine ⟨hOk _ s,h,?_⟩
  rw [Qd]
  exact Qj (Qz _ _) (by simp)
 ·rintro D i σ' H' ys R hD hi ⟨⟨a,rfl⟩,s,h,rfl⟩ hR
  show tt (some (f i)::σr) H' _
  refine hs i H' _ hi s fun H2 s2=>?_
  cases hk:keep i with
  | false=>
   rw [if_neg Qq]
   refine hR _ _ _ ⟨⟨_,rfl⟩,s.trans s2,s2 _ _ h,?_⟩
   rw [Uv,Jz,Jh,hk];simp
  | true=>
   rw [if_pos rfl]
   refine he i H2 _ hi (s.trans s2) fun H3 s3=>⟨s3 _ _ (s2 _ _ h),hR _ _ _ ⟨⟨_,rfl⟩,?_,a0e,?_⟩⟩
   ·intro b o e
    rw [a0d (a0c e hD)]
    exact s3 b o (s2 b o (s b o e))
   ·rw [Uv,Jz,Jh,hk];simp
 ·rintro D σ' H' ys hD ⟨_,s,h,rfl⟩
  exact hd D H' hD s h
structure b7F (K:Qe) (C:Addr) (m:Str) (f:Addr):Prop where
 ga:Vr K (.ref C) "__getattribute__"=some (some (.builtin "type.__getattribute__"))
 rd:PySem.W.readsIn K C (.type "type")=true
 at_:PySem.W.findCls K (.ref C) (.type "type") m=some (.val (.ref f))
 kp:Jg K (.ref f)=true
structure TyI (K:Qe) (C:Addr):Prop where
 ha:Yz K (.ref C) "__class__"=some (some (.builtin "object.__class__"))
 hn:Vr K (.builtin "object.__class__") "__get__"=some (some (.builtin "getset_descriptor.__get__"))
 htk:Gy K (.builtin "object.__class__")=some true
 hm:PySem.W.mroIn K C (.type "object")=some true
theorem b8P {K:Qe} {C D:Addr} {cd:ClassData} {b:Bool} (hc:PySem.W.clsIn K D=some cd) (ht:Wr K (.ref D)=some (.type "type")) (hs:Gd K (.ref C) (.ref D)=some b) (ho:Gd K (.ref C) (.ref C)=some true):
  Yn K (.ref C) (.ref D)=some b:=by
 unfold Yn
 by_cases e:(Value.ref C == Value.ref D)=true
 ·rw [if_pos e]
  have e':C=D:=by
   have:=eq_of_beq e
   injection this
  rw [←e',ho] at hs
  exact hs
 ·rw [if_neg e]
  show (if ((PySem.W.clsIn K D).isSome && Wr K (.ref D) == some (.type "type"))=true then Gd K (.ref C) (.ref D) else none)=_
  rw [hc,ht,if_pos (by simp),hs]
section
variable {X:Cx}
def c4S:R2:=fun x y H Q=>∃i j,x=.str i∧y=.str j∧Q (.bl (decide (i.cps.toList < j.cps.toList))) H
def c1M:R2:=fun x y H Q=>rI0 (fun i j=>.bl (decide (i < j))) x y H Q∨c4S x y H Q
theorem a3W:OpR X (compareOp .Lt) c1M:=c0v.or a9o
theorem a2v {i j:Int} {H:Hp} {Q:VK}:c1M (.int i) (.int j) H Q↔Q (.bl (decide (i < j))) H:=by
 constructor
 ·rintro (⟨a,b,e1,e2,q⟩ | ⟨a,b,e1,_⟩)
  ·cases e1;cases e2;exact q
  ·cases e1
 ·exact fun q=>.inl ⟨i,j,rfl,rfl,q⟩
end
section
variable {X:Cx} {o e:Expr} {es:List Expr} {apos pos:Pos} {m:Str} {C f:Addr} {fd:FuncData} {ps:List Str} {sp:Sp} {CX:CXT} {k:Nat} {E:XK} {dvs:List V} {ds:List Value} {ta:TE} {t:TA}
def b8z (t u:TE):TE:=fun σ H Q=>t σ H Q∨u σ H Q
theorem b8o {t u:TE} (h1:PE X e t) (h2:PE X e u):PE X e (b8z t u):=fun pins s σ H Q I h=>h.elim (h1 pins s σ H Q I) (h2 pins s σ H Q I)
def b3U (C:Addr) (sp:Sp) (dvs:List V) (E:XK) (ta:TE) (t:TA):TE:=fun σ H Q=>ta σ H fun x H1=>x=.ref C∧t σ H1 fun vs H2=>sp (vs++dvs) H2 Q E
theorem b1W {pl:Sem Bool} (he:PE X o ta) (hm:b7F X.K C m f) (F:a1a X.prog X.w X.K X.mg X.base CX k f fd ps sp) (hr:a3c k X.A) (hb:a0r X.K fd ps ds) (hd:a0F dvs ds) (hx:a3h CX X E) (ha:PA X (e::es) t)
  (hst:starEach (e::es) X.env=(false,eval e X.env)::starEach es X.env:=by rfl) (hpl:(backTo pos (starEach es X.env)).any (·.1)=false:=by rfl)
  (ht:eval (.Call (.Attribute o m apos) (e::es) [] pos) X.env=(do
   let ov ←eval o X.env
   standAt apos.atName
   let (f,first) ←holding [ov] (getMethod ov m pl)
   callWith pos f first (backTo pos (starEach (e::es) X.env)) (backToKw pos (keywordEach [] X.env))):=by rfl):
  PE X (.Call (.Attribute o m apos) (e::es) [] pos) (b3U C sp dvs E ta t):=by
 intro pins s σ H Q I h
 refine Uq (pl:=pl) (thn (he pins s σ H _ I h) fun u s1 ⟨x,H1,I1,rx,ex,q⟩=>?_) ht
 subst ex
 obtain rfl:u=Value.ref C:=rx
 refine PySem.W.method_cls I1.kIn hm.ga (PySem.W.cls_value I1.kIn hm.rd hm.at_ rfl ?_)
 refine Jx (first:=[]) (h₀:=X.base) I.ok.mod.kin hm.kp (thn (ha pos pins _ σ H1 _ (I1.tok _) q) fun us s2 ⟨vs,H2,I2,r,q2⟩=>⟨I2.kIn,?_⟩) hst hpl
 exact a7n (us:=us) (vs:=vs) F hr hb hd hx I2 r q2
end
theorem b0C {c:TT} {tb:TS} {D:b1q} {σ:St} {H:Hp} (W:Nat→St→Hp→Prop) (m0:Nat) (h0:W m0 σ H)
  (hs:∀m σ H,W m σ H→c σ H fun b H1=>if b=true then ∃N:St→Hp→Prop,(∀σ' H',N σ' H'→∃m',m' < m∧W m' σ' H')∧tb {D with nx:=N,ct:=N,bk:=D.nx} σ H1 else D.nx σ H1):b2T c tb D σ H:=⟨W,⟨m0,h0⟩,hs⟩
theorem a0X {α β:Type} (d:α) (P:α→Bool) (g:α→β):∀ps:List α,((Yb ps.length).filter fun i=>P ((ps[i]?).getD d)).map (fun i=>g ((ps[i]?).getD d))=(ps.filter P).map g:=by
 intro ps
 have h:(Yb ps.length).map (fun i=>(ps[i]?).getD d)=ps:=by
  refine Ue fun i=>?_
  rw [Qr]
  by_cases hi:i < ps.length
  ·rw [List.getElem?_range hi,Qc hi,Ju,Qc hi];rfl
  ·rw [Zc (by simp;omega),Zc ‹om›];rfl
 conv=>rhs;rw [←h]
 rw [Ze,Yr];rfl
theorem a6S (z:Str) (r:List Str):inV (.str z) (r.map V.str)=decide (z∈r):=by
 unfold inV
 rw [Yh,Xx,decide_eq_true_eq]
 constructor
 ·rintro ⟨v,hv,e⟩
  obtain ⟨l,hl,rfl⟩:=Qy.mp hv
  have e':(l == z)=true:=e
  rw [←eq_of_beq e'];exact hl
 ·intro h
  exact ⟨.str z,Qy.mpr ⟨z,h,rfl⟩,(beq_self_eq_true z:(z == z)=true)⟩
theorem a3K (qs:List Str):(qs.map V.str).all a4W=true:=by
 rw [Jb];intro v hv
 obtain ⟨l,_,rfl⟩:=Qy.mp hv;rfl
theorem a1C {K:Qe} {H:Hp} {Q:VK} {z:Str} {a:Addr} {r:List Str} (h:SqL K H a (r.map V.str)) (q:Q (.bl (decide (z∈r))) H):b5T K (.str z) (.ref a) H Q:=
 .inr ⟨a,_,rfl,.inl h,rfl,a3K _,by rw [if_neg Qq,a6S];exact q⟩
theorem a1u {K:Qe} {H:Hp} {Q:VK} {z:Str} {a:Addr} {r:List Str} (h:SqL K H a (r.map V.str)) (q:Q (.bl (!decide (z∈r))) H):a5d K (.str z) (.ref a) H Q:=
 .inr ⟨a,_,rfl,.inl h,rfl,a3K _,by rw [if_pos rfl,a6S];exact q⟩
theorem none_of {H H':Hp} (s:a0g H H') {p:Addr} (h:H' p=none):H p=none:=by
 cases e:H p with
 | none=>rfl
 | some o=>rw [s _ _ e] at h;cases h
section
variable {X:Cx}
theorem b5N {K:Qe} {pos:Pos} {es:List Expr} {k:Nat} {t:TGs} {n:Nat} (hK:X.K=K) (hc:X.calm=true) (h:PGs X es t)
  (hn:(assignEach es X.env).length=n:=by rfl) (hst:(assignEach es X.env).findIdx? (·.1)=none:=by rfl):PG X (.Tuple es k pos) (b6b K n t):=hK ▸ b3O hc h hn hst
end
end L2
namespace L2
open PySem PySem.Spec PyProof.Rows PySem.W
def Ite (K:Qe) (a:Addr):It:=
 ⟨fun i H=>∃xs x,SqL K H a xs∧xs[i]?=some x,fun i H x H'=>∃p v,H p=none∧(∀xs,SqL K H a xs→xs[i]?=some v)∧x=.ref p∧H'=upd H p (.tup [.int i,v]),fun i H=>∃xs,SqL K H a xs∧xs.length≤i⟩
def b4I (K:Qe) (ta:TA):TI:=fun σ H R=>ta σ H fun vs H1=>∃a,vs=[.ref a]∧(∃xs,SqL K H1 a xs)∧R (Ite K a) H1
theorem b6K {K:Qe} {a:Addr} {xs:List V} {js:List (Option Nat)} {te:TE} {σ:St} {H:Hp} {Q:VK} (hn:xs.length≤sizeLine) (σr:St) (hσ:a2l js σ=none::none::σr) (Pr:Addr→Nat→V→Hp→Prop)
  (mono:∀D i v (H1 H2:Hp),(∀b o,b≠D→H1 b=some o→H2 b=some o)→Pr D i v H1→Pr D i v H2)
  (ha:SqL K H a xs) (hs:∀D i H' (R:V→Hp→Prop) (hi:i < xs.length),H D=none→a0g H H'→(∃ys,H' D=some (.lst ys))→(∀v H'',a0g H' H''→Pr D i v H''→R v H'')→te (some (.int i)::some xs[i]::σr) H' R)
  (hd:∀D H' ys,H D=none→a0g H H'→H' D=some (.lst ys)→ys.length=xs.length→(∀i v,ys[i]?=some v→Pr D i v H')→Q (.ref D) H'):a4f (Ite K a) js (b6b K 2 (a6L (a0s 0) (a6L (a0s 1) b6X))) b4m te σ H Q:=by
 intro D hD
 refine ⟨fun i m σ' H' ys=>m=xs.length - i∧i≤xs.length∧(∃u v,σ'=u::v::σr)∧a0g H H'∧H' D=some (.lst ys)∧ys.length=i∧∀j v,ys[j]?=some v→Pr D j v H',⟨xs.length,by simp,Xg _,⟨none,none,hσ⟩,a0g.upd hD,a0e,rfl,fun j v e=>by simp at e⟩,?_⟩
 rintro i m σ' H' ys ⟨rfl,hi,⟨u,v,rfl⟩,s,h,hl,hp⟩
 refine ⟨h,?_⟩
 by_cases hlt:i < xs.length
 ·refine .inr ⟨⟨xs,xs[i],s.seq ha,Qc hlt⟩,by omega,?_⟩
  rintro x H2 ⟨p,w,hpn,hw,rfl,rfl⟩
  have ew:w=xs[i]:=by have:=hw xs (s.seq ha);rw [Qc hlt] at this;exact (Option.some.inj this).symm
  subst ew
  obtain ⟨H3,e3,s3,h3⟩:∃H3,upd H' p (.tup [.int i,xs[i]])=H3∧a0g H' H3∧H3 p=some (.tup [.int i,xs[i]]):=⟨_,rfl,a0g.upd hpn,a0e⟩
  rw [e3]
  refine ⟨p,_,rfl,SqT.of h3,rfl,_,_,rfl,_,_,rfl,rfl,?_⟩
  unfold b4m;dsimp only
  rw [if_pos rfl]
  show te (some (.int i)::some xs[i]::σr) H3 _
  refine hs D i H3 _ hlt hD (s.trans s3) ⟨_,s3 _ _ h⟩ fun v H'' s2 pv=>⟨s2 _ _ (s3 _ _ h),xs.length - (i+1),by omega,rfl,hlt,⟨_,_,rfl⟩,?_,a0e,by simp [hl],fun j v' e=>?_⟩
  ·intro b o e
   rw [a0d (a0c e hD)];exact s2 _ _ (s3 _ _ (s b o e))
  ·have up:∀b o,b≠D→H'' b=some o→upd H'' D (.lst (ys++[v])) b=some o:=fun b o hb q=>by rw [a0d hb];exact q
   by_cases hj:j < ys.length
   ·rw [Yx hj] at e
    exact mono _ _ _ _ _ up (mono _ _ _ _ _ (fun b o _ q=>s2 _ _ (s3 _ _ q)) (hp j v' e))
   ·have hj2:=(Xa.mp e).1
    have ej:j=ys.length:=by simp at hj2;omega
    subst ej
    rw [Ys (Qk _),Wc] at e
    cases e
    rw [hl];exact mono _ _ _ _ _ up pv
 ·have e:i=xs.length:=by omega
  subst e
  exact .inl ⟨⟨xs,s.seq ha,Qk _⟩,hd D H' ys hD s h hl hp⟩
def b2H (K:Qe) (te:TE):TE:=fun σ H Q=>te σ H fun x H1=>∃a xs,x=.ref a∧SqL K H1 a xs∧∀p,H1 p=none→Q (.ref p) (upd H1 p (.lst xs.reverse))
section
variable {X:Cx} {pins:List (Addr×Obj)} {σ:St} {H:Hp} {s:Shared} {h':Heap} {tg:Expr}
theorem Inv.turned2 {t':Nat} {e it:Addr} (I:Inv X pins σ H s) (k:∀b o,b≠e→b≠it→s.heap.get? b=some o→h'.get? b=some o) (f1:a8u X pins H e) (f2:a8u X pins H it):Inv X pins σ H {s with heap:=h',toks:=t'}:=by
 obtain ⟨a0,a1,a2,a3,a4,a5⟩:=f1
 obtain ⟨b0,b1,b2,b3,b4,b5⟩:=f2
 have ne:∀b u,H b=some u→b≠e:=fun b u q z=>by rw [z,a0] at q;cases q
 have nit:∀b u,H b=some u→b≠it:=fun b u q z=>by rw [z,b0] at q;cases q
 refine I.step (g':=s.gens) (d':=s.drawn) (ch:=[e,it]) (fun b hb=>?_) (fun b o _ _ hc q _=>k b o (fun z=>hc (by simp [z])) (fun z=>hc (by simp [z])) q) (fun b o _ _ hc q _=>⟨o.slots,k b o (fun z=>hc (by simp [z])) (fun z=>hc (by simp [z])) q⟩) (fun _ _ _ _ n=>n)
  (fun b o hc q=>⟨o,k b o (fun z=>hc (by simp [z])) (fun z=>hc (by simp [z])) q⟩) (fun _ _ q=>q) (fun _ _ _ q=>q) (fun b ps q=>⟨#[],by rw [q];simp⟩) (fun m hm=>?_) (fun b u q=>?_) I.bare
 ·rcases Qn.mp hb with z | z
  ·subst z;exact ⟨a3,a1,a4,a5⟩
  ·rw [Qw.mp z];exact ⟨b3,b1,b4,b5⟩
 ·obtain ⟨o,es,ep,ho,r⟩:=hm
  exact ⟨o,es,ep,k _ o (Ne.symm a1) (Ne.symm b1) ho,r⟩
 ·refine (I.hok b u q).stay (fun c v hc z=>k c v ?_ ?_ z) (fun _ z=>z) fun _ _ z=>z
  ·rcases hc with z | z
   ·rw [z];exact ne b u q
   ·exact ne c _ z
  ·rcases hc with z | z
   ·rw [z];exact nit b u q
   ·exact nit c _ z
theorem a9u {P:Program} {w:World} {K:Qe} {elts:List Expr} {x1:Nat} {pos:Pos} (a e it:Addr) (hei:e≠it):b5Y P w K (.Tuple elts x1 pos) (Ite K a) [e,it] e (fun i h=>(∃old,IsEnum h e it i old)∧h.IsListIter it a i) where
 mem:=by simp
 obj:=fun i h st b hb=>by
  obtain ⟨⟨old,he⟩,o,e1,c,d⟩:=st
  rcases Qn.mp hb with z | z
  ·subst z;exact ⟨_,he,fun v z=>by cases z⟩
  ·rw [Qw.mp z];exact ⟨o,e1,fun v z=>by rw [d] at z;cases z⟩
 keep:=fun i h h' st k=>by
  obtain ⟨⟨old,he⟩,hit⟩:=st
  exact ⟨⟨old,k e (by simp) _ he⟩,hit.at fun o q=>k it (by simp) o q⟩
 item:=by
  intro X hP hw hK hc i pins s σ H E I hf st hg
  subst hP hw hK
  obtain ⟨⟨old,he⟩,hit⟩:=st
  obtain ⟨xs,x,hq,hx⟩:=hg
  obtain ⟨its,rv,p,hz⟩:=I.list hq
  obtain ⟨u,hu,ru⟩:=rv.get hx
  refine wpAny_pyNext_enum_item he hit p.isList (x:=u) (by simpa using hu) hei fun h' ho hit' hT hsz hk=>?_
  refine ⟨_,rfl,?_⟩
  refine wpAny_letOwnedTupleGo_enum ho fun h2 he2 hs2=>?_
  have hfr:H s.heap.objs.size=none:=I.hok.fresh (Qk _)
  have helt:e < s.heap.objs.size:=Qs he
  have hilt:it < s.heap.objs.size:=by obtain ⟨_,z,_⟩:=hit;exact Qs z
  have hL:=Qu s.heap (o:={cls:=.type "tuple",data:=.seq #[.int i s.toks,u]}) rfl
  have I1:Inv X pins σ (upd H s.heap.objs.size (.tup [.int i,x])) {s with heap:=s.heap.push {cls:=.type "tuple",data:=.seq #[.int i s.toks,u]},toks:=s.toks+1}:=
   I.laid (t':=s.toks+1) (fun b o q=>Qi _ q) (Qk _) ⟨by simp only [Qt,Xl];decide,[.int i s.toks,u],.cons ⟨_,rfl⟩ (.cons ru .nil),⟨_,hL,rfl,_,rfl⟩⟩
  have up:∀b,b < s.heap.objs.size→upd H s.heap.objs.size (.tup [.int i,x]) b=H b:=fun b hb=>a0d (Qx hb)
  have fp:∀b,b < s.heap.objs.size→a8u X pins H b→a8u X pins (upd H s.heap.objs.size (.tup [.int i,x])) b:=fun b hb ⟨c0,c1,c2,c3,c4,c5⟩=>⟨by rw [up b hb];exact c0,c1,c2,c3,c4,c5⟩
  have I2:Inv X pins σ (upd H s.heap.objs.size (.tup [.int i,x])) {s with heap:=h2,toks:=s.toks+1}:=by
   refine I1.turned2 (h':=h2) (t':=s.toks+1) (fun b o h1 h3 q=>?_) (fp e helt (hf e (by simp))) (fp it hilt (hf it (by simp)))
   rw [hs2.2 b h1]
   by_cases z:b=s.heap.objs.size
   ·subst z
    have q':(s.heap.push {cls:=.type "tuple",data:=.seq #[.int i s.toks,u]}).get? s.heap.objs.size=some o:=q
    rw [hL] at q';rw [←q'];exact hT
   ·have q':s.heap.get? b=some o:=by
     have q2:(s.heap.push {cls:=.type "tuple",data:=.seq #[.int i s.toks,u]}).get? b=some o:=q
     rw [Jn _ _ _ z] at q2;exact q2
    exact hk b o h1 h3 q'
  exact ⟨.ref s.heap.objs.size,_,I2,rfl,⟨s.heap.objs.size,x,hfr,fun ys hy=>by rw [I.list_inj hy hq];exact hx,rfl,rfl⟩,⟨⟨_,by simpa using he2⟩,hit'.at fun o y=>(hs2.2 it hei.symm).trans y⟩,fun b hb=>by
   have hb':b < s.heap.objs.size:=by
    rcases Qn.mp hb with z | z
    ·rw [z];exact helt
    ·rw [Qw.mp z];exact hilt
   rw [up b hb'];exact (hf b hb).1⟩
 done:=by
  intro X hP hw hK hc i pins s σ H E I hf st hg
  subst hP hw hK
  obtain ⟨⟨old,he⟩,hit⟩:=st
  obtain ⟨xs,hq,hx⟩:=hg
  obtain ⟨its,rv,p,hz⟩:=I.list hq
  have hl:=rv.length
  exact wpAny_pyNext_enum_end (I.ok.hd hc) he hit p.isList (by simp;omega) fun h' hk=>⟨rfl,I.turned2 (t':=s.toks) (fun b o h1 h3 q=>hk b o h3 q) (hf e (by simp)) (hf it (by simp))⟩
 self:=fun _ _ _ _ _ st h=>by
  obtain ⟨⟨old,he⟩,_⟩:=st
  exact wpAny_pyIter_enum he h
theorem a3Z:bootBuiltins "enumerate"=some (.type "enumerate"):=by decide+kernel
theorem b4S {a:Expr} {ta:TA} {p pos:Pos} {elts:List Expr} {x1:Nat} {tpos:Pos} (hg:Gl X "enumerate") (hm:X.mg "enumerate"=none) (ha:PA X [a] ta) (hs:starEach [a] X.env=[(false,eval a X.env)]:=by rfl):PI X (.Tuple elts x1 tpos) (.Call (.Name "enumerate" p) [a] [] pos) (b4I X.K ta):=by
 intro pins s σ H R I h
 refine Call_ (a3i I hg hm a3Z (PyProof.Rows.callWith_type1 (thn (ha pos pins s σ H _ I h) fun us s1 ⟨vs,H1,I1,r1,q1⟩=>?_) hs rfl))
 obtain ⟨l,e,⟨xs,hq⟩,q⟩:=q1
 subst e
 cases r1 with
 | cons r rr=>
  cases rr
  cases r
  obtain ⟨its,rv,pl,hz⟩:=I1.list hq
  refine call_enumerate_list pl.isList fun h' he hit hsz hk=>?_
  refine wpAny_pyIter_enum he ?_
  have I2:=I1.kept (t':=s1.toks) hk
  refine ⟨s1.heap.objs.size+1,[s1.heap.objs.size+1,s1.heap.objs.size],_,_,H1,rfl,I2,a9u l _ _ (Nat.succ_ne_self _),⟨⟨_,he⟩,hit⟩,fun b hb=>?_,q⟩
  have hb':s1.heap.objs.size≤b:=by
   rcases Qn.mp hb with z | z
   ·rw [z];exact Zg _
   ·rw [Qw.mp z];exact Qk _
  exact I1.fpOk hb' (I1.hok.fresh hb')
theorem b5D {K:Qe} {e:Expr} {ta:TE} {f:Str} {pos:Pos} (hK:X.K=K) (he:PE X e ta) (hb:attributeBase e f X.env (eval e X.env)=eval e X.env):PE X (.Attribute e f pos) (a3s K ta f):=hK ▸ b3g he hb
end
section
variable {prog:Program} {w:World} {A:Around} {E:Value→Shared→Prop} {s:Shared}
theorem a9Q:typeLookup (.type "list_reverseiterator") "__len__"=pure none:=by rw [typeLookup_type,builtinLookup_eq_fast];kernel_rfl
theorem b2N:typeLookup (.type "list_reverseiterator") "__length_hint__"=pure (some (.builtin "list_reverseiterator.__length_hint__")):=by rw [typeLookup_type,builtinLookup_eq_fast];kernel_rfl
theorem a4g {I l:Addr} {i:Int} {Q:Bool→Shared→Prop} (hit:s.heap.IsRevIter I l i) (h:Q false s):wpAny (model prog w) A (Builtin.List.listLengthHint (.ref I)) Q E s:=by
 unfold Builtin.List.listLengthHint
 refine wpAny_bind (wpAny_specialOf hit.typeIs a9Q ?_)
 show wpAny _ A (specialOf (Value.ref I) (Xw "__length_hint__") >>= _) _ _ _
 refine wpAny_bind (wpAny_specialOf hit.typeIs b2N ?_)
 generalize hid:("list_reverseiterator.__length_hint__":String)=id0
 wp_delta
 rw [show splitId id0=some ("list_reverseiterator","__length_hint__") from by subst hid;decide+kernel]
 subst hid
 refine wpAny_bind (wpAny_isInstance (b:=true) hit.typeIs (by rw [isSubtype_type];kernel_rfl) ?_)
 exact wpAny_pure h
theorem a3m {R:Result→Shared→Prop} {I l:Addr} {items:Array Value} (hh:A.handled=none) (hit:s.heap.IsRevIter I l ((items.size:Int) - 1)) (hl:s.heap.IsList l items) (hlI:l≠I) (hsz:items.size≤sizeLine) (S:Addr) (res:Value) (c₀:Nat)
  (hS:s.heap.get? S=some {cls:=.type "list",data:=.seq #[] c₀}) (hSI:S≠I) (hSl:S≠l)
  (hR:∀h' tk acc' c',(∀b o,b≠S→b≠I→s.heap.get? b=some o→h'.get? b=some o)→h'.get? S=some {cls:=.type "list",dict:=none,data:=.seq acc' c',slots:=#[]}→
   ItemsOf (fun i v=>items[items.size - 1 - i]?=some v) acc' items.size→R (.ok (.ret res)) {s with heap:=h',toks:=tk}):
  wpAny (model prog w) A.in1 (Builtin.List.listExtendWith (.ref S) (.ref I) res)
   (fun fin s'=>match fin with | .done f=>R (.ok f) s' | .again c'=>c'.quiet=true∧codeAny (model prog w) A c' R s') (fun e s'=>R (.error e) s') s:=by
 have W:=(Walks.listRev (prog:=prog) (w:=w) (A:=A.in1) hh I l hlI items).toS
 have hSf:S∉[I,l]:=fun hm=>by
  rcases Qn.mp hm with z | z
  ·exact hSI z
  ·exact hSl (Qw.mp z)
 unfold Builtin.List.listExtendWith
 refine wpAny_bind (wpAny_typeOf hit.typeIs ?_)
 have h1:Builtin.List.listSameRef (.ref S) (.ref I)=false:=by simp [Builtin.List.listSameRef,hSI]
 have h2:(Value.type "list_reverseiterator" == Value.type "list")=false:=by decide
 have h3:(Value.type "list_reverseiterator" == Value.type "tuple")=false:=by decide
 simp only [h1,h2,h3,Gc,Zk,if_false]
 refine wpAny_bind (wpAny_pyIter_revIter hit ?_)
 refine wpAny_bind (wpAny_holding (a4g hit ?_))
 refine wpAny_ite_split (fun hab=>absurd hab ‹dc›) (fun _=>wpAny_pure ⟨plainId_quiet F.plain_extend_loop _,codeAny_extend_loopS W hsz S hSf res items.size 0 _ #[] c₀ rfl (Xg _) ⟨Xg _,by simpa using hit,hl⟩ hS (ItemsOf.nil _) fun s' acc' c' hm hS' hacc=>?_⟩)
 rw [Moved.eq_with hm]
 refine hR s'.heap s'.toks acc' c' (fun b o hb hbI e=>hm.heap b o (fun hmem=>?_) e) hS' hacc
 rcases Qn.mp hmem with e' | hmem
 ·exact hb e'
 ·exact hbI (Qw.mp hmem)
theorem a4T {Q:Value→Shared→Prop} {I l:Addr} {items:Array Value} (hh:A.handled=none) (hit:s.heap.IsRevIter I l ((items.size:Int) - 1)) (hl:s.heap.IsList l items) (hlI:l≠I) (hsz:items.size≤sizeLine)
  (hQ:∀h' tk acc' c',(∀b o,b≠I→s.heap.get? b=some o→h'.get? b=some o)→
   h'.get? s.heap.objs.size=some {cls:=.type "list",dict:=none,data:=.seq acc' c',slots:=#[]}→ItemsOf (fun i v=>items[items.size - 1 - i]?=some v) acc' items.size→Q (.ref s.heap.objs.size) {s with heap:=h',toks:=tk}):
  wpAny (model prog w) A (call (.type "list") [.ref I]) Q E s:=by
 refine callType_codes (Q₁:=fun obj s₁=>obj=.ref s.heap.objs.size∧s₁={s with heap:=s.heap.push {cls:=.type "list",data:=.seq #[]}}) F.called_list (F.typeCall_list_1 _) F.entry_list_init
  (code_list_new _ ⟨rfl,rfl⟩) fun obj s₁ h₁=>?_
 obtain ⟨rfl,rfl⟩:=h₁
 have hS:(s.heap.push {cls:=.type "list",data:=.seq #[]}).get? s.heap.objs.size=some {cls:=.type "list",data:=.seq #[]}:=Qu _ rfl
 have hIlt:I < s.heap.objs.size:=by obtain ⟨_,z,_⟩:=hit;exact Qs z
 have hllt:l < s.heap.objs.size:=by obtain ⟨_,z,_⟩:=hl;exact Qs z
 refine ⟨⟨_,hS,rfl⟩,F.args_list_init_2 _ _,?_⟩
 show wpAny _ _ (do let old ←Builtin.List.listItems (.ref s.heap.objs.size);Builtin.List.listUpdate (.ref s.heap.objs.size) (fun _=>#[]);letGo old.toList.reverse;Builtin.List.listExtendWith (.ref s.heap.objs.size) (.ref I) .none) _ _ _
 refine wpAny_bind ?_
 unfold Builtin.List.listItems
 refine wpAny_bind (wpAny_seqItems hS rfl (wpAny_pure ?_))
 show wpAny _ _ (updateSeq s.heap.objs.size (fun _=>#[]) >>= fun _=>letGo (#[]:Array Value).toList.reverse >>= fun _=>Builtin.List.listExtendWith (.ref s.heap.objs.size) (.ref I) .none) _ _ _
 refine wpAny_bind (wpAny_updateSeq hS rfl ?_)
 have hS₂:=Za (Obj.mapSeq (fun _=>(#[]:Array Value))) hS rfl
 have oth:∀b o,b≠s.heap.objs.size→s.heap.get? b=some o→((s.heap.push {cls:=.type "list",data:=.seq #[]}).update s.heap.objs.size (Obj.mapSeq (fun _=>(#[]:Array Value)))).get? b=some o:=
  fun b o hb e=>(Zh _ _ (Ne.symm hb)).trans (Qi _ e)
 refine wpAny_bind (wpAny_letGo ?_)
 refine a3m (A:=A.in1) hh (hit.at fun o e=>oth I o (Qx hIlt) e) (hl.at fun o e=>oth l o (Qx hllt) e) hlI hsz s.heap.objs.size .none _ hS₂ (Ut hIlt) (Ut hllt) fun h' tk acc' c' hk hS' hacc=>?_
 exact ⟨rfl,hQ h' tk acc' c' (fun b o hb e=>hk b o (Qx (Qs e)) hb (oth b o (Qx (Qs e)) e)) hS' hacc⟩
end
section
variable {X:Cx}
theorem a4h:bootBuiltins "reversed"=some (.type "reversed"):=by decide+kernel
theorem a9r {its:List Value} {acc:Array Value} (h:ItemsOf (fun i v=>its.toArray[its.toArray.size - 1 - i]?=some v) acc its.toArray.size):acc.toList=its.reverse:=by
 obtain ⟨h1,h2⟩:=h
 have h1':acc.size=its.length:=by simpa using h1
 refine Ue fun i=>?_
 by_cases hi:i < its.length
 ·have hi':i < acc.size:=by omega
  have e:its[its.length - 1 - i]?=some acc[i]:=by simpa using h2 i acc[i] (Yy hi')
  rw [List.getElem?_reverse hi,e]
  simp [hi']
 ·rw [Zc (by simp;omega),Zc (by simp;omega)]
theorem a8H {e:Expr} {te:TE} {p1 p2 q1 q2:Pos} (hc:X.calm=true) (hg1:Gl X "list") (hm1:X.mg "list"=none) (hg2:Gl X "reversed") (hm2:X.mg "reversed"=none) (he:PE X e te)
  (hs1:starEach [Expr.Call (.Name "reversed" p2) [e] [] q2] X.env=[(false,eval (.Call (.Name "reversed" p2) [e] [] q2) X.env)]:=by rfl) (hs2:starEach [e] X.env=[(false,eval e X.env)]:=by rfl):
  PE X (.Call (.Name "list" p1) [.Call (.Name "reversed" p2) [e] [] q2] [] q1) (b2H X.K te):=by
 intro pins s σ H Q I h
 refine Call_ (a3i I hg1 hm1 a0z (PyProof.Rows.callWith_type1 ?_ hs1 rfl))
 rw [hs1]
 show wpAny _ _ (spliced ((false,eval (.Call (.Name "reversed" p2) [e] [] q2) X.env)::[])) _ _ s
 refine Calls.spliced_cons ?_
 refine Call_ (a3i I hg2 hm2 a4h (PyProof.Rows.callWith_type1 ?_ hs2 rfl))
 rw [hs2]
 show wpAny _ _ (spliced ((false,eval e X.env)::[])) _ _ s
 refine Calls.spliced_cons (thn (he pins s σ H _ I h) fun u s1 ⟨x,H1,I1,r1,q1⟩=>?_)
 refine Calls.spliced_nil ?_
 obtain ⟨a,xs,rfl,hq,q⟩:=q1
 cases r1
 obtain ⟨its,rv,pl,hz⟩:=I1.list hq
 have hl:=pl.isList
 have hlt:a < s1.heap.objs.size:=by obtain ⟨_,z,_⟩:=hl;exact Qs z
 refine call_reversed_list hl ?_
 refine Calls.spliced_nil ?_
 have hlen:=rv.length
 refine a4T (I:=s1.heap.objs.size) (l:=a) (items:=its.toArray) (I1.ok.hd hc) ⟨_,Qu _ rfl,rfl,rfl⟩ (hl.push _) (Qx hlt) (by rw [Qo,←hlen];exact hz) fun h' tk acc' c' hk hS' hacc=>?_
 have hp:(s1.heap.push (revObj a ((its.toArray.size:Int) - 1))).objs.size=s1.heap.objs.size+1:=Ja ..
 have keep:∀b u,s1.heap.get? b=some u→h'.get? b=some u:=fun b u z=>hk b u (Qx (Qs z)) (Qi _ z)
 have hfr:H1 (s1.heap.objs.size+1)=none:=I1.hok.fresh (Zg _)
 have hS2:h'.get? (s1.heap.objs.size+1)=some {cls:=.type "list",dict:=none,data:=.seq acc' c',slots:=#[]}:=by rw [←hp];exact hS'
 have ea:acc'=its.reverse.toArray:=by rw [←a9r hacc]
 refine ⟨.ref (s1.heap.objs.size+1),upd H1 (s1.heap.objs.size+1) (.lst xs.reverse),I1.laid (t':=tk) keep (Zg _) ⟨by rw [Vc];exact hz,its.reverse,c',rv.reverse,by rw [hS2,ea]⟩,?_,q _ hfr⟩
 show Value.ref _=Value.ref _
 rw [←hp]
end
section
variable {X:Cx} {pins:List (Addr×Obj)} {σ:St} {H:Hp} {s:Shared} {a:Addr} {kvs:List (Key×V)} {k:Key} {u:Value} {A:Around} {E:Value→Shared→Prop}
theorem b6z {z:V} {r:Value} {Q:Value→Shared→Prop} (I:Inv X pins σ H s) (e:H a=some (.dK kvs)) (ry:a0R (kV k) u) (rz:a0R z r) (hz:kvs.length < sizeLine)
  (h1:∀v w' s',a1Z kvs k=some v→Inv X pins σ H s'→a0R v w'→Q w' s') (h2:a1Z kvs k=none→∀s',Inv X pins σ (upd H a (.dK (a4e kvs k z))) s'→Q r s'):
  wpAny (model X.prog X.w) A (call (.builtin "dict.setdefault") [.ref a,u,r]) Q E s:=by
 obtain ⟨z0,hd,vs,rel,dd⟩:=b9L I.hok e
 refine call_meetsIn Vh dd.typeIs PySem.F.entry_dict_setdefault (PySem.F.args_dict_setdefault_3 _ _ _) (kt_meets_setdefault (a0Q X.prog X.w) a (a8z ry) hd r) ⟨vs,dd,by rw [←rel.length];exact z0,fun v hv=>?_,fun hn h' dd' hs=>?_⟩
 ·cases l:a1Z kvs k with
  | none=>
   have:=a4L.none_of (o:=valueAt vs k) (by rw [←l];exact rel.val k)
   rw [this] at hv;cases hv
  | some x=>
   obtain ⟨w',hw,rw'⟩:=a4L.some_of (v:=x) (o:=valueAt vs k) (by rw [←l];exact rel.val k)
   rw [hw] at hv;cases hv
   exact h1 x _ _ l (I.tok _) rw'
 ·have l:a1Z kvs k=none:=by
   cases l:a1Z kvs k with
   | none=>rfl
   | some x=>
    obtain ⟨w',hw,_⟩:=a4L.some_of (v:=x) (o:=valueAt vs k) (by rw [←l];exact rel.val k)
    rw [hw] at hn;cases hn
  refine h2 l _ ?_
  have he:∃q,h'.get? a=some q:=let ⟨q,_,_,hq,_⟩:=dd';⟨q,hq⟩
  exact a6C I (by rw [e];exact True.intro) hs he (b2U (by have:=a1w kvs k z;omega) hd (rel.put k rz) dd')
end
def b3K (td ty tx:TE):TE:=fun σ H Q=>td σ H fun x H1=>∃a,x=.ref a∧IsD H1 a∧ty σ H1 fun y H2=>tx σ H2 fun z H3=>∃kvs k,H3 a=some (.dK kvs)∧y=kV k∧kvs.length < sizeLine∧
 (∀v,a1Z kvs k=some v→Q v H3)∧(a1Z kvs k=none→Q z (upd H3 a (.dK (a4e kvs k z))))
section
variable {X:Cx} {o e f:Expr} {apos cpos:Pos} {td ty tx:TE}
theorem b1Z (ho:PE X o td) (he:PE X e ty) (hf:PE X f tx) (m:M2 X o "setdefault" apos e f cpos):PE X (.Call (.Attribute o "setdefault" apos) [e,f] [] cpos) (b3K td ty tx):=by
 intro pins s σ H Q I h
 refine wpAny_Call_method m.base m.few m.line Wg Vh PySem.F.type_dict_setdefault (thn (ho pins s σ H _ I h) fun u s1 ⟨x,H1,I1,rx,a,ex,d,q1⟩=>?_)
 subst ex
 obtain rfl:u=Value.ref a:=rx
 obtain ⟨t1,t2,_⟩:=b3S I1 d
 refine ⟨t1,t2,?_⟩
 rw [m.trees]
 refine Calls.callWith_builtin rfl (Calls.evalArgs_plain (Calls.spliced_cons (thn (he pins s1 σ H1 _ I1 q1) fun iv s2 ⟨y,H2,I2,ry,q2⟩=>
  Calls.spliced_cons (thn (hf pins s2 σ H2 _ I2 q2) fun fv s3 ⟨z,H3,I3,rz,kvs,k,hH,ey,hz,q3,q4⟩=>Calls.spliced_nil ?_))))
 subst ey
 exact b6z I3 hH ry rz hz (fun v w' s' l I' r'=>⟨v,H3,I',r',q3 v l⟩) (fun l s' I'=>⟨z,_,I',rz,q4 l⟩)
end
section
variable {α β:Type}
def TOk (n:Nat) (P:α→Prop):KasT α→Prop
 | .ret a=>P a
 | .ask i j k=>i < n∧j < n∧∀b,TOk n P (k b)
def b3Y (lt:Nat→Nat→Bool):KasT α→α
 | .ret a=>a
 | .ask i j k=>b3Y lt (k (lt i j))
theorem TOk.run {n:Nat} {P:α→Prop} {lt:Nat→Nat→Bool}:∀{t:KasT α},TOk n P t→P (b3Y lt t)
 | .ret _,h=>h
 | .ask i j k,h=>show P (b3Y lt (k (lt i j))) from TOk.run (h.2.2 (lt i j))
theorem TOk.wp {n:Nat} {P:α→Prop} {lt:Nat→Nat→Bool} {cmp:Nat→Nat→(Bool→Shared→Prop)→Shared→Prop} {Q:α→Shared→Prop} {s:Shared} (hc:∀i j C,i < n→j < n→C (lt i j) s→cmp i j C s):∀{t:KasT α},TOk n P t→Q (b3Y lt t) s→t.kasWp cmp Q s
 | .ret _,_,q=>q
 | .ask i j k,h,q=>hc i j _ h.1 h.2.1 (TOk.wp hc (h.2.2 _) q)
theorem TOk.bind {n:Nat} {P:α→Prop} {R:β→Prop} {f:α→KasT β} (hf:∀a,P a→TOk n R (f a)):∀{t:KasT α},TOk n P t→TOk n R (t.bind f)
 | .ret _,h=>hf _ h
 | .ask i j k,h=>⟨h.1,h.2.1,fun b=>TOk.bind hf (h.2.2 b)⟩
end
def a1n (n:Nat) (p:Array Nat):Prop:=p.Perm (Zy (Yb n))
theorem a1n.list {n:Nat} {p:Array Nat} (h:a1n n p):p.toList.Perm (Yb n):=Array.perm_iff_toList_perm.mp h
theorem a1n.lt {n:Nat} {p:Array Nat} (h:a1n n p) (hn:0 < n) (i:Nat):p.getD i 0 < n:=by
 by_cases hi:i < p.size
 ·have h1:p[i]∈Yb n:=h.list.mem_iff.mp (by simp)
  have e:p.getD i 0=p[i]:=by simp [Uw,hi]
  rw [e];exact Uc.mp h1
 ·have e:p.getD i 0=0:=by simp [Uw,hi]
  rw [e];exact hn
theorem a1n.rev {n:Nat} {p:Array Nat} (h:a1n n p) (i j:Nat):a1n n (kas_rev p i j):=(mirror_perm _ _ _ _).trans h
theorem a1n.bub {n:Nat} {p:Array Nat} (h:a1n n p) (i j:Nat):a1n n (bubble p i j):=(bubble_perm _ _ _).trans h
section
variable {n:Nat} (hn:0 < n)
include hn
theorem a9a {p:Array Nat} (hp:a1n n p):∀f m,TOk n (fun _=>True) (kas_asc p f m)
 | 0,m=>trivial
 | f+1,m=>⟨hp.lt hn _,hp.lt hn _,fun b=>by
   show TOk n _ (if b=true then _ else _)
   split
   ·exact trivial
   ·exact a9a hp f (m+1)⟩
theorem a4S:∀f (p:Array Nat) m q,a1n n p→TOk n (fun r=>a1n n r.1) (kas_desc f p m q)
 | 0,p,m,q,hp=>hp
 | f+1,p,m,q,hp=>⟨hp.lt hn _,hp.lt hn _,fun b=>by
   show TOk n _ (if b=true then _ else _)
   split
   ·split
    ·exact a4S f _ _ _ (hp.rev _ _)
    ·exact a4S f _ _ _ hp
   ·refine ⟨hp.lt hn _,hp.lt hn _,fun d=>?_⟩
    show TOk n _ (if d=true then _ else _)
    split
    ·exact hp
    ·exact a4S f _ _ _ hp⟩
theorem a7C {p:Array Nat} (hp:a1n n p) (m r:Nat):TOk n (fun r=>a1n n r.2) (kas_tail3 m r p):=by
 unfold kas_tail3
 refine TOk.bind (P:=fun _=>True) (fun k _=>?_) (a9a hn (hp.rev _ _) _ _)
 exact hp.rev 0 m
theorem a3X {p:Array Nat} (hp:a1n n p) (m r:Nat):TOk n (fun r=>a1n n r.2) (kas_descPart m r p):=TOk.bind (fun a ha=>by
 split
 ·exact a7C hn (a1n.rev ha _ _) _ _
 ·exact a7C hn ha _ _) (a4S hn _ _ _ _ hp)
theorem b2t {p:Array Nat} (hp:a1n n p) (r:Nat):TOk n (fun r=>a1n n r.2) (kas_count r p):=TOk.bind (fun a _=>by
 split
 ·exact hp
 ·split
  ·refine ⟨hp.lt hn _,hp.lt hn _,fun b=>?_⟩
   show TOk n _ (if b=true then _ else _)
   split
   ·exact hp
   ·exact a3X hn (hp.rev _ _) _ _
  ·exact a3X hn hp _ _) (a9a hn hp _ _)
theorem a4N {p:Array Nat} (hp:a1n n p) (k:Nat):∀f l r,TOk n (fun _=>True) (kas_place p k f l r)
 | 0,l,r=>trivial
 | f+1,l,r=>by
  show TOk n _ (if l≥r then _ else _)
  split
  ·exact trivial
  ·refine ⟨hp.lt hn _,hp.lt hn _,fun b=>?_⟩
   show TOk n _ (if b=true then _ else _)
   split
   ·exact a4N hp k f _ _
   ·exact a4N hp k f _ _
theorem b3v:∀f (p:Array Nat) k,a1n n p→TOk n (a1n n) (kas_bin f p k)
 | 0,p,k,hp=>hp
 | f+1,p,k,hp=>TOk.bind (fun l _=>b3v f _ _ (hp.bub _ _)) (a4N hn hp k _ _ _)
theorem b5c:TOk n (a1n n) (kas_sort n):=TOk.bind (fun r hr=>by
 split
 ·exact b3v hn _ _ _ hr
 ·exact hr) (b2t hn (Ka.refl _) n)
end
theorem a7Z (vs:List Value):(Yb vs.length).map (fun i=>vs.getD i Value.none)=vs:=by
 refine Zt (by simp) fun i h1 h2=>?_
 simp [h2]
section
variable {prog:Program} {w:World} {A:Around} {E:Value→Shared→Prop} {s:Shared}
theorem a3E {a:Addr} {vs:List Value} {n:Nat} {P:PySem.Fin→Shared→Prop} (ho:s.heap.get? a=some (seqObj "list" vs.toArray n)) (h64:vs.length < 64) (lt:Nat→Nat→Bool) (κ:SortKind)
  (hk:2≤vs.length→∀h',(∀b o,b≠a→s.heap.get? b=some o→h'.get? b=some o)→∀Q:SortKind→Shared→Prop,Q κ {s with heap:=h'}→wpAny (model prog w) A (keyKind' vs.toArray) Q (fun _ _=>False) {s with heap:=h'})
  (hask:∀h',(∀b o,b≠a→s.heap.get? b=some o→h'.get? b=some o)→∀i j C,i < vs.length→j < vs.length→C (lt i j) {s with heap:=h'}→kas_ask prog w A κ vs i j C {s with heap:=h'})
  (h:∀p:Array Nat,a1n vs.length p→(2≤vs.length→p=b3Y lt (kas_sort vs.length))→P (.done (.ret .none)) {s with heap:=sortedHeap s.heap a vs (Zy (p.toList.map fun i=>vs.getD i Value.none))}):
  wpAny (model prog w) A (Builtin.«list.sort» ⟨[.ref a],[]⟩) P E s:=by
 rw [list_sort_plain]
 have ha:a < s.heap.objs.size:=Qs ho
 refine wpAny_bind (listItems_at ho rfl ?_)
 refine wpAny_bind (listUpdate_at ho rfl ?_ (by rw [Qo,sizeLine_eq];omega) (Xg _))
 obtain ⟨e1,ho1⟩:∃e1,(s.heap.update a (Obj.mapSeq fun _=>#[])).get? a=some (seqObj "list" #[] e1):=⟨_,get?_update_seq ho (fun _=>#[])⟩
 refine wpAny_bind (seqEpoch_at ho1 rfl ?_)
 refine wpAny_bind (wpAny_newTuple ?_ (by show vs.length≤_;rw [sizeLine_eq];omega))
 refine wpAny_bind (wpAny_newList ?_ (Xg _))
 refine wpAny_holding ?_
 have ho6:(((s.heap.update a (Obj.mapSeq fun _=>#[])).push (seqObj "tuple" vs.toArray 0)).push (seqObj "list" #[] 0)).get? a=some (seqObj "list" #[] e1):=by
  rw [Jn _ _ _ (by rw [size_push',Wd];exact Qx (Yp ha)),Jn _ _ _ (by rw [Wd];exact Qx ha)]
  exact ho1
 have keep:∀b o,b≠a→s.heap.get? b=some o→(((s.heap.update a (Obj.mapSeq fun _=>(#[]:Array Value))).push (seqObj "tuple" vs.toArray 0)).push (seqObj "list" #[] 0)).get? b=some o:=fun b o hb e=>by
  refine Qi _ (Qi _ ?_)
  rw [Gf _ _ _ _ hb];exact e
 show wpAny (model prog w) A _ P E {s with heap:=((s.heap.update a (Obj.mapSeq fun _=>(#[]:Array Value))).push (seqObj "tuple" vs.toArray 0)).push (seqObj "list" #[] 0)}
 dsimp only
 by_cases h2:vs.toArray.size < 2
 ·rw [if_pos h2,if_pos h2]
  refine wpAny_bind (wpAny_pure ?_)
  rw [StateT.run_pure]
  refine wpAny_bind (wpAny_pure ?_)
  dsimp only
  refine wpAny_bind (seqEpoch_at ho6 rfl ?_)
  have hz:((arrOf (SortSt.mk' general' (vs.toArray.zip vs.toArray) #[] 7 none)).map (·.2))=Zy ((Zy (Yb vs.length)).toList.map fun i=>vs.getD i Value.none):=by
   have e:=a7Z vs
   show ((vs.toArray.zip vs.toArray).map (·.2))=Zy ((Yb vs.length).map fun i=>vs.getD i Value.none)
   rw [e]
   apply Array.toList_inj.mp
   simp
   exact List.map_snd_zip (Qk _)
  rw [hz]
  refine wpAny_bind (listUpdate_at ho6 rfl ?_ (Xg _) (by simp only [Qo,Qd,Zn];rw [sizeLine_eq];omega))
  simp only [bne_self_eq_false,Zk,if_false]
  exact wpAny_pure (h (Zy (Yb vs.length)) (Ka.refl _) (fun z=>by rw [Qo] at h2;omega))
 ·rw [if_neg h2,if_neg h2]
  rw [Qo] at h2
  have h2':2≤vs.length:=by omega
  refine wpAny_bind (wpAny_mono (hk h2' _ keep (fun κ' s0=>κ'=κ∧s0={s with heap:=((s.heap.update a (Obj.mapSeq fun _=>(#[]:Array Value))).push (seqObj "tuple" vs.toArray 0)).push (seqObj "list" #[] 0)}) ⟨rfl,rfl⟩) (fun κ' s0 hk'=>?_) fun _ _ x=>x.elim)
  obtain ⟨rfl,rfl⟩:=hk'
  have hok:=b5c (n:=vs.length) ‹om›
  refine wpAny_bind (wpAny_mono (kat_run (Q:=fun st' s'=>∃p:Array Nat,p.size=vs.length∧arrOf st'=p.map (kas_item (vs.toArray.zip vs.toArray))∧failedOf st'=none∧p=b3Y lt (kas_sort vs.length)∧s'={s with heap:=((s.heap.update a (Obj.mapSeq fun _=>(#[]:Array Value))).push (seqObj "tuple" vs.toArray 0)).push (seqObj "list" #[] 0)})
   (G:=fun p s'=>p=b3Y lt (kas_sort vs.length)∧s'={s with heap:=((s.heap.update a (Obj.mapSeq fun _=>(#[]:Array Value))).push (seqObj "tuple" vs.toArray 0)).push (seqObj "list" #[] 0)})
   rfl h2' h64 (fun p' st' s' a1 a2 a3 a4=>⟨p',a1,a2,a3,a4.1,a4.2⟩) (TOk.wp (lt:=lt) (fun i j C hi hj hC=>hask _ keep i j C hi hj hC) hok ⟨rfl,rfl⟩)) ?_ fun _ _ e=>e)
  rintro ⟨⟨⟩,st'⟩ s' ⟨p,hp,har,hf,hpe,rfl⟩
  dsimp only
  have hP:a1n vs.length p:=by rw [hpe];exact hok.run
  refine wpAny_bind (seqEpoch_at ho6 rfl ?_)
  rw [kat_snds rfl har]
  refine wpAny_bind (listUpdate_at ho6 rfl ?_ (Xg _) (by simp only [Qo,Qd,Xb];rw [sizeLine_eq];omega))
  rw [hf]
  simp only [bne_self_eq_false,Zk,if_false]
  exact wpAny_pure (h p hP fun _=>hpe)
end
def b1p (K:Qe):List V→Hp→VK→Prop:=fun xs H Q=>∃(p:Addr) (ss:List Str),xs=[.ref p]∧SqL K H p (ss.map V.str)∧ss.length < 64∧∀l ss',H l=none→ss'.Perm ss→sortedS ss'=true→Q (.ref l) (upd H l (.lst (ss'.map V.str)))
def a9t:List V→Hp→VK→Prop:=fun xs H Q=>∃(p:Addr) (kvs:List (Key×V)) (ss:List Str),xs=[.ref p]∧Rd H p (.dK kvs)∧kvs.map (·.1)=ss.map Sum.inr∧ss.length < 64∧∀l ss',H l=none→ss'.Perm ss→sortedS ss'=true→Q (.ref l) (upd H l (.lst (ss'.map V.str)))
def b3w (K:Qe):List V→Hp→VK→Prop:=fun xs H Q=>∃(p:Addr) (ys:List V),xs=[.ref p]∧SqL K H p ys∧ys.length < 64∧(∀v∈ys,∃a i z,v=.ref a∧H a=some (.tup [.int i,.str z]))∧∀l ys',H l=none→ys'.Perm ys→Q (.ref l) (upd H l (.lst ys'))
def b7i (K:Qe):List V→Hp→VK→Prop:=fun xs H Q=>b1p K xs H Q∨(a9t xs H Q∨b3w K xs H Q)
theorem a4q:∀{ss:List Str} {its:List Value},a0F (ss.map V.str) its→StrsAre its ss
 | [],_,r=>by cases r;exact .nil
 | x::ss,_,r=>by
  cases r with
  | cons h t=>obtain ⟨t0,rfl⟩:=h;exact .cons _ _ (a4q t)
theorem a3B {ss:List Str} {its:List Value} (h:StrsAre its ss):a0F (ss.map V.str) its:=by
 induction h with
 | nil=>exact .nil
 | cons x t h ih=>exact .cons ⟨t,rfl⟩ ih
section
variable {X:Cx}
theorem a8C:a1t X (.builtin "sorted") (b1p X.K):=by
 intro pins s σ H xs us Q I r h
 obtain ⟨p,ss,rfl,hq,h64,q⟩:=h
 obtain ⟨u,rfl,ru⟩:=a2w r
 cases ru
 obtain ⟨its,rv,pl,hz⟩:=I.list hq
 have hn:=rv.length
 rw [Qd] at hn
 refine sorted_strs pl.isList (a4q rv) ‹om› fun out ss' a1 a2 a3=>?_
 obtain ⟨e,he⟩:=sortedAll_at s.heap its out
 have hl:ss'.length < 64:=by rw [a2.length_eq];exact h64
 have I1:=I.laid (a:=s.heap.objs.size+1) (o:=.lst (ss'.map V.str)) (h':=sortedAll s.heap its out) (t':=s.toks) (fun _ _ q=>sortedAll_old q) (Zg _) ⟨by rw [Qd,sizeLine_eq];omega,out.toList,e,a3B a1,he⟩
 exact ⟨.ref (s.heap.objs.size+1),_,I1,rfl,q _ _ (I.hok.fresh (Zg _)) a2 a3⟩
theorem a6T {P:Program} {w:World} {z:Str} {v:Value} (h:(a0Q P w).is (Sum.inr z) v=true):∃t,v=.str z t:=Value.isStrOf_shape h
theorem a4G:∀{its:List Value} {ss:List Str},its.length=ss.length→(∀(j:Nat) v,its[j]?=some v→∃z t,ss[j]?=some z∧v=.str z t)→StrsAre its ss
 | [],[],_,_=>.nil
 | [],_::_,h,_=>by simp at h
 | _::_,[],h,_=>by simp at h
 | v::its,z::ss,h,hv=>by
  obtain ⟨z',t,e1,e2⟩:=hv 0 v rfl
  cases e1
  rw [e2]
  exact .cons _ _ (a4G (by simpa using h) fun j u e=>by
   obtain ⟨a,b,c,d⟩:=hv (j+1) u (by simpa using e)
   exact ⟨a,b,by simpa using c,d⟩)
theorem b6Z:∀{r:List (Key×V)} {rs:List (Key×Value)},KV r rs→∀{i:Nat} {k:Key} {x:Value},rs[i]?=some (k,x)→∃y,r[i]?=some (k,y)∧a0R y x:=by
 intro r rs h
 unfold KV at h
 induction h with
 | nil=>intro i k x e;simp at e
 | @cons p q ps qs h t ih=>
  intro i k x e
  cases i with
  | zero=>
   simp only [Qa,Option.some.injEq] at e
   subst e
   exact ⟨p.2,by simp only [Qa];rw [show (k,p.2)=p from by rw [←show p.1=k from h.1]],h.2⟩
  | succ i=>exact ih (by simpa using e)
theorem a8F (hc:X.calm=true):a1t X (.builtin "sorted") a9t:=by
 intro pins s σ H xs us Q I r h
 obtain ⟨p,kvs,ss,rfl,hq,hks,h64,q⟩:=h
 obtain ⟨u,rfl,ru⟩:=a2w r
 cases ru
 obtain ⟨z,hd,vs,rel,dd⟩:=a6w I.hok hq
 obtain ⟨ep,hat⟩:=dd.dictAt
 have hn:vs.length=ss.length:=by rw [←rel.length];have:=congrArg Zp hks;simpa using this
 refine Calls.call_function_entry kind_sorted plain_sorted entry_sorted (args_sorted1 _) ?_
 unfold Builtin.«sorted»
 refine wpAny_bind (m:=checkCount "sorted" 1 1 _) (wpAny_pure ?_)
 refine wpAny_bind (kdu_collect (A:=X.A.in1) (kdl_dict (knd:=a0Q X.prog X.w) (kvs:=vs) (ep:=ep) hd) (I.ok.hd hc) hat (by rw [sizeLine_eq];omega) fun h' tk acc hk hacc=>?_)
 have hal:acc.toList.length=ss.length:=by rw [Xb];exact hacc.1.trans hn
 have hS:StrsAre acc.toList ss:=a4G hal fun j v e=>by
  obtain ⟨k,x,hx,hkv⟩:=hacc.2 j v (by rw [←Zb];exact e)
  obtain ⟨y,hy,_⟩:=b6Z rel hx
  have h1:(kvs.map (·.1))[j]?=some k:=by rw [Qr,hy];rfl
  rw [hks,Qr] at h1
  cases e2:ss[j]? with
  | none=>rw [e2] at h1;cases h1
  | some z'=>
   rw [e2] at h1
   cases h1
   obtain ⟨t,ht⟩:=a6T hkv
   exact ⟨z',t,rfl,ht⟩
 refine wpAny_bind (wpAny_newList ?_ (by rw [hal,sizeLine_eq];omega))
 have hoL:(h'.push (seqObj "list" acc.toList.toArray 0)).get? h'.objs.size=some (seqObj "list" acc.toList.toArray 0):=Qu _ rfl
 refine wpAny_bind (wpAny_holding (wpAny_call_entry slot_list_sort ⟨_,hoL,rfl⟩ entry_list_sort (list_sort_treeK (s:={s with heap:=h'.push (seqObj "list" acc.toList.toArray 0),toks:=tk}) (vs:=acc.toList) strKind_oneLt hoL hS.keysOf (fun v₁ v₂ a4d e=>keyKind_strs (by rw [←e];exact hS)) ‹om› fun st' a1 a2=>⟨_,rfl,?_⟩) (args_list_sort _)))
 refine wpAny_pure ⟨_,rfl,?_⟩
 obtain ⟨ss',b1,b2,b3⟩:=sorted_out_str hS a1 a2
 generalize (arrOf st').map (·.2)=out at b1 ⊢
 obtain ⟨e,he⟩:=sortedHeap_at (out:=out) hoL
 have hl:ss'.length < 64:=by rw [b2.length_eq];exact h64
 have I1:=I.kept (t':=tk) hk
 have I2:=I1.laid (a:=h'.objs.size) (o:=.lst (ss'.map V.str)) (h':=sortedHeap (h'.push (seqObj "list" acc.toList.toArray 0)) h'.objs.size acc.toList out) (t':=tk) (fun b o e=>by
  have hb:b < h'.objs.size:=Qs e
  rw [sortedHeap_old (Qx hb) (by rw [size_push'];exact Yp hb)]
  exact Qi _ e) (Qk _) ⟨by rw [Qd,sizeLine_eq];omega,out.toList,e,a3B b1,he⟩
 exact ⟨.ref h'.objs.size,_,I2,rfl,q _ _ (I1.hok.fresh (Qk _)) b2 b3⟩
def a2h (H:Hp):V→Int×Str
 | .ref a=>match H a with
  | some (.tup [.int i,.str z])=>(i,z)
  | _=>(0,"")
 | _=>(0,"")
def ltP (x y:Int×Str):Bool:=if x.1=y.1 then (if x.2=y.2 then false else decide (x.2.cps.toList < y.2.cps.toList)) else decide (x.1 < y.1)
theorem b2S {P:Program} {w:World} {H:Hp} {h:Heap} {a:Addr} {i:Int} {z:Str} (ok:a1m P w H h a (.tup [.int i,.str z])):∃o n t t',h.get? a=some o∧o.cls=.type "tuple"∧o.data=.seq #[.int i t,.str z t'] n:=by
 obtain ⟨_,its,rv,o,ho,hc,n,hd⟩:=ok
 cases rv with
 | cons h1 r=>
  cases r with
  | cons h2 r=>
   cases r
   obtain ⟨t,rfl⟩:=h1
   obtain ⟨t',rfl⟩:=h2
   exact ⟨o,n,t,t',ho,hc,hd⟩
theorem a9v {P:Program} {w:World} {H:Hp} {h h':Heap} (hok:∀a o,H a=some o→a1m P w H h a o) (hk:∀b o,h.get? b=some o→h'.get? b=some o):∀{ys:List V} {its:List Value},a0F ys its→(∀v∈ys,∃a i z,v=.ref a∧H a=some (.tup [.int i,.str z]))→
  ∃fs,KatTups h' its fs∧fs.length=its.length∧∀v∈fs,∃i t,v=.int i t
 | [],_,r,_=>by cases r;exact ⟨[],trivial,rfl,by simp⟩
 | y::ys,_,r,hT=>by
  cases r with
  | cons h1 r=>
   obtain ⟨fs,g1,g2,g3⟩:=a9v hok hk r fun v hv=>hT v (Qp _ hv)
   obtain ⟨a,i,z,rfl,ha⟩:=hT y Qm
   cases h1
   obtain ⟨o,n,t,t',e1,e2,e3⟩:=b2S (hok _ _ ha)
   refine ⟨.int i t::fs,KatTups.cons (hk _ _ e1) e2 e3 rfl g1,by simp [g2],fun v hv=>?_⟩
   rcases Qn.mp hv with e | e
   ·exact ⟨i,t,e⟩
   ·exact g3 v e
theorem a6d {ys:List V} {its:List Value} (r:a0F ys its):∀(l:List Nat),(∀i∈l,i < ys.length)→a0F (l.map fun i=>ys.getD i .non) (l.map fun i=>its.getD i Value.none)
 | [],_=>.nil
 | i::l,h=>by
  have hi:=h i Qm
  obtain ⟨u,hu,ru⟩:=r.get (Qc hi)
  refine .cons ?_ (a6d r l fun j hj=>h j (Qp _ hj))
  show a0R (ys.getD i .non) (its.getD i Value.none)
  rw [Jc,Qc hi,Jc,hu]
  exact ru
theorem a8B (vs:List V):(Yb vs.length).map (fun i=>vs.getD i .non)=vs:=by
 refine Zt (by simp) fun i h1 h2=>?_
 simp [h2]
theorem a7U:a1t X (.builtin "sorted") (b3w X.K):=by
 intro pins s σ H xs us Q I r h
 obtain ⟨p,ys,rfl,hq,h64,hT,q⟩:=h
 obtain ⟨u,rfl,ru⟩:=a2w r
 cases ru
 obtain ⟨its,rv,pl,hz⟩:=I.list hq
 have hn:=rv.length
 have hat:∀i,i < its.length→∃a o n t t',its.getD i Value.none=.ref a∧s.heap.get? a=some o∧o.data=.seq #[.int (a2h H (ys.getD i .non)).1 t,.str (a2h H (ys.getD i .non)).2 t'] n:=fun i hi=>by
  have hi':i < ys.length:=by omega
  obtain ⟨u,hu,ru⟩:=rv.get (Qc hi')
  obtain ⟨a,m,z,e,ha⟩:=hT _ (Qv hi')
  rw [e] at ru
  cases ru
  obtain ⟨o,n,t,t',e1,e2,e3⟩:=b2S (I.hok _ _ ha)
  have ep:a2h H (ys.getD i .non)=(m,z):=by
   rw [Jc,Qc hi',Xs,e]
   show (match H a with | some (.tup [.int i,.str z])=>(i,z) | _=>(0,""))=(m,z)
   rw [ha]
  rw [ep]
  exact ⟨a,o,n,t,t',by rw [Jc,hu];rfl,e1,e3⟩
 refine Calls.call_function_entry kind_sorted plain_sorted entry_sorted (args_sorted1 _) ?_
 unfold Builtin.«sorted»
 refine wpAny_bind (m:=checkCount "sorted" 1 1 _) (wpAny_pure ?_)
 refine wpAny_bind (collect_list pl.isList ?_ (by rw [sizeLine_eq];omega))
 refine wpAny_bind (wpAny_newList ?_ (by rw [sizeLine_eq];omega))
 have hsz:((s.heap.push (seqObj "list" #[] 0)).update s.heap.objs.size (Obj.mapSeq (·++its.toArray))).objs.size=s.heap.objs.size+1:=by
  rw [Wd,size_push']
 have hoL:(((s.heap.push (seqObj "list" #[] 0)).update s.heap.objs.size (Obj.mapSeq (·++its.toArray))).push (seqObj "list" its.toArray 0)).get? (s.heap.objs.size+1)=some (seqObj "list" its.toArray 0):=by
  rw [←hsz];exact Qu _ rfl
 have keep:∀b o,s.heap.get? b=some o→(((s.heap.push (seqObj "list" #[] 0)).update s.heap.objs.size (Obj.mapSeq (·++its.toArray))).push (seqObj "list" its.toArray 0)).get? b=some o:=fun b o q=>by
  have hlt:b < s.heap.objs.size:=Qs q
  rw [Jn _ _ _ (by rw [hsz];exact Qx (Yp hlt)),Gf _ _ _ _ (Qx hlt),Jn _ _ _ (Qx hlt)]
  exact q
 show wpAny _ _ _ _ _ {s with heap:=((s.heap.push (seqObj "list" #[] 0)).update s.heap.objs.size (Obj.mapSeq (·++its.toArray))).push (seqObj "list" its.toArray 0)}
 rw [hsz]
 have keep2:∀h':Heap,(∀b o,b≠s.heap.objs.size+1→(((s.heap.push (seqObj "list" #[] 0)).update s.heap.objs.size (Obj.mapSeq (·++its.toArray))).push (seqObj "list" its.toArray 0)).get? b=some o→h'.get? b=some o)→∀b o,s.heap.get? b=some o→h'.get? b=some o:=fun h' hk b o e=>hk b o (Qx (Yp (Qs e))) (keep b o e)
 refine wpAny_bind (wpAny_holding (wpAny_call_entry slot_list_sort ⟨_,hoL,rfl⟩ entry_list_sort (a3E (s:={s with heap:=((s.heap.push (seqObj "list" #[] 0)).update s.heap.objs.size (Obj.mapSeq (·++its.toArray))).push (seqObj "list" its.toArray 0)}) hoL ‹om›
  (fun i j=>ltP (a2h H (ys.getD i .non)) (a2h H (ys.getD j .non))) (tuples' true) ?hk ?hask fun pp hp _=>⟨_,rfl,?fin⟩) (args_list_sort _)))
 case hk=>
  intro h2 h' hkp Q' hQ'
  obtain ⟨fs,g1,g2,g3⟩:=a9v (h':=h') (fun a o e=>I.hok a o e) (keep2 h' hkp) rv hT
  refine kat_kind (T:=.type "int") g1 ‹om› (fun v hv=>?_) ‹dc› hQ'
  obtain ⟨i,t,rfl⟩:=g3 v hv
  exact .now
 case hask=>
  intro h' hkp i j C hi hj hC
  obtain ⟨a,oa,na,ta,ta',ea,ha,da⟩:=hat i hi
  obtain ⟨b,ob,nb,tb,tb',eb,hb,db⟩:=hat j hj
  unfold kas_ask
  rw [ea,eb]
  refine kat_lt (keep2 h' hkp _ _ ha) da (keep2 h' hkp _ _ hb) db ?_
  have hC':C (ltP (a2h H (ys.getD i .non)) (a2h H (ys.getD j .non))) {s with heap:=h'}:=hC
  generalize a2h H (ys.getD i .non)=x at hC' ⊢
  generalize a2h H (ys.getD j .non)=y at hC' ⊢
  unfold ltP at hC'
  show KatLex _ _ _ _ _ _ [(.int x.1 ta,.int y.1 tb),(.str x.2 ta',.str y.2 tb')] 0 _
  refine kat_cons (wpAny_eqBool_int ?_)
  by_cases h1:x.1=y.1
  ·rw [show (x.1 == y.1)=true from by rw [h1];exact beq_self_eq_true _]
   rw [if_pos h1] at hC'
   refine kat_yes (kat_cons (wpAny_eqBool_str ?_))
   by_cases h2:x.2=y.2
   ·rw [decide_eq_true h2]
    rw [if_pos h2] at hC'
    exact kat_yes (kat_nil (by simpa using hC'))
   ·rw [decide_eq_false h2]
    rw [if_neg h2] at hC'
    refine kat_no ?_
    show wpAny _ _ (oneLt' (true && (0+1) == 0) _ _) _ _ _
    rw [show (true && (0+1) == 0)=false from rfl]
    exact kat_one _ _ (PySem.P.lt_str hC')
  ·rw [show (x.1 == y.1)=false from beq_eq_false_iff_ne.mpr h1]
   rw [if_neg h1] at hC'
   refine kat_no ?_
   exact oneLt_int hC'
 case fin=>
  refine wpAny_pure ⟨_,rfl,?_⟩
  obtain ⟨e,he⟩:=sortedHeap_at (out:=Zy (pp.toList.map fun i=>its.getD i Value.none)) hoL
  have hpl:∀i∈pp.toList,i < ys.length:=fun i hi=>by
   have:=hp.list.mem_iff.mp hi
   rw [Uc] at this;omega
  have hplen:pp.toList.length=its.length:=by rw [hp.list.length_eq,Zn]
  have I2:=I.laid (a:=s.heap.objs.size+1) (o:=.lst (pp.toList.map fun i=>ys.getD i .non)) (h':=sortedHeap (((s.heap.push (seqObj "list" #[] 0)).update s.heap.objs.size (Obj.mapSeq (·++its.toArray))).push (seqObj "list" its.toArray 0)) (s.heap.objs.size+1) its (Zy (pp.toList.map fun i=>its.getD i Value.none))) (t':=s.toks) (fun b o e=>by
   have hb:b < s.heap.objs.size:=Qs e
   rw [sortedHeap_old (Qx (Yp hb)) (by rw [size_push',hsz];exact Yp (Yp hb))]
   exact keep b o e) (Zg _) ⟨by rw [Qd,sizeLine_eq];omega,pp.toList.map fun i=>its.getD i Value.none,e,a6d rv _ hpl,he⟩
  refine ⟨.ref (s.heap.objs.size+1),_,I2,rfl,q _ _ (I.hok.fresh (Zg _)) ?_⟩
  have h1:=hp.list.map fun i=>ys.getD i .non
  rw [←hn,a8B] at h1
  exact h1
theorem a1A (hc:X.calm=true):a1t X (.builtin "sorted") (b7i X.K):=a1t.or a8C (a1t.or (a8F hc) a7U)
theorem a0H:bootBuiltins "sorted"=some (.builtin "sorted"):=by decide+kernel
end
def a0q (H:Hp) (xs:List V) (pl:List (Str×Str)):Prop:=∃as:List Addr,xs=as.map V.ref∧as.length=pl.length∧∀(i:Nat) (a:Addr) (p:Str×Str),as[i]?=some a→pl[i]?=some p→H a=some (.tup [.str p.1,.str p.2])
def a4r (H:Hp) (a:Addr):Option (Str×Str):=match H a with
 | some (.tup [.str x,.str y])=>some (x,y)
 | _=>none
def c5v (K:Qe):R2:=fun x y H Q=>∃(q l:Addr) (a b:Str) (xs:List V) (pl:List (Str×Str)),x=.ref q∧y=.ref l∧H q=some (.tup [.str a,.str b])∧SqL K H l xs∧a0q H xs pl∧(Xd a=true∧Xd b=true)∧(∀p∈pl,Xd p.1=true∧Xd p.2=true)∧Q (.bl (decide ((a,b)∈pl))) H
section
variable {X:Cx} {pos:Pos}
theorem a3y {K:Qe} {H:Hp} {a:Addr} {x y:Str} (h:H a=some (.tup [.str x,.str y])):Den K H (.ref a) (.tuple [.str x,.str y]):=.tup (SqT.of h) (.cons (.str x) (.cons (.str y) .nil))
theorem a3x {x y:Str} (h1:Xd x=true) (h2:Xd y=true):Zv (.tuple [.str x,.str y])=true:=by
 show (Zv (.str x) && (Zv (.str y) && true))=true
 rw [show Zv (.str x)=true from h1,show Zv (.str y)=true from h2];rfl
theorem a5i (x y a b:Str):Yd (.tuple [.str x,.str y]) (.tuple [.str a,.str b])=decide ((x,y)=(a,b)):=by
 have e:Yd (.tuple [.str x,.str y]) (.tuple [.str a,.str b])=(decide (x=a) && (decide (y=b) && true)):=by first | rfl | simp [Yd,Zs]
 rw [e]
 by_cases h1:x=a<;>by_cases h2:y=b<;>simp [h1,h2]
theorem b6B (hu:X.A.units+64 < cLine):OpR X (compareOp .In) (c5v X.K):=by
 intro pins s σ H x y v u Q I rx ry h
 obtain ⟨q,l,a,b,xs,pl,rfl,rfl,hq,hl,⟨as,rfl,hal,hat⟩,hab,hpo,qq⟩:=h
 cases rx
 cases ry
 obtain ⟨its,rv,p1,hz⟩:=I.list hl
 have hits:its=as.map Value.ref:=by
  have:∀{as:List Addr} {its:List Value},a0F (as.map V.ref) its→its=as.map Value.ref:=by
   intro as
   induction as with
   | nil=>intro its r;cases r;rfl
   | cons a as ih=>
    intro its r
    cases r with
    | cons h t=>cases h;rw [ih t];rfl
  exact this rv
 subst hits
 have hpr:∀c∈as,∃p∈pl,H c=some (.tup [.str p.1,.str p.2]):=fun c hc=>by
  obtain ⟨i,hi,rfl⟩:=Zz hc
  have hi':i < pl.length:=by omega
  exact ⟨pl[i],Qv hi',hat i _ _ (Qc hi) (Qc hi')⟩
 obtain ⟨bs,rb⟩:=(a3y (K:=X.K) hq).reads I (show a0R (V.ref q) (Value.ref q) from rfl)
 refine SeqAt.in_listAt (fun w=>match w with | .ref c=>decide (a4r H c=some (a,b)) | _=>false) p1.isList (fun w hw=>?_) ⟨.bl _,H,I,rfl,?_⟩
 ·obtain ⟨c,hc,rfl⟩:=Qy.mp (show w∈as.map Value.ref by simpa using hw)
  obtain ⟨p,hp,hc2⟩:=hpr c hc
  obtain ⟨cs,rc⟩:=(a3y (K:=X.K) hc2).reads I (show a0R (V.ref c) (Value.ref c) from rfl)
  have e0:=SeqAt.eqAt_reads _ _ X.A.in1 s _ _ _ _ rc rb (a3x (hpo p hp).1 (hpo p hp).2) (a3x hab.1 hab.2) (by
   have h1:min (Zq (.tuple [.str p.1,.str p.2])) (Zq (.tuple [.str a,.str b]))≤1:=Qj (Ux _ _) (by simp [Zq,Jv])
   have h2:X.A.in1.units≤X.A.units+1:=by first | exact Qk _ | exact Zg _ | (simp [Around.in1])
   omega)
  rw [a5i] at e0
  have e1:(match Value.ref c with | .ref c=>decide (a4r H c=some (a,b)) | _=>false)=decide ((p.1,p.2)=(a,b)):=by
   show decide (a4r H c=some (a,b))=_
   have:a4r H c=some (p.1,p.2):=by unfold a4r;rw [hc2]
   rw [this,Yh,decide_eq_true_eq,decide_eq_true_eq,Option.some.injEq]
  rw [e1];exact e0
 ·have e2:(Zy (as.map Value.ref)).any (fun w=>match w with | .ref c=>decide (a4r H c=some (a,b)) | _=>false)=decide ((a,b)∈pl):=by
   rw [List.any_toArray,Zr,Yh,Xx,decide_eq_true_eq]
   constructor
   ·rintro ⟨c,hc,e⟩
    obtain ⟨p,hp,hc2⟩:=hpr c hc
    have e':a4r H c=some (a,b):=of_decide_eq_true e
    have:a4r H c=some (p.1,p.2):=by unfold a4r;rw [hc2]
    rw [this] at e'
    have e3:p=(a,b):=Option.some.inj e'
    rw [←e3];exact hp
   ·intro hm
    obtain ⟨i,hi,e⟩:=Zz hm
    have hi':i < as.length:=by omega
    have h1:=hat i _ _ (Qc hi') (Qc hi)
    refine ⟨as[i],Qv hi',decide_eq_true ?_⟩
    unfold a4r;rw [h1,e]
  rw [e2];exact qq
end
theorem b5r {K:Qe} {a:Addr} {xs:List V} {js:List (Option Nat)} {tt:TT} {te:TE} {σ:St} {H:Hp} {Q:VK} (σr:St) (hn:xs.length≤sizeLine) (hσ:a2l js σ=none::none::σr) (keep:Nat→Bool→Prop) (ha:SqL K H a xs)
  (hs:∀i H' (R:Bool→Hp→Prop) (hi:i < xs.length),a0g H H'→(∀b H'',a0g H' H''→keep i b→R b H'')→tt (some (.int i)::some xs[i]::σr) H' R)
  (he:∀i H' (R:V→Hp→Prop) (hi:i < xs.length),a0g H H'→(∀H'',a0g H' H''→R xs[i] H'')→te (some (.int i)::some xs[i]::σr) H' R)
  (hd:∀D H' (bs:List Bool),bs.length=xs.length→(∀i b,bs[i]?=some b→keep i b)→H D=none→a0g H H'→H' D=some (.lst ((xs.zip bs).filterMap fun p=>if p.2=true then some p.1 else none))→Q (.ref D) H'):a4f (Ite K a) js (b6b K 2 (a6L (a0s 0) (a6L (a0s 1) b6X))) tt te σ H Q:=by
 intro D hD
 refine ⟨fun i m σ' H' ys=>m=xs.length - i∧i≤xs.length∧(∃u v,σ'=u::v::σr)∧a0g H H'∧H' D=some (.lst ys)∧∃bs:List Bool,bs.length=i∧(∀j b,bs[j]?=some b→keep j b)∧ys=((xs.take i).zip bs).filterMap fun p=>if p.2=true then some p.1 else none,
  ⟨xs.length,by simp,Xg _,⟨none,none,hσ⟩,a0g.upd hD,a0e,[],rfl,fun j b e=>by simp at e,by simp⟩,?_⟩
 rintro i m σ' H' ys ⟨rfl,hi,⟨u,v,rfl⟩,s,h,bs,hbl,hbk,hys⟩
 refine ⟨h,?_⟩
 by_cases hlt:i < xs.length
 ·have hyl:ys.length≤i:=by
   rw [hys]
   refine Qj (List.length_filterMap_le _ _) ?_
   rw [List.length_zip,Xo];omega
  refine .inr ⟨⟨xs,xs[i],s.seq ha,Qc hlt⟩,by omega,?_⟩
  rintro x H2 ⟨p,w,hpn,hw,rfl,rfl⟩
  have ew:w=xs[i]:=by have:=hw xs (s.seq ha);rw [Qc hlt] at this;exact (Option.some.inj this).symm
  subst ew
  obtain ⟨H3,e3,s3,h3⟩:∃H3,upd H' p (.tup [.int i,xs[i]])=H3∧a0g H' H3∧H3 p=some (.tup [.int i,xs[i]]):=⟨_,rfl,a0g.upd hpn,a0e⟩
  rw [e3]
  refine ⟨p,_,rfl,SqT.of h3,rfl,_,_,rfl,_,_,rfl,rfl,?_⟩
  show tt (some (.int i)::some xs[i]::σr) H3 _
  have hstep:∀b,keep i b→(∀j b',(bs++[b])[j]?=some b'→keep j b')∧(((xs.take (i+1)).zip (bs++[b])).filterMap fun p=>if p.2=true then some p.1 else none)=ys++(if b=true then [xs[i]] else []):=fun b hb=>by
   refine ⟨fun j b' e=>?_,?_⟩
   ·by_cases hj:j < bs.length
    ·rw [Yx hj] at e;exact hbk j b' e
    ·have hj2:=(Xa.mp e).1
     have ej:j=bs.length:=by simp at hj2;omega
     subst ej
     rw [Ys (Qk _),Wc] at e
     cases e;rw [hbl];exact hb
   ·rw [Xe hlt,List.zip_append (by rw [Xo,hbl];omega),List.filterMap_append,←hys]
    cases b<;>rfl
  refine hs i H3 _ hlt (s.trans s3) fun b H4 s4 hb=>?_
  obtain ⟨st1,st2⟩:=hstep b hb
  cases b with
  | false=>
   rw [if_neg Qq]
   refine ⟨xs.length - (i+1),by omega,rfl,hlt,⟨_,_,rfl⟩,(s.trans s3).trans s4,s4 _ _ (s3 _ _ h),bs++[false],by simp [hbl],st1,?_⟩
   rw [st2,if_neg Qq,Qf]
  | true=>
   rw [if_pos rfl]
   refine he i H4 _ hlt ((s.trans s3).trans s4) fun H5 s5=>⟨s5 _ _ (s4 _ _ (s3 _ _ h)),xs.length - (i+1),by omega,rfl,hlt,⟨_,_,rfl⟩,?_,a0e,bs++[true],by simp [hbl],st1,?_⟩
   ·intro b o e;rw [a0d (a0c e hD)];exact s5 _ _ (s4 _ _ (s3 _ _ (s b o e)))
   ·rw [st2,if_pos rfl]
 ·have e:i=xs.length:=by omega
  subst e
  rw [Xy] at hys
  exact .inl ⟨⟨xs,s.seq ha,Qk _⟩,hd D H' bs hbl hbk hD s (by rw [←hys];exact h)⟩
def b9B (t u:TT):TT:=fun σ H Q=>t σ H Q∨u σ H Q
theorem b6H {X:Cx} {e:Expr} {t u:TT} (h1:PT X e t) (h2:PT X e u):PT X e (b9B t u):=fun pins s σ H Q I h=>h.elim (h1 pins s σ H Q I) (h2 pins s σ H Q I)
def c5x (K:Qe):R2:=fun x y H Q=>∃(a b:Addr) (xs:List V),x=.ref a∧y=.ref b∧SqL K H a xs∧SqL K H b []∧Q (.bl (decide (xs=[]))) H
section
variable {X:Cx}
theorem b3i (hu:X.A.units+64 < cLine):OpR X (compareOp .Eq) (c5x X.K):=by
 intro pins s σ H x y v u Q I rx ry h
 obtain ⟨a,b,xs,rfl,rfl,ha,hb,q⟩:=h
 cases rx
 cases ry
 obtain ⟨its,rv,p1,_⟩:=I.list ha
 obtain ⟨its2,rv2,p2,_⟩:=I.list hb
 have hl:=rv.length
 have hl2:=rv2.length
 cases rv2
 by_cases hx:xs=[]
 ·subst hx
  cases rv
  rw [decide_eq_true rfl] at q
  exact SeqAt.eq_listAt (e:=fun _=>true) p1.isList p2.isList rfl ‹om› (fun j h1 _=>absurd h1 (by simp)) ⟨.bl _,H,I,rfl,q⟩
 ·rw [decide_eq_false hx] at q
  refine SeqAt.eq_list_lengthsAt p1.isList p2.isList ?_ ‹om› ⟨.bl _,H,I,rfl,q⟩
  have:its.length≠0:=fun z=>hx (Zm.mp ‹om›)
  simp [this]
end
end L2
namespace L2
open PySem PySem.Spec PySem.W PyProof.Rows
theorem a1n.size {n:Nat} {p:Array Nat} (h:a1n n p):p.size=n:=by
 have:=Ka.size_eq h;simpa using this
theorem a1n.inj {n:Nat} {p:Array Nat} (h:a1n n p) {i j:Nat} (hi:i < n) (hj:j < n) (e:i≠j):p.getD i 0≠p.getD j 0:=by
 have nd:p.toList.Nodup:=(h.list.nodup_iff).mpr List.nodup_range
 have hs:=h.size
 rw [List.nodup_iff_pairwise_ne,List.pairwise_iff_getElem] at nd
 have e1:p.getD i 0=p[i]'‹om›:=by simp [Uw,show i < p.size by omega]
 have e2:p.getD j 0=p[j]'‹om›:=by simp [Uw,show j < p.size by omega]
 rw [e1,e2]
 rcases Nat.lt_or_gt_of_ne e with q | q
 ·exact nd i j (by simpa using (by omega:i < p.size)) (by simpa using (by omega:j < p.size)) q
 ·exact Ne.symm (nd j i (by simpa using (by omega:j < p.size)) (by simpa using (by omega:i < p.size)) q)
def b5j (K:Qe):List V→Hp→VK→Prop:=fun xs H Q=>∃(p:Addr) (ys:List V),xs=[.ref p]∧SqL K H p ys∧ys.length < 64∧(∀v∈ys,∃a i z,v=.ref a∧H a=some (.tup [.int i,.str z]))∧(ys.map (a2h H)).Nodup∧
 ∀l ys',H l=none→ys'.Perm ys→(ys'.map (a2h H)).Pairwise (fun x y=>ltP x y=true)→Q (.ref l) (upd H l (.lst ys'))
def b6F (K:Qe):List V→Hp→VK→Prop:=fun xs H Q=>b1p K xs H Q∨(a9t xs H Q∨b5j K xs H Q)
end L2
namespace L2
open PySem PySem.Spec PySem.W PyProof.Rows PySem.Builtin PySem.Builtin.ObjectAttr
def b2X:List Value→Bool
 | .ref _::r=>b2X r
 | [.type a,.type b,.type c,.type d]=>a == "ValueError" && b == "Exception" && c == "BaseException" && d == "object"
 | _=>false
def b9k (K:Qe) (C:Addr):Bool:=(clsIn K C).any fun cd=>b2X cd.mro
end L2
namespace L2
open PySem PySem.Spec PySem.W PySem.Calls PyProof.Rows PySem.Builtin PySem.Builtin.ObjectAttr
abbrev bmV:List Value:=[.type "ValueError",.type "Exception",.type "BaseException",.type "object"]
def c5P (K:Qe) (C:Addr):Bool:=match K.lookup C with
 | some ⟨.type "type",_,.cls cd,sl⟩=>(match cd.mro,sl.toList with
  | .ref C'::bm,[_,_,_,_,some (.builtin n),_]=>C' == C && n == "ValueError.__new__" && !cd.hasDel && !cd.abstract && tailIn K bmV bm && specialIn K (.ref C) "__call__" == some (some (.builtin "type.__call__")) && instIn K (.ref C) (.type "type") == some true
  | _,_=>false)
 | _=>false
structure c5d (K:Qe) (C:Addr):Prop where
 ga:findIn K (.ref C) "__getattribute__"=some (some (.builtin "BaseException.__getattribute__"))
 gt:findIn K (.ref C) "__getattr__"=some none
 bx:mroIn K C (.type "BaseException")=some true
 hd:hasDictIn K C=true
 cc:findIn K (.ref C) "__class__"=some (some (.builtin "object.__class__"))
 cg:specialIn K (.builtin "object.__class__") "__get__"=some (some (.builtin "getset_descriptor.__get__"))
 ct:takesIn K (.builtin "object.__class__")=some true
 mo:mroIn K C (.type "object")=some true
 sa:findIn K (.ref C) "__setattr__"=some (some (.builtin "object.__setattr__"))
 ov:b9k K C=true
 xc:c5P K C=true
end L2
namespace L2
open PySem PySem.Spec PySem.W PyProof.Rows
def c2i (x C:Addr) (od:Option Addr):HO:=.ext fun h=>∃vs sl,h.get? x=some ⟨.ref C,od,.fields vs,sl⟩∧vs[1]?=some Value.none
def c3T (x C:Addr) (od:Option Addr) (T:Addr):HO:=.ext fun h=>∃vs sl,h.get? x=some ⟨.ref C,od,.fields vs,sl⟩∧vs[1]?=some (Value.ref T)
def IsX (H:Hp) (x C:Addr) (od:Option Addr):Prop:=H x=some (c2i x C od)∨∃T,H x=some (c3T x C od T)
end L2
namespace L2
open PySem PySem.Spec PySem.W PySem.Calls PyProof.Rows
def c4V (H:Hp) (x C:Addr) (m:Str) (v:V):Prop:=∃d,IsX H x C (some d)∧H d=some (.xd [(m,v)])
def c0W (H:Hp) (x C:Addr):Option (Str×V)→Prop
 | some (m,v)=>c4V H x C m v
 | none=>IsX H x C none
def b5V (H:Hp):List Addr→List (Addr×Option (Str×V))→Prop
 | [],[]=>True
 | x::xs,e::es=>c0W H x e.1 e.2∧b5V H xs es
 | _,_=>False
theorem b5V.len {H:Hp}:∀{xs:List Addr} {es:List (Addr×Option (Str×V))},b5V H xs es→xs.length=es.length
 | [],[],_=>rfl
 | _::_,_::_,⟨_,b⟩=>congrArg (·+1) b.len
 | [],_::_,h=>h.elim
 | _::_,[],h=>h.elim
theorem b5V.get {H:Hp}:∀{xs:List Addr} {es:List (Addr×Option (Str×V))} {i:Nat} {e:Addr×Option (Str×V)},b5V H xs es→es[i]?=some e→∃x,xs[i]?=some x∧c0W H x e.1 e.2
 | _::_,_::_,0,_,⟨a,_⟩,h=>by cases h;exact ⟨_,rfl,a⟩
 | _::_,_::_,i+1,_,⟨_,b⟩,h=>b5V.get (i:=i) b (by simpa using h)
 | [],_::_,_,_,h,_=>h.elim
 | _::_,[],_,_,h,_=>h.elim
def TbO (T:Addr) (fl:Value):HO:=.ext fun h=>∃ob ts,h.get? T=some ob∧ob.data=.fields ts∧ts[3]?=some fl
def Fl (H:Hp) (x C:Addr) (od:Option Addr) (fl:Value) (T:Addr):Prop:=T≠x∧H x=some (c3T x C od T)∧H T=some (TbO T fl)
def Arr (H:Hp) (x C:Addr) (od oT:Option Addr):Prop:=(oT=none∧H x=some (c2i x C od))∨∃T,oT=some T∧Fl H x C od .none T
section
variable {X:Cx} {pins:List (Addr×Obj)} {σ:St} {H:Hp} {s:Shared}
abbrev XW:=St→Addr→Addr→Hp→Prop
def XP (X:Cx) (pins:List (Addr×Obj)) (W:XW) (e:Value) (s':Shared):Prop:=∃σ H x C od oT,e=.ref x∧Inv X pins σ H s'∧Arr H x C od oT∧c5d X.K C∧W σ x C H
end
section
variable {κ:Type} [DecidableEq κ]
def a1P (val:Nat→κ):Nat→List κ
 | 0=>[]
 | i+1=>if val i∈a1P val i then a1P val i else a1P val i++[val i]
theorem b0D (val:Nat→κ):∀i,(a1P val i).length≤i
 | 0=>Qk _
 | i+1=>by
  have:=b0D val i
  unfold a1P
  split
  ·omega
  ·simp;omega
theorem a7a (val:Nat→κ) (i:Nat) (k:κ):decide (k∈a1P val (i+1))=(decide (k∈a1P val i) || decide (k=val i)):=by
 show decide (k∈if val i∈a1P val i then a1P val i else a1P val i++[val i])=_
 by_cases h:val i∈a1P val i
 ·rw [if_pos h]
  by_cases e:k=val i
  ·subst e;simp [h]
  ·simp [e]
 ·rw [if_neg h];simp
theorem b2O (val:Nat→κ) (i:Nat):(a1P val (i+1)).length=if decide (val i∈a1P val i)=true then (a1P val i).length else (a1P val i).length+1:=by
 show (if val i∈a1P val i then a1P val i else a1P val i++[val i]).length=_
 by_cases h:val i∈a1P val i
 ·rw [if_pos h,if_pos (by simpa using h)]
 ·rw [if_neg h,if_neg (by simpa using h)];simp
end
section
variable {prog:Program} {w:World} {A:Around} {κ:Type} [DecidableEq κ] {knd:PySem.KeyKind prog w κ}
abbrev a7W (led:Bool):Obj:={cls:=.type "set",dict:=none,data:=.set #[] 0 (.fresh 0 0 led)}
end
theorem a9N:bootBuiltins "set"=some (.type "set"):=by decide+kernel
end L2
namespace Tx
open PySem PySem.Builtin PySem.Builtin.Str PySem.StrLaws PyProof.Rows
theorem a1U (l:List Nat) (i j:Nat):(strSub (mk l) i j).length≤l.length:=by
 rw [b6O,a2y]
 exact Qj (List.length_take_le' _ _) (by rw [Uo];omega)
end Tx
namespace L2
open PySem PySem.Spec PySem.W PySem.Calls PyProof.Rows
def c6t (K:Qe):R2:=fun x y H Q=>∃(a b:Addr) (xs:List V),x=.ref a∧y=.ref b∧SqL K H a xs∧SqL K H b []∧Q (.bl (decide (xs≠[]))) H
section
variable {X:Cx}
theorem a6Y (hu:X.A.units+64 < cLine):OpR X (compareOp .NotEq) (c6t X.K):=by
 intro pins s σ H x y v u Q I rx ry h
 obtain ⟨a,b,xs,rfl,rfl,ha,hb,q⟩:=h
 cases rx
 cases ry
 obtain ⟨its,rv,p1,_⟩:=I.list ha
 obtain ⟨its2,rv2,p2,_⟩:=I.list hb
 have hl:=rv.length
 cases rv2
 by_cases hx:xs=[]
 ·subst hx
  cases rv
  rw [decide_eq_false (fun z=>z rfl)] at q
  exact SeqAt.RcNeAt.lists (e:=fun _=>true) p1.isList p2.isList rfl ‹om› (fun j h1 _=>absurd h1 (by simp)) X.prog X.w _ _ ⟨.bl _,H,I,rfl,q⟩
 ·rw [decide_eq_true hx] at q
  refine SeqAt.RcNeAt.lists_lengths p1.isList p2.isList ?_ ‹om› X.prog X.w _ _ ⟨.bl _,H,I,rfl,q⟩
  have:its.length≠0:=fun z=>hx (Zm.mp ‹om›)
  simp [this]
end
end L2
namespace L2
open PySem PySem.Spec PyProof.Rows PySem.W
end L2
namespace L2
open PySem PySem.Spec PyProof.Rows
def a6U (K:Qe):R2:=fun x y H Q=>∃(q l:Addr) (a b:Str) (xs:List V) (pl:List (Str×Str)),x=.ref q∧y=.ref l∧H q=some (.tup [.str a,.str b])∧SqL K H l xs∧a0q H xs pl∧(Xd a=true∧Xd b=true)∧(∀p∈pl,Xd p.1=true∧Xd p.2=true)∧Q (.bl (!decide ((a,b)∈pl))) H
section
variable {X:Cx} {pos:Pos}
theorem b0Q (hu:X.A.units+64 < cLine):OpR X (compareOp .NotIn) (a6U X.K):=by
 intro pins s σ H x y v u Q I rx ry h
 obtain ⟨q,l,a,b,xs,pl,rfl,rfl,hq,hl,⟨as,rfl,hal,hat⟩,hab,hpo,qq⟩:=h
 cases rx
 cases ry
 obtain ⟨its,rv,p1,hz⟩:=I.list hl
 have hits:its=as.map Value.ref:=by
  have:∀{as:List Addr} {its:List Value},a0F (as.map V.ref) its→its=as.map Value.ref:=by
   intro as
   induction as with
   | nil=>intro its r;cases r;rfl
   | cons a as ih=>
    intro its r
    cases r with
    | cons h t=>cases h;rw [ih t];rfl
  exact this rv
 subst hits
 have hpr:∀c∈as,∃p∈pl,H c=some (.tup [.str p.1,.str p.2]):=fun c hc=>by
  obtain ⟨i,hi,rfl⟩:=Zz hc
  have hi':i < pl.length:=by omega
  exact ⟨pl[i],Qv hi',hat i _ _ (Qc hi) (Qc hi')⟩
 obtain ⟨bs,rb⟩:=(a3y (K:=X.K) hq).reads I (show a0R (V.ref q) (Value.ref q) from rfl)
 refine Gn (fun w=>match w with | .ref c=>decide (a4r H c=some (a,b)) | _=>false) p1.isList (fun w hw=>?_) ⟨.bl _,H,I,rfl,?_⟩
 ·obtain ⟨c,hc,rfl⟩:=Qy.mp (show w∈as.map Value.ref by simpa using hw)
  obtain ⟨p,hp,hc2⟩:=hpr c hc
  obtain ⟨cs,rc⟩:=(a3y (K:=X.K) hc2).reads I (show a0R (V.ref c) (Value.ref c) from rfl)
  have e0:=SeqAt.eqAt_reads _ _ X.A.in1 s _ _ _ _ rc rb (a3x (hpo p hp).1 (hpo p hp).2) (a3x hab.1 hab.2) (by
   have h1:min (Zq (.tuple [.str p.1,.str p.2])) (Zq (.tuple [.str a,.str b]))≤1:=Qj (Ux _ _) (by simp [Zq,Jv])
   have h2:X.A.in1.units≤X.A.units+1:=by first | exact Qk _ | exact Zg _ | (simp [Around.in1])
   omega)
  rw [a5i] at e0
  have e1:(match Value.ref c with | .ref c=>decide (a4r H c=some (a,b)) | _=>false)=decide ((p.1,p.2)=(a,b)):=by
   show decide (a4r H c=some (a,b))=_
   have:a4r H c=some (p.1,p.2):=by unfold a4r;rw [hc2]
   rw [this,Yh,decide_eq_true_eq,decide_eq_true_eq,Option.some.injEq]
  rw [e1];exact e0
 ·have e2:(Zy (as.map Value.ref)).any (fun w=>match w with | .ref c=>decide (a4r H c=some (a,b)) | _=>false)=decide ((a,b)∈pl):=by
   rw [List.any_toArray,Zr,Yh,Xx,decide_eq_true_eq]
   constructor
   ·rintro ⟨c,hc,e⟩
    obtain ⟨p,hp,hc2⟩:=hpr c hc
    have e':a4r H c=some (a,b):=of_decide_eq_true e
    have:a4r H c=some (p.1,p.2):=by unfold a4r;rw [hc2]
    rw [this] at e'
    have e3:p=(a,b):=Option.some.inj e'
    rw [←e3];exact hp
   ·intro hm
    obtain ⟨i,hi,e⟩:=Zz hm
    have hi':i < as.length:=by omega
    have h1:=hat i _ _ (Qc hi') (Qc hi)
    refine ⟨as[i],Qv hi',decide_eq_true ?_⟩
    unfold a4r;rw [h1,e]
  rw [e2];exact qq
theorem a4l {K:Qe} (hu:X.A.units+64 < cLine) (hK:X.K=K):OpR X (compareOp .NotIn) (a6U K):=hK ▸ b0Q hu
end
def c4x:R2:=fun x y H Q=>∃b c,x=.bl b∧y=.bl c∧Q (.bl (b == c)) H
theorem b5t {b c:Bool} {H:Hp} {Q:VK}:c4x (.bl b) (.bl c) H Q↔Q (.bl (b == c)) H:=⟨by rintro ⟨_,_,e1,e2,q⟩;cases e1;cases e2;exact q,fun q=>⟨_,_,rfl,rfl,q⟩⟩
section
variable {X:Cx}
theorem b6s:OpR X (compareOp .Is) c4x:=by
 intro pins s σ H x y v u Q I rx ry h
 obtain ⟨b,c,rfl,rfl,q⟩:=h
 cases rx;cases ry
 unfold compareOp
 repeat wp_step
 exact a0C I q (by cases b<;>cases c<;>rfl)
end
end L2
namespace L2
open PySem PySem.Spec PySem.W PySem.Calls PyProof.Rows
def Wk (w:World) (t:SetTable) (n:Nat):Prop:=(w.params.followText "set-order"=false→t.led=true)∧(n≠0→t.plain=false)
theorem b4U (t:SetTable) (es:Array (Int×Value)) (h:Int) (x:Value):(layNew t es h x).2.1.led=t.led:=by
 unfold layNew
 split
 ·rename_i slot wd _
  show (SetTable.orStandIn (t.put slot).1 _).led=_
  unfold SetTable.orStandIn
  split<;>rfl
 ·rfl
theorem b1c (t:SetTable) (es:Array (Int×Value)) (n:Nat):(relayAll t es n).2.1.led=t.led∧(t.plain=false→(relayAll t es n).2.1.plain=false):=by
 unfold relayAll
 split
 ·rename_i t' order e
  unfold SetTable.relaid SetTable.laid at e
  simp only [Option.bind_eq_bind,Option.bind_eq_some_iff,Option.pure_def,Option.some.injEq,Prod.mk.injEq] at e
  obtain ⟨o,_,e1,_⟩:=e
  subst e1
  dsimp only
  split
  ·exact ⟨rfl,fun h=>h⟩
  ·exact ⟨rfl,fun _=>rfl⟩
 ·exact ⟨rfl,fun _=>rfl⟩
section
variable {prog:Program} {w:World} {κ:Type} [DecidableEq κ] {knd:PySem.KeyKind prog w κ} {A:Around} {E:Value→Shared→Prop} {s:Shared}
def a6I (knd:PySem.KeyKind prog w κ) (h:Heap) (a:Addr) (S:κ→Bool) (n:Nat):Prop:=
 ∃o es ep t,h.get? a=some o∧o.ExactSet∧o.data=.set es ep t∧ElemsOf knd es.toList∧(∀k,S k=true↔∃e∈es.toList,knd.is k e.2=true)∧es.size < scanBound∧t.fits es.size=true∧es.size=n∧Wk w t n
theorem a8r {h:Heap} {a:Addr} {S S':κ→Bool} {n n':Nat} (x:a6I knd h a S n) (e:∀k,S k=S' k) (en:n=n'):a6I knd h a S' n':=by
 subst en
 obtain ⟨o,es,ep,t,a1,a2,a3,a4,a5,a6,a7,a8,a9⟩:=x
 exact ⟨o,es,ep,t,a1,a2,a3,a4,fun k=>by rw [←e];exact a5 k,a6,a7,a8,a9⟩
theorem a4u {h:Heap} {a:Addr} {o:Obj} {es:Array (Int×Value)} {ep:Nat} {t:SetTable} (ho:h.get? a=some o) (hex:o.ExactSet) (hd:o.data=.set es ep t) {es1:Array (Int×Value)} {t1:SetTable} {S':κ→Bool}
  (hel1:ElemsOf knd es1.toList) (hmem1:∀k,S' k=true↔∃e∈es1.toList,knd.is k e.2=true) (hb1:es1.size < scanBound) (hf1:t1.fits es1.size=true) (hw:Wk w t1 es1.size):
  (h.update a (Obj.putSet es1 t1)).get? a=some {o with data:=.set es1 (ep+1) t1}∧a6I knd (h.update a (Obj.putSet es1 t1)) a S' es1.size:=by
 obtain ⟨ho1,_⟩:=SetOf_store (knd:=knd) ho hex hd hel1 hmem1 hb1 hf1
 refine ⟨ho1,?_⟩
 exact ⟨_,es1,_,t1,ho1,hex,rfl,hel1,hmem1,hb1,hf1,rfl,hw⟩
theorem a7q {g:Bool→Sem Unit} (hg:∀(b:Bool) (s₁:Shared) (Q':Unit→Shared→Prop),Q' () s₁→wpAny (model prog w) A (g b) Q' E s₁)
  {a:Addr} {o:Obj} {es es1:Array (Int×Value)} {ep:Nat} {t t2:SetTable} {S':κ→Bool} (ho:s.heap.get? a=some o) (hex:o.ExactSet) (hd:o.data=.set es ep t) (hel1:ElemsOf knd es1.toList) (hmem1:∀k',S' k'=true↔∃e∈es1.toList,knd.is k' e.2=true)
  (hb1:es1.size < scanBound) (hf2:t2.fits es1.size=true) (hw:Wk w t2 es1.size) {wasDummy:Bool} {R:Option Bool→Shared→Prop}
  (h:∀h',Yl a s.heap h'→a6I knd h' a S' es1.size→R (some true) {s with heap:=h'}):
  wpAny (model prog w) A (do
    storeSet a es1 t2
    if (!wasDummy && t2.tooFull)=true then do
      g (relayAll t2 es1 (SetTable.grown es1.size)).2.2
      storeSet a (relayAll t2 es1 (SetTable.grown es1.size)).1 (relayAll t2 es1 (SetTable.grown es1.size)).2.1
      pure (some true)
     else pure (some true)) R E s:=by
 refine wpAny_bind (wpAny_storeSet_of ho hd ?_ (fits_of_scanBound hb1))
 obtain ⟨ho1,hS1⟩:=a4u (knd:=knd) ho hex hd hel1 hmem1 hb1 hf2 hw
 have hsb1:=Yl.update s.heap a (Obj.putSet es1 t2)
 split
 ·have hp:=relayAll_perm t2 es1 (SetTable.grown es1.size)
  have hfr:=relayAll_fits t2 es1 (SetTable.grown es1.size)
  have hrl:=b1c t2 es1 (SetTable.grown es1.size)
  generalize hRl:relayAll t2 es1 (SetTable.grown es1.size)=Rl at hp hfr hrl ⊢
  obtain ⟨es2,t3,gave2⟩:=Rl
  dsimp only at hp hfr hrl ⊢
  have hel2:ElemsOf knd es2.toList:=hel1.perm hp
  have hmem2:∀k',S' k'=true↔∃e∈es2.toList,knd.is k' e.2=true:=fun k'=>(hmem1 k').trans ⟨fun ⟨e,he,q⟩=>⟨e,hp.mem_iff.mpr he,q⟩,fun ⟨e,he,q⟩=>⟨e,hp.mem_iff.mp he,q⟩⟩
  have hsz:es2.size=es1.size:=by rw [←Xb,hp.length_eq,Xb]
  have hb2:es2.size < scanBound:=by rw [hsz];exact hb1
  refine wpAny_bind (hg _ _ _ ?_)
  refine wpAny_bind (wpAny_storeSet_of ho1 rfl ?_ (fits_of_scanBound hb2))
  obtain ⟨_,hS2⟩:=a4u (knd:=knd) ho1 hex rfl hel2 hmem2 hb2 hfr (by rw [hsz];exact ⟨fun z=>by rw [hrl.1];exact hw.1 z,fun z=>hrl.2 (hw.2 z)⟩)
  rw [hsz] at hS2
  exact wpAny_pure (h _ (hsb1.trans (Yl.update _ a _)) hS2)
 ·exact wpAny_pure (h _ hsb1 hS1)
theorem c5h {a:Addr} {S:κ→Bool} {n:Nat} {k:κ} {x:Value} {Q:Bool→Shared→Prop} (hkey:knd.is k x=true) (hsc:x.scannable=true) (hpl:plainKind x=false) (hS:a6I knd s.heap a S n)
  (hroom:n+1 < scanBound)
  (h:∀h',Yl a s.heap h'→a6I knd h' a (fun k'=>S k' || decide (k'=k)) (if S k then n else n+1)→Q (!S k) {s with heap:=h'}):
  wpAny (model prog w) A (setAddHashed a x (knd.hash k)) Q E s:=by
 obtain ⟨o,es,ep,t,ho,hex,hd,hel,hmem,hb,hf,hn,hw⟩:=hS
 have hb1:es.size+1 < scanBound:=by rw [hn];exact hroom
 unfold setAddHashed setAddHashedIn
 refine wpAny_holding (wpAny_bind (wpAny_setState_of ho hd hf ?_))
 dsimp only
 rw [byScan_of hsc hb hel]
 simp only [↓reduceIte]
 unfold setAddByScan
 refine wpAny_bind ?_
 refine wpAny_bind (wpAny_rule ?_)
 refine wpAny_bind (wpAny_setScan_of hkey ho hd hf hel ?_)
 cases hr:List.findIdx? (fun e=>knd.is k e.2) es.toList with
 | some j=>
  dsimp only
  obtain ⟨hj,hpj,_⟩:=List.findIdx?_eq_some_iff_getElem.mp hr
  have hSk:S k=true:=(hmem k).mpr ⟨es.toList[j],Qv hj,hpj⟩
  refine wpAny_pure (wpAny_pure ?_)
  have e:s={s with heap:=s.heap}:=by cases s;rfl
  have:=h s.heap (Yl.refl a s.heap) ⟨o,es,ep,t,ho,hex,hd,hel,fun k'=>by
   rw [Zo,decide_eq_true_eq,←hmem k']
   exact ⟨fun hk=>hk.elim id (fun e=>e ▸ hSk),.inl⟩,hb,hf,by rw [hSk];exact hn,by rw [hSk];exact hw⟩
  rw [hSk] at this;rw [e];exact this
 | none=>
  dsimp only
  have hSk:S k=false:=by
   cases hk:S k with
   | false=>rfl
   | true=>obtain ⟨e,he,hp⟩:=(hmem k).mp hk;have:=List.findIdx?_eq_none_iff.mp hr e he;rw [hp] at this;exact Bool.noConfusion this
  have hgw:∀(b:Bool) {s₁:Shared} {Q':Unit→Shared→Prop},Q' () s₁→wpAny (model prog w) A (match b with | true=>rule "set.scan.the-table-gave-way" | false=>pure ()) Q' E s₁:=
   fun b s₁ Q' hq=>by cases b<;>first | exact wpAny_pure hq | exact wpAny_rule hq
  have hperm:=layNew_perm t es (knd.hash k) x
  have hfits:=layNew_fits t es (knd.hash k) x
  have hled:=b4U t es (knd.hash k) x
  generalize hL:layNew t es (knd.hash k) x=L at hperm hfits hled ⊢
  obtain ⟨es1,t1,wasDummy,gave⟩:=L
  dsimp only at hperm hfits hled ⊢
  rw [Gt] at hperm
  have hel1:ElemsOf knd es1.toList:=(hel.push hkey hsc).perm hperm
  have hmem1:∀k',(S k' || decide (k'=k))=true↔∃e∈es1.toList,knd.is k' e.2=true:=mem_push_iff hkey hmem hperm
  have hb1':es1.size < scanBound:=by rw [←Xb,hperm.length_eq,Xk,Xb];simpa using hb1
  refine wpAny_bind (hgw _ ?_)
  have hsz1:es1.size=n+1:=by rw [←Xb,hperm.length_eq,Xk,Xb,hn];rfl
  have hend:∀h',Yl a s.heap h'→a6I knd h' a (fun k'=>S k' || decide (k'=k)) es1.size→Q true {s with heap:=h'}:=by
   intro h' hsb hS';have:=h h' hsb;rw [hSk] at this;rw [hsz1] at hS';exact this hS'
  have hled':w.params.followText "set-order"=false→t1.led=true:=fun z=>by rw [hled];exact hw.1 z
  split
  ·refine wpAny_bind ?_
   rw [hashByValue_scannable 8 hsc]
   refine wpAny_pure ?_
   rw [hpl]
   simp only [Zk,↓reduceIte]
   refine a7q ?_ ho hex hd hel1 hmem1 hb1' (SetTable.fits_plain_off hfits) ⟨hled',fun _=>rfl⟩ ?_
   ·intro b s₁ Q' hq;cases b<;>first | exact wpAny_pure hq | exact wpAny_rule hq
   ·intro h' hsb hS';dsimp only;exact wpAny_pure (hend h' hsb hS')
  ·rename_i hnp
   refine wpAny_bind (wpAny_pure ?_)
   simp only [↓reduceIte]
   refine a7q ?_ ho hex hd hel1 hmem1 hb1' hfits ⟨hled',fun _=>by simpa using hnp⟩ ?_
   ·intro b s₁ Q' hq;cases b<;>first | exact wpAny_pure hq | exact wpAny_rule hq
   ·intro h' hsb hS';dsimp only;exact wpAny_pure (hend h' hsb hS')
end
section
variable {prog:Program} {w:World} {A:Around} {E:Value→Shared→Prop} {s:Shared}
theorem b2E (a:Value) {Q₁:Value→Shared→Prop}
  (h:Q₁ (.ref s.heap.objs.size) {s with heap:=s.heap.push (a7W (!w.params.followText "set-order"))}):
  codeAny (model prog w) A (.call (.builtin "set.__new__") ⟨[.type "set",a],[]⟩) (wants Q₁ E) s:=by
 refine codeAny_of_tree ?_
 show wpAny _ A.in1 (do checkBuiltinCall "set.__new__" ⟨[.type "set",a],[]⟩;again (.builtin "set.__new__" ⟨[.type "set",a],[]⟩)) _ _ s
 refine wpAny_bind (wpAny_of_eq (F.newCall_set_1 a) (wpAny_pure ⟨plainId_quiet F.plain_set_new _,codeAny_builtin F.entry_set_new ?_⟩))
 rw [Around.under_plainId F.plain_set_new _]
 unfold Builtin.«set.__new__» Builtin.Frozenset.newClass
 have hsub:=sub_set_self
 obtain ⟨hp,g,d,tk,os⟩:=s
 dsimp only
 wp_walk
 refine wpAny_askSetting (wpAny_pure ?_)
 dsimp only
 simp only [newObj]
 refine wpAny_bind (wpAny_alloc (wpAny_pure ?_))
 exact wpAny_pure h
end
section
variable {prog:Program} {w:World} {A:Around} {κ:Type} [DecidableEq κ] {knd:PySem.KeyKind prog w κ}
theorem b8c {h:Heap} {a:Addr} {val:Nat→κ} (e:h.get? a=some (a7W (!w.params.followText "set-order"))):a6I knd h a (fun k=>decide (k∈a1P val 0)) (a1P val 0).length:=
 ⟨_,#[],0,_,e,⟨rfl,rfl,rfl⟩,rfl,fun e he=>by simp at he,fun k=>by simp [a1P],by decide,by rfl,rfl,fun z=>by show (!w.params.followText "set-order")=true;rw [z];rfl,fun z=>absurd rfl z⟩
theorem a6b {R:Result→Shared→Prop} {J:Addr} {fp wr:List Addr} {G:Array GenState→Array GenState→Prop} {n:Nat} {Pv:Nat→Value→Prop} {St:Nat→Shared→Prop} (W:WalksS prog w A.in1 J fp wr G n Pv St) (S:Addr) (hSf:S∉fp)
  (val:Nat→κ) (hval:∀i v,Pv i v→knd.is (val i) v=true∧v.scannable=true∧plainKind v=false) (hb:n+1 < scanBound):
  ∀(m i:Nat) (s:Shared),n - i=m→i≤n→St i s→a6I knd s.heap S (fun k=>decide (k∈a1P val i)) (a1P val i).length→
   (∀s',Moved (S::wr) G s s'→a6I knd s'.heap S (fun k=>decide (k∈a1P val n)) (a1P val n).length→R (.ok (.ret .none)) s')→
   codeAny (model prog w) A (.builtin "set.update.loop" ⟨[.ref S,.ref J],[]⟩) R s
 | 0,i,s,hm,hi,hst,hS,hR=>by
  obtain rfl:i=n:=by omega
  have hSw:S∉wr:=fun z=>hSf (W.sub _ z)
  refine codeAny_builtin F.entry_set_update_loop ?_
  rw [Around.under_plainId F.plain_set_update_loop _]
  refine wpAny_bind (W.done s _ _ hst fun s1 mv=>?_)
  refine wpAny_pure (hR s1 (mv.mono fun b z=>Qp _ z) ?_)
  obtain ⟨o,es,ep,tb,ho,more⟩:=hS
  exact ⟨o,es,ep,tb,mv.heap S _ hSw ho,more⟩
 | m+1,i,s,hm,hi,hst,hS,hR=>by
  have hSw:S∉wr:=fun z=>hSf (W.sub _ z)
  have hlt:i < n:=by omega
  refine codeAny_builtin F.entry_set_update_loop ?_
  rw [Around.under_plainId F.plain_set_update_loop _]
  refine wpAny_bind (W.item i s _ _ hlt hst fun v s1 hP hst1 mv=>?_)
  obtain ⟨hk,hsc,hpl⟩:=hval i v hP
  have hS1:a6I knd s1.heap S (fun k=>decide (k∈a1P val i)) (a1P val i).length:=by
   obtain ⟨o,es,ep,tb,ho,more⟩:=hS
   exact ⟨o,es,ep,tb,mv.heap S _ hSw ho,more⟩
  have room:(a1P val i).length+1 < scanBound:=by have:=b0D val i;omega
  refine wpAny_bind (m:=holding [v] (setAdd S v)) (wpAny_holding ?_)
  unfold setAdd
  refine wpAny_holding (wpAny_bind (knd.pyHash hk ?_))
  refine c5h (knd:=knd) (s:={s1 with toks:=s1.toks+1}) hk hsc hpl hS1 room fun h' sb hS2=>?_
  have hS3:a6I knd h' S (fun k=>decide (k∈a1P val (i+1))) (a1P val (i+1)).length:=a8r hS2 (fun k=>(a7a val i k).symm) (b2O val i).symm
  refine wpAny_pure ⟨plainId_quiet F.plain_set_update_loop _,a6b W S hSf val hval hb m (i+1) _ ‹om› hlt (W.frame _ s1 _ _ hst1 (Zg _) fun b z o e=>?_) hS3 fun s2 mv2 hS4=>?_⟩
  ·rw [sb.2 b fun (z2:b=S)=>hSf (by rw [←z2];exact z)];exact e
  ·refine hR s2 (Moved.trans W.gtrans ((mv.mono fun b z=>Qp _ z).then_heap (Zg _) fun b o z e=>?_) mv2) hS4
   rw [sb.2 b fun (z2:b=S)=>z (by rw [z2];exact Qm)];exact e
theorem a9C {E:Value→Shared→Prop} {s:Shared} {l:Addr} {items:Array Value} {val:Nat→κ} {Q:Value→Shared→Prop} (hh:A.handled=none) (hl:s.heap.IsList l items)
  (hv:∀(i:Nat) v,items[i]?=some v→knd.is (val i) v=true∧v.scannable=true∧plainKind v=false) (hb:items.size+1 < scanBound)
  (h:∀h' tk,a6I knd h' s.heap.objs.size (fun k=>decide (k∈a1P val items.size)) (a1P val items.size).length→(∀b o,s.heap.get? b=some o→h'.get? b=some o)→Q .none {s with heap:=h',toks:=tk}):
  codeAny (model prog w) A (.call (.builtin "set.__init__") ⟨[.ref s.heap.objs.size,.ref l],[]⟩) (wants Q E) {s with heap:=s.heap.push (a7W (!w.params.followText "set-order"))}:=by
 have hS:(s.heap.push (a7W (!w.params.followText "set-order"))).get? s.heap.objs.size=some (a7W (!w.params.followText "set-order")):=Qu _ rfl
 have hT:Shared.TypeIs {s with heap:=s.heap.push (a7W (!w.params.followText "set-order"))} (.ref s.heap.objs.size) "set":=⟨_,hS,rfl⟩
 refine codeAny_call_builtin F.called_set.init.plain F.entry_set_init (check_set_init_1 hT ?_)
 obtain ⟨⟨oc,od,odt,osl⟩,hol,hcl,nl,hdl⟩:=hl
 dsimp only at hcl hdl
 subst hcl hdl
 have hol':=Qi (a7W (!w.params.followText "set-order")) hol
 have hsls:=F.sub_list_set
 have hslf:=F.sub_list_frozenset
 have hne:(Value.type "list" == Value.type "dict")=false:=by decide
 have hl1:(s.heap.push (a7W (!w.params.followText "set-order"))).IsList l items:=⟨_,hol',rfl,nl,rfl⟩
 have hlt:l < s.heap.objs.size:=Qs hol
 unfold Builtin.«set.__init__» noKeywords Builtin.Frozenset.updateFrom
 generalize hPI:pyIter=PI
 wp_walk
 subst hPI
 refine wpAny_pyIter_list hl1 (wpAny_bind (wpAny_runValue ?_))
 have hz:(s.heap.push (a7W (!w.params.followText "set-order"))).objs.size=s.heap.objs.size+1:=Ja _ _
 refine a6b (knd:=knd) (val:=val) ((Walks.list (by simp [hh]) _ l (by rw [hz];exact Qx (Yp hlt)) items).toS) s.heap.objs.size ?_ hv hb (items.size - 0) 0 _ rfl (Xg _) ⟨⟨_,Qu _ rfl,rfl,rfl⟩,(hl1.push _)⟩ ?_ ?_
 ·rw [hz]
  simp only [Qn,Xh,or_false,not_or]
  exact ⟨Qx (Yv _),Ut hlt⟩
 ·exact b8c (Qi _ hS)
 ·intro s1 mv hS1
  obtain ⟨h1,g1,d1,t1,o1⟩:=s1
  obtain rfl:g1=s.gens:=mv.gens
  obtain rfl:d1=s.drawn:=mv.drawn
  obtain rfl:o1=s.os:=mv.os
  show wpAny _ _ _ _ _ _
  refine wpAny_pure (wpAny_pure (h h1 t1 hS1 fun b o e=>?_))
  have hb:=Qs e
  exact mv.heap b o (by rw [hz];simp only [Qn,Xh,or_false,not_or];exact ⟨Qx hb,Qx (Yp hb)⟩) (Qi _ (Qi _ e))
theorem a8k {E:Value→Shared→Prop} {s:Shared} {l:Addr} {items:Array Value} {val:Nat→κ} {Q:Value→Shared→Prop} (hh:A.handled=none) (hl:s.heap.IsList l items)
  (hv:∀(i:Nat) v,items[i]?=some v→knd.is (val i) v=true∧v.scannable=true∧plainKind v=false) (hb:items.size+1 < scanBound)
  (h:∀h' tk,a6I knd h' s.heap.objs.size (fun k=>decide (k∈a1P val items.size)) (a1P val items.size).length→(∀b o,s.heap.get? b=some o→h'.get? b=some o)→Q (.ref s.heap.objs.size) {s with heap:=h',toks:=tk}):
  wpAny (model prog w) A (call (.type "set") [.ref l]) Q E s:=by
 obtain ⟨c,tl,hmro⟩:=F.called_set.mro
 have hmade:=F.called_set.made
 have hsub:=F.called_set.sub
 have h1:=F.called_set.notType
 have h2:=F.called_set.canCreate
 have hct:=F.typeCall_set_1 (.ref l)
 have hli:=F.called_set.init.lookup
 refine wpAny_call (codeAny_of_tree (wpAny_pure (a:=Fin.again (.builtin "type.__call__" ⟨[.type "set",.ref l],[]⟩)) ⟨Code.quiet_builtin _ ‹dk›,codeAny_builtin F.entry_type_call ?_⟩))
 rw [Around.under_plain (weight_type_call_type "set" [.ref l] []) rfl]
 repeat (any_goals (first | assumption | wp_step))
 refine codeAny_mono (b2E (.ref l) (E:=E) (Q₁:=fun v s₁=>v=.ref s.heap.objs.size∧s₁={s with heap:=s.heap.push (a7W (!w.params.followText "set-order"))}) ⟨rfl,rfl⟩) fun r s₁ hr=>?_
 match r,hr with
 | .error e,hr=>exact hr
 | .ok (.ret v),⟨e1,e2⟩=>
  subst e1 e2
  have hS:(s.heap.push (a7W (!w.params.followText "set-order"))).get? s.heap.objs.size=some (a7W (!w.params.followText "set-order")):=Qu _ rfl
  have hT:Shared.TypeIs {s with heap:=s.heap.push (a7W (!w.params.followText "set-order"))} (.ref s.heap.objs.size) "set":=⟨_,hS,rfl⟩
  have hbi:=F.called_set.init.bind (.ref s.heap.objs.size)
  repeat (any_goals (first | assumption | wp_step))
  refine codeAny_mono (a9C (knd:=knd) (val:=val) (E:=E) (Q:=fun v s₂=>v=.none∧∃h' tk,s₂={s with heap:=h',toks:=tk}∧a6I knd h' s.heap.objs.size (fun k=>decide (k∈a1P val items.size)) (a1P val items.size).length∧∀b o,s.heap.get? b=some o→h'.get? b=some o) (by simp [hh]) hl hv hb fun h' tk a b=>⟨rfl,h',tk,rfl,a,b⟩) fun r₂ s₂ hr₂=>?_
  match r₂,hr₂ with
  | .error e,hr₂=>exact hr₂
  | .ok (.ret v),⟨e1,h',tk,e2,a,b⟩=>
   subst e1 e2
   repeat (any_goals (first | assumption | wp_step))
   exact h _ _ a b
  | .ok .next,hr₂=>exact hr₂.elim
  | .ok .brk,hr₂=>exact hr₂.elim
  | .ok .cont,hr₂=>exact hr₂.elim
 | .ok .next,hr=>exact hr.elim
 | .ok .brk,hr=>exact hr.elim
 | .ok .cont,hr=>exact hr.elim
end
theorem a0A:Slot "set_iterator" "__next__" "set_iterator.__next__":=
 .of (owner:="set_iterator") (n:="__next__") (by rw [typeLookup_type,builtinLookup_eq_fast];kernel_rfl) ‹dk› ‹dk› ‹dk›
  (by first | exact .inl ‹dk› | exact .inr ‹dk›) (by rw [isSubtype_type];kernel_rfl)
theorem a3g:Slot "set_iterator" "__iter__" "set_iterator.__iter__":=
 .of (owner:="set_iterator") (n:="__iter__") (by rw [typeLookup_type,builtinLookup_eq_fast];kernel_rfl) ‹dk› ‹dk› ‹dk›
  (by first | exact .inl ‹dk› | exact .inr ‹dk›) (by rw [isSubtype_type];kernel_rfl)
theorem a1D:entryFor table "set_iterator.__next__"=some Builtin.«set_iterator.__next__»:=entryFor_of_tree (by kernel_rfl)
theorem a4M:entryFor table "set_iterator.__iter__"=some Builtin.«dict_keyiterator.__iter__»:=
 entryFor_alias (id':="dict_keyiterator.__iter__") (by kernel_rfl) rfl ‹dk› (by kernel_rfl)
theorem a5J:entryFor table "set.__iter__"=some Builtin.«frozenset.__iter__»:=
 entryFor_alias (id':="frozenset.__iter__") (by kernel_rfl) rfl ‹dk› (by kernel_rfl)
theorem a7t:Manifest.owners.lookup (String.ofList ['r','o','t','a','r','e','t','i','_','t','e','s'].reverse)=some Manifest.sig_set_iterator:=by kernel_rfl
theorem a1R (a:Value):argsOk "set_iterator.__next__" ⟨[a],[]⟩:=by
 unfold argsOk;rw [signature?_of (id:="set_iterator.__next__") (n:=['_','_','t','x','e','n','_','_']) (o:=['r','o','t','a','r','e','t','i','_','t','e','s']) (by kernel_rfl) a7t];kernel_rfl
theorem a6k (a:Value):argsOk "set_iterator.__iter__" ⟨[a],[]⟩:=by
 unfold argsOk;rw [signature?_of (id:="set_iterator.__iter__") (n:=['_','_','r','e','t','i','_','_']) (o:=['r','o','t','a','r','e','t','i','_','t','e','s']) (by kernel_rfl) a7t];kernel_rfl
theorem a3a {α:Type}:∀{l:List α} {i:Nat} (h:i < l.length),(l[i]::l.eraseIdx i).Perm l
 | x::l,0,_=>Vk.refl _
 | x::l,i+1,h=>(Vk.swap _ _ _).trans ((a3a (l:=l) (i:=i) (by simpa using h)).cons x)
section
variable {prog:Program} {w:World} {A:Around} {E:Value→Shared→Prop} {s:Shared}
theorem a4U {α:Type} {M:Model} {src:Source} {n:Nat} {Q:Nat→Shared→Prop} (hn:n≠0) (h:∀i d,i < n→Q i {s with drawn:=d}):wpAny M A (choose src n) Q E s:=fun Γ p _=>by
 show Sem.wp M Γ (.choose src n .pure) _ _ p s
 rw [Sem.wp_choose]
 exact ⟨hn,h _ _ (Nat.mod_lt _ (Nat.pos_of_ne_zero hn))⟩
theorem a6h {α:Type} {M:Model}:∀(n:Nat) (xs:List α) {s:Shared} {Q:List α→Shared→Prop},xs.length≤n→(∀ys d,ys.Perm xs→Q ys {s with drawn:=d})→wpAny M A (drawOrder n xs) Q E s
 | 0,xs,s,Q,hn,h=>by
  have:xs=[]:=Zm.mp ‹om›
  subst this
  unfold drawOrder
  exact wpAny_pure (h [] s.drawn (Vk.refl _))
 | n+1,[],s,Q,hn,h=>by
  unfold drawOrder
  exact wpAny_pure (h [] s.drawn (Vk.refl _))
 | n+1,x::xs,s,Q,hn,h=>by
  unfold drawOrder
  refine wpAny_bind (a4U (α:=Nat) (by simp) fun i d hi=>?_)
  rw [Qc hi]
  refine wpAny_bind (a6h n ((x::xs).eraseIdx i) (by rw [Js hi];simp at hn ⊢;omega) fun ys d' hp=>wpAny_pure (h _ d' ?_))
  refine (hp.cons _).trans ?_
  exact a3a hi
theorem b4a {α:Type} (next:Nat→Nat):∀(fuel i:Nat) (xs:List α) (acc:Array α),xs.length≤fuel→(pickOrder.go next fuel i xs acc).toList.Perm (acc.toList++xs):=by
 intro fuel
 induction fuel with
 | zero=>
  intro i xs acc h
  have:xs=[]:=Zm.mp ‹om›
  subst this
  unfold pickOrder.go
  rw [Qf]
 | succ fuel ih=>
  intro i xs acc h
  unfold pickOrder.go
  cases xs with
  | nil=>rw [Qf];exact Vk.refl _
  | cons y ys=>
   have hi:next i % (y::ys).length < (y::ys).length:=Nat.mod_lt _ (by simp)
   rw [Qc hi]
   refine (ih (i+1) _ _ (by rw [Js hi];simp at h ⊢;omega)).trans ?_
   rw [Gt,Yj]
   exact (a3a hi).append_left _
theorem a2P {α:Type} (next:Nat→Nat) (xs:Array α):(pickOrder next xs).toList.Perm xs.toList:=by
 have:=b4a next xs.size 0 xs.toList #[] (by simp)
 simpa [pickOrder] using this
end
def a6s (h:Heap) (J:Addr) (F:Value) (i:Nat) (S:Value) (n:Int) (ep:Nat):Prop:=∃o,h.get? J=some o∧o.cls=.type "set_iterator"∧o.data=.fields #[F,rawInt i,S,rawInt n,rawInt ep]
theorem a6s.typeIs {s:Shared} {J:Addr} {F:Value} {i:Nat} {S:Value} {n:Int} {ep:Nat} (x:a6s s.heap J F i S n ep):s.TypeIs (.ref J) "set_iterator":=let ⟨o,ho,hc,_⟩:=x;⟨o,ho,hc⟩
section
variable {prog:Program} {w:World} {A:Around} {E:Value→Shared→Prop} {s:Shared}
theorem b3R {J S:Addr} {i n ep slot nxt:Nat} {x:Value} {o:Obj} {es:Array (Int×Value)} {t:SetTable} {Q:Option Value→Shared→Prop} (hit:a6s s.heap J (rawInt slot) i (.ref S) n ep) (ho:s.heap.get? S=some o) (hd:o.data=.set es ep t) (hf:t.fits es.size=true) (hn:es.size=n)
  (hx:∀{A':Around} {E':Value→Shared→Prop} {Q':Option (Value×Nat)→Shared→Prop},Q' (some (x,nxt)) s→wpAny (model prog w) A' (setNext S slot i ep) Q' E' s)
  (hQ:∀h',a6s h' J (rawInt nxt) (i+1) (.ref S) n ep→Yl J s.heap h'→Q (some x) {s with heap:=h'}):wpAny (model prog w) A (pyNext (.ref J)) Q E s:=by
 obtain ⟨oj,hoj,hcj,hdj⟩:=id hit
 unfold pyNext
 refine wpAny_bind (wpAny_attempt (wpAny_callSpecial?_slot (name:=Xw "__next__") hit.typeIs a0A (wpAny_call_entry a0A hit.typeIs a1D ?_ (a1R _))))
 unfold Builtin.«set_iterator.__next__»
 refine wpAny_bind (wpAny_pure ?_)
 dsimp only
 refine wpAny_bind (wpAny_fieldsOf hoj hdj ?_)
 simp only [rawInt]
 refine wpAny_bind (wpAny_setEntries_of ho hd hf ?_)
 rw [if_neg (by rw [hn];simp)]
 refine wpAny_bind ?_
 simp only [Zj]
 refine hx ?_
 dsimp only
 refine wpAny_bind (wpAny_setField hoj hdj (by simp) ?_)
 have f1:∀v,(s.heap.update J (Obj.mapFields (·.setIfInBounds 0 v))).get? J=some (Obj.mapFields (·.setIfInBounds 0 v) oj):=fun v=>Za _ hoj (Obj.isFreed_of_fields (Obj.data_mapFields hdj _))
 have d1:∀v,(Obj.mapFields (·.setIfInBounds 0 v) oj).data=.fields #[v,rawInt i,.ref S,rawInt n,rawInt ep]:=fun v=>by rw [Obj.data_mapFields hdj];simp
 refine wpAny_bind (wpAny_setField (f1 _) (d1 _) (by simp) ?_)
 refine wpAny_pure ⟨_,rfl,wpAny_pure (hQ _ ⟨_,Za _ (f1 _) (Obj.isFreed_of_fields (Obj.data_mapFields (d1 _) _)),?_,?_⟩ ((Yl.update ..).trans (Yl.update ..)))⟩
 ·rw [Obj.cls_mapFields,Obj.cls_mapFields];exact hcj
 ·rw [Obj.data_mapFields (d1 _)];simp [rawInt]
theorem b8h {J S P:Addr} {i n ep pl:Nat} {x:Value} {h0:Int} {o:Obj} {es:Array (Int×Value)} {t:SetTable} {places:Array Value} {Q:Option Value→Shared→Prop} (hit:a6s s.heap J (.ref P) i (.ref S) n ep) (ho:s.heap.get? S=some o) (hd:o.data=.set es ep t) (hf:t.fits es.size=true) (hn:es.size=n)
  (hP:s.heap.IsTuple P places) (hp:places[i]?=some (rawInt pl)) (hx:es[pl]?=some (h0,x))
  (hQ:∀h',a6s h' J (.ref P) (i+1) (.ref S) n ep→Yl J s.heap h'→Q (some x) {s with heap:=h'}):wpAny (model prog w) A (pyNext (.ref J)) Q E s:=by
 obtain ⟨oj,hoj,hcj,hdj⟩:=id hit
 unfold pyNext
 refine wpAny_bind (wpAny_attempt (wpAny_callSpecial?_slot (name:=Xw "__next__") hit.typeIs a0A (wpAny_call_entry a0A hit.typeIs a1D ?_ (a1R _))))
 unfold Builtin.«set_iterator.__next__»
 refine wpAny_bind (wpAny_pure ?_)
 dsimp only
 refine wpAny_bind (wpAny_fieldsOf hoj hdj ?_)
 simp only [rawInt]
 refine wpAny_bind (wpAny_setEntries_of ho hd hf ?_)
 rw [if_neg (by rw [hn];simp)]
 obtain ⟨oP,hoP,hcP,nP,hdP⟩:=hP
 refine wpAny_bind (wpAny_seqItems hoP hdP ?_)
 simp only [Zj]
 rw [hp]
 simp only [rawInt,Zj]
 unfold setNextDrawn
 refine wpAny_bind (wpAny_bind (wpAny_setState_of ho hd hf ?_))
 dsimp only
 rw [if_neg (by simp),hx]
 refine wpAny_pure ?_
 refine wpAny_bind (wpAny_setField hoj hdj (by simp) ?_)
 refine wpAny_pure ⟨_,rfl,wpAny_pure (hQ _ ⟨_,Za _ hoj (Obj.isFreed_of_fields (Obj.data_mapFields hdj _)),?_,?_⟩ (Yl.update ..))⟩
 ·rw [Obj.cls_mapFields];exact hcj
 ·rw [Obj.data_mapFields hdj];simp [rawInt]
theorem a4n {J S:Addr} {i n ep slot:Nat} {o:Obj} {es:Array (Int×Value)} {t:SetTable} {Q:Option Value→Shared→Prop} (hh:A.handled=none) (hit:a6s s.heap J (rawInt slot) i (.ref S) n ep) (ho:s.heap.get? S=some o) (hd:o.data=.set es ep t) (hf:t.fits es.size=true) (hn:es.size=n)
  (hx:∀{A':Around} {E':Value→Shared→Prop} {Q':Option (Value×Nat)→Shared→Prop},Q' none s→wpAny (model prog w) A' (setNext S slot i ep) Q' E' s)
  (hQ:∀h',Heap.ExtBut J s.heap h'→Q none {s with heap:=h'}):wpAny (model prog w) A (pyNext (.ref J)) Q E s:=by
 obtain ⟨oj,hoj,hcj,hdj⟩:=id hit
 unfold pyNext
 refine wpAny_bind (wpAny_attempt (wpAny_callSpecial?_slot (name:=Xw "__next__") hit.typeIs a0A (wpAny_call_entry a0A hit.typeIs a1D ?_ (a1R _))))
 unfold Builtin.«set_iterator.__next__»
 refine wpAny_bind (wpAny_pure ?_)
 dsimp only
 refine wpAny_bind (wpAny_fieldsOf hoj hdj ?_)
 simp only [rawInt]
 refine wpAny_bind (wpAny_setEntries_of ho hd hf ?_)
 rw [if_neg (by rw [hn];simp)]
 refine wpAny_bind ?_
 simp only [Zj]
 refine hx ?_
 dsimp only
 refine wpAny_bind (wpAny_setField hoj hdj (by simp) ?_)
 show wpAny _ _ (newExc (.type "StopIteration") [] >>= _) _ _ _
 refine wpAny_bind ?_
 simp only [newExc,newTuple]
 refine wpAny_bind (wpAny_newObj_type ?_ (by size_fits))
 refine wpAny_bind (m:=firstArgMember _ _) (wpAny_of_eq (a:=Value.none) (by first | rfl | (simp only [firstArgMember];rfl)) ?_)
 refine wpAny_newObj_type ?_ (by size_fits)
 simp only [raiseNew]
 refine wpAny_bind (wpAny_handled ?_)
 rw [show A.in1.handled=none from hh]
 refine wpAny_bind (wpAny_pure (wpAny_throw ?_))
 refine wpAny_bind (wpAny_isInstance (T:="StopIteration") (b:=true) ⟨_,Qu _ rfl,rfl⟩ isSubtype_stop ?_)
 exact wpAny_pure (hQ _ (((Yl.update ..).extBut.push _).push _))
theorem a7X {J S P:Addr} {i n ep:Nat} {o:Obj} {es:Array (Int×Value)} {t:SetTable} {places:Array Value} {Q:Option Value→Shared→Prop} (hh:A.handled=none) (hit:a6s s.heap J (.ref P) i (.ref S) n ep) (ho:s.heap.get? S=some o) (hd:o.data=.set es ep t) (hf:t.fits es.size=true) (hn:es.size=n)
  (hP:s.heap.IsTuple P places) (hp:places[i]?=none)
  (hQ:∀h',Heap.ExtBut J s.heap h'→Q none {s with heap:=h'}):wpAny (model prog w) A (pyNext (.ref J)) Q E s:=by
 obtain ⟨oj,hoj,hcj,hdj⟩:=id hit
 unfold pyNext
 refine wpAny_bind (wpAny_attempt (wpAny_callSpecial?_slot (name:=Xw "__next__") hit.typeIs a0A (wpAny_call_entry a0A hit.typeIs a1D ?_ (a1R _))))
 unfold Builtin.«set_iterator.__next__»
 refine wpAny_bind (wpAny_pure ?_)
 dsimp only
 refine wpAny_bind (wpAny_fieldsOf hoj hdj ?_)
 simp only [rawInt]
 refine wpAny_bind (wpAny_setEntries_of ho hd hf ?_)
 rw [if_neg (by rw [hn];simp)]
 obtain ⟨oP,hoP,hcP,nP,hdP⟩:=hP
 refine wpAny_bind (wpAny_seqItems hoP hdP ?_)
 simp only [Zj]
 rw [hp]
 dsimp only
 refine wpAny_bind (wpAny_setField hoj hdj (by simp) ?_)
 have f1:∀v,(s.heap.update J (Obj.mapFields (·.setIfInBounds 0 v))).get? J=some (Obj.mapFields (·.setIfInBounds 0 v) oj):=fun v=>Za _ hoj (Obj.isFreed_of_fields (Obj.data_mapFields hdj _))
 have d1:∀v,(Obj.mapFields (·.setIfInBounds 0 v) oj).data=.fields #[v,rawInt i,.ref S,rawInt n,rawInt ep]:=fun v=>by rw [Obj.data_mapFields hdj];simp
 refine wpAny_bind (wpAny_setField (f1 _) (d1 _) (by simp) ?_)
 show wpAny _ _ (newExc (.type "StopIteration") [] >>= _) _ _ _
 refine wpAny_bind ?_
 simp only [newExc,newTuple]
 refine wpAny_bind (wpAny_newObj_type ?_ (by size_fits))
 refine wpAny_bind (m:=firstArgMember _ _) (wpAny_of_eq (a:=Value.none) (by first | rfl | (simp only [firstArgMember];rfl)) ?_)
 refine wpAny_newObj_type ?_ (by size_fits)
 simp only [raiseNew]
 refine wpAny_bind (wpAny_handled ?_)
 rw [show A.in1.handled=none from hh]
 refine wpAny_bind (wpAny_pure (wpAny_throw ?_))
 refine wpAny_bind (wpAny_isInstance (T:="StopIteration") (b:=true) ⟨_,Qu _ rfl,rfl⟩ isSubtype_stop ?_)
 exact wpAny_pure (hQ _ ((((Yl.update ..).trans (Yl.update ..)).extBut.push _).push _))
theorem a5q {S:Addr} {slot i ep:Nat} {o:Obj} {es:Array (Int×Value)} {t:SetTable} {Q:Option (Value×Nat)→Shared→Prop} (hw:w.params.followText "set-order"=true) (ho:s.heap.get? S=some o) (hd:o.data=.set es ep t) (hf:t.fits es.size=true)
  (h:Q (((pickOrder (w.params.setOrder S ep) es)[i]?).map fun e=>(e.2,slot)) s):wpAny (model prog w) A (setNext S slot i ep) Q E s:=by
 unfold setNext
 refine wpAny_bind (wpAny_setState_of ho hd hf ?_)
 dsimp only
 unfold setsByText
 refine wpAny_bind (wpAny_bind (wpAny_askSetting (wpAny_pure ?_)))
 rw [if_pos (show (model prog w).w.params.followText "set-order"=true from hw),if_neg (by simp)]
 unfold setWalk
 refine wpAny_bind (wpAny_bind (wpAny_setState_of ho hd hf ?_))
 dsimp only
 unfold setsByText
 refine wpAny_bind (wpAny_bind (wpAny_askSetting (wpAny_pure ?_)))
 rw [if_pos (show (model prog w).w.params.followText "set-order"=true from hw)]
 refine wpAny_bind (wpAny_askSetting (wpAny_pure ?_))
 exact wpAny_pure h
theorem a6X {S:Addr} {slot i ep:Nat} {o:Obj} {es:Array (Int×Value)} {t:SetTable} {Q:Option (Value×Nat)→Shared→Prop} (hw:w.params.followText "set-order"=false) (ho:s.heap.get? S=some o) (hd:o.data=.set es ep t) (hf:t.fits es.size=true) (hl:t.led=true) (h1:es.size≤1)
  (h:Q (match es[SetTable.below t.place slot]?,t.place[SetTable.below t.place slot]? with | some (_,x),some j=>some (x,j+1) | _,_=>none) s):wpAny (model prog w) A (setNext S slot i ep) Q E s:=by
 unfold setNext
 refine wpAny_bind (wpAny_setState_of ho hd hf ?_)
 dsimp only
 unfold setsByText
 refine wpAny_bind (wpAny_bind (wpAny_askSetting (wpAny_pure ?_)))
 rw [if_neg (show ¬(model prog w).w.params.followText "set-order"=true by rw [show (model prog w).w.params.followText "set-order"=false from hw];exact Qq)]
 refine wpAny_ite_split (fun hab=>?_) (fun _=>?_)
 ·have hab':(!t.plain && decide (es.size > 1))=true:=hab
  rw [Ql,decide_eq_true_eq] at hab'
  omega
 ·have e:(if (!t.led && !es.isEmpty)=true then (unsupported "set:maker-not-led":Sem PUnit) else pure PUnit.unit)=pure PUnit.unit:=by rw [hl];rfl
  exact wpAny_bind (wpAny_of_eq (a:=PUnit.unit) e (wpAny_pure h))
theorem b5v {p:Array Nat} (h:p.size=0) (j:Nat):SetTable.below p j=0:=by
 unfold SetTable.below
 rw [h];rfl
theorem b0x (k j:Nat):SetTable.below #[k] j=if k < j then 1 else 0:=by
 unfold SetTable.below
 show SetTable.below.go #[k] j 1 0 1=_
 unfold SetTable.below.go
 rw [if_pos ‹dc›]
 show (if k < j then SetTable.below.go #[k] j 0 1 1 else SetTable.below.go #[k] j 0 0 0)=_
 split<;>rfl
theorem b5O {h h':Heap} {J:Addr} {F:Value} {i:Nat} {S:Value} {n:Int} {ep:Nat} (x:a6s h J F i S n ep) (e:∀o,h.get? J=some o→h'.get? J=some o):a6s h' J F i S n ep:=let ⟨o,ho,r⟩:=x;⟨o,e _ ho,r⟩
theorem a6B {J:Addr} {F:Value} {i:Nat} {S:Value} {n:Int} {ep:Nat} {Q:Value→Shared→Prop} (hit:a6s s.heap J F i S n ep) (h:Q (.ref J) s):wpAny (model prog w) A (pyIter (.ref J)) Q E s:=by
 refine wpAny_pyIter_slot hit.typeIs a3g (wpAny_call_entry a3g hit.typeIs a4M ?_ (a6k _))
 show wpAny _ _ (ret (.ref J)) _ _ s
 exact wpAny_pure ⟨_,rfl,"set_iterator",_,hit.typeIs,a0A.lookup,h⟩
theorem a9X {J S:Addr} {n ep:Nat} {o:Obj} {es:Array (Int×Value)} {t:SetTable} (hh:A.handled=none) (hw:w.params.followText "set-order"=true) (hne:S≠J) (hd:o.data=.set es ep t) (hf:t.fits es.size=true) (hn:es.size=n):
  Walks prog w A J [J,S] [J] n (fun i v=>∃e,(pickOrder (w.params.setOrder S ep) es).toList[i]?=some e∧v=e.2) (fun i h=>a6s h J (rawInt (0:Nat)) i (.ref S) n ep∧h.get? S=some o) where
 sub:=fun b hb=>by simp at hb;simp [hb]
 frame:=fun _ _ _ st hk=>⟨b5O st.1 fun o e=>hk J (by simp) o e,hk S (by simp) _ st.2⟩
 item:=fun i s Q E hi st hQ=>by
  have hl:(pickOrder (w.params.setOrder S ep) es).size=n:=by rw [←hn,←Xb,(a2P _ es).length_eq,Xb]
  have hi':i < (pickOrder (w.params.setOrder S ep) es).size:=by omega
  refine b3R (nxt:=0) (x:=((pickOrder (w.params.setOrder S ep) es)[i]).2) st.1 st.2 hd hf hn (fun h=>a5q hw st.2 hd hf (by rw [Yy hi'];exact h)) fun h' hit' hs'=>?_
  refine hQ _ h' s.toks ⟨(pickOrder (w.params.setOrder S ep) es)[i],by rw [Zb,Yy hi'],rfl⟩ ⟨hit',(hs'.extBut S _ hne st.2)⟩ fun b o hb e=>hs'.extBut b o (fun h=>hb (by simp [h])) e
 done:=fun s Q E st hQ=>by
  have hl:(pickOrder (w.params.setOrder S ep) es).size=n:=by rw [←hn,←Xb,(a2P _ es).length_eq,Xb]
  exact a4n hh st.1 st.2 hd hf hn (fun h=>a5q hw st.2 hd hf (by rw [Ug ‹om›];exact h)) fun h' he'=>hQ h' s.toks fun b o hb e=>he' b o (fun h=>hb (by simp [h])) e
 self:=fun _ _ _ _ st hQ=>a6B st.1 hQ
theorem b2B {J S:Addr} {n ep:Nat} {o:Obj} {es:Array (Int×Value)} {t:SetTable} (hh:A.handled=none) (hw:w.params.followText "set-order"=false) (hne:S≠J) (hd:o.data=.set es ep t) (hf:t.fits es.size=true) (hn:es.size=n) (hl:t.led=true) (h1:es.size≤1):
  Walks prog w A J [J,S] [J] n (fun i v=>∃e,es.toList[i]?=some e∧v=e.2) (fun i h=>a6s h J (rawInt ((if i=0 then 0 else t.place.getD 0 0+1:Nat))) i (.ref S) n ep∧h.get? S=some o) where
 sub:=fun b hb=>by simp at hb;simp [hb]
 frame:=fun _ _ _ st hk=>⟨b5O st.1 fun o e=>hk J (by simp) o e,hk S (by simp) _ st.2⟩
 item:=fun i s Q E hi st hQ=>by
  have hi0:i=0:=by omega
  subst hi0
  have hsz:t.place.size=1:=by
   simp only [SetTable.fits,Ql,beq_iff_eq] at hf
   omega
  have hpl:t.place=#[t.place.getD 0 0]:=by
   apply Array.ext
   ·simp [hsz]
   ·intro i h1 h2
    have:i=0:=by omega
    subst this
    simp [Uw,hsz]
  have hz:0 < es.size:=by omega
  have st1:a6s s.heap J (rawInt (0:Nat)) 0 (.ref S) n ep:=st.1
  refine b3R (nxt:=t.place.getD 0 0+1) (x:=es[0].2) st1 st.2 hd hf hn (fun h=>a6X hw st.2 hd hf hl h1 (by rw [hpl,b0x,if_neg ‹om›,Yy hz];exact h)) fun h' hit' hs'=>?_
  refine hQ _ h' s.toks ⟨es[0],by rw [Zb,Yy hz],rfl⟩ ⟨hit',(hs'.extBut S _ hne st.2)⟩ fun b o hb e=>hs'.extBut b o (fun h=>hb (by simp [h])) e
 done:=fun s Q E st hQ=>by
  have hsz:t.place.size=n:=by
   simp only [SetTable.fits,Ql,beq_iff_eq] at hf
   omega
  refine a4n hh st.1 st.2 hd hf hn (fun h=>a6X hw st.2 hd hf hl h1 ?_) fun h' he'=>hQ h' s.toks fun b o hb e=>he' b o (fun h=>hb (by simp [h])) e
  by_cases h0:n=0
  ·rw [b5v ‹om›,Ug ‹om›];exact h
  ·have hpl:t.place=#[t.place.getD 0 0]:=by
    apply Array.ext
    ·simp;omega
    ·intro i h1 h2
     have:i=0:=by simp at h2;omega
     subst this
     simp [Uw,h1]
   rw [if_neg h0]
   generalize t.place.getD 0 0=k at hpl ⊢
   rw [hpl,b0x,if_pos ‹om›,Ug ‹om›];exact h
 self:=fun _ _ _ _ st hQ=>a6B st.1 hQ
theorem b0c {J S P:Addr} {n ep:Nat} {o:Obj} {es:Array (Int×Value)} {t:SetTable} {pl:List Nat} (hh:A.handled=none) (hne:S≠J) (hnp:P≠J) (hd:o.data=.set es ep t) (hf:t.fits es.size=true) (hn:es.size=n) (hp:pl.Perm (Yb n)):
  Walks prog w A J [J,S,P] [J] n (fun i v=>∃k e,pl[i]?=some k∧es.toList[k]?=some e∧v=e.2) (fun i h=>a6s h J (.ref P) i (.ref S) n ep∧h.get? S=some o∧h.IsTuple P (pl.map fun i=>rawInt (i:Nat)).toArray) where
 sub:=fun b hb=>by simp at hb;simp [hb]
 frame:=fun _ _ _ st hk=>⟨b5O st.1 fun o e=>hk J (by simp) o e,hk S (by simp) _ st.2.1,let ⟨o,a,b⟩:=st.2.2;⟨o,hk P (by simp) _ a,b⟩⟩
 item:=fun i s Q E hi st hQ=>by
  have hl:pl.length=n:=by rw [hp.length_eq,Zn]
  have hi':i < pl.length:=by omega
  have hk:pl[i] < es.size:=by
   have:=hp.mem_iff.mp (Qv hi')
   rw [Uc] at this;omega
  refine b8h (pl:=pl[i]) (x:=es[pl[i]].2) (h0:=es[pl[i]].1) st.1 st.2.1 hd hf hn st.2.2 (by simp [hi']) (by rw [Yy hk]) fun h' hit' hs'=>?_
  refine hQ _ h' s.toks ⟨pl[i],es[pl[i]],Qc hi',by rw [Zb,Yy hk],rfl⟩ ⟨hit',hs'.extBut S _ hne st.2.1,let ⟨o,a,b⟩:=st.2.2;⟨o,hs'.extBut P _ hnp a,b⟩⟩ fun b o hb e=>hs'.extBut b o (fun h=>hb (by simp [h])) e
 done:=fun s Q E st hQ=>by
  have hl:pl.length=n:=by rw [hp.length_eq,Zn]
  exact a7X hh st.1 st.2.1 hd hf hn st.2.2 (by simp;omega) fun h' he'=>hQ h' s.toks fun b o hb e=>he' b o (fun h=>hb (by simp [h])) e
 self:=fun _ _ _ _ st hQ=>a6B st.1 hQ
end
theorem a6o {α:Type} {L:List (Int×Value)} {n:Nat} {acc:Array Value} (hl:L.length=n) (h:ItemsOf (fun i v=>∃e,L[i]?=some e∧v=e.2) acc n):acc.toList=L.map (·.2):=by
 refine Zt (by rw [Xb,Qd,hl];exact h.1) fun i h1 h2=>?_
 obtain ⟨e,e1,e2⟩:=h.2 i acc.toList[i] (by rw [←Zb,Qc h1])
 rw [Yo,e2]
 have hi:i < L.length:=by rwa [Qd] at h2
 rw [Qc hi] at e1
 cases e1;rfl
theorem a8t {L:List (Int×Value)} {n:Nat} {pl:List Nat} {acc:Array Value} (hl:L.length=n) (hp:pl.Perm (Yb n)) (h:ItemsOf (fun i v=>∃k e,pl[i]?=some k∧L[k]?=some e∧v=e.2) acc n):acc.toList.Perm (L.map (·.2)):=by
 let f:Nat→Value:=fun k=>((L[k]?).map (·.2)).getD .none
 have e1:acc.toList=pl.map f:=by
  have hpl:pl.length=n:=by rw [hp.length_eq,Zn]
  refine Zt (by rw [Xb,Qd,hpl];exact h.1) fun i h1 h2=>?_
  obtain ⟨k,e,a1,a2,a3⟩:=h.2 i acc.toList[i] (by rw [←Zb,Qc h1])
  have hi:i < pl.length:=by rwa [Qd] at h2
  rw [Qc hi] at a1
  rw [Yo,a3,Option.some.inj a1]
  show e.2=((L[k]?).map (·.2)).getD .none
  rw [a2];rfl
 have e2:(Yb n).map f=L.map (·.2):=by
  refine Zt (by simp [hl]) fun i h1 h2=>?_
  rw [Yo,Vl,Yo]
  show ((L[i]?).map (·.2)).getD .none=_
  rw [Qc (by rwa [Qd] at h2)];rfl
 rw [e1,←e2]
 exact hp.map f
section
variable {prog:Program} {w:World} {A:Around} {E:Value→Shared→Prop} {s:Shared}
theorem b1I {S:Addr} {n ep:Nat} {o:Obj} {es:Array (Int×Value)} {t:SetTable} {Q:Value→Shared→Prop} (ho:s.heap.get? S=some o) (hc:o.cls=.type "set") (hd:o.data=.set es ep t) (hf:t.fits es.size=true) (hn:es.size=n) (hW:Wk w t n) (hz:n≤1000)
  (hQ:∀(J:Addr) (fp:List Addr) (P:Nat→Value→Prop) (St:Nat→Heap→Prop) (h1:Heap) (d:Drawn),(∀b o,s.heap.get? b=some o→h1.get? b=some o)→(∀b∈fp,b=S∨s.heap.objs.size≤b)→(∀b∈fp,b < h1.objs.size)→J∈fp→s.heap.objs.size≤J→
   (∀A':Around,A'.handled=none→Walks prog w A' J fp [J] n P St)→St 0 h1→(∀acc:Array Value,ItemsOf P acc n→acc.toList.Perm (es.toList.map (·.2)))→Q (.ref J) {s with heap:=h1,drawn:=d}):
  wpAny (model prog w) A (pyIter (.ref S)) Q E s:=by
 have hT:s.TypeIs (.ref S) "set":=⟨o,ho,hc⟩
 refine wpAny_pyIter_slot hT F.slot_set_iter (wpAny_call_entry F.slot_set_iter hT a5J ?_ (F.args_set_iter_1 _))
 unfold Builtin.«frozenset.__iter__»
 refine wpAny_bind (wpAny_bind (wpAny_pure (wpAny_pure ?_)))
 unfold Builtin.Frozenset.sizeOf
 refine wpAny_bind (wpAny_bind (wpAny_setEntries_of ho hd hf (wpAny_pure ?_)))
 unfold setDrawn
 refine wpAny_bind (wpAny_bind (wpAny_setState_of ho hd hf ?_))
 dsimp only
 unfold setsByText
 refine wpAny_bind (wpAny_bind (wpAny_askSetting (wpAny_pure (wpAny_pure ?_))))
 have lS:S < s.heap.objs.size:=Qs ho
 refine wpAny_ite_split (fun hab=>?_) (fun hab=>?_)
 ·have hab':(!w.params.followText "set-order" && (!t.plain && decide (es.size > 1)))=true:=hab
  refine wpAny_bind (a6h _ _ (by simp) fun pl d hp=>?_)
  refine wpAny_bind (wpAny_newObj_type ?_ (by
   show (pl.map fun i=>rawInt (i:Nat)).toArray.size≤sizeLine
   rw [sizeLine_eq,Qo,Qd,hp.length_eq,Zn];omega))
  have ho1:=Qi {cls:=Value.type "tuple",data:=Data.seq (pl.map fun i=>rawInt (i:Nat)).toArray} ho
  refine wpAny_bind (wpAny_setEpoch_of ho1 hd hf ?_)
  refine wpAny_bind (wpAny_newObj_type ?_)
  rw [hn] at hp ⊢
  have z1:(s.heap.push {cls:=Value.type "tuple",data:=Data.seq (pl.map fun i=>rawInt (i:Nat)).toArray}).objs.size=s.heap.objs.size+1:=Ja _ _
  refine wpAny_pure ⟨_,rfl,"set_iterator",_,⟨_,Qu _ rfl,rfl⟩,a0A.lookup,hQ _ [_,S,s.heap.objs.size] _ _ _ d (fun b o e=>Qi _ (Qi _ e)) ?_ ?_ Qm (by rw [z1];omega) (fun A' hA'=>b0c hA' ?_ ?_ hd hf hn hp) ⟨⟨_,Qu _ rfl,rfl,rfl⟩,Qi _ ho1,⟨_,Qi _ (Qu _ rfl),rfl,_,rfl⟩⟩ (fun acc ha=>a8t (by rw [Xb];exact hn) hp ha)⟩
  ·intro b hb
   simp only [Qn,Xh,or_false] at hb
   rcases hb with rfl | rfl | rfl
   ·exact .inr (by rw [z1];omega)
   ·exact .inl rfl
   ·exact .inr (Qk _)
  ·intro b hb
   rw [Ja,z1]
   simp only [Qn,Xh,or_false] at hb
   rcases hb with rfl | rfl | rfl
   ·rw [z1];exact Yv _
   ·exact Wa lS (Wa (Yv _) (Yv _))
   ·exact Wa (Yv _) (Yv _)
  ·rw [z1];exact Qx (Yp lS)
  ·rw [z1];exact Qx (Yv _)
 ·have hab':¬(!w.params.followText "set-order" && (!t.plain && decide (es.size > 1)))=true:=hab
  refine wpAny_bind (wpAny_pure ?_)
  refine wpAny_bind (wpAny_setEpoch_of ho hd hf ?_)
  refine wpAny_bind (wpAny_newObj_type ?_)
  rw [hn]
  have go:∀(P:Nat→Value→Prop) (St:Nat→Heap→Prop),(∀A':Around,A'.handled=none→Walks prog w A' s.heap.objs.size [s.heap.objs.size,S] [s.heap.objs.size] n P St)→St 0 (s.heap.push {cls:=Value.type "set_iterator",data:=Data.fields [rawInt 0,rawInt 0,Value.ref S,rawInt ↑n,rawInt ↑ep].toArray})→(∀acc:Array Value,ItemsOf P acc n→acc.toList.Perm (es.toList.map (·.2)))→Q (.ref s.heap.objs.size) {s with heap:=s.heap.push {cls:=Value.type "set_iterator",data:=Data.fields [rawInt 0,rawInt 0,Value.ref S,rawInt ↑n,rawInt ↑ep].toArray}}:=fun P St hw st ha=>by
   refine hQ _ [_,S] P St _ s.drawn (fun b o e=>Qi _ e) ?_ ?_ Qm (Qk _) hw st ha
   ·intro b hb
    simp only [Qn,Xh,or_false] at hb
    rcases hb with rfl | rfl
    ·exact .inr (Qk _)
    ·exact .inl rfl
   ·intro b hb
    rw [Ja]
    simp only [Qn,Xh,or_false] at hb
    rcases hb with rfl | rfl
    ·exact Yv _
    ·exact Yp lS
  have hne:S≠s.heap.objs.size:=Qx lS
  have st:a6s (s.heap.push {cls:=Value.type "set_iterator",data:=Data.fields [rawInt 0,rawInt 0,Value.ref S,rawInt ↑n,rawInt ↑ep].toArray}) s.heap.objs.size (rawInt (0:Nat)) 0 (.ref S) n ep:=⟨_,Qu _ rfl,rfl,rfl⟩
  refine wpAny_pure ⟨_,rfl,"set_iterator",_,⟨_,Qu _ rfl,rfl⟩,a0A.lookup,?_⟩
  by_cases hw:w.params.followText "set-order"=true
  ·refine go _ _ (fun A' hA'=>a9X hA' hw hne hd hf hn) ⟨st,Qi _ ho⟩ fun acc ha=>?_
   have e:=a6o (α:=Nat) (by rw [(a2P _ es).length_eq,Xb];exact hn) ha
   rw [e];exact (a2P _ es).map _
  ·have hw':w.params.followText "set-order"=false:=by simpa using hw
   have h1:es.size≤1:=by
    rw [hw'] at hab'
    by_cases h0:n=0
    ·omega
    ·rw [hW.2 h0] at hab'
     simp at hab'
     omega
   refine go _ _ (fun A' hA'=>b2B hA' hw' hne hd hf hn (hW.1 hw') h1) ⟨st,Qi _ ho⟩ fun acc ha=>?_
   rw [a6o (α:=Nat) (by rw [Xb];exact hn) ha]
end
section
variable {prog:Program} {w:World} {A:Around} {E:Value→Shared→Prop} {s:Shared}
theorem b1Q {r:Addr} {Q:Bool→Shared→Prop} (hT:s.TypeIs (.ref r) "set") (h:Q false s):wpAny (model prog w) A (Builtin.List.listLengthHint (.ref r)) Q E s:=by
 unfold Builtin.List.listLengthHint
 refine wpAny_bind (wpAny_specialOf hT PySem.F.slot_set_len.lookup ?_)
 generalize hid:("set.__len__":String)=id0
 wp_delta
 rw [show splitId id0=some ("set","__len__") from by subst hid;decide+kernel]
 subst hid
 refine wpAny_bind (wpAny_isInstance (T:="set") (b:=true) hT (by rw [isSubtype_type];kernel_rfl) ?_)
 refine wpAny_ite_split (fun hab=>absurd hab ‹dc›) (fun _=>?_)
 refine wpAny_ite_split (fun _=>?_) (fun hab=>absurd ‹dk› hab)
 refine wpAny_bind (wpAny_typeOf hT ?_)
 exact wpAny_pure h
theorem a7J {S:Addr} {n ep:Nat} {o:Obj} {es:Array (Int×Value)} {t:SetTable} {R:Result→Shared→Prop} (hh:A.handled=none) (ho:s.heap.get? S=some o) (hc:o.cls=.type "set") (hd:o.data=.set es ep t) (hf:t.fits es.size=true) (hn:es.size=n) (hW:Wk w t n) (hz:n≤1000)
  (L:Addr) (hLS:L≠S) (res:Value) (c₀:Nat) (hL:s.heap.get? L=some {cls:=.type "list",data:=.seq #[] c₀})
  (hR:∀h' tk d acc' c',(∀b o,b≠L→s.heap.get? b=some o→h'.get? b=some o)→h'.get? L=some {cls:=.type "list",dict:=none,data:=.seq acc' c',slots:=#[]}→acc'.toList.Perm (es.toList.map (·.2))→R (.ok (.ret res)) {s with heap:=h',toks:=tk,drawn:=d}):
  wpAny (model prog w) A.in1 (Builtin.List.listExtendWith (.ref L) (.ref S) res)
   (fun fin s'=>match fin with | .done f=>R (.ok f) s' | .again c'=>c'.quiet=true∧codeAny (model prog w) A c' R s') (fun e s'=>R (.error e) s') s:=by
 have hT:s.TypeIs (.ref S) "set":=⟨o,ho,hc⟩
 unfold Builtin.List.listExtendWith
 refine wpAny_bind (wpAny_typeOf (T:="set") hT ?_)
 have h1:Builtin.List.listSameRef (.ref L) (.ref S)=false:=by simp [Builtin.List.listSameRef,hLS]
 simp only [h1,show (Value.type "set" == Value.type "list")=false by decide,show (Value.type "set" == Value.type "tuple")=false by decide,Gc,Zk,if_false]
 refine wpAny_bind (b1I ho hc hd hf hn hW hz fun J fp P St h1 d hk hfp hlt hJ hJge W st hperm=>?_)
 have hLf:L∉fp:=fun z=>(hfp L z).elim hLS fun q=>absurd (Qs hL) (Nat.not_lt.mpr q)
 have hL1:=hk _ _ hL
 have hnz:n≤sizeLine:=by rw [sizeLine_eq];omega
 have key:∀(h:Heap) (c₁ tk:Nat),St 0 h→(∀b o,b≠L→s.heap.get? b=some o→h.get? b=some o)→
   h.get? L=some {cls:=.type "list",data:=.seq #[] c₁}→codeAny (model prog w) A (.builtin "list.extend.loop" ⟨[.ref L,.ref J,res],[]⟩) R {s with heap:=h,toks:=tk,drawn:=d}:=by
  intro h c₁ tk hst hk' hS₁
  refine codeAny_extend_loopS (W A.in1 hh).toS hnz L hLf res n 0 _ #[] c₁ rfl (Xg _) hst hS₁ (ItemsOf.nil _) fun s' acc' c' hm hS' hacc=>?_
  rw [Moved.eq_with hm]
  refine hR s'.heap s'.toks d acc' c' (fun b o hb e=>hm.heap b o (fun hmem=>?_) (hk' b o hb e)) hS' (hperm acc' hacc)
  rcases Qn.mp hmem with e' | hmem
  ·exact hb e'
  ·rw [Qw.mp hmem] at e
   exact absurd (Qs e) (Nat.not_lt.mpr hJge)
 refine wpAny_bind (wpAny_holding (b1Q ⟨o,hk _ _ ho,hc⟩ ?_))
 refine wpAny_ite_split (fun _=>?_) (fun _=>wpAny_pure ⟨plainId_quiet Vw _,key _ c₀ _ st (fun b o _ e=>hk b o e) hL1⟩)
 refine wpAny_bind (wpAny_rule ?_)
 refine wpAny_bind ?_
 show wpAny _ _ (updateSeq L (·.push .none) >>= fun _=>updateSeq L (·.pop)) _ _ _
 refine wpAny_bind (wpAny_updateSeq hL1 rfl ?_)
 have hS₂:=Za (Obj.mapSeq (·.push Value.none)) hL1 rfl
 refine wpAny_updateSeq (hz:=by seq_fits) hS₂ rfl ?_
 have hS₃:=Za (Obj.mapSeq (·.pop)) hS₂ rfl
 refine wpAny_pure ⟨plainId_quiet Vw _,key _ _ _ ?_ (fun b o hb e=>?_) hS₃⟩
 ·refine (W A.in1 hh).frame 0 _ _ st fun b hb o e=>?_
  have hbS:b≠L:=fun h=>hLf (h ▸ hb)
  exact (Zh _ _ (Ne.symm hbS)).trans ((Zh _ _ (Ne.symm hbS)).trans e)
 ·exact (Zh _ _ (Ne.symm hb)).trans ((Zh _ _ (Ne.symm hb)).trans (hk _ _ e))
theorem a6z {S:Addr} {n ep:Nat} {o:Obj} {es:Array (Int×Value)} {t:SetTable} {R:List Value→Shared→Prop} (hh:A.handled=none) (ho:s.heap.get? S=some o) (hc:o.cls=.type "set") (hd:o.data=.set es ep t) (hf:t.fits es.size=true) (hn:es.size=n) (hW:Wk w t n) (hz:n≤1000)
  (h:∀(h':Heap) (tk:Nat) (d:Drawn) (acc:Array Value),(∀b o,s.heap.get? b=some o→h'.get? b=some o)→acc.toList.Perm (es.toList.map (·.2))→R acc.toList {s with heap:=h',toks:=tk,drawn:=d}):
  wpAny (model prog w) A (collect (.ref S)) R E s:=by
 have lS:=Qs ho
 unfold collect
 refine wpAny_bind (wpAny_runValue (codeAny_builtin entry_proto_collect' ?_))
 rw [Around.under_plainId PySem.F.plain_proto_collect _]
 show wpAny _ A.in1 (newList [] >>= fun l=>again (.builtin "list.__iadd__" ⟨[l,.ref S],[]⟩)) _ _ s
 refine wpAny_bind (wpAny_newObj_type ?_)
 refine wpAny_pure ⟨plainId_quiet Wh _,codeAny_builtin entry_list_iadd' ?_⟩
 rw [Around.under_plainId Wh _]
 have hS₁:(s.heap.push {cls:=.type "list",data:=.seq ([]:List Value).toArray}).get? s.heap.objs.size=some {cls:=.type "list",data:=.seq #[]}:=Qu _ rfl
 show wpAny _ A.in1 (Builtin.List.listExtendWith (.ref s.heap.objs.size) (.ref S) (.ref s.heap.objs.size)) _ _ _
 have key:=a7J (prog:=prog) (A:=A) (s:={s with heap:=s.heap.push {cls:=.type "list",data:=.seq ([]:List Value).toArray}})
  (R:=fun (q:Result) (s':Shared)=>∃(h':Heap) (tk:Nat) (d:Drawn) (acc':Array Value) (c':Nat),q=.ok (.ret (.ref s.heap.objs.size))∧s'={s with heap:=h',toks:=tk,drawn:=d}∧
   (∀b o,s.heap.get? b=some o→h'.get? b=some o)∧h'.get? s.heap.objs.size=some {cls:=.type "list",dict:=none,data:=.seq acc' c',slots:=#[]}∧acc'.toList.Perm (es.toList.map (·.2)))
  hh (Qi _ ho) hc hd hf hn hW hz s.heap.objs.size (Ut lS) (.ref s.heap.objs.size) 0 hS₁
  (fun h' tk d acc' c' hk hS' hacc=>⟨h',tk,d,acc',c',rfl,rfl,fun b o e=>hk b o (Qx (Qs e)) (Qi _ e),hS',hacc⟩)
 refine wpAny_mono key (fun fin s' x=>?_) fun e s' x=>?_
 ·cases fin with
  | done f=>
   obtain ⟨h',tk,d,acc',c',e,rfl,hk,hS',hacc⟩:=x
   cases e
   show wpAny _ A (load s.heap.objs.size >>= _) _ _ _
   refine wpAny_bind (wpAny_load hS' ?_)
   exact wpAny_pure (h h' tk d acc' hk hacc)
  | again c₁=>
   refine ⟨x.1,codeAny_mono x.2 fun q s₂ y=>?_⟩
   obtain ⟨h',tk,d,acc',c',rfl,rfl,hk,hS',hacc⟩:=y
   show wpAny _ A (load s.heap.objs.size >>= _) _ _ _
   refine wpAny_bind (wpAny_load hS' ?_)
   exact wpAny_pure (h h' tk d acc' hk hacc)
 ·obtain ⟨_,_,_,_,_,e',_⟩:=x
  cases e'
end
theorem a4z {κ:Type} [DecidableEq κ] (val:Nat→κ):∀i,(a1P val i).Nodup
 | 0=>Yi
 | i+1=>by
  have:=a4z val i
  unfold a1P
  split
  ·exact this
  ·rename_i h
   exact Je.mpr ⟨this,Xu.mpr ⟨Xh,Yi⟩,fun a ha b hb e=>h (by rw [←Qw.mp hb,←e];exact ha)⟩
theorem a3w {κ:Type} [DecidableEq κ] (val:Nat→κ) (k:κ):∀i,k∈a1P val i↔∃j,j < i∧val j=k
 | 0=>⟨fun h=>(by cases h),fun ⟨_,h,_⟩=>‹om›⟩
 | i+1=>by
  have:=a7a val i k
  have e:k∈a1P val (i+1)↔(k∈a1P val i∨k=val i):=by
   have h2:=congrArg (·=true) this
   simp only [decide_eq_true_eq,Zo] at h2
   exact Iff.of_eq h2
  rw [e,a3w val k i]
  constructor
  ·rintro (⟨j,h,e⟩ | e)
   ·exact ⟨j,by omega,e⟩
   ·exact ⟨i,by omega,e.symm⟩
  ·rintro ⟨j,h,e⟩
   by_cases hj:j=i
   ·exact .inr (by rw [←e,hj])
   ·exact .inl ⟨j,by omega,e⟩
theorem b4C {κ:Type} [DecidableEq κ] {val:Nat→κ} {k:κ} {n:Nat} (h:decide (k∈a1P val n)=true):∃j,j < n∧val j=k:=(a3w val k n).mp (of_decide_eq_true h)
theorem b4g {κ:Type} [DecidableEq κ] {val:Nat→κ} {k:κ} {n:Nat} (h:∃j,j < n∧val j=k):decide (k∈a1P val n)=true:=decide_eq_true ((a3w val k n).mpr h)
theorem a2x {α:Type} [DecidableEq α]:∀{l m:List α},m.Nodup→(∀x∈m,x∈l)→l.length≤m.length→l.Nodup
 | [],_,_,_,_=>Yi
 | x::l,m,hm,hs,hl=>by
  have hmem:∀y∈m.erase x,y∈l:=fun y hy=>by
   have h1:=(Xm.mem_erase_iff hm).mp hy
   rcases Qn.mp (hs y h1.2) with e | e
   ·exact absurd e h1.1
   ·exact e
  have key:∀{l m:List α},m.Nodup→(∀x∈m,x∈l)→m.length≤l.length:=by
   intro l m
   induction m generalizing l with
   | nil=>intro _ _;exact Xg _
   | cons z m ih=>
    intro hn hs
    rw [Xu] at hn
    have hz:=hs z Qm
    have:=ih (l:=l.erase z) hn.2 fun y hy=>(Ga (fun e=>hn.1 (by rw [←e];exact hy))).mpr (hs y (Qp _ hy))
    have h3:=Ua hz
    have h4:=Uh hz
    simp only [Qt];omega
  have h5:=key (hm.erase x) hmem
  simp only [Qt] at hl
  have hx:x∈m:=Jw fun hx=>by
   rw [List.erase_of_not_mem hx] at h5;omega
  have h6:=Ua hx
  have h7:=Uh hx
  refine Xu.mpr ⟨fun hxl=>?_,a2x (hm.erase x) hmem ‹om›⟩
  have h8:=key (l:=l) hm fun y hy=>by
   rcases Qn.mp (hs y hy) with e | e
   ·rw [e];exact hxl
   ·exact e
  omega
def b3a:Value→Str
 | .str z _=>z
 | _=>Up
def c0h (w:World) (p:Addr) (ss:List Str):HO:=.ext fun h=>∃o es ep t,h.get? p=some o∧o.ExactSet∧o.data=.set es ep t∧t.fits es.size=true∧es.size=ss.length∧Wk w t es.size∧StrsAre (es.toList.map (·.2)) ss
def b6g (w:World) (K:Qe):List V→Hp→VK→Prop:=fun xs H Q=>∃(a:Addr) (zs:List Str),xs=[.ref a]∧SqL K H a (zs.map V.str)∧zs.length≤4000∧∀p ss,H p=none→ss.Nodup→(∀z,z∈ss↔z∈zs)→Q (.ref p) (upd H p (c0h w p ss))
def a7D (w:World):List V→Hp→VK→Prop:=fun xs H Q=>∃(p:Addr) (ss:List Str),xs=[.ref p]∧H p=some (c0h w p ss)∧ss.length < 64∧∀l ss',H l=none→ss'.Perm ss→sortedS ss'=true→Q (.ref l) (upd H l (.lst (ss'.map V.str)))
section
variable {X:Cx}
theorem b1w (hc:X.calm=true):a1t X (.type "set") (b6g X.w X.K):=by
 intro pins s σ H xs us Q I r h
 obtain ⟨a,zs,rfl,ha,hl,q⟩:=h
 obtain ⟨u,rfl,ru⟩:=a2w r
 cases ru
 obtain ⟨its,rv,p,hz⟩:=I.list ha
 have hsz:its.toArray.size=zs.length:=by have:=rv.length;simp at this ⊢;omega
 refine a8k (knd:=a0Q X.prog X.w) (val:=fun i=>Sum.inr ((zs[i]?).getD Up)) (I.ok.hd hc) p.isList (fun i v e=>?_) ?_ fun h' tk hS hk=>?_
 ·have e':its[i]?=some v:=by simpa using e
  have hi:=(Xa.mp e').1
  have hi2:i < zs.length:=by rw [←hsz];simpa using hi
  obtain ⟨u,eu,ru⟩:=rv.get (i:=i) (x:=V.str zs[i]) (by rw [Qr,Qc hi2];rfl)
  rw [e'] at eu
  cases eu
  obtain ⟨t,rfl⟩:=ru
  rw [Qc hi2]
  exact ⟨a3D _ _ _ _,rfl,rfl⟩
 ·rw [hsz];unfold scanBound;omega
 ·rw [hsz] at hS
  obtain ⟨o,es,ep,t,ho,hex,hd,hel,hmem,_,hf,hn,hw⟩:=hS
  have inz:∀e∈es.toList,∃z tk,e.2=.str z tk∧z∈zs:=fun e he=>by
   obtain ⟨⟨k,hk,_⟩,_⟩:=hel e he
   have hS:=(hmem k).mpr ⟨e,he,hk⟩
   obtain ⟨j,hj,rfl⟩:=b4C hS
   rw [Qc hj] at hk
   obtain ⟨tk,et⟩:=a6T hk
   exact ⟨_,tk,et,Qv hj⟩
  have hSt:∀l:List (Int×Value),(∀e∈l,∃z tk,e.2=.str z tk∧z∈zs)→StrsAre (l.map (·.2)) (l.map fun e=>b3a e.2):=fun l=>by
   induction l with
   | nil=>exact fun _=>.nil
   | cons e l ih=>
    intro h
    obtain ⟨z,tk,et,_⟩:=h e Qm
    have:=ih fun e he=>h e (Qp _ he)
    rw [Xj,Xj,et]
    exact .cons _ _ this
  have hmm:∀z,z∈es.toList.map (fun e=>b3a e.2)↔z∈zs:=fun z=>by
   constructor
   ·intro hzz
    obtain ⟨e,he,rfl⟩:=Qy.mp hzz
    obtain ⟨z,tk,et,hm⟩:=inz e he
    rw [et];exact hm
   ·intro hzz
    obtain ⟨j,hj,rfl⟩:=Zz hzz
    obtain ⟨e,he,hk⟩:=(hmem (Sum.inr zs[j])).mp (b4g ⟨j,hj,by rw [Qc hj];rfl⟩)
    obtain ⟨tk,et⟩:=a6T hk
    exact Qy.mpr ⟨e,he,by rw [et];rfl⟩
  have hnd:(es.toList.map (fun e=>b3a e.2)).Nodup:=by
   have h1:((es.toList.map (fun e=>b3a e.2)).map (Sum.inr:Str→Key)).Nodup:=a2x (a4z (fun i=>(Sum.inr ((zs[i]?).getD Up):Key)) zs.length) (fun k hk=>by
    obtain ⟨j,hj,rfl⟩:=(a3w _ _ _).mp hk
    refine Qy.mpr ⟨zs[j],(hmm _).mpr (Qv hj),?_⟩
    rw [Qc hj];rfl) (by rw [Qd,Qd,Xb,hn];exact Qk _)
   exact (List.pairwise_map.mp h1).imp fun h e=>h (congrArg _ e)
  have I2:=I.laid (t':=tk) (a:=s.heap.objs.size) (o:=c0h X.w s.heap.objs.size (es.toList.map fun e=>b3a e.2)) (h':=h') hk (Qk _)
   ⟨⟨o,es,ep,t,ho,hex,hd,hf,by rw [Qd,Xb],by rw [hn];exact hw,hSt _ inz⟩,⟨_,ho⟩,fun h1 h2 z k=>let ⟨o,es,ep,t,ho,r⟩:=z;⟨o,es,ep,t,k _ ho,r⟩⟩
  exact ⟨.ref _,_,I2,rfl,q _ _ (I.hok.fresh (Qk _)) hnd hmm⟩
theorem Inv.drew {pins:List (Addr×Obj)} {σ:St} {H:Hp} {s:Shared} (I:Inv X pins σ H s) (d:Drawn):Inv X pins σ H {s with drawn:=d}:=⟨I.ok,I.os,I.bare,I.base,I.loc,I.cell,I.free,I.freeC,I.pin,I.hok,I.len⟩
theorem a9W {vs us:List Value} {ss:List Str} (h:StrsAre vs ss) (p:us.Perm vs):∃ss',StrsAre us ss'∧ss'.Perm ss:=by
 have get:∀{vs:List Value} {ss:List Str},StrsAre vs ss→ss=vs.map b3a∧∀v∈vs,∃z t,v=.str z t:=by
  intro vs ss h
  induction h with
  | nil=>exact ⟨rfl,fun v hv=>by cases hv⟩
  | cons z t h ih=>
   refine ⟨by rw [ih.1];rfl,fun v hv=>?_⟩
   rcases Qn.mp hv with e | e
   ·exact ⟨_,_,e⟩
   ·exact ih.2 v e
 obtain ⟨e,hv⟩:=get h
 have mk:∀us:List Value,(∀v∈us,∃z t,v=.str z t)→StrsAre us (us.map b3a):=fun us=>by
  induction us with
  | nil=>exact fun _=>.nil
  | cons u us ih=>
   intro hu
   obtain ⟨z,t,rfl⟩:=hu u Qm
   exact .cons _ _ (ih fun v hv=>hu v (Qp _ hv))
 exact ⟨us.map b3a,mk us fun v hv'=>hv v (p.mem_iff.mp hv'),by rw [e];exact p.map _⟩
theorem a5X (hc:X.calm=true):a1t X (.builtin "sorted") (a7D X.w):=by
 intro pins s σ H xs us Q I r h
 obtain ⟨p,ss0,rfl,hq,h64,q⟩:=h
 obtain ⟨u,rfl,ru⟩:=a2w r
 cases ru
 obtain ⟨o,es,ep,t,ho,hex,hd,hf,hn,hw,hSt⟩:=(I.hok p _ hq).1
 refine Calls.call_function_entry kind_sorted plain_sorted entry_sorted (args_sorted1 _) ?_
 unfold Builtin.«sorted»
 refine wpAny_bind (m:=checkCount "sorted" 1 1 _) (wpAny_pure ?_)
 refine wpAny_bind (a6z (A:=X.A.in1) (I.ok.hd hc) ho hex.1 hd hf rfl hw ‹om› fun h' tk d acc hk hacc=>?_)
 obtain ⟨ss,hS,hps⟩:=a9W hSt hacc
 have hal:acc.toList.length=ss.length:=by
  have h1:=hacc.length_eq
  have h2:=hps.length_eq
  simp only [Qd,Xb] at h1 ⊢
  omega
 have h64':ss.length < 64:=by rw [hps.length_eq];exact h64
 refine wpAny_bind (wpAny_newList ?_ (by rw [hal,sizeLine_eq];omega))
 have hoL:(h'.push (seqObj "list" acc.toList.toArray 0)).get? h'.objs.size=some (seqObj "list" acc.toList.toArray 0):=Qu _ rfl
 refine wpAny_bind (wpAny_holding (wpAny_call_entry slot_list_sort ⟨_,hoL,rfl⟩ entry_list_sort (list_sort_treeK (s:={s with heap:=h'.push (seqObj "list" acc.toList.toArray 0),toks:=tk,drawn:=d}) (vs:=acc.toList) strKind_oneLt hoL hS.keysOf (fun v₁ v₂ a4d e=>keyKind_strs (by rw [←e];exact hS)) ‹om› fun st' a1 a2=>⟨_,rfl,?_⟩) (args_list_sort _)))
 refine wpAny_pure ⟨_,rfl,?_⟩
 obtain ⟨ss',b1,b2,b3⟩:=sorted_out_str hS a1 a2
 generalize (arrOf st').map (·.2)=out at b1 ⊢
 obtain ⟨e,he⟩:=sortedHeap_at (out:=out) hoL
 have hl:ss'.length < 64:=by rw [b2.length_eq];exact h64'
 have I1:=(I.drew d).kept (t':=tk) hk
 have I2:=I1.laid (a:=h'.objs.size) (o:=.lst (ss'.map V.str)) (h':=sortedHeap (h'.push (seqObj "list" acc.toList.toArray 0)) h'.objs.size acc.toList out) (t':=tk) (fun b o e=>by
  have hb:b < h'.objs.size:=Qs e
  rw [sortedHeap_old (Qx hb) (by rw [size_push'];exact Yp hb)]
  exact Qi _ e) (Qk _) ⟨by rw [Qd,sizeLine_eq];omega,out.toList,e,a3B b1,he⟩
 exact ⟨.ref h'.objs.size,_,I2,rfl,q _ _ (I1.hok.fresh (Qk _)) (b2.trans hps) b3⟩
end
end L2
namespace L2
open PySem
theorem c6G {a b c:Prop} (h:a):a∨b∨c:=Or.inl h
theorem c6b {a b c:Prop} (h:b):a∨b∨c:=Or.inr (Or.inl h)
theorem c6O {a b c:Prop} (h:c):a∨b∨c:=Or.inr (Or.inr h)
end L2
namespace K56
open PySem L2 Tx
abbrev b8i:List Str:=["some","told","statement"]
theorem a9P:a0f b8i ["some"] (a0a a9B):=‹sk›
abbrev b5w:List Str:=["statements","some"]
theorem b8q:a0f b5w ["statements","some"] (a0a a8K):=‹sk›
abbrev b4O:List Str:=["statements","some"]
theorem b6h:a0f b4O ["statements","some"] (a0a a8p):=‹sk›
abbrev b8y:List Str:=["statement"]
theorem b8x:a0f b8y ["statement"] (a0a b1b):=‹sk›
abbrev a8q:List Str:=["ground","some","ahead","text","ways","sure_rules"]
theorem a5z:a0f a8q ["ground","some"] (a0a a5e):=‹sk›
abbrev b4q:List Str:=["ground","rule","beaters"]
theorem b9v:a0f b4q ["ground","rule","beaters"] (a0a a8c):=‹sk›
abbrev b2a:List Str:=["ground","sures","held","refused","q","standing"]
theorem b3L:a0f b2a ["ground","sures","held","refused","q"] (a0a a6P):=‹sk›
abbrev b2p:List Str:=["ground","sures","held","refused","q","unfallen"]
theorem b3k:a0f b2p ["ground","sures","held","refused","q"] (a0a a6K):=‹sk›
abbrev b5g:List Str:=["rows","word"]
theorem b7E:a0f b5g ["rows","word"] (a0a a7M):=‹sk›
abbrev b6r:List Str:=["ground","sures","rows","claim","held","refused"]
theorem b0d:a0f b6r ["ground","sures","rows","claim"] (a0a a9b):=‹sk›
abbrev b4N:List Str:=["ground","paper","sures","rows"]
theorem a9T:a0f b4N ["ground","paper"] (a0a a8o):=‹sk›
abbrev b5i:List Str:=["some"]
theorem b8m:a0f b5i ["some"] (a0a a8i):=‹sk›
abbrev b4B:List Str:=["ground","some","contrary"]
theorem b9H:a0f b4B ["ground","some","contrary"] (a0a a7R):=‹sk›
abbrev b4K:List Str:=["ground","told","sures","rows","some","maybe_held","maybe_refused"]
theorem a4D:a0f b4K ["ground","told"] (a0a a8I):=‹sk›
abbrev b8v:List Str:=["self","label","head","body"]
theorem b9D:a0f b8v ["self","label","head","body"] (a0a b0l):=‹sk›
abbrev b8Y:List Str:=["self"]
theorem b6u:a0f b8Y ["self"] (a0a b0S):=‹sk›
abbrev b9r:List Str:=["self"]
theorem b6y:a0f b9r ["self"] (a0a b0Y):=‹sk›
abbrev b6q:List Str:=["self","head"]
theorem b9X:a0f b6q ["self","head"] (a0a a9V):=‹sk›
abbrev b9N:List Str:=["self"]
theorem b9A:a0f b9N ["self"] (a0a b0j):=‹sk›
abbrev b7j:List Str:=["self"]
theorem b9g:a0f b7j ["self"] (a0a b1t):=‹sk›
abbrev b9W:List Str:=["self"]
theorem b8E:a0f b9W ["self"] (a0a b0O):=‹sk›
abbrev b7r:List Str:=["self"]
theorem b9q:a0f b7r ["self"] (a0a a9i):=‹sk›
abbrev b6l:List Str:=["self"]
theorem b7L:a0f b6l ["self"] (a0a b1n):=‹sk›
abbrev b7m:List Str:=["self"]
theorem b8u:a0f b7m ["self"] (a0a a9I):=‹sk›
abbrev b8R:List Str:=["self"]
theorem b7X:a0f b8R ["self"] (a0a a9m):=‹sk›
abbrev b7N:List Str:=["self","rules","pairs","rule","pair"]
theorem b1C:a0f b7N ["self","rules","pairs"] (a0a b1x):=‹sk›
abbrev b9e:List Str:=["self"]
theorem b8b:a0f b9e ["self"] (a0a a8V):=‹sk›
abbrev b7y:List Str:=["self","statement"]
theorem b8D:a0f b7y ["self","statement"] (a0a b0g):=‹sk›
abbrev b5k:List Str:=["self","statement"]
theorem b7V:a0f b5k ["self","statement"] (a0a a7Q):=‹sk›
abbrev b8t:List Str:=["self","statement"]
theorem b9S:a0f b8t ["self","statement"] (a0a b0u):=‹sk›
abbrev b7w:List Str:=["self","one","other"]
theorem b9f:a0f b7w ["self","one","other"] (a0a b0o):=‹sk›
abbrev c0c:List Str:=["self","told","rule","statement"]
theorem a7F:a0f c0c ["self"] (a0a a9H):=‹sk›
abbrev c0b:List Str:=["_law_script","_law_k"]
theorem b8a:a0f c0b ["_law_script","_law_k"] (a0a b0A):=‹sk›
abbrev b6d:List Str:=["_law_cell","_law_k","_law_number"]
theorem a7A:a0f b6d ["_law_cell","_law_k"] (a0a b0W):=‹sk›
abbrev b5L:List Str:=["_law_cell","_law_many","_law_signs","_law_base","_law_size","_law_at","_law_found","_law_k","_law_other"]
theorem a3e:a0f b5L ["_law_cell","_law_many"] (a0a a8b):=‹sk›
abbrev b8U:List Str:=["_law_text"]
theorem b9a:a0f b8U ["_law_text"] (a0a b1u):=‹sk›
abbrev b8Q:List Str:=["_law_script","_law_names","_law_things","_law_some_here"]
theorem a6c:a0f b8Q ["_law_script"] (a0a b1i):=‹sk›
abbrev b9J:List Str:=["_law_pool_here","_law_number","_law_text"]
theorem b2Y:a0f b9J ["_law_pool_here","_law_number"] (a0a b1s):=‹sk›
abbrev b6Q:List Str:=["_law_cell","_law_many","_law_size","_law_plain","_law_found","_law_rest","_law_j"]
theorem a6j:a0f b6Q ["_law_cell","_law_many","_law_size","_law_plain"] (a0a a9k):=‹sk›
abbrev b5l:List Str:=["_law_pool_here","_law_cell","_law_k","_law_plain","_law_many","_law_texts","_law_way","_law_label"]
theorem a5I:a0f b5l ["_law_pool_here","_law_cell","_law_k","_law_plain"] (a0a a7S):=‹sk›
abbrev b9O:List Str:=["_law_rules","_law_cell","_law_pairs_here","_law_k","_law_j","_law_way"]
theorem a5B:a0f b9O ["_law_rules","_law_cell"] (a0a a9w):=‹sk›
abbrev b7s:List Str:=["_law_rules","_law_cell"]
theorem b6x:a0f b7s ["_law_rules","_law_cell"] (a0a b0w):=‹sk›
abbrev b5h:List Str:=["_law_script","_law_many","_law_pool_here","_law_cells","_law_plain","_law_rules","_law_pairs_here","_law_every","_law_text"]
theorem a3f:a0f b5h ["_law_script","_law_many"] (a0a a8n):=‹sk›
abbrev b6I:List Str:=["_law_rule_here"]
theorem b9b:a0f b6I ["_law_rule_here"] (a0a a9g):=‹sk›
abbrev b9C:List Str:=["_law_rule_here","_law_held","_law_text"]
theorem b2V:a0f b9C ["_law_rule_here","_law_held"] (a0a b0K):=‹sk›
abbrev b7D:List Str:=["_law_rule_here","_law_refused","_law_text"]
theorem b3p:a0f b7D ["_law_rule_here","_law_refused"] (a0a b0v):=‹sk›
abbrev b5x:List Str:=["_law_scene_here","_law_text"]
theorem b9c:a0f b5x ["_law_scene_here","_law_text"] (a0a a8f):=‹sk›
abbrev b3Z:List Str:=["_law_scene_here","_law_text"]
theorem b8w:a0f b3Z ["_law_scene_here","_law_text"] (a0a a8E):=‹sk›
abbrev b6J:List Str:=["_law_scene_here","_law_rule_here","_law_others","_law_other"]
theorem b3c:a0f b6J ["_law_scene_here","_law_rule_here","_law_others"] (a0a b1B):=‹sk›
abbrev b4r:List Str:=["_law_scene_here","_law_sures_here","_law_held","_law_refused","_law_text","_law_standing","_law_rule_here"]
theorem a9y:a0f b4r ["_law_scene_here","_law_sures_here","_law_held","_law_refused","_law_text"] (a0a a8d):=‹sk›
abbrev b4X:List Str:=["_law_scene_here","_law_sures_here","_law_held","_law_refused","_law_text","_law_left","_law_rule_here"]
theorem a9E:a0f b4X ["_law_scene_here","_law_sures_here","_law_held","_law_refused","_law_text"] (a0a a8J):=‹sk›
abbrev b9l:List Str:=["_law_scene_here","_law_found","_law_last","_law_rule_here"]
theorem a6f:a0f b9l ["_law_scene_here"] (a0a a8R):=‹sk›
abbrev b7P:List Str:=["_law_scene_here","_law_sures_here","_law_held","_law_refused","_law_rows_here","_law_last","_law_text"]
theorem a3G:a0f b7P ["_law_scene_here","_law_sures_here"] (a0a b0E):=‹sk›
abbrev b6v:List Str:=["_law_scene_here","_law_sures_here","_law_rows_here","_law_held","_law_refused","_law_word","_law_text"]
theorem a5R:a0f b6v ["_law_scene_here","_law_sures_here","_law_rows_here"] (a0a b0a):=‹sk›
abbrev b2z:List Str:=["_law_scene_here","_law_firm_here","_law_told","_law_sures_here","_law_rows_here","_law_some_here","_law_held","_law_refused","_law_text"]
theorem a3F:a0f b2z ["_law_scene_here","_law_firm_here","_law_told"] (a0a a6N):=‹sk›
abbrev b7U:List Str:=["_law_claims","_law_cell","_law_rows_here","_law_at"]
theorem a5N:a0f b7U ["_law_claims","_law_cell"] (a0a b1A):=‹sk›
abbrev a9s:List Str:=["_law_scene_here","_law_claims","_law_cell","_law_known","_law_some_here","_law_way","_law_at"]
theorem a2T:a0f a9s ["_law_scene_here","_law_claims","_law_cell"] (a0a a5v):=‹sk›
abbrev a3O:List Str:=["_law_script","_law_scene_here","_law_ground","_law_firm_here","_law_claims","_law_known","_law_cell","_law_sures_here","_law_some_here","_law_told","_law_handed","_law_found"]
theorem a1b:a0f a3O ["_law_script"] (a0a a2i):=‹sk›
set_option genInjectivity false in
set_option genSizeOf false in
structure Adr where
 f_z1t:Addr
 fd_z1t:FuncData
 f_z0t:Addr
 fd_z0t:FuncData
 f_z0u:Addr
 fd_z0u:FuncData
 f_z17:Addr
 fd_z17:FuncData
 f_z0d:Addr
 fd_z0d:FuncData
 f_z0v:Addr
 fd_z0v:FuncData
 f_z18:Addr
 fd_z18:FuncData
 f_z0k:Addr
 fd_z0k:FuncData
 f_z0w:Addr
 fd_z0w:FuncData
 f_z1e:Addr
 fd_z1e:FuncData
 f_z1f:Addr
 fd_z1f:FuncData
 f_z1u:Addr
 fd_z1u:FuncData
 f_z02:Addr
 fd_z02:FuncData
 f_z0l:Addr
 fd_z0l:FuncData
 f_z0x:Addr
 fd_z0x:FuncData
 f_z0e:Addr
 fd_z0e:FuncData
 f_z05:Addr
 fd_z05:FuncData
 f_z0z:Addr
 fd_z0z:FuncData
 f_z10:Addr
 fd_z10:FuncData
 f_z07:Addr
 fd_z07:FuncData
 f_z11:Addr
 fd_z11:FuncData
 f_z08:Addr
 fd_z08:FuncData
 f_z12:Addr
 fd_z12:FuncData
 f_z0q:Addr
 fd_z0q:FuncData
 f_z09:Addr
 fd_z09:FuncData
 f_z0h:Addr
 fd_z0h:FuncData
 f_z0a:Addr
 fd_z0a:FuncData
 f_z04:Addr
 fd_z04:FuncData
 f_z01:Addr
 fd_z01:FuncData
 f_z03:Addr
 fd_z03:FuncData
 f_z0b:Addr
 fd_z0b:FuncData
 f_z00:Addr
 fd_z00:FuncData
 f_z13:Addr
 fd_z13:FuncData
 f_z1v:Addr
 fd_z1v:FuncData
 f_z1g:Addr
 fd_z1g:FuncData
 f_z14:Addr
 fd_z14:FuncData
 f_z1n:Addr
 fd_z1n:FuncData
 f_z1h:Addr
 fd_z1h:FuncData
 f_z15:Addr
 fd_z15:FuncData
 f_z1o:Addr
 fd_z1o:FuncData
 f_z1i:Addr
 fd_z1i:FuncData
 f_z1b:Addr
 fd_z1b:FuncData
 f_z1j:Addr
 fd_z1j:FuncData
 f_z1p:Addr
 fd_z1p:FuncData
 f_z1c:Addr
 fd_z1c:FuncData
 f_z1k:Addr
 fd_z1k:FuncData
 f_z0r:Addr
 fd_z0r:FuncData
 f_z16:Addr
 fd_z16:FuncData
 f_z1d:Addr
 fd_z1d:FuncData
 f_z0s:Addr
 fd_z0s:FuncData
 f_z0c:Addr
 fd_z0c:FuncData
 f_z1l:Addr
 fd_z1l:FuncData
 f_z1m:Addr
 fd_z1m:FuncData
 f_z0j:Addr
 fd_z0j:FuncData
 f_z1w:Addr
 fd_z1w:FuncData
 f_z1q:Addr
 fd_z1q:FuncData
 f_z1r:Addr
 fd_z1r:FuncData
 f_d_law:Addr
 fd_d_law:FuncData
 C_Rule:Addr
 C_Fact:Addr
 C_Sure:Addr
 C_Most:Addr
 C_Block:Addr
 C_Ground:Addr
structure Txt (K:Qe) (mg:Str→Option Value) (t:Adr):Prop where
 F_z1t:Fun K "keyed" "keyed" a9B t.f_z1t t.fd_z1t
 b_z1t:a0r K t.fd_z1t ["some"] []
 g_z1t:mg "keyed"=some (.ref t.f_z1t)
 F_z0t:Fun K "all_among" "all_among" a8K t.f_z0t t.fd_z0t
 b_z0t:a0r K t.fd_z0t ["statements","some"] []
 g_z0t:mg "all_among"=some (.ref t.f_z0t)
 F_z0u:Fun K "any_among" "any_among" a8p t.f_z0u t.fd_z0u
 b_z0u:a0r K t.fd_z0u ["statements","some"] []
 g_z0u:mg "any_among"=some (.ref t.f_z0u)
 F_z17:Fun K "opposite" "opposite" b1b t.f_z17 t.fd_z17
 b_z17:a0r K t.fd_z17 ["statement"] []
 g_z17:mg "opposite"=some (.ref t.f_z17)
 F_z0d:Fun K "is_sure_set" "is_sure_set" a5e t.f_z0d t.fd_z0d
 b_z0d:a0r K t.fd_z0d ["ground","some"] []
 g_z0d:mg "is_sure_set"=some (.ref t.f_z0d)
 F_z0v:Fun K "is_beaten" "is_beaten" a8c t.f_z0v t.fd_z0v
 b_z0v:a0r K t.fd_z0v ["ground","rule","beaters"] []
 g_z0v:mg "is_beaten"=some (.ref t.f_z0v)
 F_z18:Fun K "holds_by" "holds_by" a6P t.f_z18 t.fd_z18
 b_z18:a0r K t.fd_z18 ["ground","sures","held","refused","q"] []
 g_z18:mg "holds_by"=some (.ref t.f_z18)
 F_z0k:Fun K "refused_by" "refused_by" a6K t.f_z0k t.fd_z0k
 b_z0k:a0r K t.fd_z0k ["ground","sures","held","refused","q"] []
 g_z0k:mg "refused_by"=some (.ref t.f_z0k)
 F_z0w:Fun K "with_word" "with_word" a7M t.f_z0w t.fd_z0w
 b_z0w:a0r K t.fd_z0w ["rows","word"] []
 g_z0w:mg "with_word"=some (.ref t.f_z0w)
 F_z1e:Fun K "follows" "follows" a9b t.f_z1e t.fd_z1e
 b_z1e:a0r K t.fd_z1e ["ground","sures","rows","claim"] []
 g_z1e:mg "follows"=some (.ref t.f_z1e)
 F_z1f:Fun K "lets_by" "lets_by" a8o t.f_z1f t.fd_z1f
 b_z1f:a0r K t.fd_z1f ["ground","paper"] []
 g_z1f:mg "lets_by"=some (.ref t.f_z1f)
 F_z1u:Fun K "rises" "rises" a8i t.f_z1u t.fd_z1u
 b_z1u:a0r K t.fd_z1u ["some"] []
 g_z1u:mg "rises"=some (.ref t.f_z1u)
 F_z02:Fun K "out_of_the_way" "out_of_the_way" a7R t.f_z02 t.fd_z02
 b_z02:a0r K t.fd_z02 ["ground","some","contrary"] []
 g_z02:mg "out_of_the_way"=some (.ref t.f_z02)
 F_z0l:Fun K "keeps_open" "keeps_open" a8I t.f_z0l t.fd_z0l
 b_z0l:a0r K t.fd_z0l ["ground","told"] []
 g_z0l:mg "keeps_open"=some (.ref t.f_z0l)
 F_z0x:Fun K "__init__" "Rule.__init__" b0l t.f_z0x t.fd_z0x
 b_z0x:a0r K t.fd_z0x ["self","label","head","body"] []
 F_z0e:Fun K "speaks" "Rule.speaks" b0S t.f_z0e t.fd_z0e
 b_z0e:a0r K t.fd_z0e ["self"] []
 F_z05:Fun K "is_sure" "Rule.is_sure" b0Y t.f_z05 t.fd_z05
 b_z05:a0r K t.fd_z05 ["self"] []
 F_z0z:Fun K "__init__" "Fact.__init__" a9V t.f_z0z t.fd_z0z
 b_z0z:a0r K t.fd_z0z ["self","head"] []
 F_z10:Fun K "word" "Fact.word" b0j t.f_z10 t.fd_z10
 b_z10:a0r K t.fd_z10 ["self"] []
 F_z07:Fun K "is_sure" "Fact.is_sure" b1t t.f_z07 t.fd_z07
 b_z07:a0r K t.fd_z07 ["self"] []
 F_z11:Fun K "word" "Sure.word" b0O t.f_z11 t.fd_z11
 b_z11:a0r K t.fd_z11 ["self"] []
 F_z08:Fun K "is_sure" "Sure.is_sure" a9i t.f_z08 t.fd_z08
 b_z08:a0r K t.fd_z08 ["self"] []
 F_z12:Fun K "word" "Most.word" b1n t.f_z12 t.fd_z12
 b_z12:a0r K t.fd_z12 ["self"] []
 F_z0q:Fun K "word" "Block.word" a9I t.f_z0q t.fd_z0q
 b_z0q:a0r K t.fd_z0q ["self"] []
 F_z09:Fun K "speaks" "Block.speaks" a9m t.f_z09 t.fd_z09
 b_z09:a0r K t.fd_z09 ["self"] []
 F_z0h:Fun K "__init__" "Ground.__init__" b1x t.f_z0h t.fd_z0h
 b_z0h:a0r K t.fd_z0h ["self","rules","pairs"] []
 F_z0a:Fun K "rules" "Ground.rules" a8V t.f_z0a t.fd_z0a
 b_z0a:a0r K t.fd_z0a ["self"] []
 F_z04:Fun K "ruling" "Ground.ruling" b0g t.f_z04 t.fd_z04
 b_z04:a0r K t.fd_z04 ["self","statement"] []
 F_z01:Fun K "speaking" "Ground.speaking" a7Q t.f_z01 t.fd_z01
 b_z01:a0r K t.fd_z01 ["self","statement"] []
 F_z03:Fun K "against" "Ground.against" b0u t.f_z03 t.fd_z03
 b_z03:a0r K t.fd_z03 ["self","statement"] []
 F_z0b:Fun K "beats" "Ground.beats" b0o t.f_z0b t.fd_z0b
 b_z0b:a0r K t.fd_z0b ["self","one","other"] []
 F_z00:Fun K "statements" "Ground.statements" a9H t.f_z00 t.fd_z00
 b_z00:a0r K t.fd_z00 ["self"] []
 F_z13:Fun K "_law_cell_at" "_law_cell_at" b0A t.f_z13 t.fd_z13
 b_z13:a0r K t.fd_z13 ["_law_script","_law_k"] []
 g_z13:mg "_law_cell_at"=some (.ref t.f_z13)
 F_z1v:Fun K "_law_mix" "_law_mix" b0W t.f_z1v t.fd_z1v
 b_z1v:a0r K t.fd_z1v ["_law_cell","_law_k"] []
 g_z1v:mg "_law_mix"=some (.ref t.f_z1v)
 F_z1g:Fun K "_law_words" "_law_words" a8b t.f_z1g t.fd_z1g
 b_z1g:a0r K t.fd_z1g ["_law_cell","_law_many"] []
 g_z1g:mg "_law_words"=some (.ref t.f_z1g)
 F_z14:Fun K "_law_opposed" "_law_opposed" b1u t.f_z14 t.fd_z14
 b_z14:a0r K t.fd_z14 ["_law_text"] []
 g_z14:mg "_law_opposed"=some (.ref t.f_z14)
 F_z1n:Fun K "_law_pool" "_law_pool" b1i t.f_z1n t.fd_z1n
 b_z1n:a0r K t.fd_z1n ["_law_script"] []
 g_z1n:mg "_law_pool"=some (.ref t.f_z1n)
 F_z1h:Fun K "_law_drawn" "_law_drawn" b1s t.f_z1h t.fd_z1h
 b_z1h:a0r K t.fd_z1h ["_law_pool_here","_law_number"] []
 g_z1h:mg "_law_drawn"=some (.ref t.f_z1h)
 F_z15:Fun K "_law_numbers" "_law_numbers" a9k t.f_z15 t.fd_z15
 b_z15:a0r K t.fd_z15 ["_law_cell","_law_many","_law_size","_law_plain"] []
 g_z15:mg "_law_numbers"=some (.ref t.f_z15)
 F_z1o:Fun K "_law_rule" "_law_rule" a7S t.f_z1o t.fd_z1o
 b_z1o:a0r K t.fd_z1o ["_law_pool_here","_law_cell","_law_k","_law_plain"] []
 g_z1o:mg "_law_rule"=some (.ref t.f_z1o)
 F_z1i:Fun K "_law_pairs" "_law_pairs" a9w t.f_z1i t.fd_z1i
 b_z1i:a0r K t.fd_z1i ["_law_rules","_law_cell"] []
 g_z1i:mg "_law_pairs"=some (.ref t.f_z1i)
 F_z1b:Fun K "_law_turned" "_law_turned" b0w t.f_z1b t.fd_z1b
 b_z1b:a0r K t.fd_z1b ["_law_rules","_law_cell"] []
 g_z1b:mg "_law_turned"=some (.ref t.f_z1b)
 F_z1j:Fun K "_law_scene" "_law_scene" a8n t.f_z1j t.fd_z1j
 b_z1j:a0r K t.fd_z1j ["_law_script","_law_many"] []
 g_z1j:mg "_law_scene"=some (.ref t.f_z1j)
 F_z1p:Fun K "_law_firm" "_law_firm" a9g t.f_z1p t.fd_z1p
 b_z1p:a0r K t.fd_z1p ["_law_rule_here"] []
 g_z1p:mg "_law_firm"=some (.ref t.f_z1p)
 F_z1c:Fun K "_law_stands" "_law_stands" b0K t.f_z1c t.fd_z1c
 b_z1c:a0r K t.fd_z1c ["_law_rule_here","_law_held"] []
 g_z1c:mg "_law_stands"=some (.ref t.f_z1c)
 F_z1k:Fun K "_law_falls" "_law_falls" b0v t.f_z1k t.fd_z1k
 b_z1k:a0r K t.fd_z1k ["_law_rule_here","_law_refused"] []
 g_z1k:mg "_law_falls"=some (.ref t.f_z1k)
 F_z0r:Fun K "_law_speaking" "_law_speaking" a8f t.f_z0r t.fd_z0r
 b_z0r:a0r K t.fd_z0r ["_law_scene_here","_law_text"] []
 g_z0r:mg "_law_speaking"=some (.ref t.f_z0r)
 F_z16:Fun K "_law_against" "_law_against" a8E t.f_z16 t.fd_z16
 b_z16:a0r K t.fd_z16 ["_law_scene_here","_law_text"] []
 g_z16:mg "_law_against"=some (.ref t.f_z16)
 F_z1d:Fun K "_law_beaten" "_law_beaten" b1B t.f_z1d t.fd_z1d
 b_z1d:a0r K t.fd_z1d ["_law_scene_here","_law_rule_here","_law_others"] []
 g_z1d:mg "_law_beaten"=some (.ref t.f_z1d)
 F_z0s:Fun K "_law_may_hold" "_law_may_hold" a8d t.f_z0s t.fd_z0s
 b_z0s:a0r K t.fd_z0s ["_law_scene_here","_law_sures_here","_law_held","_law_refused","_law_text"] []
 g_z0s:mg "_law_may_hold"=some (.ref t.f_z0s)
 F_z0c:Fun K "_law_may_refuse" "_law_may_refuse" a8J t.f_z0c t.fd_z0c
 b_z0c:a0r K t.fd_z0c ["_law_scene_here","_law_sures_here","_law_held","_law_refused","_law_text"] []
 g_z0c:mg "_law_may_refuse"=some (.ref t.f_z0c)
 F_z1l:Fun K "_law_sures" "_law_sures" a8R t.f_z1l t.fd_z1l
 b_z1l:a0r K t.fd_z1l ["_law_scene_here"] []
 g_z1l:mg "_law_sures"=some (.ref t.f_z1l)
 F_z1m:Fun K "_law_grown" "_law_grown" b0E t.f_z1m t.fd_z1m
 b_z1m:a0r K t.fd_z1m ["_law_scene_here","_law_sures_here"] []
 g_z1m:mg "_law_grown"=some (.ref t.f_z1m)
 F_z0j:Fun K "_law_rows_good" "_law_rows_good" b0a t.f_z0j t.fd_z0j
 b_z0j:a0r K t.fd_z0j ["_law_scene_here","_law_sures_here","_law_rows_here"] []
 g_z0j:mg "_law_rows_good"=some (.ref t.f_z0j)
 F_z1w:Fun K "_law_due" "_law_due" a6N t.f_z1w t.fd_z1w
 b_z1w:a0r K t.fd_z1w ["_law_scene_here","_law_firm_here","_law_told"] []
 g_z1w:mg "_law_due"=some (.ref t.f_z1w)
 F_z1q:Fun K "_law_rows" "_law_rows" b1A t.f_z1q t.fd_z1q
 b_z1q:a0r K t.fd_z1q ["_law_claims","_law_cell"] []
 g_z1q:mg "_law_rows"=some (.ref t.f_z1q)
 F_z1r:Fun K "_law_some" "_law_some" a5v t.f_z1r t.fd_z1r
 b_z1r:a0r K t.fd_z1r ["_law_scene_here","_law_claims","_law_cell"] []
 g_z1r:mg "_law_some"=some (.ref t.f_z1r)
 F_d_law:Fun K "law" "law" a2i t.f_d_law t.fd_d_law
 b_d_law:a0r K t.fd_d_law ["_law_script"] []
 g_d_law:mg "law"=some (.ref t.f_d_law)
 k_HELD:∃u,mg "HELD"=some (.str "held" u)
 k_REFUSED:∃u,mg "REFUSED"=some (.str "refused" u)
 g_Rule:mg "Rule"=some (.ref t.C_Rule)
 g_Fact:mg "Fact"=some (.ref t.C_Fact)
 g_Sure:mg "Sure"=some (.ref t.C_Sure)
 g_Most:mg "Most"=some (.ref t.C_Most)
 g_Block:mg "Block"=some (.ref t.C_Block)
 g_Ground:mg "Ground"=some (.ref t.C_Ground)
 z_NotImplementedError:mg "NotImplementedError"=none
 z_all:mg "all"=none
 z_any:mg "any"=none
 z_bool:mg "bool"=none
 z_enumerate:mg "enumerate"=none
 z_int:mg "int"=none
 z_isinstance:mg "isinstance"=none
 z_len:mg "len"=none
 z_list:mg "list"=none
 z_range:mg "range"=none
 z_reversed:mg "reversed"=none
 z_set:mg "set"=none
 z_sorted:mg "sorted"=none
 z_str:mg "str"=none
 z_tuple:mg "tuple"=none
 cm_Rule:b7F K t.C_Rule "__init__" t.f_z0x
 cl_Fact:Cls K t.C_Fact
 ty_Fact:TyI K t.C_Fact
 nf_Fact_label:a0M K t.C_Fact "label"
 nf_Fact_head:a0M K t.C_Fact "head"
 nf_Fact_body:a0M K t.C_Fact "body"
 mk_Fact:Mk K t.C_Fact t.f_z0z
 me_Fact_word:a4i K t.C_Fact "word" t.f_z10
 me_Fact_speaks:a4i K t.C_Fact "speaks" t.f_z0e
 me_Fact_is_sure:a4i K t.C_Fact "is_sure" t.f_z07
 ki_Fact_Rule:Yn K (.ref t.C_Fact) (.ref t.C_Rule)=some true
 ki_Fact_Fact:Yn K (.ref t.C_Fact) (.ref t.C_Fact)=some true
 cl_Sure:Cls K t.C_Sure
 ty_Sure:TyI K t.C_Sure
 nf_Sure_label:a0M K t.C_Sure "label"
 nf_Sure_head:a0M K t.C_Sure "head"
 nf_Sure_body:a0M K t.C_Sure "body"
 mk_Sure:Mk K t.C_Sure t.f_z0x
 me_Sure_word:a4i K t.C_Sure "word" t.f_z11
 me_Sure_speaks:a4i K t.C_Sure "speaks" t.f_z0e
 me_Sure_is_sure:a4i K t.C_Sure "is_sure" t.f_z08
 ki_Sure_Rule:Yn K (.ref t.C_Sure) (.ref t.C_Rule)=some true
 ki_Sure_Sure:Yn K (.ref t.C_Sure) (.ref t.C_Sure)=some true
 cl_Most:Cls K t.C_Most
 ty_Most:TyI K t.C_Most
 nf_Most_label:a0M K t.C_Most "label"
 nf_Most_head:a0M K t.C_Most "head"
 nf_Most_body:a0M K t.C_Most "body"
 mk_Most:Mk K t.C_Most t.f_z0x
 me_Most_word:a4i K t.C_Most "word" t.f_z12
 me_Most_speaks:a4i K t.C_Most "speaks" t.f_z0e
 me_Most_is_sure:a4i K t.C_Most "is_sure" t.f_z05
 ki_Most_Rule:Yn K (.ref t.C_Most) (.ref t.C_Rule)=some true
 ki_Most_Most:Yn K (.ref t.C_Most) (.ref t.C_Most)=some true
 cl_Block:Cls K t.C_Block
 ty_Block:TyI K t.C_Block
 nf_Block_label:a0M K t.C_Block "label"
 nf_Block_head:a0M K t.C_Block "head"
 nf_Block_body:a0M K t.C_Block "body"
 mk_Block:Mk K t.C_Block t.f_z0x
 me_Block_word:a4i K t.C_Block "word" t.f_z0q
 me_Block_speaks:a4i K t.C_Block "speaks" t.f_z09
 me_Block_is_sure:a4i K t.C_Block "is_sure" t.f_z05
 ki_Block_Rule:Yn K (.ref t.C_Block) (.ref t.C_Rule)=some true
 ki_Block_Block:Yn K (.ref t.C_Block) (.ref t.C_Block)=some true
 cl_Ground:Cls K t.C_Ground
 ty_Ground:TyI K t.C_Ground
 nf_Ground_in_order:a0M K t.C_Ground "in_order"
 nf_Ground_by_head:a0M K t.C_Ground "by_head"
 nf_Ground_pairs:a0M K t.C_Ground "pairs"
 mk_Ground:Mk K t.C_Ground t.f_z0h
 me_Ground_rules:a4i K t.C_Ground "rules" t.f_z0a
 me_Ground_ruling:a4i K t.C_Ground "ruling" t.f_z04
 me_Ground_speaking:a4i K t.C_Ground "speaking" t.f_z01
 me_Ground_against:a4i K t.C_Ground "against" t.f_z03
 me_Ground_beats:a4i K t.C_Ground "beats" t.f_z0b
 me_Ground_statements:a4i K t.C_Ground "statements" t.f_z00
 ki_Ground_Ground:Yn K (.ref t.C_Ground) (.ref t.C_Ground)=some true
def a6F:List Nat:=[97,98,99,100,101,102,103,104,105,106,107,108,109,110,111,112,113,114,115,116,117,118,119,120,121,122]
abbrev sv (l:List Nat):V:=.str (mk l)
theorem b9y:("abcdefghijklmnopqrstuvwxyz":Str)=mk a6F:=by decide+kernel
theorem b9K {c:Nat} (h:c∈a6F):c < 128:=by revert c;decide
theorem a2S {n:Nat} (h:n≤100000):n≤sizeLine:=Qj h ‹dc›
theorem b2g {l:List Nat} (h:∀c∈l,c < 1114112):Xd (mk l)=true:=by
 unfold Xd;simpa using h
def OkS (z:Str):Prop:=Xd z=true∧z.length≤40
theorem OkS.of {l:List Nat} (h:∀c∈l,c < 128) (hl:l.length≤40):OkS (mk l):=⟨b2g fun c hc=>by have:=h c hc;omega,by rw [a2y];exact hl⟩
def b5p:Nat→Str
 | 0=>"fact"
 | 1=>"sure"
 | 2=>"most"
 | _=>"block"
abbrev Rw:=Nat×Str×Str×List Str
def a3Q (r:Rw):Prop:=r.1 < 4∧(r.1=0→r.2.2.2=[]∧r.2.1="")∧OkS r.2.1∧OkS r.2.2.1∧(∀q∈r.2.2.2,OkS q)∧r.2.2.2.length≤4
def b6V (K:Qe):Sp:=fun vs H Q _=>∃(a:Addr) (ns:List Int) (k:Int),vs=[.ref a,.int k]∧SqL K H a (ns.map V.int)∧ns.length≤63∧0≤k∧k≤1000∧∀i,Q (.int i) H
def b2k (c k:Int):Int:=((((c % 2147483647+7919 * k+12345) % 2147483647) * ((c % 2147483647+7919 * k+12345) % 2147483647) % 2147483629) * 48271+k) % 2147483647 * (((((c % 2147483647+7919 * k+12345) % 2147483647) * ((c % 2147483647+7919 * k+12345) % 2147483647) % 2147483629) * 48271+k) % 2147483647) % 2147483587
def sgF (m:Int) (j:Nat):Nat:=97+((m+(j:Int)) % 26).toNat
def wdF (cs:List Nat) (at0 sz:Nat) (m:Int) (b:Bool) (j:Nat):List Nat:=if b=true then cs.take (1+j) else (cs.set at0 (sgF m j)).take sz
theorem c0J {m:Int} {j d:Nat} (h:0≤(m+(0+(j:Int))) % 26∧(m+(0+(j:Int))) % 26 < 26) (e:atI a6F ((m+(0+(j:Int))) % 26)=some d):d=sgF m j:=by
 unfold sgF
 rw [Int.zero_add] at h e
 generalize (m+(j:Int)) % 26=n at h e ⊢
 obtain ⟨k,rfl⟩:∃k:Nat,n=(k:Int):=⟨n.toNat,by omega⟩
 have hk:k < 26:=by omega
 clear h
 rw [Zj]
 revert k
 intro k e hk
 have:∀k:Nat,k < 26→atI a6F (k:Int)=some (97+k):=by decide+kernel
 rw [this k hk] at e
 exact (Option.some.inj e).symm
theorem b6i {cs:List Nat} {at0 sz:Nat} {m:Int} {b:Bool} (hl:cs.length=8) (h0:at0 < sz) (h8:sz≤8) {i j:Nat} (hi:i < 8) (hj:j < 8) (e:wdF cs at0 sz m b i=wdF cs at0 sz m b j):i=j:=by
 unfold wdF at e
 cases b with
 | true=>
  rw [if_pos rfl,if_pos rfl] at e
  have:=congrArg Zp e
  rw [Xo,Xo] at this
  omega
 | false=>
  rw [if_neg Qq,if_neg Qq] at e
  have h:=congrArg (fun l:List Nat=>l[at0]?) e
  simp only [Go,if_pos h0,Uf (show at0 < cs.length by omega)] at h
  have:=Option.some.inj h
  unfold sgF at this
  omega
theorem b1J {cs:List Nat} {at0 sz:Nat} {m:Int} {b:Bool} {n:Nat} (hl:cs.length=8) (h0:at0 < sz) (h8:sz≤8) (hn:n≤8):((Yb n).map (wdF cs at0 sz m b)).Nodup:=by
 induction n with
 | zero=>exact Yi
 | succ n ih=>
  rw [Uv,Yc]
  refine Je.mpr ⟨ih ‹om›,Xu.mpr ⟨Xh,Yi⟩,fun x hx y hy e=>?_⟩
  obtain ⟨i,hi,rfl⟩:=Qy.mp hx
  rw [Qw.mp hy] at e
  have hi':=Uc.mp hi
  have:=b6i hl h0 h8 ‹om› ‹om› e
  omega
def b8M:Sp:=fun vs H Q _=>∃(c k:Int),vs=[.int c,.int k]∧∀r:Int,0≤r∧r=b2k c k→Q (.int r) H
theorem a2d {c k:Int} {H:Hp} {Q:VK} {E:XK}:b8M [.int c,.int k] H Q E↔∀r:Int,0≤r∧r=b2k c k→Q (.int r) H:=⟨by rintro ⟨_,_,e,q⟩;cases e;exact q,fun q=>⟨_,_,rfl,q⟩⟩
def IsW (l:List Nat):Prop:=1≤l.length∧l.length≤8∧∀c∈l,c∈a6F
abbrev pv' (ps:List (List Nat)):List V:=ps.map fun l=>V.str (mk l)
def b4u (c:List Nat):List (List Nat)→List Nat
 | []=>[]
 | a::r=>a++r.flatMap fun b=>c++b
theorem a8w (c:List Nat):∀(r:List (List Nat)) (a:Array Nat),(r.map mk).foldl (fun acc p=>acc++(mk c).cps++p.cps) a=a++(r.flatMap fun b=>c++b).toArray:=by
 intro r
 induction r with
 | nil=>intro a;simp
 | cons b r ih=>
  intro a
  rw [Xj,List.foldl_cons,ih]
  show a++c.toArray++b.toArray++_=_
  simp
theorem b1k (c:List Nat) (xs:List (List Nat)):Txt.join (mk c) (xs.map mk)=mk (b4u c xs):=by
 cases xs with
 | nil=>rfl
 | cons a r=>
  show (⟨(r.map mk).foldl (fun acc p=>acc++(mk c).cps++p.cps) a.toArray⟩:Str)=_
  rw [a8w]
  simp [b4u,mk]
def b4k:Sp:=fun vs H Q _=>∃(c m:Int),vs=[.int c,.int m]∧(0≤m∧m≤8)∧∀(D:Addr) (ws:List (List Nat)) (H':Hp),a0g H H'→H D=none→H' D=some (.lst (pv' ws))→ws.length=m.toNat→(∀w∈ws,IsW w)→ws.Nodup→Q (.ref D) H'
theorem a3r (xs:List V) {n:Int} (h:0≤n):a4j xs none (some n)=xs.take n.toNat:=by
 unfold a4j HT.sIx
 simp only [Nat.sub_zero,Ws]
 rw [if_neg ‹om›]
 by_cases c:n.toNat≤xs.length
 ·rw [Nat.min_eq_left c]
 ·rw [Nat.min_eq_right ‹om›,Wo (Qk _),Wo ‹om›]
def sgl (cs:List Nat):List (List Nat):=cs.map fun c=>[c]
theorem a7f (cs:List Nat):b4u [] (sgl cs)=cs:=by
 have h:∀r:List Nat,((sgl r).flatMap fun b=>[]++b)=r:=by
  intro r
  induction r with
  | nil=>rfl
  | cons c r ih=>
   have e:sgl (c::r)=[c]::sgl r:=rfl
   rw [e,List.flatMap_cons,ih];rfl
 cases cs with
 | nil=>rfl
 | cons c r=>
  show [c]++((sgl r).flatMap fun b=>[]++b)=_
  rw [h];rfl
theorem b0F:∀cs:List Nat,(((sgl cs).map mk).map (·.length)).sum=cs.length
 | []=>rfl
 | c::cs=>by
  have e:sgl (c::cs)=[c]::sgl cs:=rfl
  rw [e,Xj,Xj,List.sum_cons,b0F cs,a2y]
  simp;omega
theorem a9f (cs:List Nat):(sgl cs).length=cs.length:=Qd _
theorem b3D:∀{ys:List V},(∀(i:Nat) v,ys[i]?=some v→∃c,v=sv [c]∧c∈a6F)→∃cs:List Nat,ys=pv' (sgl cs)∧∀c∈cs,c∈a6F
 | [],_=>⟨[],rfl,by simp⟩
 | y::ys,h=>by
  obtain ⟨cs,rfl,hc⟩:=b3D (ys:=ys) fun i v e=>h (i+1) v e
  obtain ⟨c,rfl,h0⟩:=h 0 y rfl
  refine ⟨c::cs,rfl,fun d hd=>?_⟩
  rcases Qn.mp hd with z | z
  ·rw [z];exact h0
  ·exact hc d z
theorem b1o (ws:List (List Nat)) (n:Nat):(pv' ws).take n=pv' (ws.take n):=(Jd).symm
theorem a7y (cs:List Nat) (n:Nat):(sgl cs).take n=sgl (cs.take n):=(Jd).symm
theorem b3W (cs:List Nat) (j d:Nat):(pv' (sgl cs)).set j (sv [d])=pv' (sgl (cs.set j d)):=by
 unfold sgl
 rw [List.map_set]
 exact (List.map_set (f:=fun l=>V.str (mk l))).symm
theorem b3Q {cs:List Nat} {k:Nat} (hl:cs.length=8) (hc:∀c∈cs,c∈a6F) (h1:1≤k) (h8:k≤8):IsW (cs.take k):=by
 refine ⟨by rw [Xo];omega,by rw [Xo];omega,fun c h=>hc c (Zf h)⟩
theorem b2s {p:Addr} {xs:List V} {k:Int} {v:V} {H:Hp} {Q:Hp→Prop} (h:H p=some (.lst xs)) (h0:0≤k) (h1:k < xs.length) (q:Q (upd H p (.lst (xs.set k.toNat v)))):b7q (.ref p) (.int k) v H Q:=
 ⟨p,xs,k,k.toNat,rfl,rfl,h,by unfold ixN;rw [if_pos h0,if_pos h1],q⟩
theorem b9m (ws:List (List Nat)) (w:List Nat):pv' ws++[sv w]=pv' (ws++[w]):=(Yc (f:=fun l=>V.str (mk l)) (l₁:=ws) (l₂:=[w])).symm
theorem a4b {α:Type} (d:α) (r:List α):atI (d::r) 0=some d:=by
 unfold atI ixN;rw [if_pos ‹dc›,if_pos (by simp only [Qt];omega)];rfl
def a8O (lb hd:V) (t:Addr):List (Str×V):=a1F "body" (.ref t) (a1F "head" hd (a1F "label" lb []))
theorem a1l (lb hd:V) (t:Addr):(a8O lb hd t).lookup ("label":Str)=some lb:=by
 unfold a8O;rw [a0j,if_neg ‹dk›,a0j,if_neg ‹dk›,a0j,if_pos rfl]
theorem a0Z (lb hd:V) (t:Addr):(a8O lb hd t).lookup ("head":Str)=some hd:=by
 unfold a8O;rw [a0j,if_neg ‹dk›,a0j,if_pos rfl]
theorem a1B (lb hd:V) (t:Addr):(a8O lb hd t).lookup ("body":Str)=some (.ref t):=by
 unfold a8O;rw [a0j,if_pos rfl]
theorem b4i (lb hd:V) (t:Addr) {m:Str} (h1:¬m="body") (h2:¬m="head") (h3:¬m="label"):(a8O lb hd t).lookup m=none:=by
 unfold a8O;rw [a0j,if_neg h1,a0j,if_neg h2,a0j,if_neg h3];rfl
def a1L (H:Hp) (r C:Addr) (lb hd:V) (bs:List V):Prop:=∃dx t,H r=some (.ins C dx (a8O lb hd t))∧H t=some (.tup bs)
theorem a1L.same {H H':Hp} {r C:Addr} {lb hd:V} {bs:List V} (s:a0g H H') (h:a1L H r C lb hd bs):a1L H' r C lb hd bs:=let ⟨d,t,a,b⟩:=h;⟨d,t,s _ _ a,s _ _ b⟩
def b6P (K:Qe):Sp:=fun vs H Q _=>∃x C dx lb hd b bs,vs=[.ref x,lb,hd,.ref b]∧H x=some (.ins C dx [])∧(Cls K C∧a0M K C "label"∧a0M K C "head"∧a0M K C "body")∧(SqL K H b bs∨SqT K H b bs∧H b=some (.tup bs))∧
 ∀H',(∀c o,H c=some o→c≠x→H' c=some o)→a1L H' x C lb hd bs→Q .non H'
def b4W (K:Qe) (C:Addr):Sp:=fun vs H Q _=>∃x dx hd,vs=[.ref x,hd]∧H x=some (.ins C dx [])∧
 ∀H',(∀c o,H c=some o→c≠x→H' c=some o)→a1L H' x C (.str "") hd []→Q .non H'
def a3S (t:Adr):Nat→Addr
 | 0=>t.C_Fact
 | 1=>t.C_Sure
 | 2=>t.C_Most
 | _=>t.C_Block
def a1d (b:Bool):Sp:=fun vs H Q _=>∃x,vs=[x]∧Q (.bl b) H
theorem a2Y {b:Bool} {x:V} {H:Hp} {Q:VK} {E:XK}:a1d b [x] H Q E↔Q (.bl b) H:=⟨by rintro ⟨_,e,q⟩;cases e;exact q,fun q=>⟨_,rfl,q⟩⟩
structure c4N (K:Qe) (t:Adr) (C:Addr):Prop where
 cl:Cls K C
 ty:TyI K C
 nl:a0M K C "label"
 nh:a0M K C "head"
 nb:a0M K C "body"
 kr:Yn K (.ref C) (.ref t.C_Rule)=some true
theorem a5b {K:Qe} {mg:Str→Option Value} {t:Adr} (T:Txt K mg t) {kind:Nat} (h:kind < 4):c4N K t (a3S t kind):=by
 match kind,h with
 | 0,_=>exact ⟨T.cl_Fact,T.ty_Fact,T.nf_Fact_label,T.nf_Fact_head,T.nf_Fact_body,T.ki_Fact_Rule⟩
 | 1,_=>exact ⟨T.cl_Sure,T.ty_Sure,T.nf_Sure_label,T.nf_Sure_head,T.nf_Sure_body,T.ki_Sure_Rule⟩
 | 2,_=>exact ⟨T.cl_Most,T.ty_Most,T.nf_Most_label,T.nf_Most_head,T.nf_Most_body,T.ki_Most_Rule⟩
 | 3,_=>exact ⟨T.cl_Block,T.ty_Block,T.nf_Block_label,T.nf_Block_head,T.nf_Block_body,T.ki_Block_Rule⟩
def b2u (kind:Nat) (a b c d:Sp):Sp:=match kind with
 | 0=>a
 | 1=>b
 | 2=>c
 | _=>d
theorem a6r {kind:Nat} (h:kind < 4):b2u kind (a1d true) (a1d true) (a1d false) (a1d false)=a1d (decide ((kind:Int) < 2)):=by
 match kind,h with
 | 0,_=>rfl
 | 1,_=>rfl
 | 2,_=>rfl
 | 3,_=>rfl
theorem b6j {t:Adr} {m:Str} {s0 s1 s2 s3:Sp} {ta:TE} {σ:St} {H:Hp} {Q:VK} {r:Addr} {kind:Nat} {lb hd:V} {bs:List V} (hk:kind < 4) (hta:∀R:VK,R (.ref r) H→ta σ H R) (hR:a1L H r (a3S t kind) lb hd bs)
  (hm:¬m="body"∧¬m="head"∧¬m="label") (q:b2u kind s0 s1 s2 s3 [.ref r] H Q E0):
  b8z (a2F t.C_Fact m s0 [] E0 ta a0v) (b8z (a2F t.C_Sure m s1 [] E0 ta a0v) (b8z (a2F t.C_Most m s2 [] E0 ta a0v) (a2F t.C_Block m s3 [] E0 ta a0v))) σ H Q:=by
 obtain ⟨dx,t0,h1,_⟩:=hR
 have hn:=b4i lb hd t0 hm.1 hm.2.1 hm.2.2
 match kind,hk with
 | 0,_=>exact .inl (hta _ ⟨r,dx,_,rfl,h1,hn,q⟩)
 | 1,_=>exact .inr (.inl (hta _ ⟨r,dx,_,rfl,h1,hn,q⟩))
 | 2,_=>exact .inr (.inr (.inl (hta _ ⟨r,dx,_,rfl,h1,hn,q⟩)))
 | 3,_=>exact .inr (.inr (.inr (hta _ ⟨r,dx,_,rfl,h1,hn,q⟩)))
theorem a1k {i:Nat} {σ:St} {H:Hp} {v:V} (h:σ[i]?=some (some v)):∀R:VK,R v H→a0l i σ H R:=fun R q=>⟨v,h,q⟩
section
variable {α:Type} [DecidableEq α]
def a1X (b S:List α):Bool:=b.all fun q=>decide (q∈S)
theorem a0W {b S:List α}:a1X b S=true↔∀q∈b,q∈S:=by
 unfold a1X;rw [Jb]
 exact ⟨fun h q hq=>by simpa using h q hq,fun h q hq=>by simpa using h q hq⟩
end
theorem b8B:∀zs:List Str,(∀z∈zs,Xd z=true)→Vt (zs.map Yk)=true∧Jv (zs.map Yk)=0
 | [],_=>⟨rfl,rfl⟩
 | z::zs,h=>by
  obtain ⟨a,b⟩:=b8B zs fun p hp=>h p (Qp _ hp)
  refine ⟨?_,?_⟩
  ·show (Zv (.str z) && _)=true
   rw [a,Uk];exact h z Qm
  ·show max (Zq (.str z)) _=0
   rw [b];rfl
theorem b0P {zs:List Str} (h:∀z∈zs,Xd z=true):Ji (.list (zs.map Yk))=true:=by
 obtain ⟨a,b⟩:=b8B zs h
 unfold Ji
 simp only [Zv,Zq,a,b]
 decide
def a7g (t:Adr) (H:Hp) (v:V) (r:Rw):Prop:=∃p,v=.ref p∧a1L H p (a3S t r.1) (.str r.2.1) (.str r.2.2.1) (r.2.2.2.map V.str)
theorem a7g.same {t:Adr} {H H':Hp} {v:V} {r:Rw} (s:a0g H H') (h:a7g t H v r):a7g t H' v r:=let ⟨p,a,b⟩:=h;⟨p,a,b.same s⟩
structure a2e (t:Adr) (H:Hp) (xs:List V) (rs:List Rw):Prop where
 len:xs.length=rs.length
 get:∀(i:Nat) (r:Rw),rs[i]?=some r→∃x,xs[i]?=some x∧a7g t H x r
theorem a2e.same {t:Adr} {H H':Hp} {xs:List V} {rs:List Rw} (s:a0g H H') (h:a2e t H xs rs):a2e t H' xs rs:=⟨h.len,fun i r e=>let ⟨x,a,b⟩:=h.get i r e;⟨x,a,b.same s⟩⟩
theorem a2e.at {t:Adr} {H:Hp} {xs:List V} {rs:List Rw} (h:a2e t H xs rs) {i:Nat} (hi:i < xs.length):∃(hi':i < rs.length) (p:Addr),xs[i]=.ref p∧a1L H p (a3S t rs[i].1) (.str rs[i].2.1) (.str rs[i].2.2.1) (rs[i].2.2.2.map V.str):=by
 have hi':i < rs.length:=by rw [←h.len];exact hi
 obtain ⟨x,e,p,rfl,hp⟩:=h.get i rs[i] (Qc hi')
 rw [Qc hi] at e
 exact ⟨hi',p,Option.some.inj e,hp⟩
abbrev VR:=V×Rw
def a5k (t:Adr) (H:Hp) (ws:List VR):Prop:=∀p∈ws,a7g t H p.1 p.2∧a3Q p.2
theorem a5k.same {t:Adr} {H H':Hp} {ws:List VR} (s:a0g H H') (h:a5k t H ws):a5k t H' ws:=fun p hp=>⟨(h p hp).1.same s,(h p hp).2⟩
theorem a2e.zip {t:Adr} {H:Hp}:∀{xs:List V} {rs:List Rw},a2e t H xs rs→(∀r∈rs,a3Q r)→∃zr:List VR,zr.map (·.1)=xs∧zr.map (·.2)=rs∧a5k t H zr
 | [],[],_,_=>⟨[],rfl,rfl,fun _ h=>by cases h⟩
 | [],_::_,h,_=>by have:=h.len;simp at this
 | _::_,[],h,_=>by have:=h.len;simp at this
 | x::xs,r::rs,h,ho=>by
  have h':a2e t H xs rs:=⟨by have:=h.len;simpa using this,fun i r e=>h.get (i+1) r e⟩
  obtain ⟨zr,e1,e2,hz⟩:=a2e.zip h' fun r hr=>ho r (Qp _ hr)
  obtain ⟨x',ex,hx⟩:=h.get 0 r rfl
  cases ex
  refine ⟨(x,r)::zr,by rw [Xj,e1],by rw [Xj,e2],fun p hp=>?_⟩
  rcases Qn.mp hp with z | z
  ·rw [z];exact ⟨hx,ho r Qm⟩
  ·exact hz p z
theorem a1p {K:Qe} {t:Adr} {a:Addr} {js:List (Option Nat)} {tt:TT} {te:TE} {σ:St} {H:Hp} {Q:VK} (ws:List VR) (hW:H a=some (.lst (ws.map (·.1)))) (hl:ws.length≤1000) (hz:a5k t H ws) (σr:St) (hσ:a2l js σ=none::σr) (P:Rw→Bool) (g:VR→V)
  (hs:∀(x:Addr) (r:Rw) H' (R:Bool→Hp→Prop),a3Q r→a1L H' x (a3S t r.1) (.str r.2.1) (.str r.2.2.1) (r.2.2.2.map V.str)→a0g H H'→(∀H'',a0g H' H''→R (P r) H'')→tt (some (.ref x)::σr) H' R)
  (he:∀(x:Addr) (r:Rw) H' (R:V→Hp→Prop),a3Q r→a1L H' x (a3S t r.1) (.str r.2.1) (.str r.2.2.1) (r.2.2.2.map V.str)→a0g H H'→(∀H'',a0g H' H''→R (g (.ref x,r)) H'')→te (some (.ref x)::σr) H' R)
  (hd:∀D H',H D=none→a0g H H'→H' D=some (.lst ((ws.filter fun p=>P p.2).map g))→Q (.ref D) H'):a4f (Itl K a) js (a0s 0) tt te σ H Q:=by
 let d0:VR:=(.non,0,"","",[])
 refine a3C (a1E (xs:=ws.map (·.1))) (Qj (show (ws.map (·.1)).length≤1000 by simpa using hl) ‹dc›) σr hσ (fun i=>P ((ws[i]?).getD d0).2) (fun i=>g ((ws[i]?).getD d0)) (fun H' s=>SqL.of (s _ _ hW)) (fun i H' R hi s hR=>?_) (fun i H' R hi s hR=>?_) (fun D H' hD s h=>?_)
 ·have hi':i < ws.length:=by simpa using hi
  obtain ⟨⟨x,ex,hx⟩,ho⟩:=hz _ (Qv hi')
  have e2:((ws.map (·.1))[i]?).getD .non=.ref x:=by rw [Qr,Qc hi'];exact ex
  rw [e2]
  rw [Qc hi',Xs] at hR
  exact hs x _ H' R ho (hx.same s) s hR
 ·have hi':i < ws.length:=by simpa using hi
  obtain ⟨⟨x,ex,hx⟩,ho⟩:=hz _ (Qv hi')
  have e2:((ws.map (·.1))[i]?).getD .non=.ref x:=by rw [Qr,Qc hi'];exact ex
  rw [e2]
  rw [Qc hi',Xs] at hR
  refine he x _ H' R ho (hx.same s) s ?_
  rw [show ((V.ref x,ws[i].2):VR)=ws[i] from by rw [←ex]]
  exact hR
 ·rw [show (ws.map (·.1)).length=ws.length by simp,a0X d0 (fun p:VR=>P p.2) g ws] at h
  exact hd D H' hD s h
def RuD (t:Adr) (D:Addr) (v:V) (r:Rw) (H:Hp):Prop:=∃p dx t0,v=.ref p∧p≠D∧t0≠D∧H p=some (.ins (a3S t r.1) dx (a8O (.str r.2.1) (.str r.2.2.1) t0))∧H t0=some (.tup (r.2.2.2.map V.str))
def gfl (io bh pr:Addr):List (Str×V):=a1F "pairs" (.ref pr) (a1F "by_head" (.ref bh) (a1F "in_order" (.ref io) []))
theorem b3e (io bh pr:Addr):(gfl io bh pr).lookup ("in_order":Str)=some (.ref io):=by
 unfold gfl;rw [a0j,if_neg ‹dk›,a0j,if_neg ‹dk›,a0j,if_pos rfl]
theorem b8g (io bh pr:Addr):(gfl io bh pr).lookup ("by_head":Str)=some (.ref bh):=by
 unfold gfl;rw [a0j,if_neg ‹dk›,a0j,if_pos rfl]
theorem a2A (io bh pr:Addr) {m:Str} (h1:¬m="pairs") (h2:¬m="by_head") (h3:¬m="in_order"):(gfl io bh pr).lookup m=none:=by
 unfold gfl;rw [a0j,if_neg h1,a0j,if_neg h2,a0j,if_neg h3];rfl
def hdF (rs:List Rw) (h:Str):List Rw:=rs.filter fun r=>decide (r.2.2.1=h)
def c0e (t:Adr) (H:Hp) (kvs:List (Key×V)) (rs:List Rw):Prop:=∀h:Str,(a1Z kvs (Sum.inr h:Key)=none∧hdF rs h=[])∨∃L ys,a1Z kvs (Sum.inr h:Key)=some (.ref L)∧H L=some (.lst ys)∧a2e t H ys (hdF rs h)
theorem c0e.same {t:Adr} {H H':Hp} {kvs:List (Key×V)} {rs:List Rw} (s:a0g H H') (h:c0e t H kvs rs):c0e t H' kvs rs:=fun x=>(h x).imp id fun ⟨L,ys,a,b,c⟩=>⟨L,ys,a,s _ _ b,c.same s⟩
def c0A (kvs:List (List Key×V)) (pl:List (Str×Str)):Prop:=∀a b:Str,a1Z kvs [Sum.inr a,Sum.inr b]=if (a,b)∈pl then some (V.bl true) else none
def a5l (t:Adr) (H:Hp) (g:Addr) (rs:List Rw) (pl:List (Str×Str)):Prop:=∃dx io bh pr xs kvs kps,H g=some (.ins t.C_Ground dx (gfl io bh pr))∧H io=some (.tup xs)∧a2e t H xs rs∧H bh=some (.dK kvs)∧c0e t H kvs rs∧H pr=some (.dT kps)∧c0A kps pl
theorem a5l.same {t:Adr} {H H':Hp} {g:Addr} {rs:List Rw} {pl:List (Str×Str)} (s:a0g H H') (h:a5l t H g rs pl):a5l t H' g rs pl:=let ⟨dx,io,bh,pr,xs,kvs,kps,a,b,c,d,e,f,k⟩:=h;⟨dx,io,bh,pr,xs,kvs,kps,s _ _ a,s _ _ b,c.same s,s _ _ d,e.same s,s _ _ f,k⟩
theorem a2e.refs {t:Adr} {H H':Hp} {xs:List V} {rs:List Rw} (h:a2e t H xs rs) {x dx:Addr} {C:Addr} (hx:H x=some (.ins C dx [])) (k:∀c o,H c=some o→c≠x→H' c=some o):a2e t H' xs rs:=⟨h.len,fun i r e=>by
 obtain ⟨v,a,p,rfl,dx',t0,h1,h2⟩:=h.get i r e
 have hp:p≠x:=fun z=>by
  rw [z,hx] at h1
  injection h1 with h1
  injection h1 with _ _ h3
  have:=a0Z (.str r.2.1) (.str r.2.2.1) t0
  rw [←h3] at this;cases this
 have ht:t0≠x:=a1S h2 hx ‹iz›
 exact ⟨_,a,p,rfl,dx',t0,k _ _ h1 hp,k _ _ h2 ht⟩⟩
theorem b2R (io bh pr:Addr):(gfl io bh pr).lookup ("pairs":Str)=some (.ref pr):=by
 unfold gfl;rw [a0j,if_pos rfl]
theorem a0q.same {H H':Hp} {xs:List V} {pl:List (Str×Str)} (s:a0g H H') (h:a0q H xs pl):a0q H' xs pl:=let ⟨as,a,b,c⟩:=h;⟨as,a,b,fun i x p e1 e2=>s _ _ (c i x p e1 e2)⟩
def c0s (t:Adr):Sp:=fun vs H Q _=>∃(x dx b pb:Addr) (xs:List V) (rs:List Rw) (ps:List V) (pl:List (Str×Str)),vs=[.ref x,.ref b,.ref pb]∧H x=some (.ins t.C_Ground dx [])∧H b=some (.lst xs)∧a2e t H xs rs∧(∀r∈rs,a3Q r)∧rs.length≤63∧H pb=some (.lst ps)∧a0q H ps pl∧pl.length≤200∧
 ∀H',(∀c o,H c=some o→c≠x→H' c=some o)→a5l t H' x rs pl→Q .non H'
def a7Y (t:Adr):Sp:=fun vs H Q _=>∃(g:Addr) (h:Str) (rs:List Rw) (pl:List (Str×Str)),vs=[.ref g,.str h]∧a5l t H g rs pl∧∀D ys H',a0g H H'→H D=none→H' D=some (.lst ys)→a2e t H' ys (hdF rs h)→Q (.ref D) H'
theorem a3u {K:Qe} {H:Hp} {Q:VK} {a b:Addr} {l m:List Str} (ha:H a=some (.lst (l.map V.str))) (hb:H b=some (.lst (m.map V.str))) (hl:l.length+m.length≤1000) (q:∀p,H p=none→Q (.ref p) (upd H p (.lst ((l++m).map V.str)))):a8a K (.ref a) (.ref b) H Q:=by
 refine .inr (.inr (.inl ⟨a,b,_,_,rfl,rfl,ha,hb,Qj (show _≤1000 by simp only [Qd];exact hl) ‹dc›,fun p hp=>?_⟩))
 rw [←Yc];exact q p hp
def a1G (z:Str):Str:=if Jp z "-"=true then Vj z (some 1) none else "-"++z
def b9Y:Sp:=fun vs H Q _=>∃z:Str,vs=[.str z]∧z.length≤100∧Q (.str (a1G z)) H
def a2G (b S:List Str):Bool:=b.any fun q=>decide (q∈S)
def spk (r:Rw):Bool:=decide (r.1 < 3)
def btn (pl:List (Str×Str)) (bs:List Rw) (r:Rw):Bool:=bs.any fun b=>decide ((b.2.1,r.2.1)∈pl)
def a1V (rs:List Rw) (U:List Str) (q:Str):List Rw:=((hdF rs q).filter spk).filter fun r=>a1X r.2.2.2 U
def unf (rs:List Rw) (D:List Str) (q:Str):List Rw:=((hdF rs q).filter spk).filter fun r=>!a2G r.2.2.2 D
def a0U (rs:List Rw) (pl:List (Str×Str)) (S U D:List Str) (q:Str):Bool:=if q∈S then true else if a1V rs U q=[]∨a1G q∈S then false else (hdF rs (a1G q)).all fun r=>a2G r.2.2.2 D || btn pl (a1V rs U q) r
def a3d (rs:List Rw) (pl:List (Str×Str)) (S U D:List Str) (q:Str):Bool:=if q∈S then false else if unf rs D q=[]∨a1G q∈S then true else (hdF rs (a1G q)).any fun r=>a1X r.2.2.2 U && !btn pl (unf rs D q) r
def a2f (H:Hp) (v:V) (S:List Str):Prop:=(∃a,v=.ref a∧H a=some (.lst (S.map V.str)))∨∃a kvs,v=.ref a∧H a=some (.dK kvs)∧∀x:Str,(a1Z kvs (Sum.inr x:Key)).isSome=decide (x∈S)
theorem a2f.same {H H':Hp} {v:V} {S:List Str} (s:a0g H H') (h:a2f H v S):a2f H' v S:=h.imp (fun ⟨a,e,b⟩=>⟨a,e,s _ _ b⟩) fun ⟨a,k,e,b,c⟩=>⟨a,k,e,s _ _ b,c⟩
theorem b0R {K:Qe} {tl tr:TE} {σ:St} {H:Hp} {Q:VK} {v:V} {S:List Str} {x:Str} (h:a2f H v S) (hl:∀R:VK,R (.str x) H→tl σ H R) (hr:∀R:VK,R v H→tr σ H R) (q:Q (.bl (decide (x∈S))) H):b8z (b5W tl tr) (tOp (b5T K) tl tr) σ H Q:=by
 rcases h with ⟨a,rfl,ha⟩ | ⟨a,kvs,rfl,ha,hk⟩
 ·exact .inr (hl _ (hr _ (a1C (SqL.of ha) q)))
 ·refine .inl (hl _ (hr _ ⟨a,_,rfl,a5m.k (k:=(Sum.inr x:Key)) ha,?_⟩))
  rw [hk];exact q
theorem a3t {K:Qe} {tl tr:TE} {σ:St} {H:Hp} {Q:Bool→Hp→Prop} {v:V} {S:List Str} {x:Str} (h:a2f H v S) (hl:∀R:VK,R (.str x) H→tl σ H R) (hr:∀R:VK,R v H→tr σ H R) (q:Q (decide (x∈S)) H):b9B (tB (b5W tl tr)) (a0D (tOp (b5T K) tl tr)) σ H Q:=by
 rcases h with ⟨a,rfl,ha⟩ | ⟨a,kvs,rfl,ha,hk⟩
 ·exact .inr (hl _ (hr _ (a1C (SqL.of ha) ⟨_,rfl,q⟩)))
 ·refine .inl (hl _ (hr _ ⟨a,_,rfl,a5m.k (k:=(Sum.inr x:Key)) ha,_,rfl,?_⟩))
  rw [hk];exact q
def a7p:Sp:=fun vs H Q _=>∃(t:Addr) (v:V) (bd S:List Str),vs=[.ref t,v]∧H t=some (.tup (bd.map V.str))∧bd.length≤1000∧a2f H v S∧∀H',a0g H H'→Q (.bl (a1X bd S)) H'
def b6k:Sp:=fun vs H Q _=>∃(t:Addr) (v:V) (bd S:List Str),vs=[.ref t,v]∧H t=some (.tup (bd.map V.str))∧bd.length≤1000∧a2f H v S∧∀H',a0g H H'→Q (.bl (a2G bd S)) H'
def b4R (t:Adr):Sp:=fun vs H Q _=>∃(g x y:Addr) (rs:List Rw) (pl:List (Str×Str)) (r1 r2:Rw),vs=[.ref g,.ref x,.ref y]∧a5l t H g rs pl∧a7g t H (.ref x) r1∧a7g t H (.ref y) r2∧a3Q r1∧a3Q r2∧∀H',a0g H H'→Q (.bl (decide ((r1.2.1,r2.2.1)∈pl))) H'
def b1S (t:Adr):Sp:=fun vs H Q _=>∃(g x L:Addr) (rs:List Rw) (pl:List (Str×Str)) (r:Rw) (zr:List VR),vs=[.ref g,.ref x,.ref L]∧a5l t H g rs pl∧a7g t H (.ref x) r∧a3Q r∧H L=some (.lst (zr.map (·.1)))∧a5k t H zr∧zr.length≤63∧∀H',a0g H H'→Q (.bl (btn pl (zr.map (·.2)) r)) H'
def a8h (t:Adr):Sp:=fun vs H Q _=>∃(g:Addr) (h:Str) (rs:List Rw) (pl:List (Str×Str)),vs=[.ref g,.str h]∧a5l t H g rs pl∧(∀r∈rs,a3Q r)∧rs.length≤63∧∀D (zr:List VR) H',a0g H H'→H D=none→H' D=some (.lst (zr.map (·.1)))→a5k t H' zr→zr.map (·.2)=(hdF rs h).filter spk→Q (.ref D) H'
def b0X (t:Adr):Sp:=fun vs H Q _=>∃(g:Addr) (h:Str) (rs:List Rw) (pl:List (Str×Str)),vs=[.ref g,.str h]∧a5l t H g rs pl∧(∀r∈rs,a3Q r)∧h.length≤100∧∀D (zr:List VR) H',a0g H H'→H D=none→H' D=some (.lst (zr.map (·.1)))→a5k t H' zr→zr.map (·.2)=hdF rs (a1G h)→Q (.ref D) H'
def a9S (t:Adr) (f:List Rw→List (Str×Str)→List Str→List Str→List Str→Str→Bool):Sp:=fun vs H Q _=>∃(g:Addr) (v1 v2 v3:V) (q:Str) (rs:List Rw) (pl:List (Str×Str)) (S U D:List Str),vs=[.ref g,v1,v2,v3,.str q]∧a5l t H g rs pl∧(∀r∈rs,a3Q r)∧rs.length≤63∧a2f H v1 S∧a2f H v2 U∧a2f H v3 D∧q.length≤100∧∀H',a0g H H'→Q (.bl (f rs pl S U D q)) H'
theorem a6G {kind:Nat} (h:kind < 4):b2u kind (a1d true) (a1d true) (a1d true) (a1d false)=a1d (decide (kind < 3)):=by
 match kind,h with
 | 0,_=>rfl
 | 1,_=>rfl
 | 2,_=>rfl
 | 3,_=>rfl
theorem b3J {H:Hp} {S:Addr} {d:List (Key×V)} (h:H S=some (.dK d)):IsD H S:=.inl ⟨_,.inl h⟩
def b7z (pl:List (Str×Str)):Prop:=∀p∈pl,Xd p.1=true∧Xd p.2=true
theorem a7b {H:Hp} {xs:List V} {pl:List (Str×Str)} {a:Addr} {p:Str×Str} (h:a0q H xs pl) (ha:H a=some (.tup [.str p.1,.str p.2])):a0q H (xs++[.ref a]) (pl++[p]):=by
 obtain ⟨as,rfl,hl,hat⟩:=h
 refine ⟨as++[a],by rw [Yc];rfl,by simp [hl],fun i b q e1 e2=>?_⟩
 by_cases hi:i < as.length
 ·rw [Yx hi] at e1
  rw [Yx ‹om›] at e2
  exact hat i b q e1 e2
 ·have hi2:=(Xa.mp e1).1
  have ei:i=as.length:=by simp at hi2;omega
  subst ei
  rw [Ys (Qk _),Wc] at e1
  rw [Ys ‹om›,hl,Wc] at e2
  cases e1;cases e2;exact ha
theorem b2q {H H':Hp} {xs:List V} {pl:List (Str×Str)} {D:Addr} (h:a0q H xs pl) (hD:∃ys,H D=some (.lst ys)) (up:∀b o,b≠D→H b=some o→H' b=some o):a0q H' xs pl:=by
 obtain ⟨as,e,hl,hat⟩:=h
 obtain ⟨ys,hD⟩:=hD
 refine ⟨as,e,hl,fun i b q e1 e2=>?_⟩
 have:=hat i b q e1 e2
 exact up _ _ (a1S this hD ‹iz›) this
def TxN (n:Nat) (z:Str):Prop:=∃c r,z=mk (c::r)∧(c::r).length≤n∧∀x∈c::r,x < 128
theorem TxN.ok {n:Nat} {z:Str} (h:TxN n z) (hn:n≤40):OkS z:=by
 obtain ⟨c,r,rfl,h1,h2⟩:=h
 exact OkS.of h2 ‹om›
theorem TxN.len {n:Nat} {z:Str} (h:TxN n z):z.length≤n:=by
 obtain ⟨c,r,rfl,h1,h2⟩:=h
 rw [a2y];exact h1
theorem TxN.of {n:Nat} {l:List Nat} (h0:l≠[]) (h1:l.length≤n) (h2:∀x∈l,x < 128):TxN n (mk l):=by
 cases l with
 | nil=>exact absurd rfl h0
 | cons c r=>exact ⟨c,r,rfl,h1,h2⟩
theorem TxN.up {n m:Nat} {z:Str} (h:TxN n z) (hm:n≤m):TxN m z:=by
 obtain ⟨c,r,e,h1,h2⟩:=h
 exact ⟨c,r,e,by omega,h2⟩
theorem TxN.neg {n:Nat} {z:Str} (h:TxN n z):TxN (n+1) ("-"++z):=by
 obtain ⟨c,r,rfl,h1,h2⟩:=h
 rw [show ("-":Str)=mk [45] by decide+kernel,a5M]
 refine ⟨45,c::r,rfl,by simp at h1 ⊢;omega,fun x hx=>?_⟩
 rcases Qn.mp hx with e | e
 ·omega
 ·exact h2 x e
def b1e:Sp:=fun vs H Q _=>∃(n:Nat) (z:Str),vs=[.str z]∧TxN n z∧n≤100∧Q (.str (a1G z)) H
theorem b8e {c:Nat} {r:List Nat}:a1G (mk (c::r))=if c=45 then Vj (mk (c::r)) (some 1) none else "-"++mk (c::r):=by
 unfold a1G
 rw [show ("-":Str)=mk [45] by decide+kernel,a8v]
 by_cases h:c=45
 ·rw [if_pos h,if_pos (by rw [h];rfl)]
 ·rw [if_neg h,if_neg (by simpa using h)]
/-! ### texts that are unlike one another -/
def PlU (pl:List Str):Prop:=pl.Nodup∧∀x∈pl,∀y:Str,x≠"-"++y
theorem PlU.take {pl:List Str} (h:PlU pl) (n:Nat):PlU (pl.take n):=⟨h.1.sublist (List.take_sublist n pl),fun x hx=>h.2 x (Zf hx)⟩
theorem a3Y {l m:List Nat} (h:mk l=mk m):l=m:=by
 have:=congrArg (fun z:Str=>z.cps.toList) h
 exact this
theorem a5U (z:Str):z=mk z.cps.toList:=rfl
theorem b4H {x y:Str} (h:"-"++x="-"++y):x=y:=by
 rw [a5U x,a5U y,show ("-":Str)=mk [45] by decide+kernel,a5M,a5M] at h
 have:=a3Y h
 have e:x.cps.toList=y.cps.toList:=(List.cons.inj this).2
 rw [a5U x,a5U y,e]
theorem a6W:∀{pl:List Str},PlU pl→(pl.flatMap fun (x:Str)=>[x,("-":Str)++x]).Nodup
 | [],_=>Yi
 | x::pl,h=>by
  have hn:=Xu.mp h.1
  have ih:=a6W (pl:=pl) ⟨hn.2,fun y hy=>h.2 y (Qp _ hy)⟩
  rw [List.flatMap_cons]
  refine Je.mpr ⟨?_,ih,fun a ha b hb e=>?_⟩
  ·refine Xu.mpr ⟨fun z=>h.2 x Qm x (Qw.mp z),Xu.mpr ⟨Xh,Yi⟩⟩
  ·obtain ⟨y,hy,hb⟩:=Zu.mp hb
   subst e
   simp only [Qn,Xh,or_false] at ha hb
   rcases ha with rfl | rfl<;>rcases hb with e | e
   ·exact hn.1 (e ▸ hy)
   ·exact h.2 a Qm y e
   ·exact h.2 y (Qp _ hy) x e.symm
   ·exact hn.1 (b4H e ▸ hy)
theorem a7s {x:Nat}:∀{l l' r r':List Nat},x∉l→x∉l'→l++x::r=l'++x::r'→l=l'∧r=r'
 | [],[],_,_,_,_,e=>⟨rfl,(List.cons.inj e).2⟩
 | [],b::l',_,_,_,h,e=>absurd (by rw [(List.cons.inj e).1];exact Qm) h
 | a::l,[],_,_,h,_,e=>absurd (by rw [←(List.cons.inj e).1];exact Qm) h
 | a::l,b::l',r,r',h,h',e=>by
  have e':=List.cons.inj e
  have:=a7s (fun z=>h (Qp _ z)) (fun z=>h' (Qp _ z)) e'.2
  exact ⟨by rw [e'.1,this.1],this.2⟩
theorem b9w {n0 n1 n2 t0 t1:List Nat} (w0:IsW n0) (w1:IsW n1) (w2:IsW n2) (u0:IsW t0) (u1:IsW t1) (hn:[n0,n1,n2].Nodup) (ht:[t0,t1].Nodup):PlU ([mk n0,mk (n1++[40]++t0++[41]),mk (n0++[40]++t1++[44]++t0++[41]),mk n2]++[mk (n1++[40]++t1++[41]),mk n1,mk (n2++[40]++t0++[44]++t0++[41])]):=by
 have k40:∀{l:List Nat},IsW l→40∉l:=fun h z=>absurd (h.2.2 _ z) ‹dc›
 have k41:∀{l:List Nat},IsW l→41∉l:=fun h z=>absurd (h.2.2 _ z) ‹dc›
 have pb:∀{l l' r:List Nat},IsW l→mk l≠mk (l'++40::r):=fun h e=>k40 h (by rw [a3Y e];exact Ye _ Qm)
 have pb':∀{l l' r:List Nat},IsW l→mk (l'++40::r)≠mk l:=fun h e=>pb h e.symm
 have pp:∀{l l':List Nat},l≠l'→mk l≠mk l':=fun h e=>h (a3Y e)
 have bb:∀{l l' r r':List Nat},IsW l→IsW l'→l≠l'→mk (l++40::r)≠mk (l'++40::r'):=fun h h' hn e=>hn (a7s (k40 h) (k40 h') (a3Y e)).1
 have tt:∀{l:List Nat},IsW l→mk (l++40::(t0++[41]))≠mk (l++40::(t1++[41])):=fun h e=>by
  have e1:=(a7s (k40 h) (k40 h) (a3Y e)).2
  have e2:=(a7s (k41 u0) (k41 u1) e1).1
  rw [e2] at ht
  exact (Xu.mp ht).1 Qm
 simp only [Xu,Qn,Xh,or_false,not_or,not_false_eq_true,and_true,Yi] at hn
 obtain ⟨⟨m01,m02⟩,m12⟩:=hn
 simp only [Yj,List.cons_append,Jm]
 refine ⟨?_,?_⟩
 ·simp only [Xu,Qn,Xh,or_false,not_or,not_false_eq_true,and_true,Yi]
  exact ⟨⟨pb w0,pb w0,pp m02,pb w0,pp m01,pb w0⟩,⟨bb w1 w0 (Ne.symm m01),pb' w2,tt w1,pb' w1,bb w1 w2 m12⟩,⟨pb' w2,bb w0 w1 m01,pb' w1,bb w0 w2 m02⟩,⟨pb w2,pp (Ne.symm m12),pb w2⟩,⟨pb' w1,bb w1 w2 m12⟩,pb w1⟩
 ·have no:∀{l r:List Nat},IsW l→∀y:Str,mk (l++r)≠"-"++y:=fun {l r} h y e=>by
   rw [a5U y,show ("-":Str)=mk [45] by decide+kernel,a5M] at e
   have e1:=a3Y e
   cases l with
   | nil=>have:=h.1;simp at this
   | cons c l=>
    have:=(List.cons.inj e1).1
    exact absurd (h.2.2 c Qm) (by rw [this];decide)
  have no0:∀{l:List Nat},IsW l→∀y:Str,mk l≠"-"++y:=fun {l} h y=>by
   have:=no (r:=[]) h y;rwa [Qf] at this
  intro x hx
  simp only [Qn,Xh,or_false] at hx
  rcases hx with rfl | rfl | rfl | rfl | rfl | rfl | rfl
  ·exact no0 w0
  ·exact no w1
  ·exact no w0
  ·exact no0 w2
  ·exact no w1
  ·exact no0 w1
  ·exact no w2
def b2C (K:Qe):Sp:=fun vs H Q _=>∃(a:Addr) (ns:List Int),vs=[.ref a]∧SqL K H a (ns.map V.int)∧ns.length≤63∧∀(D:Addr) (pl:List Str) H',a0g H H'→H D=none→H' D=some (.lst (pl.map V.str))→1≤pl.length→pl.length≤7→(∀z∈pl,TxN 30 z)→PlU pl→Q (.ref D) H'
def b1Y (pl:List Str):List Str:=pl.flatMap fun x=>[x,"-"++x]
theorem c0K {pl:List Str} {z:Str} (h:z∈pl):z∈b1Y pl:=Zu.mpr ⟨z,h,Qm⟩
theorem b7v {pl:List Str} {z:Str} (h:z∈pl):"-"++z∈b1Y pl:=Zu.mpr ⟨z,h,Qp _ Qm⟩
def RwE (ev:List Str) (r:Rw):Prop:=r.2.2.1∈ev∧∀q∈r.2.2.2,q∈ev
def b5y:Sp:=fun vs H Q _=>∃(P:Addr) (n:Int) (pl:List Str),vs=[.ref P,.int n]∧H P=some (.lst (pl.map V.str))∧1≤pl.length∧pl.length≤7∧(∀z∈pl,TxN 30 z)∧∀z,TxN 31 z→z∈b1Y pl→Q (.str z) H
def b0i:Sp:=fun vs H Q _=>∃(c m sz:Int) (p:Bool),vs=[.int c,.int m,.int sz,.bl p]∧(0≤m∧m≤10)∧(0 < sz∧sz≤1000)∧∀(D:Addr) (is:List Int) H',a0g H H'→H D=none→H' D=some (.lst (is.map V.int))→is.length=m.toNat→Q (.ref D) H'
def RwT (r:Rw):Prop:=a3Q r∧TxN 31 r.2.2.1∧∀q∈r.2.2.2,TxN 31 q
def b2d (t:Adr):Sp:=fun vs H Q _=>∃(P:Addr) (c k:Int) (p:Bool) (pl:List Str),vs=[.ref P,.int c,.int k,.bl p]∧H P=some (.lst (pl.map V.str))∧1≤pl.length∧pl.length≤7∧(∀z∈pl,TxN 30 z)∧(0≤k∧k < 40)∧∀x r H',a0g H H'→RwT r→RwE (b1Y pl) r→a1L H' x (a3S t r.1) (.str r.2.1) (.str r.2.2.1) (r.2.2.2.map V.str)→Q (.ref x) H'
theorem b7b:∀k:Nat,k < 40→OkS (Xw "r"++Xw (toString (k:Int))):=by
 intro k hk
 have h1:Xd (Xw "r"++Xw (toString (k:Int)))=true:=by
  revert k;decide+kernel
 have h2:(Xw "r"++Xw (toString (k:Int))).length≤40:=by
  revert k;decide+kernel
 exact ⟨h1,h2⟩
theorem b3d {K:Qe} {l m:List Nat} {H:Hp} {Q:VK} (h:l.length+m.length≤1000) (q:Q (sv (l++m)) H):a8a K (sv l) (sv m) H Q:=by
 rw [a1Y,a5M]
 exact ⟨by rw [a2y,a2y];exact Qj h ‹dc›,q⟩
theorem b7o {P:Str→Prop} {ys:List V} (h:∀(i:Nat) (v:V),ys[i]?=some v→∃z,v=V.str z∧P z):∃zs:List Str,ys=zs.map V.str∧∀z∈zs,P z:=by
 induction ys with
 | nil=>exact ⟨[],rfl,by simp⟩
 | cons y ys ih=>
  obtain ⟨zs,e,ho⟩:=ih fun i v e=>h (i+1) v e
  obtain ⟨z,ez,hz⟩:=h 0 y rfl
  refine ⟨z::zs,by rw [e,ez];rfl,fun x hx=>?_⟩
  rcases Qn.mp hx with w | w
  ·rw [w];exact hz
  ·exact ho x w
theorem b5R (x:V) (xs:List V):a4j (x::xs) (some 1) none=xs:=by
 unfold a4j HT.sIx
 simp
theorem b7W {H0:Hp} {x dx:Addr} {C:Addr} (h1:H0 x=none) (h2:H0 dx=none):(a0g H0 (upd (upd H0 dx (.own x)) x (.ins C dx [])))∧(upd (upd H0 dx (.own x)) x (.ins C dx [])) x=some (.ins C dx []):=
 ⟨fun c o e=>by rw [a0d (a0c e h1),a0d (a0c e h2)];exact e,a0e⟩
def b6U (H:Hp) (Q:VK):Prop:=∀(D:Addr) (ps:List V) (pl:List (Str×Str)) H',a0g H H'→H D=none→H' D=some (.lst ps)→a0q H' ps pl→pl.length≤60→b7z pl→Q (.ref D) H'
def a2g (t:Adr) (H:Hp) (a:Addr) (zr:List VR):Prop:=H a=some (.lst (zr.map (·.1)))∧a5k t H zr∧zr.length≤30∧∀p∈zr,RwT p.2
theorem a2g.same {t:Adr} {H H':Hp} {a:Addr} {zr:List VR} (s:a0g H H') (h:a2g t H a zr):a2g t H' a zr:=⟨s _ _ h.1,h.2.1.same s,h.2.2⟩
theorem a2g.at {t:Adr} {H:Hp} {a:Addr} {zr:List VR} (h:a2g t H a zr) {i:Nat} (hi:i < zr.length):∃x,atI (zr.map (·.1)) (i:Int)=some (.ref x)∧a1L H x (a3S t zr[i].2.1) (.str zr[i].2.2.1) (.str zr[i].2.2.2.1) (zr[i].2.2.2.2.map V.str)∧RwT zr[i].2:=by
 obtain ⟨h1,h2,h3,h4⟩:=h
 obtain ⟨⟨x,ex,hx⟩,ho⟩:=h2 _ (Qv hi)
 refine ⟨x,?_,hx,h4 _ (Qv hi)⟩
 unfold atI ixN
 rw [if_pos ‹om›,if_pos (by rw [Qd];omega)]
 show (zr.map (·.1))[((i:Int)).toNat]?=_
 rw [Zj,Qr,Qc hi,←ex];rfl
def a9d (t:Adr):Sp:=fun vs H Q _=>∃(a:Addr) (c:Int) (zr:List VR),vs=[.ref a,.int c]∧a2g t H a zr∧b6U H Q
def b2o (t:Adr):Sp:=fun vs H Q _=>∃(a:Addr) (c:Int) (zr:List VR),vs=[.ref a,.int c]∧a2g t H a zr∧∀D zr' H',a0g H H'→H D=none→a2g t H' D zr'→(∀p∈zr',p∈zr)→Q (.ref D) H'
structure a1v (t:Adr) (H:Hp) (s T P E:Addr) (zr:List VR) (ps:List V) (pl:List (Str×Str)) (ev:List Str):Prop where
 s:H s=some (.lst [.ref T,.ref P,.ref E])
 r:a2g t H T zr
 p:H P=some (.lst ps)
 prs:a0q H ps pl
 po:b7z pl
 pn:pl.length≤60
 e:H E=some (.lst (ev.map V.str))
 eo:∀z∈ev,TxN 31 z
 en:1≤ev.length∧ev.length≤14
 ez:∀p∈zr,RwE ev p.2
 nd:ev.Nodup
theorem a1v.same {t:Adr} {H H':Hp} {s T P E:Addr} {zr:List VR} {ps:List V} {pl:List (Str×Str)} {ev:List Str} (k:a0g H H') (h:a1v t H s T P E zr ps pl ev):a1v t H' s T P E zr ps pl ev:=
 ⟨k _ _ h.s,h.r.same k,k _ _ h.p,a0q.same k h.prs,h.po,h.pn,k _ _ h.e,h.eo,h.en,h.ez,h.nd⟩
def b4v (K:Qe) (t:Adr):Sp:=fun vs H Q _=>∃(a:Addr) (ns:List Int),vs=[.ref a,.int 30]∧SqL K H a (ns.map V.int)∧ns.length≤63∧∀s T P E zr ps pl ev H',a0g H H'→a1v t H' s T P E zr ps pl ev→Q (.ref s) H'
def a2z (s:Str):Sp:=fun vs H Q _=>∃x,vs=[x]∧Q (.str s) H
theorem a5C {s:Str} {x:V} {H:Hp} {Q:VK} {E:XK}:a2z s [x] H Q E↔Q (.str s) H:=⟨by rintro ⟨_,e,q⟩;cases e;exact q,fun q=>⟨_,rfl,q⟩⟩
theorem a5p {kind:Nat} (h:kind < 4):b2u kind (a2z "fact") (a2z "sure") (a2z "most") (a2z "block")=a2z (b5p kind):=by
 match kind,h with
 | 0,_=>rfl
 | 1,_=>rfl
 | 2,_=>rfl
 | 3,_=>rfl
def wOf (rl:List (Str×Str)) (w:Str):List Str:=(rl.filter fun p=>decide (p.1=w)).map (·.2)
def a5h (H:Hp) (D:Addr) (zs:List Str):Prop:=∃kvs,H D=some (.dK kvs)∧∀x:Str,(a1Z kvs (Sum.inr x:Key)).isSome=decide (x∈zs)
theorem a5h.some {H:Hp} {D:Addr} {zs:List Str} (h:a5h H D zs):a2f H (.ref D) zs:=let ⟨k,a,b⟩:=h;.inr ⟨D,k,rfl,a,b⟩
theorem a5h.same {H H':Hp} {D:Addr} {zs:List Str} (s:a0g H H') (h:a5h H D zs):a5h H' D zs:=let ⟨k,a,b⟩:=h;⟨k,s _ _ a,b⟩
def b4h:Sp:=fun vs H Q _=>∃(a:Addr) (zs:List Str),vs=[.ref a]∧H a=some (.lst (zs.map V.str))∧zs.length≤100∧∀D H',a0g H H'→a5h H' D zs→Q (.ref D) H'
def a7V:Sp:=fun vs H Q _=>∃(a:Addr) (w:Str) (ps:List V) (rl:List (Str×Str)),vs=[.ref a,.str w]∧H a=some (.lst ps)∧a0q H ps rl∧rl.length≤60∧∀D H',a0g H H'→a5h H' D (wOf rl w)→Q (.ref D) H'
def b8W (rs:List Rw) (pl:List (Str×Str)) (S:List Str) (rl:List (Str×Str)) (b:Bool) (q:Str):Bool:=if b then a0U rs pl S (wOf rl "held") (wOf rl "refused") q else a3d rs pl S (wOf rl "held") (wOf rl "refused") q
def clW (b:Bool):Str:=if b then "held" else "refused"
def b0s (t:Adr):Sp:=fun vs H Q _=>∃(g a c:Addr) (v1:V) (rs:List Rw) (pl rl:List (Str×Str)) (ps:List V) (S:List Str) (b:Bool) (q:Str),vs=[.ref g,v1,.ref a,.ref c]∧a5l t H g rs pl∧(∀r∈rs,a3Q r)∧rs.length≤63∧a2f H v1 S∧H a=some (.lst ps)∧a0q H ps rl∧rl.length≤60∧H c=some (.tup [.str (clW b),.str q])∧q.length≤100∧∀H',a0g H H'→Q (.bl (b8W rs pl S rl b q)) H'
def a6Z (t:Adr) (f:List Str→List Str→Bool):Sp:=fun vs H Q _=>∃(x a:Addr) (r:Rw) (U:List Str),vs=[.ref x,.ref a]∧a7g t H (.ref x) r∧a3Q r∧H a=some (.lst (U.map V.str))∧∀H',a0g H H'→Q (.bl (f r.2.2.2 U)) H'
def b2Z (t:Adr) (H:Hp) (rs:List Rw) (Q:VK):Prop:=∀D (zr:List VR) H',a0g H H'→H' D=some (.lst (zr.map (·.1)))→a5k t H' zr→zr.length≤30→zr.map (·.2)=rs→Q (.ref D) H'
def c0I (t:Adr):Sp:=fun vs H Q _=>∃(s T P E:Addr) (zr:List VR) (ps:List V) (pl:List (Str×Str)) (ev:List Str) (q:Str),vs=[.ref s,.str q]∧a1v t H s T P E zr ps pl ev∧b2Z t H ((hdF (zr.map (·.2)) q).filter spk) Q
def c0x (t:Adr):Sp:=fun vs H Q _=>∃(s T P E:Addr) (zr:List VR) (ps:List V) (pl:List (Str×Str)) (ev:List Str) (q:Str),vs=[.ref s,.str q]∧a1v t H s T P E zr ps pl ev∧TxN 31 q∧b2Z t H (hdF (zr.map (·.2)) (a1G q)) Q
def c0l (t:Adr):Sp:=fun vs H Q _=>∃(s T P E x L:Addr) (zr:List VR) (ps:List V) (pl:List (Str×Str)) (ev:List Str) (r:Rw) (zo:List VR),vs=[.ref s,.ref x,.ref L]∧a1v t H s T P E zr ps pl ev∧a7g t H (.ref x) r∧a3Q r∧H L=some (.lst (zo.map (·.1)))∧a5k t H zo∧zo.length≤30∧∀H',a0g H H'→Q (.bl (btn pl (zo.map (·.2)) r)) H'
def b6f (t:Adr) (f:List Rw→List (Str×Str)→List Str→List Str→List Str→Str→Bool):Sp:=fun vs H Q _=>∃(s T P E a1 a2 a3:Addr) (zr:List VR) (ps:List V) (pl:List (Str×Str)) (ev:List Str) (S U D:List Str) (q:Str),vs=[.ref s,.ref a1,.ref a2,.ref a3,.str q]∧a1v t H s T P E zr ps pl ev∧TxN 31 q∧H a1=some (.lst (S.map V.str))∧H a2=some (.lst (U.map V.str))∧H a3=some (.lst (D.map V.str))∧∀H',a0g H H'→Q (.bl (f (zr.map (·.2)) pl S U D q)) H'
theorem b2i (a b:Str):(a++b).length=a.length+b.length:=by
 show (a.cps++b.cps).size=_
 exact Array.size_append
theorem a2s {α:Type} {f:α→V} {l:List α} {i:Nat} {v:V} (h:(l.map f)[i]?=some v):∃hi:i < l.length,v=f l[i]:=by
 rw [Qr] at h
 obtain ⟨y,e,rfl⟩:=Wp.mp h
 obtain ⟨hi,rfl⟩:=Xa.mp e
 exact ⟨hi,rfl⟩
theorem a0q.at {H:Hp} {ps:List V} {rl:List (Str×Str)} (h:a0q H ps rl) {i:Nat} (hi:i < rl.length):∃x,ps[i]?=some (.ref x)∧H x=some (.tup [.str rl[i].1,.str rl[i].2]):=by
 obtain ⟨as,rfl,hl,hat⟩:=h
 have hi':i < as.length:=by omega
 exact ⟨as[i],by rw [Qr,Qc hi'];rfl,hat i _ _ (Qc hi') (Qc hi)⟩
theorem a0q.len {H:Hp} {ps:List V} {rl:List (Str×Str)} (h:a0q H ps rl):ps.length=rl.length:=by
 obtain ⟨as,rfl,hl,_⟩:=h
 rw [Qd];exact hl
theorem a5c {K:Qe} {a:Addr} {js:List (Option Nat)} {tt:TT} {te:TE} {σ:St} {H:Hp} {Q:VK} {ps:List V} {rl:List (Str×Str)} (ha:H a=some (.lst ps)) (hP:a0q H ps rl) (hl:rl.length≤1000) (σr:St) (hσ:a2l js σ=none::σr) (P:Str×Str→Bool) (g:Str×Str→V)
  (hs:∀(x:Addr) (p:Str×Str) H' (R:Bool→Hp→Prop),H' x=some (.tup [.str p.1,.str p.2])→a0g H H'→(∀H'',a0g H' H''→R (P p) H'')→tt (some (.ref x)::σr) H' R)
  (he:∀(x:Addr) (p:Str×Str) H' (R:V→Hp→Prop),H' x=some (.tup [.str p.1,.str p.2])→a0g H H'→(∀H'',a0g H' H''→R (g p) H'')→te (some (.ref x)::σr) H' R)
  (hd:∀D H',H D=none→a0g H H'→H' D=some (.lst ((rl.filter P).map g))→Q (.ref D) H'):a4f (Itl K a) js (a0s 0) tt te σ H Q:=by
 let d0:Str×Str:=("","")
 have hpl:=a0q.len hP
 refine a3C (a1E (xs:=ps)) (Qj (show ps.length≤1000 by omega) ‹dc›) σr hσ (fun i=>P ((rl[i]?).getD d0)) (fun i=>g ((rl[i]?).getD d0)) (fun H' s=>SqL.of (s _ _ ha)) (fun i H' R hi s hR=>?_) (fun i H' R hi s hR=>?_) (fun D H' hD s h=>?_)
 ·have hi':i < rl.length:=by omega
  obtain ⟨x,ex,hx⟩:=a0q.at hP hi'
  rw [ex,Xs]
  rw [Qc hi',Xs] at hR
  exact hs x _ H' R (s _ _ hx) s hR
 ·have hi':i < rl.length:=by omega
  obtain ⟨x,ex,hx⟩:=a0q.at hP hi'
  rw [ex,Xs]
  rw [Qc hi',Xs] at hR
  exact he x _ H' R (s _ _ hx) s hR
 ·rw [hpl,a0X d0 P g rl] at h
  exact hd D H' hD s h
theorem a1H {α:Type} {l:List α} {i:Nat} (hi:i < l.length) (x:α):x∈l.take (i+1)↔x∈l.take i∨x=l[i]:=by
 rw [Xe hi,Xn,Qw]
theorem a2g.at2 {t:Adr} {H:Hp} {a:Addr} {zr:List VR} (h:a2g t H a zr) {k:Int} (h0:0≤k) (h1:k < zr.length):∃x r,atI (zr.map (·.1)) k=some (.ref x)∧a1L H x (a3S t r.1) (.str r.2.1) (.str r.2.2.1) (r.2.2.2.map V.str)∧RwT r:=by
 obtain ⟨n,rfl⟩:∃n:Nat,k=(n:Int):=⟨k.toNat,by omega⟩
 obtain ⟨x,e,hx,hr⟩:=h.at (i:=n) ‹om›
 exact ⟨x,_,e,hx,hr⟩
theorem b8p {t:Adr} {D:Addr} {H:Hp} {ev:List Str}:∀{ys:List V},(∀(i:Nat) v,ys[i]?=some v→∃r,(RwT r∧RwE ev r)∧RuD t D v r H)→∃zr:List VR,zr.map (·.1)=ys∧a5k t H zr∧∀p∈zr,RwT p.2∧RwE ev p.2
 | [],_=>⟨[],rfl,fun p hp=>absurd hp Xh,fun p hp=>absurd hp Xh⟩
 | y::ys,h=>by
  obtain ⟨zr,e,hw,hr⟩:=b8p (ys:=ys) fun i v e=>h (i+1) v e
  obtain ⟨r,hrt,p,dx,t0,ev,_,_,h1,h2⟩:=h 0 y rfl
  refine ⟨(y,r)::zr,by rw [Xj,e],fun q hq=>?_,fun q hq=>?_⟩
  ·rcases Qn.mp hq with z | z
   ·rw [z];exact ⟨⟨p,ev,dx,t0,h1,h2⟩,hrt.1.1⟩
   ·exact hw q z
  ·rcases Qn.mp hq with z | z
   ·rw [z];exact hrt
   ·exact hr q z
theorem c0P (ns:List Int):∃cs:List Int,a4j (ns.map V.int) (some 3) (some (3+30))=cs.map V.int∧cs.length≤30:=by
 unfold a4j
 refine ⟨(ns.drop (HT.sIx (ns.map V.int).length 0 (some 3))).take (HT.sIx (ns.map V.int).length (ns.map V.int).length (some (3+30)) - HT.sIx (ns.map V.int).length 0 (some 3)),by rw [Jd,List.map_drop],?_⟩
 rw [Xo]
 refine Qj (Ux _ _) ?_
 rw [show (some (3+30:Int))=some ((33:Nat):Int) from rfl,show (some (3:Int))=some ((3:Nat):Int) from rfl,HT.sIx_nat,HT.sIx_nat]
 omega
theorem b0y {K:Qe} {H:Hp}:∀{xs:List V} {ps:List (Str×Str)},a0q H xs ps→DenAll K H xs (ps.map fun p=>Ym [.str p.1,.str p.2])
 | [],[],_=>.nil
 | [],_::_,h=>by have:=a0q.len h;simp at this
 | _::_,[],h=>by have:=a0q.len h;simp at this
 | x::xs,p::ps,h=>by
  obtain ⟨y,e,hy⟩:=a0q.at h (i:=0) (by simp)
  cases e
  obtain ⟨as,ea,hl,hat⟩:=h
  cases as with
  | nil=>cases ea
  | cons b bs=>
   have e2:xs=bs.map V.ref:=(List.cons.inj ea).2
   exact .cons (.tup (SqT.of hy) (.cons (.str _) (.cons (.str _) .nil))) (b0y ⟨bs,e2,by simpa using hl,fun i a q e1 e3=>hat (i+1) a q e1 e3⟩)
theorem c4m:∀ps:List (Str×Str),(∀p∈ps,Xd p.1=true∧Xd p.2=true)→Vt (ps.map fun p=>Ym [.str p.1,.str p.2])=true∧Jv (ps.map fun p=>Ym [.str p.1,.str p.2])≤1
 | [],_=>⟨rfl,by decide⟩
 | p::ps,h=>by
  obtain ⟨a,b⟩:=c4m ps fun p hp=>h p (Qp _ hp)
  obtain ⟨c,d⟩:=b8B [p.1,p.2] (by
   intro z hz
   rcases Qn.mp hz with e | e
   ·rw [e];exact (h p Qm).1
   ·rw [Qw.mp e];exact (h p Qm).2)
  refine ⟨?_,?_⟩
  ·show (Zv (.tuple [.str p.1,.str p.2]) && _)=true
   rw [a,Uk];exact c
  ·show max (Zq (.tuple [.str p.1,.str p.2])) _≤1
   have:Zq (.tuple [.str p.1,.str p.2])=1:=rfl
   rw [this];exact Nat.max_le.mpr ⟨Qk _,b⟩
theorem b2m {k:Nat} (h:k < 4):(!decide (b5p k=Xw "block"))=decide (k < 3):=by
 match k,h with
 | 0,_=>decide+kernel
 | 1,_=>decide+kernel
 | 2,_=>decide+kernel
 | 3,_=>decide+kernel
theorem b5S {K:Qe} {b c:Bool} {H:Hp} {Q:VK} (e:b=c) (q:Q (.bl false) H):b5U K (.bl b) (.bl c) H Q:=by
 subst e
 refine .inl ⟨rfl,?_⟩
 rw [decide_eq_true rfl];exact q
/-! ### sure sets,as in k33 -/
section
variable {α:Type} [DecidableEq α]
abbrev SR (α:Type):=Bool×α×List α
def a6g (l:List α) (x:α):List α:=if x∈l then l else l++[x]
def a4c (rs:List (SR α)) (S:List α) (x:α):Bool:=rs.any fun r=>(r.1 && decide (r.2.1=x)) && a1X r.2.2 S
theorem b2b {rs:List (SR α)} {S:List α} {x:α}:a4c rs S x=true↔∃b,(true,x,b)∈rs∧∀q∈b,q∈S:=by
 unfold a4c
 rw [Xx]
 constructor
 ·rintro ⟨⟨a,h,b⟩,hr,e⟩
  rw [Ql,Ql,decide_eq_true_eq,a0W] at e
  obtain ⟨⟨e1,e2⟩,e3⟩:=e
  dsimp only at e1 e2 e3
  subst e1 e2
  exact ⟨b,hr,e3⟩
 ·rintro ⟨b,hr,hb⟩
  exact ⟨_,hr,by rw [Ql,Ql,decide_eq_true_eq,a0W];exact ⟨⟨rfl,rfl⟩,hb⟩⟩
def a2E (rs:List (SR α)):List α→List α→Bool
 | _,[]=>true
 | S,x::xs=>(!decide (x∈S) && a4c rs S x) && a2E rs (S++[x]) xs
def a6M (rs:List (SR α)) (S:List α):Bool:=rs.all fun r=>!(r.1 && a1X r.2.2 S) || decide (r.2.1∈S)
theorem a1M {rs:List (SR α)} {S:List α}:a6M rs S=true↔∀x b,(true,x,b)∈rs→(∀q∈b,q∈S)→x∈S:=by
 unfold a6M
 rw [Jb]
 constructor
 ·intro h x b hr hb
  have e:=h _ hr
  rw [Zo] at e
  rcases e with e | e
  ·rw [Xf,Yg,a0W.mpr hb] at e;cases e
  ·simpa using e
 ·rintro h ⟨a,x,b⟩ hr
  cases a with
  | false=>rfl
  | true=>
   rw [Zo]
   by_cases hb:∀q∈b,q∈S
   ·exact .inr (by simpa using h x b hr hb)
   ·refine .inl ?_
    rw [Xf,Yg]
    cases e:a1X b S with
    | false=>rfl
    | true=>exact absurd (a0W.mp e) hb
theorem a6e {rs:List (SR α)} {S xs:List α} {x:α}:a2E rs S (x::xs)=true↔x∉S∧a4c rs S x=true∧a2E rs (S++[x]) xs=true:=by
 show ((!decide (x∈S) && a4c rs S x) && a2E rs (S++[x]) xs)=true↔_
 rw [Ql,Ql,Xf,decide_eq_false_iff_not,and_assoc]
theorem a4A {rs:List (SR α)}:∀{l S:List α},a2E rs S l=true→S.Nodup→(S++l).Nodup
 | [],S,_,h=>by rw [Qf];exact h
 | x::l,S,h,hS=>by
  obtain ⟨h1,_,h3⟩:=a6e.mp h
  have:=a4A h3 (Je.mpr ⟨hS,by simp,fun a ha b hb e=>h1 (by rw [Qw] at hb;rw [←hb,←e];exact ha)⟩)
  rw [Yj] at this;exact this
theorem a2u {rs:List (SR α)} {C:List α} (hC:∀x b,(true,x,b)∈rs→(∀q∈b,q∈C)→x∈C):∀{l S:List α},a2E rs S l=true→(∀x∈S,x∈C)→∀x∈l,x∈C
 | [],_,_,_=>by simp
 | x::l,S,h,hS=>by
  obtain ⟨_,h2,h3⟩:=a6e.mp h
  obtain ⟨b,hr,hb⟩:=b2b.mp h2
  have hx:=hC x b hr fun q hq=>hS q (hb q hq)
  intro y hy
  rcases Qn.mp hy with e | e
  ·rw [e];exact hx
  ·exact a2u hC h3 (fun z hz=>by
    rcases Xn.mp hz with w | w
    ·exact hS z w
    ·rw [Qw.mp w];exact hx) y e
theorem b2J {S:List α} {x:α} (h:x∉S):a6g S x=S++[x]:=by unfold a6g;rw [if_neg h]
end
def srW (r:Rw):SR Str:=(decide (r.1 < 2),r.2.2.1,r.2.2.2)
def bv (S:List Str):List (Key×V):=S.map fun x=>(Sum.inr x,V.bl true)
theorem a4X (x:Str):∀S:List Str,a1Z (bv S) (Sum.inr x:Key)=if x∈S then some (V.bl true) else none
 | []=>rfl
 | y::r=>by
  have ih:=a4X x r
  by_cases e:y=x
  ·rw [show bv (y::r)=(Sum.inr y,V.bl true)::bv r from rfl,a1i (by rw [e]),if_pos (by rw [e];exact Qm)]
  ·rw [show bv (y::r)=(Sum.inr y,V.bl true)::bv r from rfl,a1h (fun z=>e (Sum.inr.inj z)),ih]
   by_cases h:x∈r
   ·rw [if_pos h,if_pos (Qp _ h)]
   ·rw [if_neg h,if_neg (by simp [h];exact fun z=>e z.symm)]
theorem b9G (S:List Str) (x:Str):a4e (bv S) (Sum.inr x:Key) (V.bl true)=bv (a6g S x):=by
 unfold a4e a6g
 rw [a2V,a4X]
 by_cases h:x∈S
 ·rw [if_pos h,if_pos (by rfl),if_pos h]
  unfold bv
  rw [Yr]
  refine Gg fun y _=>?_
  simp only [Function.comp]
  split<;>rfl
 ·rw [if_neg h,if_neg (by simp),if_neg h]
  unfold bv;rw [Yc];rfl
theorem c4z {H:Hp} {D:Addr} {S:List Str} (h:H D=some (.dK (bv S))) (x:Str):a5m H D (.str x) (if x∈S then some (V.bl true) else none):=by
 have:=a5m.k (k:=(Sum.inr x:Key)) h
 rw [a4X] at this;exact this
theorem c0G {H:Hp} {D:Addr} {S:List Str} (h:H D=some (.dK (bv S))) (hl:S.length≤100000) (x:Str):b1E H D (.str x) (V.bl true) (upd H D (.dK (bv (a6g S x)))):=by
 have:=b1E.k (k:=(Sum.inr x:Key)) (v:=V.bl true) h (by unfold bv;rw [Qd];exact Xv hl ‹dc›)
 rw [b9G] at this;exact this
theorem b8O (rs:List Rw) (S:List Str) (h:Str):(((hdF rs h).filter fun r=>(srW r).1).any fun r=>a1X (srW r).2.2 S)=a4c (rs.map srW) S h:=by
 unfold hdF a4c
 rw [Vm,List.any_filter,Zr]
 refine congrArg (fun f=>List.any rs f) (funext fun r=>?_)
 simp only [Function.comp]
 rfl
theorem b8d (rs:List Rw) (S:List Str):(((rs.filter fun r=>(srW r).1).filter fun r=>a1X (srW r).2.2 S).all fun r=>decide ((srW r).2.1∈S))=a6M (rs.map srW) S:=by
 unfold a6M
 rw [Vm,List.all_filter,Ub]
 refine congrArg (fun f=>List.all rs f) (funext fun r=>?_)
 simp only [Function.comp]
 rw [Bool.and_comm]
def isS (rs:List Rw) (l:List Str):Bool:=a2E (rs.map srW) [] l && a6M (rs.map srW) l
def b1d (t:Adr):Sp:=fun vs H Q _=>∃(g:Addr) (rs:List Rw) (pl:List (Str×Str)),vs=[.ref g]∧a5l t H g rs pl∧∀D xs H',a0g H H'→H D=none→H' D=some (.lst xs)→a2e t H' xs rs→Q (.ref D) H'
def c6L (t:Adr):Sp:=fun vs H Q _=>∃(g s:Addr) (rs:List Rw) (pl:List (Str×Str)) (l:List Str),vs=[.ref g,.ref s]∧a5l t H g rs pl∧(∀r∈rs,a3Q r)∧rs.length≤63∧H s=some (.lst (l.map V.str))∧l.length≤100∧∀H',a0g H H'→Q (.bl (isS rs l)) H'
/-! ### claims that are let by -/
def cw (c:Bool×Str):Str×Str:=(clW c.1,c.2)
def a2b (rs:List Rw) (pl:List (Str×Str)) (S:List Str) (acc:List (Bool×Str)) (c:Bool×Str):Bool:=b8W rs pl S (acc.map cw) c.1 c.2
def a1e (rs:List Rw) (pl:List (Str×Str)) (S:List Str):List (Bool×Str)→List (Bool×Str)→Bool
 | _,[]=>true
 | acc,c::r=>a2b rs pl S acc c && a1e rs pl S (acc++[c]) r
def b6a (rs:List Rw) (pl:List (Str×Str)) (S:List Str) (acc cl:List (Bool×Str)) (i:Nat):Bool:=match cl[i]? with
 | some c=>a2b rs pl S (acc++cl.take i) c
 | none=>true
theorem a7w {rs:List Rw} {pl:List (Str×Str)} {S:List Str}:∀(cl acc:List (Bool×Str)),((Yb cl.length).map (b6a rs pl S acc cl)).all id=a1e rs pl S acc cl
 | [],_=>rfl
 | c::r,acc=>by
  rw [Qt,Wq,Xj,Yr,Vo]
  show ((a2b rs pl S (acc++[]) c) && _)=(a2b rs pl S acc c && a1e rs pl S (acc++[c]) r)
  rw [Qf,←a7w r (acc++[c])]
  congr 2
  refine Gg fun i _=>?_
  show b6a rs pl S acc (c::r) (i+1)=_
  unfold b6a
  rw [Qb,List.take_succ_cons,Yj];rfl
theorem a3z {rs:List Rw} {pl:List (Str×Str)} {S:List Str}:∀(l acc:List (Bool×Str)) (c:Bool×Str),a1e rs pl S acc (l++[c])=(a1e rs pl S acc l && a2b rs pl S (acc++l) c)
 | [],acc,c=>by show (a2b rs pl S acc c && true)=(true && _);rw [Qf,Uk,Yg]
 | d::l,acc,c=>by
  show (a2b rs pl S acc d && a1e rs pl S (acc++[d]) (l++[c]))=((a2b rs pl S acc d && a1e rs pl S (acc++[d]) l) && _)
  rw [a3z l,Yj,Bool.and_assoc];rfl
theorem b2I {H:Hp} {ps:List V} {pl:List (Str×Str)} (h:a0q H ps pl) (n:Nat):a0q H (ps.take n) (pl.take n):=by
 obtain ⟨as,rfl,e,g⟩:=h
 refine ⟨as.take n,by rw [Jd],by rw [Xo,Xo,e],fun i a p h1 h2=>?_⟩
 rw [Go] at h1 h2
 by_cases hi:i < n
 ·rw [if_pos hi] at h1 h2;exact g i a p h1 h2
 ·rw [if_neg hi] at h1;cases h1
def b9z (t:Adr):Sp:=fun vs H Q _=>∃(g p a1 a2:Addr) (rs:List Rw) (pl:List (Str×Str)) (S:List Str) (ps:List V) (cl:List (Bool×Str)),vs=[.ref g,.ref p]∧a5l t H g rs pl∧(∀r∈rs,a3Q r)∧rs.length≤63∧H p=some (.tup [.ref a1,.ref a2])∧H a1=some (.lst (S.map V.str))∧S.length≤100∧H a2=some (.lst ps)∧a0q H ps (cl.map cw)∧cl.length≤60∧(∀c∈cl,c.2.length≤100)∧∀H',a0g H H'→Q (.bl (isS rs S && a1e rs pl S [] cl)) H'
/-! ### the law's own sure statements -/
theorem b0m {n:Nat} (h:n < 4):decide (b5p n∈(["fact","sure"]:List Str))=decide (n < 2):=by
 match n,h with
 | 0,_=>decide+kernel
 | 1,_=>decide+kernel
 | 2,_=>decide+kernel
 | 3,_=>decide+kernel
theorem a5A {rs:List (SR Str)} {x:Str}:∀(l S:List Str),a2E rs S (l++[x])=(a2E rs S l && (!decide (x∈S++l) && a4c rs (S++l) x))
 | [],S=>by
  show ((!decide (x∈S) && a4c rs S x) && true)=(true && (!decide (x∈S++[]) && a4c rs (S++[]) x))
  rw [Qf,Uk,Yg]
 | y::l,S=>by
  show ((!decide (y∈S) && a4c rs S y) && a2E rs (S++[y]) (l++[x]))=(((!decide (y∈S) && a4c rs S y) && a2E rs (S++[y]) l) && _)
  rw [a5A l (S++[y]),Bool.and_assoc ((!decide (y∈S) && a4c rs S y)),Yj];rfl
theorem a1U {α:Type} [DecidableEq α]:∀{l m:List α},l.Nodup→(∀x∈l,x∈m)→l.length≤m.length
 | [],m,_,_=>Xg _
 | x::l,m,h,s=>by
  rw [Xu] at h
  have h1:=a1U (l:=l) (m:=m.erase x) h.2 (fun y hy=>(Ga (fun z=>h.1 (by rw [←z];exact hy))).mpr (s y (Qp _ hy)))
  have h2:x∈m:=s x Qm
  have h3:=Ua h2
  have h4:=Uh h2
  simp only [Qt];omega
theorem a1Q {rs:List Rw} {l:List Str} (h:a2E (rs.map srW) [] l=true):l.Nodup∧(∀x∈l,∃r∈rs,r.2.2.1=x)∧l.length≤rs.length:=by
 have hn:l.Nodup:=by have:=a4A h Yi;rwa [Jm] at this
 have hm:∀x∈l,x∈rs.map (·.2.2.1):=a2u (C:=rs.map (·.2.2.1)) (fun x b hr _=>by
  obtain ⟨r,hr,e⟩:=Qy.mp hr
  have:r.2.2.1=x:=congrArg (fun z:SR Str=>z.2.1) e
  exact Qy.mpr ⟨r,hr,this⟩) h (fun _ z=>by cases z)
 refine ⟨hn,fun x hx=>by obtain ⟨r,hr,e⟩:=Qy.mp (hm x hx);exact ⟨r,hr,e⟩,?_⟩
 have:=a1U hn hm
 rw [Qd] at this;exact this
def b7A (t:Adr):Sp:=fun vs H Q _=>∃(x:Addr) (r:Rw),vs=[.ref x]∧a7g t H (.ref x) r∧a3Q r∧∀H',a0g H H'→Q (.bl (srW r).1) H'
def b2j (t:Adr):Sp:=fun vs H Q _=>∃(s T P E:Addr) (zr:List VR) (ps:List V) (pl:List (Str×Str)) (ev:List Str),vs=[.ref s]∧a1v t H s T P E zr ps pl ev∧∀D L H',a0g H H'→H D=none→H' D=some (.lst (L.map V.str))→isS (zr.map (·.2)) L=true→Q (.ref D) H'
theorem b5C {K:Qe} {H:Hp} {Q:VK} {z:Str} {a:Addr} {r:List Str} (h:SqT K H a (r.map V.str)) (q:Q (.bl (decide (z∈r))) H):b5T K (.str z) (.ref a) H Q:=
 .inr ⟨a,_,rfl,.inr h,rfl,a3K _,by rw [if_neg Qq,a6S];exact q⟩
/-! ### words that grow,never both,as few as can be -/
section
variable {rs:List Rw} {pl:List (Str×Str)} {S U U' D D':List Str} {q:Str}
theorem a6m {b:List Str} (h:∀x∈U,x∈U') (e:a1X b U=true):a1X b U'=true:=by
 rw [a0W] at e ⊢;exact fun q hq=>h q (e q hq)
theorem a2c {b:List Str}:a2G b S=true↔∃q∈b,q∈S:=by
 unfold a2G;rw [Xx];simp
theorem a5E {b:List Str} (h:∀x∈U,x∈U') (e:a2G b U=true):a2G b U'=true:=by
 rw [a2c] at e ⊢
 obtain ⟨q,a,c⟩:=e
 exact ⟨q,a,h q c⟩
theorem a2J {bs bs':List Rw} {r:Rw} (h:∀b∈bs,b∈bs') (e:btn pl bs r=true):btn pl bs' r=true:=by
 unfold btn at e ⊢
 rw [Xx] at e ⊢
 obtain ⟨b,hb,c⟩:=e
 exact ⟨b,h b hb,c⟩
theorem a3L {r:Rw}:r∈a1V rs U q↔(r∈hdF rs q∧spk r=true)∧a1X r.2.2.2 U=true:=by
 unfold a1V;rw [Xc,Xc]
theorem a6R {r:Rw}:r∈unf rs D q↔(r∈hdF rs q∧spk r=true)∧a2G r.2.2.2 D=false:=by
 unfold unf;rw [Xc,Xc,Xf]
theorem a3T {α:Type} {l m:List α} (h:∀r∈l,r∈m) (e:m=[]):l=[]:=Uy.mpr fun r hr=>by
 have:=h r hr;rw [e] at this;cases this
theorem a2R:a0U rs pl S U D q=true↔q∈S∨(q∉S∧a1V rs U q≠[]∧a1G q∉S∧∀r∈hdF rs (a1G q),a2G r.2.2.2 D=true∨btn pl (a1V rs U q) r=true):=by
 unfold a0U
 by_cases h:q∈S
 ·simp [h]
 ·rw [if_neg h]
  by_cases c:a1V rs U q=[]∨a1G q∈S
  ·rw [if_pos c]
   constructor
   ·intro z;cases z
   ·rintro (z | ⟨_,a,b,_⟩)
    ·exact absurd z h
    ·exact (c.elim a b).elim
  ·rw [if_neg c,Jb]
   rw [not_or] at c
   constructor
   ·intro z;exact .inr ⟨h,c.1,c.2,fun r hr=>Gh.mp (z r hr)⟩
   ·rintro (z | ⟨_,_,_,z⟩)
    ·exact absurd z h
    ·exact fun r hr=>Gh.mpr (z r hr)
theorem a4K:a3d rs pl S U D q=true↔q∉S∧(unf rs D q=[]∨a1G q∈S∨∃r∈hdF rs (a1G q),a1X r.2.2.2 U=true∧btn pl (unf rs D q) r=false):=by
 unfold a3d
 by_cases h:q∈S
 ·simp [h]
 ·rw [if_neg h]
  by_cases c:unf rs D q=[]∨a1G q∈S
  ·rw [if_pos c]
   exact ⟨fun _=>⟨h,c.imp id .inl⟩,fun _=>rfl⟩
  ·rw [if_neg c,Xx]
   rw [not_or] at c
   constructor
   ·rintro ⟨r,hr,z⟩
    rw [Ql,Xf] at z
    exact ⟨h,.inr (.inr ⟨r,hr,z⟩)⟩
   ·rintro ⟨_,z | z | ⟨r,hr,z⟩⟩
    ·exact absurd z c.1
    ·exact absurd z c.2
    ·exact ⟨r,hr,by rw [Ql,Xf];exact z⟩
theorem a1W (hU:∀x∈U,x∈U') (hD:∀x∈D,x∈D') (e:a0U rs pl S U D q=true):a0U rs pl S U' D' q=true:=by
 rw [a2R] at e ⊢
 rcases e with e | ⟨a,b,c,d⟩
 ·exact .inl e
 ·have hs:∀r∈a1V rs U q,r∈a1V rs U' q:=fun r hr=>by rw [a3L] at hr ⊢;exact ⟨hr.1,a6m hU hr.2⟩
  exact .inr ⟨a,fun z=>b (a3T hs z),c,fun r hr=>(d r hr).imp (a5E hD) (a2J hs)⟩
theorem a2K (hU:∀x∈U,x∈U') (hD:∀x∈D,x∈D') (e:a3d rs pl S U D q=true):a3d rs pl S U' D' q=true:=by
 rw [a4K] at e ⊢
 have hs:∀r∈unf rs D' q,r∈unf rs D q:=fun r hr=>by
  rw [a6R] at hr ⊢
  refine ⟨hr.1,?_⟩
  cases z:a2G r.2.2.2 D with
  | false=>rfl
  | true=>have:=hr.2;rw [a5E hD z] at this;cases this
 refine ⟨e.1,?_⟩
 rcases e.2 with z | z | ⟨r,hr,a,b⟩
 ·exact .inl (a3T hs z)
 ·exact .inr (.inl z)
 ·refine .inr (.inr ⟨r,hr,a6m hU a,?_⟩)
  cases z:btn pl (unf rs D' q) r with
  | false=>rfl
  | true=>rw [a2J hs z] at b;cases b
theorem a4B (hc:∀x∈U,x∉D) (h:a0U rs pl S U D q=true):a3d rs pl S U D q=false:=by
 cases e:a3d rs pl S U D q with
 | false=>rfl
 | true=>
  exfalso
  rw [a2R] at h;rw [a4K] at e
  rcases h with h | ⟨_,b,c,d⟩
  ·exact e.1 h
  ·have hs:∀r∈a1V rs U q,r∈unf rs D q:=fun r hr=>by
    rw [a3L] at hr;rw [a6R]
    refine ⟨hr.1,?_⟩
    cases z:a2G r.2.2.2 D with
    | false=>rfl
    | true=>
     obtain ⟨p,hp,hd⟩:=a2c.mp z
     exact absurd hd (hc p (a0W.mp hr.2 p hp))
   rcases e.2 with z | z | ⟨r,hr,a,b'⟩
   ·exact b (a3T hs z)
   ·exact c z
   ·rcases d r hr with w | w
    ·obtain ⟨p,hp,hd⟩:=a2c.mp w
     exact hc p (a0W.mp a p hp) hd
    ·rw [a2J hs w] at b';cases b'
end
/-! ### claims that come in,as few as can be -/
theorem a8Z {cl:List (Bool×Str)} {b:Bool} {x:Str}:x∈wOf (cl.map cw) (clW b)↔(b,x)∈cl:=by
 unfold wOf
 rw [Qy]
 constructor
 ·rintro ⟨p,hp,rfl⟩
  obtain ⟨h1,h2⟩:=Xc.mp hp
  obtain ⟨c,hc,rfl⟩:=Qy.mp h1
  have:clW c.1=clW b:=of_decide_eq_true h2
  have e:c.1=b:=by
   cases h:c.1<;>cases b<;>first | rfl | (rw [h] at this;exact absurd this ‹dk›)
  rw [←e];exact hc
 ·exact fun h=>⟨cw (b,x),Xc.mpr ⟨Qy.mpr ⟨_,h,rfl⟩,by simp [cw]⟩,rfl⟩
theorem a5W {cl:List (Bool×Str)} {x:Str}:x∈wOf (cl.map cw) "held"↔(true,x)∈cl:=a8Z (b:=true)
theorem a5r {cl:List (Bool×Str)} {x:Str}:x∈wOf (cl.map cw) "refused"↔(false,x)∈cl:=a8Z (b:=false)
section
variable {rs:List Rw} {pl:List (Str×Str)} {S ev:List Str} {acc acc' G:List (Bool×Str)} {c:Bool×Str}
theorem a7x (h:∀c∈acc,c∈acc') (e:a2b rs pl S acc c=true):a2b rs pl S acc' c=true:=by
 unfold a2b b8W at e ⊢
 have hU:∀x∈wOf (acc.map cw) "held",x∈wOf (acc'.map cw) "held":=fun x hx=>a5W.mpr (h _ (a5W.mp hx))
 have hD:∀x∈wOf (acc.map cw) "refused",x∈wOf (acc'.map cw) "refused":=fun x hx=>a5r.mpr (h _ (a5r.mp hx))
 by_cases b:c.1=true
 ·rw [if_pos b] at e ⊢;exact a1W hU hD e
 ·rw [if_neg b] at e ⊢;exact a2K hU hD e
theorem a5Y:∀{l acc:List (Bool×Str)},a1e rs pl S acc l=true→∀c∈l,a2b rs pl S (acc++l) c=true
 | [],_,_,_,h=>by cases h
 | d::l,acc,e,c,h=>by
  have e':(a2b rs pl S acc d && a1e rs pl S (acc++[d]) l)=true:=e
  rw [Ql] at e'
  rcases Qn.mp h with rfl | m
  ·exact a7x (fun x hx=>Zx _ hx) e'.1
  ·have:=a5Y e'.2 c m
   rwa [Yj] at this
theorem a5V:∀{l acc:List (Bool×Str)} (k:Nat),a1e rs pl S acc l=true→a1e rs pl S acc (l.take k)=true
 | [],_,k,_=>by rw [List.take_nil];rfl
 | d::l,acc,0,_=>rfl
 | d::l,acc,k+1,e=>by
  have e':(a2b rs pl S acc d && a1e rs pl S (acc++[d]) l)=true:=e
  rw [Ql] at e'
  show (a2b rs pl S acc d && a1e rs pl S (acc++[d]) (l.take k))=true
  rw [e'.1,a5V k e'.2];rfl
structure Grw (rs:List Rw) (pl:List (Str×Str)) (S ev:List Str) (G:List (Bool×Str)):Prop where
 l:a1e rs pl S [] G=true
 n:(G.map (·.2)).Nodup
 e:∀c∈G,c.2∈ev
def GrC (rs:List Rw) (pl:List (Str×Str)) (S ev:List Str) (G:List (Bool×Str)):Prop:=∀q∈ev,q∉G.map (·.2)→a2b rs pl S G (true,q)=false∧a2b rs pl S G (false,q)=false
theorem a7N {α:Type} {l:List α} {x:α} (h:l.Nodup) (hx:x∉l):(l++[x]).Nodup:=
 Je.mpr ⟨h,Xu.mpr ⟨Xh,Yi⟩,fun a ha b hb e=>hx (by rw [←Qw.mp hb,←e];exact ha)⟩
theorem Grw.len (h:Grw rs pl S ev G):G.length≤ev.length:=by
 have:=a1U h.n (fun x hx=>by obtain ⟨c,hc,e⟩:=Qy.mp hx;rw [←e];exact h.e c hc)
 rwa [Qd] at this
theorem Grw.snoc (h:Grw rs pl S ev G) (hq:c.2∈ev) (hn:c.2∉G.map (·.2)) (hd:a2b rs pl S G c=true):Grw rs pl S ev (G++[c]):=by
 refine ⟨by rw [a3z,h.l,Jm,hd];rfl,?_,fun d hd=>?_⟩
 ·rw [Yc];exact a7N h.n hn
 ·rcases Xn.mp hd with m | m
  ·exact h.e d m
  ·rw [Qw.mp m];exact hq
theorem a3I {α β:Type} {f:α→β}:∀{l:List α} {x y:α},(l.map f).Nodup→x∈l→y∈l→f x=f y→x=y
 | [],_,_,_,h,_,_=>by cases h
 | z::l,x,y,n,hx,hy,e=>by
  rw [Xj,Xu] at n
  rcases Qn.mp hx with rfl | mx<;>rcases Qn.mp hy with rfl | my
  ·rfl
  ·exact absurd (Qy.mpr ⟨y,my,e.symm⟩) n.1
  ·exact absurd (Qy.mpr ⟨x,mx,e⟩) n.1
  ·exact a3I n.2 mx my e
theorem a9n (hG:Grw rs pl S ev G) (hC:GrC rs pl S ev G):∀{R acc:List (Bool×Str)},a1e rs pl S acc R=true→(∀c∈acc,c∈G)→(∀c∈R,c.2∈ev)→∀c∈R,c∈G
 | [],_,_,_,_,_,h=>by cases h
 | d::R,acc,e,ha,hR,c,h=>by
  have e':(a2b rs pl S acc d && a1e rs pl S (acc++[d]) R)=true:=e
  rw [Ql] at e'
  have hd:d∈G:=by
   have h1:=a7x ha e'.1
   obtain ⟨b,q⟩:=d
   have hq:q∈ev:=hR _ Qm
   by_cases m:q∈G.map (·.2)
   ·obtain ⟨⟨b',q'⟩,hc,rfl⟩:=Qy.mp m
    have h2:=a5Y hG.l _ hc
    rw [Jm] at h2
    have hcons:∀x∈wOf (G.map cw) "held",x∉wOf (G.map cw) "refused":=fun x hx hy=>by
     have:=a3I hG.n (a5W.mp hx) (a5r.mp hy) rfl
     cases this
    cases b<;>cases b'
    ·exact hc
    ·have h3:a0U rs pl S (wOf (G.map cw) "held") (wOf (G.map cw) "refused") q'=true:=h2
     have h4:a3d rs pl S (wOf (G.map cw) "held") (wOf (G.map cw) "refused") q'=true:=h1
     rw [a4B hcons h3] at h4;cases h4
    ·have h3:a0U rs pl S (wOf (G.map cw) "held") (wOf (G.map cw) "refused") q'=true:=h1
     have h4:a3d rs pl S (wOf (G.map cw) "held") (wOf (G.map cw) "refused") q'=true:=h2
     rw [a4B hcons h3] at h4;cases h4
    ·exact hc
   ·have h2:=hC q hq m
    cases b
    ·rw [h2.2] at h1;cases h1
    ·rw [h2.1] at h1;cases h1
  rcases Qn.mp h with rfl | m
  ·exact hd
  ·refine a9n hG hC e'.2 (fun x hx=>?_) (fun x hx=>hR x (Qp _ hx)) c m
   rcases Xn.mp hx with m | m
   ·exact ha x m
   ·rw [Qw.mp m];exact hd
end
theorem a4x (l:List (Bool×Str)) (c:Bool×Str) (w:Str):wOf ((l++[c]).map cw) w=wOf (l.map cw) w++if clW c.1=w then [c.2] else []:=by
 unfold wOf
 rw [Yc,Jz,Yc]
 congr 1
 show Gw _ (List.filter _ [cw c])=_
 rw [Jh]
 by_cases h:clW c.1=w
 ·rw [if_pos (show decide ((cw c).1=w)=true from decide_eq_true h),if_pos h];rfl
 ·rw [if_neg (show ¬decide ((cw c).1=w)=true from fun z=>h (of_decide_eq_true z)),if_neg h];rfl
def b5F (t:Adr):Sp:=fun vs H Q _=>∃(s T P E a1:Addr) (zr:List VR) (ps:List V) (pl:List (Str×Str)) (ev S:List Str),vs=[.ref s,.ref a1]∧a1v t H s T P E zr ps pl ev∧H a1=some (.lst (S.map V.str))∧∀D G qs H',a0g H H'→H D=none→H' D=some (.lst qs)→a0q H' qs (G.map cw)→Grw (zr.map (·.2)) pl S ev G→GrC (zr.map (·.2)) pl S ev G→Q (.ref D) H'
structure GrI (H H':Hp) (A1 A2 A3:Addr) (rs:List Rw) (pl:List (Str×Str)) (S ev:List Str) (G:List (Bool×Str)) (qs:List V):Prop where
 s:a0g H H'
 u:H' A1=some (.lst ((wOf (G.map cw) "held").map V.str))
 d:H' A2=some (.lst ((wOf (G.map cw) "refused").map V.str))
 r:H' A3=some (.lst qs)
 p:a0q H' qs (G.map cw)
 g:Grw rs pl S ev G
theorem GrI.same {H H' H2:Hp} {A1 A2 A3:Addr} {rs:List Rw} {pl:List (Str×Str)} {S ev:List Str} {G:List (Bool×Str)} {qs:List V} (h:GrI H H' A1 A2 A3 rs pl S ev G qs) (s:a0g H' H2):GrI H H2 A1 A2 A3 rs pl S ev G qs:=⟨h.s.trans s,s _ _ h.u,s _ _ h.d,s _ _ h.r,a0q.same s h.p,h.g⟩
theorem GrI.add {H H':Hp} {A1 A2 A3 Ab p:Addr} {rs:List Rw} {pl:List (Str×Str)} {S ev:List Str} {G:List (Bool×Str)} {qs:List V} {b:Bool} {q:Str} (h:GrI H H' A1 A2 A3 rs pl S ev G qs) (n12:A1≠A2) (n13:A1≠A3) (n23:A2≠A3) (f1:H A1=none) (f2:H A2=none) (f3:H A3=none) (hb:(b=true∧Ab=A1)∨(b=false∧Ab=A2)) (hg:Grw rs pl S ev (G++[(b,q)])) (hp:upd H' Ab (.lst ((wOf (G.map cw) (clW b)).map V.str++[V.str q])) p=none):
  GrI H (upd (upd (upd H' Ab (.lst ((wOf (G.map cw) (clW b)).map V.str++[V.str q]))) p (.tup [.str (clW b),.str q])) A3 (.lst (qs++[.ref p]))) A1 A2 A3 rs pl S ev (G++[(b,q)]) (qs++[.ref p]):=by
 have hpb:p≠Ab:=fun z=>by rw [z,a0e] at hp;cases hp
 have hp':H' p=none:=by rw [a0d hpb] at hp;exact hp
 have k1:p≠A1:=fun z=>by rw [z,h.u] at hp';cases hp'
 have k2:p≠A2:=fun z=>by rw [z,h.d] at hp';cases hp'
 have k3:p≠A3:=fun z=>by rw [z,h.r] at hp';cases hp'
 have b3:Ab≠A3:=by rcases hb with ⟨_,rfl⟩ | ⟨_,rfl⟩<;>assumption
 have up:∀c o,c≠Ab→c≠A3→H' c=some o→(upd (upd (upd H' Ab (.lst ((wOf (G.map cw) (clW b)).map V.str++[V.str q]))) p (.tup [.str (clW b),.str q])) A3 (.lst (qs++[.ref p]))) c=some o:=fun c o c1 c2 e=>by
  rw [a0d c2,a0d (a0c e hp'),a0d c1];exact e
 have hbl:∃ys,H' Ab=some (.lst ys):=by
  rcases hb with ⟨_,rfl⟩ | ⟨_,rfl⟩
  ·exact ⟨_,h.u⟩
  ·exact ⟨_,h.d⟩
 refine ⟨fun c o e=>up c o ?_ (a0c e f3) (h.s _ _ e),?_,?_,a0e,?_,hg⟩
 ·rcases hb with ⟨_,rfl⟩ | ⟨_,rfl⟩
  ·exact a0c e f1
  ·exact a0c e f2
 ·rw [a4x]
  rcases hb with ⟨rfl,rfl⟩ | ⟨rfl,rfl⟩
  ·rw [a0d n13,a0d k1.symm,a0e,if_pos (show clW true="held" from rfl),Yc];rfl
  ·rw [up _ _ n12 n13 h.u,if_neg (show ¬clW false="held" by decide+kernel),Qf]
 ·rw [a4x]
  rcases hb with ⟨rfl,rfl⟩ | ⟨rfl,rfl⟩
  ·rw [up _ _ n12.symm n23 h.d,if_neg (show ¬clW true="refused" by decide+kernel),Qf]
  ·rw [a0d n23,a0d k2.symm,a0e,if_pos (show clW false="refused" from rfl),Yc];rfl
 ·rw [Yc]
  refine a7b (p:=cw (b,q)) ?_ (by rw [a0d k3,a0e];rfl)
  obtain ⟨as,e,hl,hat⟩:=h.p
  obtain ⟨ys,hb'⟩:=hbl
  exact ⟨as,e,hl,fun i a z e1 e2=>by
   have:=hat i a z e1 e2
   exact up _ _ (a1S this hb' ‹iz›) (a1S this h.r ‹iz›) this⟩
def b3G (H:Hp) (D:Addr) (ev:List Str) (cl:List (Bool×Str)):Prop:=∃qs,H D=some (.lst qs)∧a0q H qs (cl.map cw)∧∀c∈cl,c.2∈ev
theorem b3G.same {H H':Hp} {D:Addr} {ev:List Str} {cl:List (Bool×Str)} (s:a0g H H') (h:b3G H D ev cl):b3G H' D ev cl:=let ⟨q,a,b,c⟩:=h;⟨q,s _ _ a,a0q.same s b,c⟩
theorem b6m {H:Hp} {ev:List Str}:∀{ys:List V},(∀(i:Nat) v,ys[i]?=some v→∃(x:Addr) (c:Bool×Str),v=.ref x∧H x=some (.tup [.str (clW c.1),.str c.2])∧c.2∈ev)→∃cl:List (Bool×Str),a0q H ys (cl.map cw)∧∀c∈cl,c.2∈ev
 | [],_=>⟨[],⟨[],rfl,rfl,fun i a p e=>(by cases e)⟩,fun c hc=>(by cases hc)⟩
 | y::ys,h=>by
  obtain ⟨cl,⟨as,e,hl,hat⟩,hc⟩:=b6m (ys:=ys) fun i v e=>h (i+1) v e
  obtain ⟨x,c,ey,hx,he⟩:=h 0 y rfl
  refine ⟨c::cl,⟨x::as,by rw [ey,e];rfl,by rw [Xj,Qt,Qt,hl],fun i a p e1 e2=>?_⟩,fun d hd=>?_⟩
  ·cases i with
   | zero=>cases e1;cases e2;exact hx
   | succ i=>exact hat i a p e1 e2
  ·rcases Qn.mp hd with z | z
   ·rw [z];exact he
   ·exact hc d z
theorem b4E {a b:Bool} (h:clW a=clW b):a=b:=by
 cases a<;>cases b<;>first | rfl | exact absurd h ‹dk›
theorem b8A {R:List (Bool×Str)} {c:Bool×Str}:cw c∈R.map cw↔c∈R:=by
 constructor
 ·intro h
  obtain ⟨d,hd,e⟩:=Qy.mp h
  have e1:clW d.1=clW c.1:=congrArg (fun z:Str×Str=>z.1) e
  have e2:d.2=c.2:=congrArg (fun z:Str×Str=>z.2) e
  rw [←Prod.ext (b4E e1) e2];exact hd
 ·exact fun h=>Qy.mpr ⟨c,h,rfl⟩
theorem b0q (b:Bool):Xd (clW b)=true:=by cases b<;>decide+kernel
theorem b4Y (ns:List Int) (lo hi:Option Int):∃cs:List Int,a4j (ns.map V.int) lo hi=cs.map V.int∧cs.length≤ns.length:=by
 unfold a4j
 refine ⟨(ns.drop (HT.sIx (ns.map V.int).length 0 lo)).take (HT.sIx (ns.map V.int).length (ns.map V.int).length hi - HT.sIx (ns.map V.int).length 0 lo),by rw [Jd,List.map_drop],?_⟩
 rw [Xo,Uo]
 omega
theorem b3s {α β:Type} (f:α→β):∀(l:List α) (j:Nat),(l.map f).eraseIdx j=(l.eraseIdx j).map f
 | [],_=>rfl
 | _::_,0=>rfl
 | x::l,j+1=>congrArg (f x::·) (b3s f l j)
/-! ### texts in order -/
def leT (a b:Str):Prop:=¬b.cps.toList < a.cps.toList
theorem a8S {a b c:Str} (h1:leT a b) (h2:leT b c):leT a c:=List.le_trans (show a.cps.toList≤b.cps.toList from h1) (show b.cps.toList≤c.cps.toList from h2)
theorem a7d {a b:Str} (h1:leT a b) (h2:leT b a):a=b:=by
 have e:a.cps.toList=b.cps.toList:=List.le_antisymm (show a.cps.toList≤b.cps.toList from h1) (show b.cps.toList≤a.cps.toList from h2)
 obtain ⟨⟨a⟩⟩:=a
 obtain ⟨⟨b⟩⟩:=b
 have e':a=b:=e
 rw [e']
theorem a6q:∀(l:List Str) (p:Str),PyProof.Rows.risingS p l=true→(p::l).Pairwise leT
 | [],p,_=>by simp
 | x::r,p,h=>by
  have h':(!PySem.Spec.ltCps x.cps.toList p.cps.toList && PyProof.Rows.risingS x r)=true:=h
  rw [Ql,Xf,PyProof.Rows.ltCps_eq,decide_eq_false_iff_not] at h'
  have ih:=a6q r x h'.2
  refine Yu.mpr ⟨fun y hy=>?_,ih⟩
  rcases Qn.mp hy with e | e
  ·rw [e];exact h'.1
  ·exact a8S h'.1 ((Yu.mp ih).1 y e)
theorem a2m:∀{l:List Str},PyProof.Rows.sortedS l=true→l.Pairwise leT
 | [],_=>.nil
 | x::r,h=>a6q r x h
theorem a2C:∀{a b:List Str},a.Perm b→a.Pairwise leT→b.Pairwise leT→a=b
 | [],b,h,_,_=>(h.symm.eq_nil).symm
 | x::a,[],h,_,_=>by have:=h.length_eq;simp at this
 | x::a,y::b,h,ha,hb=>by
  have e:x=y:=by
   rcases Qn.mp (h.mem_iff.mp (Qm (a:=x) (l:=a))) with z | z
   ·exact z
   ·rcases Qn.mp (h.mem_iff.mpr (Qm (a:=y) (l:=b))) with w | w
    ·exact w.symm
    ·exact a7d ((Yu.mp ha).1 y w) ((Yu.mp hb).1 x z)
  subst e
  rw [a2C (Vk.cons_inv h) (Yu.mp ha).2 (Yu.mp hb).2]
theorem a4I:∀(zs ys:List Str),Yd (.list (zs.map Yk)) (.list (ys.map Yk))=decide (zs=ys):=by
 have all:∀(zs ys:List Str),Zs (zs.map Yk) (ys.map Yk)=decide (zs=ys):=by
  intro zs
  induction zs with
  | nil=>intro ys;cases ys<;>rfl
  | cons z zs ih=>
   intro ys
   cases ys with
   | nil=>rfl
   | cons y ys=>
    have e:Zs ((z::zs).map Yk) ((y::ys).map Yk)=(Yd (.str z) (.str y) && Zs (zs.map Yk) (ys.map Yk)):=rfl
    have e2:Yd (.str z) (.str y)=decide (z=y):=by first | rfl | simp [Yd]
    rw [e,e2,ih]
    by_cases h1:z=y
    ·by_cases h2:zs=ys
     ·simp [h1,h2]
     ·simp [h1,h2]
    ·simp [h1]
 intro zs ys
 have e:Yd (.list (zs.map Yk)) (.list (ys.map Yk))=Zs (zs.map Yk) (ys.map Yk):=by first | rfl | simp [Yd]
 rw [e];exact all zs ys
section
variable {α:Type} [DecidableEq α]
theorem b1R {l:List α} {x y:α}:y∈a6g l x↔y∈l∨y=x:=by
 unfold a6g
 by_cases h:x∈l
 ·rw [if_pos h];exact ⟨.inl,fun z=>z.elim id fun e=>e ▸ h⟩
 ·rw [if_neg h];simp
theorem a5T {xs:List α}:∀{l:List α} {y:α},y∈xs.foldl a6g l↔y∈l∨y∈xs:=by
 induction xs with
 | nil=>intro l y;simp
 | cons x xs ih=>intro l y;rw [List.foldl_cons,ih,b1R];simp [or_assoc]
theorem a2Z:∀(xs:List α) {l:List α},l.Nodup→(xs.foldl a6g l).Nodup
 | [],_,hl=>hl
 | x::xs,l,hl=>by
  refine a2Z xs ?_
  unfold a6g
  by_cases z:x∈l
  ·rw [if_pos z];exact hl
  ·rw [if_neg z]
   exact Je.mpr ⟨hl,by simp,fun a ha b hb e=>z (by rw [Qw] at hb;rw [←hb,←e];exact ha)⟩
end
def b2W (H:Hp) (D:Addr) (H':Hp):Prop:=∀b o,H b=some o→b≠D→H' b=some o
theorem b2W.refl (H:Hp) (D:Addr):b2W H D H:=fun _ _ e _=>e
def sts (rs:List Rw):List Str:=rs.flatMap fun r=>(r.2.2.1::r.2.2.2).flatMap fun q=>[q,a1G q]
theorem a3b {rs:List Rw} {x:Str}:x∈sts rs↔∃r∈rs,∃q∈r.2.2.1::r.2.2.2,x=q∨x=a1G q:=by
 unfold sts
 constructor
 ·intro h
  obtain ⟨r,hr,h⟩:=Zu.mp h
  obtain ⟨q,hq,h⟩:=Zu.mp h
  exact ⟨r,hr,q,hq,by simpa using h⟩
 ·rintro ⟨r,hr,q,hq,h⟩
  exact Zu.mpr ⟨r,hr,Zu.mpr ⟨q,hq,by simpa using h⟩⟩
def c0S (t:Adr):Sp:=fun vs H Q _=>∃(g:Addr) (rs:List Rw) (pl:List (Str×Str)) (po:List Str),vs=[.ref g]∧a5l t H g rs pl∧(∀r∈rs,a3Q r)∧rs.length≤63∧(∀x∈sts rs,x∈po)∧po.length≤28∧
 ∀D St H',a0g H H'→H D=none→H' D=some (.lst (St.map V.str))→St.Perm ((sts rs).foldl a6g [])→PyProof.Rows.sortedS St=true→Q (.ref D) H'
theorem b5e (T:List Str):(bv T).map (·.1)=T.map (Sum.inr:Str→Key):=by unfold bv;rw [Yr];rfl
def ltB (x y:Str):Bool:=decide (x.cps.toList < y.cps.toList)
def a2p:List Str→Bool
 | x::y::r=>ltB x y && a2p (y::r)
 | _=>true
def b5G (S:List Str) (i:Nat):Bool:=ltB ((S[i]?).getD Up) ((S[i+1]?).getD Up)
theorem a7j:∀S:List Str,((Yb (S.length - 1)).map (b5G S)).all id=a2p S
 | []=>rfl
 | [_]=>rfl
 | x::y::r=>by
  have ih:=a7j (y::r)
  have e:(x::y::r).length - 1=(y::r).length - 1+1:=by simp
  rw [e,Wq,Xj,Yr,Vo]
  show (ltB x y && _)=(ltB x y && a2p (y::r))
  rw [←ih]
  congr 1
def b4b (K:Qe):Sp:=fun vs H Q _=>∃(a:Addr) (S:List Str),vs=[.ref a]∧SqL K H a (S.map V.str)∧S.length≤100∧∀H',a0g H H'→Q (.bl (a2p S)) H'
def c0F (K:Qe) (t:Adr):Sp:=fun vs H Q _=>∃(g a c:Addr) (rs:List Rw) (pl:List (Str×Str)) (po S C:List Str),vs=[.ref g,.ref a,.ref c]∧a5l t H g rs pl∧(∀r∈rs,a3Q r)∧rs.length≤63∧(∀x∈sts rs,x∈po)∧po.length≤28∧H a=some (.lst (S.map V.str))∧a5h H c C∧∀D zs H',a0g H H'→a5h H' D zs→(∀z,z∈zs↔z∈sts rs∧z∉S∧z∉C)→Q (.ref D) H'
def a6v (rs:List Rw) (So:List Str) (cl:List (Bool×Str)) (b:Bool):List Str:=(sts rs).filter fun z=>decide (z∉So) && decide (z∉wOf (cl.map cw) (clW (!b)))
def a2U (rs:List Rw) (pl:List (Str×Str)) (S So:List Str) (cl:List (Bool×Str)) (q:Str):Bool:=a0U rs pl S (a6v rs So cl true) (a6v rs So cl false) q || a3d rs pl S (a6v rs So cl true) (a6v rs So cl false) q
def a3l (rs:List Rw) (pl:List (Str×Str)) (S:List Str) (cl:List (Bool×Str)) (So:List Str):Bool:=(isS rs S && a1e rs pl S [] cl) && a2p So && !So.any (a2U rs pl S So cl)
def a9F (K:Qe) (t:Adr):Sp:=fun vs H Q _=>∃(g p a1 a2 a3:Addr) (rs:List Rw) (pl:List (Str×Str)) (po S So:List Str) (ps:List V) (cl:List (Bool×Str)),vs=[.ref g,.ref p]∧a5l t H g rs pl∧(∀r∈rs,a3Q r)∧rs.length≤63∧(∀x∈sts rs,x∈po)∧po.length≤28∧H p=some (.tup [.ref a1,.ref a2,.ref a3])∧H a1=some (.lst (S.map V.str))∧S.length≤100∧H a2=some (.lst ps)∧a0q H ps (cl.map cw)∧cl.length≤60∧(∀c∈cl,c.2.length≤100)∧H a3=some (.lst (So.map V.str))∧So.length≤60∧(∀z∈So,z.length≤100)∧∀H',a0g H H'→Q (.bl (a3l rs pl S cl So)) H'
/-! ### a sure set,looked at one by one -/
theorem a5S {rs:List (SR Str)}:∀{l S:List Str} (k:Nat),a2E rs S l=true→a2E rs S (l.take k)=true
 | [],_,k,_=>by rw [List.take_nil];rfl
 | _::_,_,0,_=>rfl
 | y::l,S,k+1,e=>by
  have e':((!decide (y∈S) && a4c rs S y) && a2E rs (S++[y]) l)=true:=e
  rw [Ql] at e'
  show ((!decide (y∈S) && a4c rs S y) && a2E rs (S++[y]) (l.take k))=true
  rw [e'.1,a5S k e'.2];rfl
theorem a6J {α:Type} [DecidableEq α]:∀{l m:List α},l.Nodup→m.Nodup→(∀x,x∈l↔x∈m)→l.Perm m
 | [],m,_,_,h=>by
  have:m=[]:=Uy.mpr fun x hx=>by have:=(h x).mpr hx;cases this
  rw [this]
 | x::l,m,hl,hm,h=>by
  rw [Xu] at hl
  have hx:x∈m:=(h x).mp Qm
  refine ((a6J hl.2 (hm.erase x) fun y=>?_).cons x).trans (List.perm_cons_erase hx).symm
  rw [Xm.mem_erase_iff hm,←h y,Qn]
  exact ⟨fun hy=>⟨fun e=>hl.1 (by rw [←e];exact hy),.inr hy⟩,fun ⟨n,e⟩=>e.resolve_left n⟩
theorem a7I {rs:List Rw} {S L s' l':List Str} (hL:isS rs L=true) (hS:a2E (rs.map srW) [] S=true) (p1:s'.Perm S) (p2:l'.Perm L) (h1:PyProof.Rows.sortedS s'=true) (h2:PyProof.Rows.sortedS l'=true):decide (s'=l')=isS rs S:=by
 have hL':=hL
 unfold isS at hL'
 rw [Ql] at hL'
 rw [Yh,decide_eq_true_eq]
 constructor
 ·rintro rfl
  have p:=p1.symm.trans p2
  unfold isS
  rw [hS,Yg,a1M]
  intro x b hr hb
  exact p.mem_iff.mpr (a1M.mp hL'.2 x b hr fun q hq=>p.mem_iff.mp (hb q hq))
 ·intro h
  have h':=h
  unfold isS at h'
  rw [Ql] at h'
  have s1:=a2u (a1M.mp hL'.2) hS (fun _ z=>by cases z)
  have s2:=a2u (a1M.mp h'.2) hL'.1 (fun _ z=>by cases z)
  have p:=a6J (a1Q hS).1 (a1Q hL'.1).1 fun x=>⟨s1 x,s2 x⟩
  exact a2C ((p1.trans p).trans p2.symm) (a2m h1) (a2m h2)
/-! ### lists of things of one kind,cut and joined -/
def LsP (P:Hp→V→Prop) (H:Hp) (D:Addr) (n:Nat):Prop:=∃ys,H D=some (.lst ys)∧ys.length≤n∧∀v∈ys,P H v
def Kp (P:Hp→V→Prop):Prop:=∀H H' v,a0g H H'→P H v→P H' v
theorem LsP.same {P:Hp→V→Prop} (m:Kp P) {H H':Hp} {D:Addr} {n:Nat} (s:a0g H H') (h:LsP P H D n):LsP P H' D n:=let ⟨y,a,b,c⟩:=h;⟨y,s _ _ a,b,fun v hv=>m _ _ _ s (c v hv)⟩
theorem LsP.up {P:Hp→V→Prop} {H:Hp} {D:Addr} {n m:Nat} (h:LsP P H D n) (e:n≤m):LsP P H D m:=let ⟨y,a,b,c⟩:=h;⟨y,a,Qj b e,c⟩
theorem LsP.cut {P:Hp→V→Prop} (m:Kp P) {K:Qe} {H:Hp} {a:Addr} {n:Nat} {lo hi:Option Int} {Q:VK} (h:LsP P H a n) (k:∀p H',a0g H H'→LsP P H' p n→Q (.ref p) H'):c0i K (.ref a) lo hi H Q:=by
 obtain ⟨ys,ha,hl,hP⟩:=h
 refine .inr (.inl ⟨a,_,rfl,SqL.of ha,fun p hp=>?_⟩)
 obtain ⟨H1,e1,s1,g1⟩:=a0I hp (.lst (a4j ys lo hi));rw [e1]
 exact k p H1 s1 ⟨_,g1,Qj (a2D ys lo hi) hl,fun v hv=>m _ _ _ s1 (hP v (List.mem_of_mem_drop (Zf hv)))⟩
def b1G (ev:List Str):Hp→V→Prop:=fun H v=>∃(x:Addr) (c:Bool×Str),v=.ref x∧H x=some (.tup [.str (clW c.1),.str c.2])∧c.2∈ev
theorem c0w (ev:List Str):Kp (b1G ev):=fun _ _ _ s ⟨x,c,e,h,m⟩=>⟨x,c,e,s _ _ h,m⟩
theorem b9Q {H:Hp} {D:Addr} {ev:List Str} {n:Nat} (h:LsP (b1G ev) H D n):∃cl:List (Bool×Str),b3G H D ev cl∧cl.length≤n:=by
 obtain ⟨ys,ha,hl,hP⟩:=h
 obtain ⟨cl,hp,hc⟩:=b6m (H:=H) (ev:=ev) (ys:=ys) fun i v e=>hP v (Jq e)
 refine ⟨cl,⟨ys,ha,hp,hc⟩,?_⟩
 have:=a0q.len hp
 rw [Qd] at this
 omega
theorem b8I {H:Hp} {D:Addr} {ev:List Str} {cl:List (Bool×Str)} {n:Nat} (h:b3G H D ev cl) (hn:cl.length≤n):LsP (b1G ev) H D n:=by
 obtain ⟨ys,ha,hp,hc⟩:=h
 have hl:=a0q.len hp
 rw [Qd] at hl
 refine ⟨ys,ha,by omega,fun v hv=>?_⟩
 obtain ⟨i,hi,rfl⟩:=Zz hv
 have hi':i < cl.length:=by omega
 obtain ⟨x,ex,hx⟩:=a0q.at hp (i:=i) (by rw [Qd];exact hi')
 rw [Qc hi] at ex
 rw [Yo] at hx
 exact ⟨x,cl[i],Option.some.inj ex,hx,hc _ (Qv hi')⟩
theorem b0I:∀rl:List (Str×Str),Zs (rl.map fun p=>Ym [.str p.1,.str p.2]) (rl.map fun p=>Ym [.str p.1,.str p.2])=true
 | []=>rfl
 | p::rl=>by
  have e:Zs ((p::rl).map fun p=>Ym [.str p.1,.str p.2]) ((p::rl).map fun p=>Ym [.str p.1,.str p.2])=(Yd (.tuple [.str p.1,.str p.2]) (.tuple [.str p.1,.str p.2]) && Zs (rl.map fun p=>Ym [.str p.1,.str p.2]) (rl.map fun p=>Ym [.str p.1,.str p.2])):=rfl
  rw [e,a5i,decide_eq_true rfl,b0I rl];rfl
theorem a4H {K:Qe} {H:Hp} {Q:VK} {a b:Addr} {zs ys:List Str} (ha:SqL K H a (zs.map V.str)) (hb:SqL K H b (ys.map V.str)) (ho:∀z∈zs,Xd z=true) (ho':∀z∈ys,Xd z=true) (q:Q (.bl (!decide (zs=ys))) H):b5U K (.ref a) (.ref b) H Q:=
 .inr ⟨_,_,.lst ha (a2B zs),.lst hb (a2B ys),b0P ho,b0P ho',by rw [a4I];exact q⟩
/-! ### rows compared to none -/
section
variable {rs:List Rw} {pl:List (Str×Str)} {S U U' D D':List Str} {q:Str}
theorem a4k (hU:∀r∈rs,∀x∈r.2.2.2,x∈U→x∈U') (hD:∀r∈rs,∀x∈r.2.2.2,x∈D→x∈D') (e:a0U rs pl S U D q=true):a0U rs pl S U' D' q=true:=by
 have hm:∀{h:Str} {r:Rw},r∈hdF rs h→r∈rs:=fun h=>(Xc.mp h).1
 rw [a2R] at e ⊢
 rcases e with e | ⟨a,b,c,d⟩
 ·exact .inl e
 ·have hs:∀r∈a1V rs U q,r∈a1V rs U' q:=fun r hr=>by
   rw [a3L] at hr ⊢
   exact ⟨hr.1,a0W.mpr fun x hx=>hU r (hm hr.1.1) x hx (a0W.mp hr.2 x hx)⟩
  refine .inr ⟨a,fun z=>b (a3T hs z),c,fun r hr=>(d r hr).imp (fun z=>?_) (a2J hs)⟩
  obtain ⟨x,hx,hxd⟩:=a2c.mp z
  exact a2c.mpr ⟨x,hx,hD r (hm hr) x hx hxd⟩
theorem a7k (hU:∀r∈rs,∀x∈r.2.2.2,x∈U→x∈U') (hD:∀r∈rs,∀x∈r.2.2.2,x∈D→x∈D') (e:a3d rs pl S U D q=true):a3d rs pl S U' D' q=true:=by
 have hm:∀{h:Str} {r:Rw},r∈hdF rs h→r∈rs:=fun h=>(Xc.mp h).1
 rw [a4K] at e ⊢
 have hs:∀r∈unf rs D' q,r∈unf rs D q:=fun r hr=>by
  rw [a6R] at hr ⊢
  refine ⟨hr.1,Xz.mpr fun z=>?_⟩
  obtain ⟨x,hx,hxd⟩:=a2c.mp z
  have:=hr.2
  rw [a2c.mpr ⟨x,hx,hD r (hm hr.1.1) x hx hxd⟩] at this;cases this
 refine ⟨e.1,?_⟩
 rcases e.2 with z | z | ⟨r,hr,a,b⟩
 ·exact .inl (a3T hs z)
 ·exact .inr (.inl z)
 ·refine .inr (.inr ⟨r,hr,a0W.mpr fun x hx=>hU r (hm hr) x hx (a0W.mp a x hx),?_⟩)
  cases z:btn pl (unf rs D' q) r with
  | false=>rfl
  | true=>rw [a2J hs z] at b;cases b
end
def a8Q (ev So:List Str) (cl:List (Bool×Str)) (b:Bool):List Str:=ev.filter fun z=>decide (z∉So) && decide ((clW (!b),z)∉cl.map cw)
theorem a4Y {ev So:List Str} {cl:List (Bool×Str)} {b:Bool} {z:Str}:z∈a8Q ev So cl b↔z∈ev∧z∉So∧(!b,z)∉cl:=by
 unfold a8Q
 rw [Xc,Ql,decide_eq_true_eq,decide_eq_true_eq,show (clW (!b),z)=cw (!b,z) from rfl,b8A]
def a1r (rs:List Rw) (pl:List (Str×Str)) (S ev So:List Str) (cl:List (Bool×Str)) (q:Str):Bool:=a0U rs pl S (a8Q ev So cl true) (a8Q ev So cl false) q || a3d rs pl S (a8Q ev So cl true) (a8Q ev So cl false) q
section
variable {rs:List Rw} {pl:List (Str×Str)} {S ev So:List Str} {cl G:List (Bool×Str)}
theorem b3f (hE:∀r∈rs,RwE ev r) {r:Rw} (hr:r∈rs) {x:Str} (hx:x∈r.2.2.2) (b:Bool):x∈a6v rs So cl b↔x∈a8Q ev So cl b:=by
 rw [a4Y]
 unfold a6v
 rw [Xc,Ql,decide_eq_true_eq,decide_eq_true_eq,a8Z]
 exact ⟨fun h=>⟨(hE r hr).2 x hx,h.2⟩,fun h=>⟨a3b.mpr ⟨r,hr,x,Qp _ hx,.inl rfl⟩,h.2⟩⟩
theorem a4Q (hE:∀r∈rs,RwE ev r) (q:Str):a2U rs pl S So cl q=a1r rs pl S ev So cl q:=by
 have a1:∀b,∀r∈rs,∀x∈r.2.2.2,x∈a6v rs So cl b→x∈a8Q ev So cl b:=fun b r hr x hx=>(b3f hE hr hx b).mp
 have a2:∀b,∀r∈rs,∀x∈r.2.2.2,x∈a8Q ev So cl b→x∈a6v rs So cl b:=fun b r hr x hx=>(b3f hE hr hx b).mpr
 unfold a2U a1r
 rw [Yh,Zo,Zo]
 exact ⟨fun h=>h.imp (a4k (a1 _) (a1 _)) (a7k (a1 _) (a1 _)),fun h=>h.imp (a4k (a2 _) (a2 _)) (a7k (a2 _) (a2 _))⟩
theorem a4s {q:Str} (h:q∈S∨a1G q∈S):a1r rs pl S ev So cl q=true:=by
 unfold a1r
 rw [Zo]
 by_cases c:q∈S
 ·exact .inl (a2R.mpr (.inl c))
 ·exact .inr (a4K.mpr ⟨c,.inr (.inl (h.resolve_left c))⟩)
theorem a9U (hG:Grw rs pl S ev G) (hC:GrC rs pl S ev G) (hR:a1e rs pl S [] cl=true) (he:∀c∈cl,c.2∈ev) (hN:So.any (a1r rs pl S ev So cl)=false):∀{l pre:List (Bool×Str)},G=pre++l→a1e rs pl S pre l=true→(∀c∈pre,c.2∉So)→∀c∈l,c.2∉So
 | [],_,_,_,_,_,h=>by cases h
 | d::l,pre,eG,hL,hp,c,h=>by
  have hL':(a2b rs pl S pre d && a1e rs pl S (pre++[d]) l)=true:=hL
  rw [Ql] at hL'
  have hin:=a9n hG hC hR (fun c hc=>by cases hc) he
  have hd:d.2∉So:=fun hm=>by
   have hmay:∀b x,x∈wOf (pre.map cw) (clW b)→x∈a8Q ev So cl b:=fun b x hx=>by
    have hx1:=a8Z.mp hx
    have hxG:(b,x)∈G:=by rw [eG];exact Zx _ hx1
    refine a4Y.mpr ⟨hG.e _ hxG,hp _ hx1,fun z=>?_⟩
    have:=a3I hG.n hxG (hin _ z) rfl
    have e:b=!b:=congrArg (·.1) this
    cases b<;>cases e
   have hcm:a1r rs pl S ev So cl d.2=true:=by
    have h1:=hL'.1
    unfold a2b b8W at h1
    unfold a1r
    rw [Zo]
    by_cases b:d.1=true
    ·rw [if_pos b] at h1;exact .inl (a1W (hmay true) (hmay false) h1)
    ·rw [if_neg b] at h1;exact .inr (a2K (hmay true) (hmay false) h1)
   rw [Xx.mpr ⟨_,hm,hcm⟩] at hN;cases hN
  rcases Qn.mp h with e | m
  ·rw [e];exact hd
  ·refine a9U hG hC hR he hN (pre:=pre++[d]) (by rw [Yj];exact eG) hL'.2 (fun x hx=>?_) c m
   rcases Xn.mp hx with w | w
   ·exact hp x w
   ·rw [Qw.mp w];exact hd
theorem b2M (hC:GrC rs pl S ev G) (hm:∀z,z∈So↔z∈ev∧z∉G.map (·.2)):So.any (a1r rs pl S ev So G)=false:=by
 rw [Xz]
 intro h
 obtain ⟨q,hq,hc⟩:=Xx.mp h
 have hq':=(hm q).mp hq
 have hmay:∀b x,x∈a8Q ev So G b→x∈wOf (G.map cw) (clW b):=fun b x hx=>by
  obtain ⟨h1,h2,h3⟩:=a4Y.mp hx
  have h4:x∈G.map (·.2):=Uz fun z=>h2 ((hm x).mpr ⟨h1,z⟩)
  obtain ⟨⟨b',y⟩,hy,rfl⟩:=Qy.mp h4
  refine a8Z.mpr ?_
  have:b'=b:=by
   cases b<;>cases b'<;>first | rfl | exact absurd hy h3
  rw [←this];exact hy
 have h5:=hC q hq'.1 hq'.2
 unfold a2b b8W at h5
 unfold a1r at hc
 rw [Zo] at hc
 rcases hc with hc | hc
 ·have:=a1W (hmay true) (hmay false) hc
  have h6:=h5.1
  rw [if_pos rfl] at h6
  rw [show a0U rs pl S (wOf (G.map cw) "held") (wOf (G.map cw) "refused") q=true from this] at h6;cases h6
 ·have:=a2K (hmay true) (hmay false) hc
  have h6:=h5.2
  rw [if_neg Qq] at h6
  rw [show a3d rs pl S (wOf (G.map cw) "held") (wOf (G.map cw) "refused") q=true from this] at h6;cases h6
end
theorem a4O:∀{S:List Str},a2p S=true↔S.Nodup∧S.Pairwise leT
 | []=>⟨fun _=>⟨Yi,.nil⟩,fun _=>rfl⟩
 | [x]=>⟨fun _=>⟨Xu.mpr ⟨Xh,Yi⟩,Yu.mpr ⟨fun y hy=>(by cases hy),.nil⟩⟩,fun _=>rfl⟩
 | x::y::r=>by
  have ih:=a4O (S:=y::r)
  show (ltB x y && a2p (y::r))=true↔_
  rw [Ql,ih]
  unfold ltB
  rw [decide_eq_true_eq]
  constructor
  ·rintro ⟨h1,h2,h3⟩
   have hle:∀z∈y::r,x.cps.toList < z.cps.toList:=fun z hz=>by
    rcases Qn.mp hz with e | e
    ·rw [e];exact h1
    ·exact Jw fun n=>(Yu.mp h3).1 z e (List.lt_of_le_of_lt (show z.cps.toList≤x.cps.toList from n) h1)
   exact ⟨Xu.mpr ⟨fun z=>List.lt_irrefl _ (hle x z),h2⟩,Yu.mpr ⟨fun z hz=>List.lt_asymm (hle z hz),h3⟩⟩
  ·rintro ⟨h1,h2⟩
   obtain ⟨h3,h4⟩:=Xu.mp h1
   obtain ⟨h5,h6⟩:=Yu.mp h2
   refine ⟨?_,h4,h6⟩
   have hxy:=h5 y Qm
   have hne:x≠y:=fun e=>h3 (by rw [e];exact Qm)
   exact Jw fun z=>hne (a7d hxy z)
theorem a6E {S T:List Str} (hn:T.Nodup) (hm:∀z,z∈T↔z∈S) (hs:PyProof.Rows.sortedS T=true):decide (S≠T)=!a2p S:=by
 rw [Yh,decide_eq_true_eq,Xf,←Bool.not_eq_true,a4O]
 constructor
 ·intro h ⟨h1,h2⟩
  exact h (a2C (a6J h1 hn fun z=>(hm z).symm) h2 (a2m hs))
 ·intro h e
  exact h (by rw [e];exact ⟨hn,a2m hs⟩)
def b4x (t:Adr):Sp:=fun vs H Q _=>∃(s T P E a1 a2:Addr) (zr:List VR) (ps:List V) (pl:List (Str×Str)) (ev S:List Str) (R:List (Bool×Str)),vs=[.ref s,.ref a1,.ref a2]∧a1v t H s T P E zr ps pl ev∧H a1=some (.lst (S.map V.str))∧b3G H a2 ev R∧R.length≤60∧∀H',a0g H H'→Q (.bl (a1e (zr.map (·.2)) pl S [] R)) H'
def b7T (t:Adr):Sp:=fun vs H Q _=>∃(s T P E f p a1 a2 a3:Addr) (zr:List VR) (ps:List V) (pl:List (Str×Str)) (ev L S So:List Str) (R:List (Bool×Str)),vs=[.ref s,.ref f,.ref p]∧a1v t H s T P E zr ps pl ev∧H f=some (.lst (L.map V.str))∧isS (zr.map (·.2)) L=true∧L.length≤30∧H p=some (.tup [.ref a1,.ref a2,.ref a3])∧H a1=some (.lst (S.map V.str))∧a2E ((zr.map (·.2)).map srW) [] S=true∧b3G H a2 ev R∧R.length≤60∧H a3=some (.lst (So.map V.str))∧So.length≤60∧(∀z∈So,z∈ev)∧∀H',a0g H H'→Q (.bl (a3l (zr.map (·.2)) pl S R So)) H'
def b4D:Sp:=fun vs H Q _=>∃(a:Addr) (c:Int) (ev:List Str),vs=[.ref a,.int c]∧LsP (b1G ev) H a 14∧∀D H',a0g H H'→LsP (b1G ev) H' D 29→Q (.ref D) H'
def b8n (t:Adr):Sp:=fun vs H Q _=>∃(s T P E a:Addr) (c:Int) (zr:List VR) (ps:List V) (pl:List (Str×Str)) (ev:List Str) (cl:List (Bool×Str)),vs=[.ref s,.ref a,.int c]∧a1v t H s T P E zr ps pl ev∧b3G H a ev cl∧cl.length≤14∧0≤c∧∀(D:Addr) (So:List Str) H',a0g H H'→H D=none→H' D=some (.lst (So.map V.str))→So.length≤30→(∀z∈So,z∈ev)→Q (.ref D) H'
def b2w (S:List Str) (rl:List (Str×Str)) (T:List Str):PyData:=.tuple [.list (S.map Yk),.list (rl.map fun p=>Ym [.str p.1,.str p.2]),.list (T.map Yk)]
theorem b2K (S:List Str) (rl:List (Str×Str)) (T:List Str):Yd (b2w S rl T) (b2w S rl T)=true:=by
 have e:Yd (b2w S rl T) (b2w S rl T)=(Yd (.list (S.map Yk)) (.list (S.map Yk)) && (Yd (.list (rl.map fun p=>Ym [.str p.1,.str p.2])) (.list (rl.map fun p=>Ym [.str p.1,.str p.2])) && (Yd (.list (T.map Yk)) (.list (T.map Yk)) && true))):=by
  first | rfl | simp [b2w,Yd,Zs]
 have e2:Yd (.list (rl.map fun p=>Ym [.str p.1,.str p.2])) (.list (rl.map fun p=>Ym [.str p.1,.str p.2]))=true:=by
  have:Yd (.list (rl.map fun p=>Ym [.str p.1,.str p.2])) (.list (rl.map fun p=>Ym [.str p.1,.str p.2]))=Zs (rl.map fun p=>Ym [.str p.1,.str p.2]) (rl.map fun p=>Ym [.str p.1,.str p.2]):=by
   first | rfl | simp [Yd]
  rw [this];exact b0I rl
 rw [e,a4I,a4I,decide_eq_true rfl,decide_eq_true rfl,e2];rfl
theorem b1h {S T:List Str} {rl:List (Str×Str)} (so:∀z∈S,Xd z=true) (to:∀z∈T,Xd z=true) (po:∀p∈rl,Xd p.1=true∧Xd p.2=true):Ji (b2w S rl T)=true:=by
 obtain ⟨a,b⟩:=b8B S so
 obtain ⟨a',b'⟩:=b8B T to
 obtain ⟨c,d⟩:=c4m rl po
 unfold Ji b2w
 simp only [Zv,Vt,Zq,Jv,a,b,a',b',c,Yg,Uk,decide_eq_true_eq]
 omega
theorem b0J {K:Qe} {H:Hp} {Q:VK} {h p a1 a2 a3 b1 b2 b3:Addr} {S T:List Str} {qs qs':List V} {rl:List (Str×Str)} (hh:H h=some (.tup [.ref a1,.ref a2,.ref a3])) (h1:H a1=some (.lst (S.map V.str))) (h2:H a2=some (.lst qs)) (hP:a0q H qs rl) (h3:H a3=some (.lst (T.map V.str))) (hp:H p=some (.tup [.ref b1,.ref b2,.ref b3])) (k1:H b1=some (.lst (S.map V.str))) (k2:H b2=some (.lst qs')) (hP':a0q H qs' rl) (k3:H b3=some (.lst (T.map V.str))) (so:∀z∈S,Xd z=true) (to:∀z∈T,Xd z=true) (po:∀p∈rl,Xd p.1=true∧Xd p.2=true) (q:Q (.bl false) H):b5U K (.ref h) (.ref p) H Q:=
 .inr ⟨b2w S rl T,b2w S rl T,.tup (SqT.of hh) (.cons (.lst (SqL.of h1) (a2B S)) (.cons (.lst (SqL.of h2) (b0y hP)) (.cons (.lst (SqL.of h3) (a2B T)) .nil))),.tup (SqT.of hp) (.cons (.lst (SqL.of k1) (a2B S)) (.cons (.lst (SqL.of k2) (b0y hP')) (.cons (.lst (SqL.of k3) (a2B T)) .nil))),b1h so to po,b1h so to po,by rw [b2K];exact q⟩
theorem b3X {w:World} {K:Qe} {H:Hp} {c:Addr} {L po:List Str} {Q:VK} (hc:H c=some (.lst (L.map V.str))) (hl:L.length≤4000) (hp:∀z∈L,z∈po) (hn:po.length≤20) (k:∀D T H',a0g H H'→H D=none→H' D=some (.lst (T.map V.str))→T.Nodup→(∀z,z∈T↔z∈L)→PyProof.Rows.sortedS T=true→Q (.ref D) H'):b6g w K [.ref c] H fun x H1=>a7D w [x] H1 Q:=by
 refine ⟨c,L,rfl,SqL.of hc,hl,fun p ss hpn hnd hm=>?_⟩
 obtain ⟨H1,e1,s1,g1⟩:=a0I hpn (c0h w p ss);rw [e1]
 refine ⟨p,ss,rfl,g1,?_,fun l ss' hln hperm hs=>?_⟩
 ·have:=a1U hnd (fun x hx=>hp x ((hm x).mp hx));omega
 ·obtain ⟨H2,e2,s2,g2⟩:=a0I hln (.lst (ss'.map V.str));rw [e2]
  exact k l ss' H2 (s1.trans s2) (none_of s1 hln) g2 (hperm.nodup_iff.mpr hnd) (fun z=>hperm.mem_iff.trans (hm z)) hs
def SmI (H:Hp) (n:Nat) (ev:List Str) (D:Addr) (H':Hp):Prop:=a0g H H'∧H D=none∧∃So:List Str,H' D=some (.lst (So.map V.str))∧So.length≤n∧∀z∈So,z∈ev
theorem SmI.up {H H':Hp} {n m:Nat} {ev:List Str} {D:Addr} (h:SmI H n ev D H') (e:n≤m):SmI H m ev D H':=let ⟨a,b,S,c,d,f⟩:=h;⟨a,b,S,c,Qj d e,f⟩
theorem SmI.same {H H' H2:Hp} {n:Nat} {ev:List Str} {D:Addr} (h:SmI H n ev D H') (s:a0g H' H2):SmI H n ev D H2:=let ⟨a,b,S,c,d,f⟩:=h;⟨a.trans s,b,S,s _ _ c,d,f⟩
theorem a9L:∀(pl:List Str) (bs:List Bool),∃S:List Str,(((pl.map V.str).zip bs).filterMap fun p=>if p.2=true then some p.1 else none)=S.map V.str∧S.Sublist pl
 | [],bs=>⟨[],by simp,List.nil_sublist _⟩
 | x::pl,[]=>⟨[],by simp,List.nil_sublist _⟩
 | x::pl,b::bs=>by
  obtain ⟨S,e,h⟩:=a9L pl bs
  cases b with
  | true=>exact ⟨x::S,by rw [Xj,Gp,Jj];simp only [if_true];rw [e];rfl,h.cons₂ x⟩
  | false=>exact ⟨S,by rw [Xj,Gp,Jj];simp only [Zk,if_false];rw [e],h.cons x⟩
def b5f (K:Qe):Sp:=fun vs H Q _=>∃(a:Addr) (ns:List Int),vs=[.ref a]∧SqL K H a (ns.map V.int)∧ns.length≤63∧∀H',Q (.bl true) H'
theorem b1T {K:Qe} {H:Hp} {a:Addr} {ns:List Int} (hl:ns.length≤63) (_:b8N H) (hS:SqL K H a (ns.map V.int)):b5f K [.ref a] H (fun v _=>v=.bl true) fun _ _ _=>False:=⟨a,ns,rfl,hS,hl,fun _=>rfl⟩
end K56
namespace K56
open PySem L2 Tx
local macro_rules
 | `(‹$n:num›)=>`(@pv _ $n _ _ (by rfl) (by first | exact c6G rfl | exact c6b rfl | exact c6O rfl) ‹dc› ‹dc›)
local macro_rules | `(tactic| trivial)=>`(tactic| first | exact Or.inl rfl | exact Or.inr rfl | assumption)
set_option hygiene false
local macro_rules
 | `(‹($x)›)=>`(‹$x›)
 | `(‹A0 $a $b›)=>`(@b4G _ _ _ _ _ ‹$a› ‹$b› (by rfl))
 | `(‹A1›)=>`(@b6A _)
 | `(‹A2›)=>`(@b7l _ _ _ _)
 | `(‹A3 $a›)=>`(@b4A _ _ _ ‹$a›)
 | `(‹A4 $a $b›)=>`(@b2D _ _ _ _ _ ‹$a› ‹$b›)
 | `(‹A5 $a $b $c›)=>`(@c0V _ _ _ _ _ _ _ _ $a ‹$b› ‹$c›)
 | `(‹A6 $a›)=>`(@b9o _ _ _ _ ‹$a›)
 | `(‹A7 $a $b $c $d $e›)=>`(@b5B _ _ _ _ _ _ _ _ _ _ _ _ _ _ _ _ $a (hr.mono ‹dc›) rfl $b $c $d .nil b0h ‹$e› ‹dc› (by rfl) (by rfl))
 | `(‹A8 $a $b $c›)=>`(@b7H _ _ $a _ _ _ _ $b rfl (by trivial) ‹$c› (by rfl) (by trivial))
 | `(‹A9 $a $b $c $d›)=>`(@b5q _ _ _ _ _ _ _ _ $a ‹$b› ‹$c› $d)
 | `(‹B0 $a $b $c›)=>`(@c0o _ _ _ _ _ _ _ $a ‹$b› ‹$c› (fun _ _=>rfl))
 | `(‹B1 $a $b›)=>`(@b4P _ _ $a _ $b rfl (by trivial) (by trivial))
 | `(‹B2 $a $b $c›)=>`(@c0C _ _ _ _ _ _ _ _ ‹$a› ‹$b› ‹$c›)
 | `(‹B3›)=>`(@b4l _)
 | `(‹B4›)=>`(@c0O _ _ _ _)
 | `(‹B5›)=>`(@b7Q _ _ _ _)
 | `(‹B6 $a $b $c $d›)=>`(@b2r _ _ _ _ _ _ _ _ _ $a rfl $b $c ‹$d› ‹dc› ‹dc› (by rfl) (by rfl))
 | `(‹B7 $a›)=>`(@b5H _ _ _ _ ‹$a›)
 | `(‹B8 $a $b $c $d›)=>`(@a9O _ $a $b $c $d _ rfl rfl ‹dk›)
 | `(‹B9 $a›)=>`(@b7K _ _ _ _ ‹$a›)
 | `(‹C0 $a›)=>`(@b6p _ _ _ ‹$a› (by intro _;rfl))
 | `(‹C1 $a›)=>`(@PW.pt _ _ _ ‹$a›)
 | `(‹C2 $a›)=>`(@b3g _ _ _ _ _ ‹$a› rfl)
 | `(‹C3 $a $b $c $d $e›)=>`(@b4f _ _ _ _ _ _ _ _ _ _ _ _ _ ‹$a› rfl ‹$b› (fun _ _ _ _ _=>‹$c›) (fun _ _ _ _ _=>‹$d›) (fun _ _ _ _ _=>‹$e›) (by intro _;rfl))
 | `(‹C4 $a $b $c $d $e›)=>`(@b1K _ _ _ _ _ _ _ _ _ _ _ _ _ _ _ _ _ ‹$a› $b $c $d (hr.mono ‹dc›) $e .nil b0h (by rfl))
 | `(‹C5 $a $b $c›)=>`(@b7h _ _ _ _ _ _ _ _ PassesOwn.never rfl ‹$a› ‹$b› ‹$c› (by intro _;rfl))
 | `(‹C6 $a $b›)=>`(@b5K _ _ _ _ _ ‹$a› ‹$b›)
 | `(‹C7 $a $b $c $d›)=>`(@b1y _ _ _ _ _ _ _ _ _ $a rfl $b $c ‹$d› ‹dc› ‹dc› (by rfl) (by rfl))
 | `(‹C8 $a $b $c $d $e $f›)=>`(@c0y _ _ _ _ _ _ _ _ _ _ _ _ $a $b $c $d ‹$e› ‹$f› (by rfl) (by rfl) (by rfl) (by rfl) (by rfl))
 | `(‹C9 $a›)=>`(@b5d _ _ _ _ ‹$a› (by rfl))
 | `(‹D0 $a›)=>`(@b9P _ _ _ _ _ ‹$a›)
 | `(‹D1 $a›)=>`(@b4t _ _ _ ‹$a›)
 | `(‹D2 $a $b›)=>`(@b8V _ _ _ _ _ _ _ ‹$a› ‹$b›)
 | `(‹D3 $a›)=>`(@b5P _ _ _ ‹$a›)
 | `(‹D4 $a $b›)=>`(@b8o _ _ _ _ ‹$a› ‹$b›)
 | `(‹D5 $a›)=>`(@b5M _ _ _ _ ‹$a›)
 | `(‹D6 $a $b $c $d›)=>`(@b2l _ _ _ _ _ _ _ _ _ _ $a ‹$b› ‹$c› ‹$d›)
 | `(‹D7›)=>`(@b4F _)
 | `(‹D8 $a $b›)=>`(@c0t _ _ _ _ _ _ _ ‹$a› ‹$b›)
 | `(‹D9 $a›)=>`(@b8G _ _ _ _ ‹$a›)
 | `(‹E0›)=>`(@b5E _)
 | `(‹E1 $a›)=>`(@b8Z _ _ _ _ ‹$a›)
 | `(‹E2 $a›)=>`(@b5D _ (K) _ _ _ _ rfl ‹$a› rfl)
 | `(‹E3 $a $b $c $d $e $f $g›)=>`(@a8m _ _ _ _ _ _ _ _ _ _ _ _ _ $a _ _ _ ‹$b› rfl ‹$c› (fun _ _ _ _ _=>‹$d›) (fun _ _ _ _ _=>‹$e›) (fun _ _ _ _ _=>‹$f›) $g rfl (by trivial) rfl (by intro _;rfl) (by trivial))
 | `(‹E4 $a $b›)=>`(@b2f _ _ _ _ _ ‹$a› ‹$b› (by rfl))
 | `(‹E5 $a $b $c $d $e›)=>`(@b4z _ _ _ _ _ _ _ _ _ _ _ _ _ _ _ _ _ _ _ _ ‹$a› T.cl_Ground $b $c (hr.mono ‹dc›) $d .nil b0h ‹$e› (by rfl) (by rfl) (by rfl))
 | `(‹E6 $a›)=>`(@b6G _ _ _ _ ‹$a›)
 | `(‹E7 $a $b $c $d›)=>`(@b5I _ _ _ _ _ _ _ _ $a ‹$b› ‹$c› $d)
 | `(‹E8 $a $b $c›)=>`(@b5z _ _ $a _ _ rfl $b $c ‹dc›)
 | `(‹E9 $a $b›)=>`(@b6W _ _ _ _ _ _ _ _ ‹$a› ‹$b› rfl)
 | `(‹F0 $a›)=>`(@b7Z _ _ _ _ _ _ $a (by with_unfolding_all rfl))
 | `(‹F1 $a›)=>`(@b0p _ _ _ _ _ _ rfl T.z_range ‹$a› (by rfl))
 | `(‹F2 $a $b $c›)=>`(@b4n _ _ _ _ _ _ _ _ _ (a3p hr) ‹$a› ‹$b› ‹$c› rfl)
 | `(‹F3 $a $b $c $d $e›)=>`(@b4T _ _ _ _ _ _ _ _ _ _ _ _ _ _ _ _ _ $a $b (hr.mono ‹dc›) rfl $c $d .nil b0h ‹$e› ‹dc› (by rfl) (by rfl))
 | `(‹F4›)=>`(@b2L _ _)
 | `(‹F5 $a›)=>`(@b7x _ _ _ _ _ _ $a (by with_unfolding_all rfl))
 | `(‹F6 $a $b›)=>`(@b6H _ _ _ _ ‹$a› ‹$b›)
 | `(‹F7›)=>`(@b4s _)
 | `(‹F8 $a›)=>`(@b9M _ _ _ _ _ ‹$a›)
 | `(‹F9 $a $b›)=>`(@c0H _ _ _ _ _ _ _ ‹$a› ‹$b›)
 | `(‹G0 $a›)=>`(@b8J _ _ _ _ ‹$a›)
 | `(‹G1 $a›)=>`(@b4S _ _ _ _ _ _ _ _ rfl T.z_enumerate ‹$a› (by rfl))
 | `(‹G2 $a›)=>`(@b5N _ (K) _ _ _ _ (2) rfl rfl ‹$a› (by rfl) (by rfl))
 | `(‹G3 $a›)=>`(@b3O _ _ _ _ _ _ rfl ‹$a› (by rfl) (by rfl))
 | `(‹G4 $a $b›)=>`(@b8r _ _ _ _ _ _ ‹$a› ‹$b› (by rfl) (by rfl) (by rfl))
 | `(‹G5 $a›)=>`(@c0M _ _ _ _ _ _ b6L ‹$a›)
 | `(‹G6 $a $b›)=>`(@b1O _ _ _ _ _ _ PassesOwn.never ‹$a› ‹$b›)
 | `(‹G7 $a›)=>`(@a8H _ _ _ _ _ _ _ rfl rfl T.z_list rfl T.z_reversed ‹$a› (by rfl) (by rfl))
 | `(‹G8 $a $b $c $d›)=>`(@b1Z _ _ _ _ _ _ _ _ _ ‹$a› ‹$b› ‹$c› $d)
 | `(‹G9›)=>`(@b2h _ _)
 | `(‹H0 $a $b $c $d $e›)=>`(@b2Q _ _ _ _ _ _ _ _ _ $a ‹$b› ‹$c› ‹$d› $e)
 | `(‹H1 $a $b $c›)=>`(@b1U _ _ _ _ _ _ _ _ ‹$a› ‹$b› ‹$c›)
 | `(‹H2 $a $b›)=>`(@b8K _ _ _ _ _ _ _ ‹$a› ‹$b›)
 | `(‹H3 $a $b $c›)=>`(@b1D _ _ _ _ _ $a ‹$b› ‹$c›)
 | `(‹H4›)=>`(@a6x _ _)
 | `(‹H5 $a $b $c›)=>`(@a8T _ _ _ _ _ _ _ $a $b ‹$c› (by rfl) (by rfl))
 | `(‹H6 $a $b $c›)=>`(@b9u _ _ _ _ _ _ _ ‹$a› ‹$b› $c (by intro _;rfl))
 | `(‹H7 $a $b $c $d $e $f $g $h›)=>`(@b1W _ _ _ _ _ _ _ _ _ _ _ _ _ _ _ _ _ _ _ _ ‹$a› $b $c $d $e $f $g ‹$h› (by rfl) (by rfl) (by rfl))
 | `(‹H8 $a $b $c $d $e›)=>`(@b7e _ _ _ _ _ _ _ _ _ $a $b $c $d ‹$e› (by rfl) (by rfl))
 | `(‹H9 $a $b $c $d $e›)=>`(@b4Q _ _ $a _ _ $b $c $d $e ‹dc› ‹dc›)

section
variable {P:Program} {w:World} {K:Qe} {mg:Str→Option Value} {base:Heap} {t:Adr}
theorem b7O (T:Txt K mg t):a1a P w K mg base CX0 1 t.f_z0h t.fd_z0h ["self","rules","pairs"] (c0s t):=by
 refine T.F_z0h.ok b1C (fun vs H Q E h=>?_) (fun cdv A outer s H vs Q E hr h=>?_)
 ·obtain ⟨x,dx,b,pb,xs,rs,ps,pl,rfl,hx,hb,hA,hO,hrl,hpb,hPr,hpll,q⟩:=h;rfl
 ·obtain ⟨x,dx,b,pb,xs,rs,ps,pl,rfl,hx,hb,hA,hO,hrl,hpb,hPr,hpll,q⟩:=h
  refine ⟨_,‹A4 (E9 0 (C7 a4C T.z_tuple a3R (A0 1 A1))) (A4 (E9 0 F4) (A4 (C5 (E6 (C2 0)) (B1 3 b1C.nd) (A3 (C9 (C8 Xi Xp Xq a0E (G8 (C2 0) (C2 3) (B9 A1) ⟨rfl,rfl,rfl,rfl⟩) (A0 3 A1))))) (A4 (E9 0 G9) (A3 (C5 (B7 2) (B1 4 b1C.nd) (A3 (F2 (C2 0) (D0 (A0 (B0 a0i 4 A2) (A0 (B0 a0i 4 A2) A1))) B4)))))))›,?_⟩
  rw [show a0t b7N [V.ref x,V.ref b,V.ref pb]=[some (V.ref x),some (V.ref b),some (V.ref pb),none,none] from rfl]
  have hxl:=hA.len
  simp only [a1x,c0g,tCB,a0h,a0l,Qb,Qa,a0v,a6n,a0J,b3n,a3s,a0b]
  refine ⟨b,xs,rfl,.inl ⟨SqL.of hb,fun io hio=>?_⟩⟩
  obtain ⟨H1,e1,s1,h1⟩:=a0I hio (.tup xs);rw [e1]
  have hiox:io≠x:=fun z=>by rw [z,hx] at hio;cases hio
  refine ⟨x,t.C_Ground,dx,_,rfl,s1 _ _ hx,T.cl_Ground,T.nf_Ground_in_order,by show 0 < 1000;decide,?_⟩
  obtain ⟨H2,e2,k2,h2x,h2io⟩:∃H',upd H1 x (.ins t.C_Ground dx (a1F "in_order" (.ref io) []))=H'∧(∀c o,H c=some o→c≠x→H' c=some o)∧H' x=some (.ins t.C_Ground dx (a1F "in_order" (.ref io) []))∧H' io=some (.tup xs):=⟨_,rfl,fun c o e hc=>by rw [a0d hc];exact s1 _ _ e,a0e,by rw [a0d hiox];exact h1⟩
  rw [e2]
  intro bh hbh
  obtain ⟨H3,e3,s3,h3⟩:=a0I hbh (.dK []);rw [e3]
  have hbhx:bh≠x:=fun z=>by rw [z,h2x] at hbh;cases hbh
  have hbhn:H bh=none:=by
   cases e:H bh with
   | none=>rfl
   | some o=>rw [k2 _ _ e hbhx] at hbh;cases hbh
  refine ⟨x,t.C_Ground,dx,_,rfl,s3 _ _ h2x,T.cl_Ground,T.nf_Ground_by_head,by show 1 < 1000;decide,?_⟩
  have e2f:a1F "by_head" (V.ref bh) (a1F "in_order" (V.ref io) [])=([("in_order",V.ref io),("by_head",V.ref bh)]:List (Str×V)):=by
   show (if ("in_order":Str)="by_head" then _ else _)=_
   rw [if_neg ‹dk›];rfl
  obtain ⟨H4,e4,k4,h4x,h4io,h4bh⟩:∃H',upd H3 x (.ins t.C_Ground dx (a1F "by_head" (.ref bh) (a1F "in_order" (.ref io) [])))=H'∧(∀c o,H c=some o→c≠x→H' c=some o)∧H' x=some (.ins t.C_Ground dx (a1F "by_head" (.ref bh) (a1F "in_order" (.ref io) [])))∧H' io=some (.tup xs)∧H' bh=some (.dK []):=
   ⟨_,rfl,fun c o e hc=>by rw [a0d hc];exact s3 _ _ (k2 c o e hc),a0e,by rw [a0d hiox];exact s3 _ _ h2io,by rw [a0d hbhx];exact h3⟩
  rw [e4]
  have lio:(a1F "by_head" (V.ref bh) (a1F "in_order" (V.ref io) [])).lookup ("in_order":Str)=some (V.ref io):=by rw [a0j,if_neg ‹dk›,a0j,if_pos rfl]
  have lbh:(a1F "by_head" (V.ref bh) (a1F "in_order" (V.ref io) [])).lookup ("by_head":Str)=some (V.ref bh):=by rw [a0j,if_pos rfl]
  refine ⟨x,_,dx,_,_,rfl,h4x,T.cl_Ground,T.nf_Ground_in_order,lio,?_⟩
  simp only [a1o]
  refine ⟨⟨_,SqT.of h4io⟩,?_⟩
  refine a3H (K:=K) (a:=io) (xs:=xs) (fun i σ H'=>∃(kvs:List (Key×V)) (y3:Option V),σ=[some (V.ref x),some (V.ref b),some (V.ref pb),y3,none]∧(∀c o,H c=some o→c≠x→H' c=some o)∧H' x=some (.ins t.C_Ground dx (a1F "by_head" (.ref bh) (a1F "in_order" (.ref io) [])))∧H' io=some (.tup xs)∧H' bh=some (.dK kvs)∧kvs.length≤i∧
    (∀h:Str,(a1Z kvs (Sum.inr h:Key)=none∧hdF (rs.take i) h=[])∨∃L ys,a1Z kvs (Sum.inr h:Key)=some (.ref L)∧H L=none∧H' L=some (.lst ys)∧ys.length≤i∧a2e t H ys (hdF (rs.take i) h))∧
    (∀(h h':Str) (L:Addr),a1Z kvs (Sum.inr h:Key)=some (.ref L)→a1Z kvs (Sum.inr h':Key)=some (.ref L)→h=h'))
   ⟨[],_,rfl,k4,h4x,h4io,h4bh,Qk _,fun h=>.inl ⟨rfl,rfl⟩,fun h h' L e=>by cases e⟩ (fun i σ H' _ h=>by obtain ⟨_,_,_,_,_,h,_⟩:=h;exact SqT.of h) ?_ ?_
  ·rintro i v σ H5 hi ⟨kvs,y3,rfl,k5,h5x,h5io,h5bh,hkl,hF,hinj⟩
   have hil:i < rs.length:=by rw [←hA.len];exact (Xa.mp hi).1
   obtain ⟨v',ev,p,rfl,hp⟩:=hA.get i rs[i] (Qc hil)
   rw [hi] at ev;cases ev
   have hro:=hO _ (Qv hil)
   have CF:=a5b T hro.1
   have hru:a7g t H (.ref p) rs[i]:=⟨p,rfl,hp⟩
   have esn:∀h,hdF (rs.take (i+1)) h=hdF (rs.take i) h++(if rs[i].2.2.1=h then [rs[i]] else []):=fun h=>by
    unfold hdF
    rw [Xe hil,Jz,Jh]
    by_cases z:rs[i].2.2.1=h
    ·rw [if_pos z,if_pos (decide_eq_true z)];rfl
    ·rw [if_neg z,if_neg (by simpa using z)];rfl
   generalize rs[i]=r at hp hro CF hru esn
   obtain ⟨dx',t0,hp1,hp2⟩:=hp
   have hpx:p≠x:=fun z=>by
    rw [z,hx] at hp1
    injection hp1 with hp1
    injection hp1 with _ _ h3
    have:=a0Z (.str r.2.1) (.str r.2.2.1) t0
    rw [←h3] at this;cases this
   have hp5:=k5 _ _ hp1 hpx
   simp only [a0s,a2X,tBM,b3K,a3s,a0l,Qg,Qh,Qa,Qb,a4a,a0v,a0h,a0b]
   refine ⟨x,_,dx,_,_,rfl,h5x,T.cl_Ground,T.nf_Ground_by_head,lbh,?_⟩
   simp only [a1o]
   refine ⟨b3J h5bh,p,_,dx',_,_,rfl,hp5,CF.cl,CF.nh,a0Z _ _ _,by decide,fun N hN=>?_⟩
   obtain ⟨H6,e6,s6,h6⟩:=a0I hN (.lst []);rw [e6]
   have hNx:N≠x:=fun z=>by rw [z,h5x] at hN;cases hN
   have hNio:N≠io:=fun z=>by rw [z,h5io] at hN;cases hN
   have hNbh:N≠bh:=fun z=>by rw [z,h5bh] at hN;cases hN
   have hNn:H N=none:=by
    cases e:H N with
    | none=>rfl
    | some o=>rw [k5 _ _ e hNx] at hN;cases hN
   refine ⟨kvs,Sum.inr r.2.2.1,s6 _ _ h5bh,rfl,Xv (show kvs.length≤1000 by omega) ‹dc›,fun u hu=>?_,fun hu=>?_⟩
   ·rcases hF r.2.2.1 with ⟨e,_⟩ | ⟨L,ys,e,hLn,hL5,hyl,hR⟩
    ·rw [e] at hu;cases hu
    rw [e] at hu;cases hu
    have hL6:=s6 _ _ hL5
    have hLx:L≠x:=a1S hL5 h5x ‹iz›
    have hLio:L≠io:=a1S hL5 h5io ‹iz›
    have hLbh:L≠bh:=a1S hL5 h5bh ‹iz›
    try skip
    refine ⟨.inl ⟨rfl,_,SqL.of hL6⟩,L,_,_,rfl,rfl,hL6,Xv (show ys.length≤1000 by omega) ‹dc›,?_⟩
    refine ⟨kvs,_,rfl,fun c o e hc=>?_,?_,?_,?_,by omega,fun h=>?_,hinj⟩
    ·rw [a0d (a0c e hLn)];exact s6 _ _ (k5 c o e hc)
    ·rw [a0d hLx.symm];exact s6 _ _ h5x
    ·rw [a0d hLio.symm];exact s6 _ _ h5io
    ·rw [a0d hLbh.symm];exact s6 _ _ h5bh
    ·rw [esn]
     by_cases z:r.2.2.1=h
     ·subst z
      rw [if_pos rfl]
      refine .inr ⟨L,ys++[V.ref p],e,hLn,a0e,by simp;omega,?_⟩
      refine ⟨by simp [hR.len],fun j r' ej=>?_⟩
      by_cases hj:j < (hdF (rs.take i) r.2.2.1).length
      ·rw [Yx hj] at ej
       rw [Yx (by rw [hR.len];exact hj)]
       exact hR.get j r' ej
      ·rw [Ys ‹om›] at ej
       rw [Ys (by rw [hR.len];omega),hR.len]
       have hj0:=(Xa.mp ej).1
       have ej0:j - (hdF (rs.take i) r.2.2.1).length=0:=by simp at hj0;omega
       rw [ej0] at ej ⊢
       cases ej
       exact ⟨_,rfl,hru⟩
     ·rw [if_neg z,Qf]
      rcases hF h with ⟨e',g⟩ | ⟨L',ys',e',g1,g2,g3,g4⟩
      ·exact .inl ⟨e',g⟩
      ·refine .inr ⟨L',ys',e',g1,?_,by omega,g4⟩
       have:L'≠L:=fun w=>z (hinj _ _ L e (by rw [←w];exact e'))
       rw [a0d this];exact s6 _ _ g2
   ·try skip
    have hbN:bh≠N:=hNbh.symm
    refine ⟨.inl ⟨rfl,_,SqL.of (show upd H6 bh (.dK (a4e kvs (Sum.inr r.2.2.1) (V.ref N))) N=some (.lst []) by rw [a0d hNbh];exact h6)⟩,N,_,_,rfl,rfl,(by rw [a0d hNbh];exact h6),by decide,?_⟩
    have kvl:=a1w kvs (Sum.inr r.2.2.1:Key) (V.ref N)
    refine ⟨a4e kvs (Sum.inr r.2.2.1) (V.ref N),_,rfl,fun c o e hc=>?_,?_,?_,?_,by omega,fun h=>?_,fun h h' L e1 e2=>?_⟩
    ·rw [a0d (a0c e hNn),a0d (a0c e hbhn)];exact s6 _ _ (k5 c o e hc)
    ·rw [a0d hNx.symm,a0d hbhx.symm];exact s6 _ _ h5x
    ·rw [a0d hNio.symm,a0d (a1S h5io h5bh ‹iz›)];exact s6 _ _ h5io
    ·rw [a0d hbN,a0e]
    ·rw [esn,a3v]
     by_cases z:r.2.2.1=h
     ·subst z
      rw [if_pos rfl,if_pos rfl]
      rcases hF r.2.2.1 with ⟨e',g⟩ | ⟨L',ys',e',_⟩
      ·rw [g]
       refine .inr ⟨N,[V.ref p],rfl,hNn,a0e,by simp,⟨rfl,fun j r' ej=>?_⟩⟩
       cases j with
       | zero=>cases ej;exact ⟨_,rfl,hru⟩
       | succ j=>simp at ej
      ·rw [e'] at hu;cases hu
     ·rw [if_neg z,Qf,if_neg (fun w=>z (Sum.inr.inj w).symm)]
      rcases hF h with ⟨e',g⟩ | ⟨L',ys',e',g1,g2,g3,g4⟩
      ·exact .inl ⟨e',g⟩
      ·refine .inr ⟨L',ys',e',g1,?_,by omega,g4⟩
       have hLN:L'≠N:=fun w=>by rw [w,hN] at g2;cases g2
       rw [a0d hLN,a0d (a1S g2 h5bh ‹iz›)];exact s6 _ _ g2
    ·rw [a3v] at e1 e2
     by_cases z1:(Sum.inr h:Key)=Sum.inr r.2.2.1
     ·by_cases z2:(Sum.inr h':Key)=Sum.inr r.2.2.1
      ·rw [Sum.inr.inj z1,Sum.inr.inj z2]
      ·rw [if_pos z1] at e1;cases e1
       rw [if_neg z2] at e2
       rcases hF h' with ⟨e',_⟩ | ⟨L',ys',e',_,g2,_⟩
       ·rw [e'] at e2;cases e2
       ·rw [e'] at e2;cases e2;rw [hN] at g2;cases g2
     ·rw [if_neg z1] at e1
      by_cases z2:(Sum.inr h':Key)=Sum.inr r.2.2.1
      ·rw [if_pos z2] at e2;cases e2
       rcases hF h with ⟨e',_⟩ | ⟨L',ys',e',_,g2,_⟩
       ·rw [e'] at e1;cases e1
       ·rw [e'] at e1;cases e1;rw [hN] at g2;cases g2
      ·rw [if_neg z2] at e2
       exact hinj _ _ L e1 e2
  rintro σ H5 ⟨kvs,y3,rfl,k5,h5x,h5io,h5bh,hkl,hF,hinj⟩
  rw [show rs.take xs.length=rs by rw [hxl];exact Xy] at hF
  simp only [a1x,c0g,a0l,Qa,a0J,a1c,Qb,a0b,a1o]
  intro pr hpr
  obtain ⟨H6,e6,s6,h6⟩:=a0I hpr (.dT []);rw [e6]
  have hprx:pr≠x:=fun z=>by rw [z,h5x] at hpr;cases hpr
  have hprn:H pr=none:=by
   cases e:H pr with
   | none=>rfl
   | some o=>rw [k5 _ _ e hprx] at hpr;cases hpr
  refine ⟨x,t.C_Ground,dx,_,rfl,s6 _ _ h5x,T.cl_Ground,T.nf_Ground_pairs,by rw [e2f];show 2 < 1000;decide,?_⟩
  rw [show a1F "pairs" (V.ref pr) (a1F "by_head" (V.ref bh) (a1F "in_order" (V.ref io) []))=gfl io bh pr from rfl]
  obtain ⟨as,eas,hal,hat⟩:=hPr
  have hiopr:io≠pr:=fun z=>by rw [z,hpr] at h5io;cases h5io
  have hbhpr:bh≠pr:=fun z=>by rw [z,hpr] at h5bh;cases h5bh
  have base:∀H',(∀c o,upd H6 x (.ins t.C_Ground dx (gfl io bh pr)) c=some o→c≠pr→H' c=some o)→(∀c o,H c=some o→c≠x→H' c=some o)∧(∀kps,H' pr=some (.dT kps)→c0A kps pl→a5l t H' x rs pl):=fun H' kk=>by
   have k7:∀c o,H c=some o→c≠x→H' c=some o:=fun c o e hc=>kk c o (by rw [a0d hc];exact s6 _ _ (k5 c o e hc)) (a0c e hprn)
   refine ⟨k7,fun kps hk hp=>⟨dx,io,bh,pr,xs,kvs,kps,kk _ _ a0e hprx.symm,kk _ _ (by rw [a0d hiox];exact s6 _ _ h5io) hiopr,hA.refs hx k7,kk _ _ (by rw [a0d hbhx];exact s6 _ _ h5bh) hbhpr,fun h=>?_,hk,hp⟩⟩
   rcases hF h with z | ⟨L,ys,e,_,g2,_,g4⟩
   ·exact .inl z
   ·exact .inr ⟨L,ys,e,kk _ _ (by rw [a0d (a1S g2 h5x ‹iz›)];exact s6 _ _ g2) (fun z=>by rw [z,hpr] at g2;cases g2),g4.refs hx k7⟩
  have hpb7:upd H6 x (.ins t.C_Ground dx (gfl io bh pr)) pb=some (.lst ps):=by
   have hpx:=a1S hpb hx ‹iz›
   rw [a0d hpx];exact s6 _ _ (k5 _ _ hpb hpx)
  have hpr7:upd H6 x (.ins t.C_Ground dx (gfl io bh pr)) pr=some (.dT []):=by rw [a0d hprx];exact h6
  have hx7:upd H6 x (.ins t.C_Ground dx (gfl io bh pr)) x=some (.ins t.C_Ground dx (gfl io bh pr)):=a0e
  have hpbpr:pb≠pr:=a0c hpb hprn
  obtain ⟨H7,e7⟩:∃H7,upd H6 x (.ins t.C_Ground dx (gfl io bh pr))=H7:=⟨_,rfl⟩
  rw [e7] at base hpb7 hpr7 hx7 ⊢
  refine ⟨⟨_,SqL.of hpb7⟩,?_⟩
  refine a1j (K:=K) (a:=pb) (xs:=ps) (fun i σ H'=>∃(kps:List (List Key×V)) (y4:Option V),σ=[some (V.ref x),some (V.ref b),some (V.ref pb),y3,y4]∧(∀c o,H7 c=some o→c≠pr→H' c=some o)∧H' pr=some (.dT kps)∧kps.length≤i∧c0A kps (pl.take i))
   ⟨[],_,rfl,fun c o e _=>e,hpr7,Qk _,fun a b=>by rw [Wt,if_neg (by simp)];rfl⟩ (fun i σ H' _ h=>by obtain ⟨_,_,_,kk,_⟩:=h;exact SqL.of (kk _ _ hpb7 hpbpr)) ?_ ?_
  ·rintro i v σ H8 hi ⟨kps,y4,rfl,kk,h8,hkl8,hpo⟩
   have hil:i < as.length:=by
    have:=(Xa.mp hi).1
    rw [eas,Qd] at this;exact this
   have hil':i < pl.length:=by omega
   have ev:v=V.ref as[i]:=by
    rw [eas,Qr,Qc hil] at hi
    exact (Option.some.inj hi).symm
   subst ev
   have hp:=hat i _ _ (Qc hil) (Qc hil')
   have hp8:=(base H8 kk).1 _ _ hp (a1S hp hx ‹iz›)
   have hx8:=kk _ _ hx7 hprx.symm
   rw [Xe hil']
   generalize pl[i]=pp at hp hp8
   generalize pl.take i=pt at hpo
   simp only [a0s,a6A,tC,a3s,a0l,Qg,Qh,Qa,a6u,a0h,tOp,Qb,a0v,a0b]
   refine ⟨x,_,dx,_,_,rfl,hx8,T.cl_Ground,T.nf_Ground_pairs,b2R _ _ _,?_⟩
   refine a0V (SqT.of hp8) rfl (a0V (SqT.of hp8) rfl ⟨by simp only [Qt,Xl];decide,fun c hc=>?_⟩)
   obtain ⟨H9,e9,s9,h9⟩:=a0I hc (.tup [V.str pp.1,V.str pp.2]);rw [e9]
   refine ⟨pr,_,rfl,b1E.t (k:=[Sum.inr pp.1,Sum.inr pp.2]) (s9 _ _ h8) h9 (Xv (show kps.length≤1000 by omega) ‹dc›),a4e kps [Sum.inr pp.1,Sum.inr pp.2] (V.bl true),_,rfl,?_,a0e,by have:=a1w kps ([Sum.inr pp.1,Sum.inr pp.2]:List Key) (V.bl true);omega,fun a b=>?_⟩
   ·intro d o e hd;rw [a0d hd];exact s9 _ _ (kk d o e hd)
   ·rw [a3v,hpo]
    by_cases z:(a,b)=pp
    ·rw [if_pos (by rw [←z]),if_pos (by rw [←z];simp)]
    ·rw [if_neg (fun w=>z (by
      have w1:=congrArg (fun l:List Key=>l.head?) w
      have w2:=congrArg (fun l:List Key=>l.getLast?) w
      simp at w1 w2
      exact Prod.ext w1 w2))]
     by_cases y:(a,b)∈pt
     ·rw [if_pos y,if_pos (Zx _ y)]
     ·rw [if_neg y,if_neg (by simp [y,z])]
  ·rintro σ H8 ⟨kps,y4,rfl,kk,h8,hkl8,hpo⟩
   rw [show pl.take ps.length=pl by rw [eas,Qd,hal,Xy]] at hpo
   simp only []
   obtain ⟨b1,b2⟩:=base H8 kk
   exact q _ b1 (b2 kps h8 hpo)
theorem b0T (T:Txt K mg t):a1a P w K mg base CX0 1 t.f_z04 t.fd_z04 ["self","statement"] (a7Y t):=by
 refine T.F_z04.ok b8D (fun vs H Q E h=>?_) (fun cdv A outer s H vs Q E hr h=>?_)
 ·obtain ⟨g,h,rs,pl,rfl,hG,q⟩:=h;rfl
 ·obtain ⟨g,h,rs,pl,rfl,hG,q⟩:=h
  refine ⟨_,‹A3 (A6 (C7 a0u T.z_list a0z (A0 (H0 (a3p hr) (C2 0) 1 (B9 A1) ⟨rfl,rfl,rfl,rfl⟩) A1)))›,?_⟩
  rw [show a0t b7y [V.ref g,V.str h]=[some (V.ref g),some (V.str h)] from rfl]
  obtain ⟨dx,io,bh,pr,xs,kvs,kps,h1,h2,h3,h4,h5,_⟩:=hG
  simp only [a0O,tCB,a0h,b3l,a3s,a0l,Qa,Qb,a4a,a0v,a0b]
  refine ⟨g,_,dx,_,_,rfl,h1,T.cl_Ground,T.nf_Ground_by_head,b8g _ _ _,?_⟩
  simp only [a1o]
  refine ⟨b3J h4,by decide,fun N hN=>?_⟩
  obtain ⟨H6,e6,s6,h6⟩:=a0I hN (.lst []);rw [e6]
  refine ⟨_,a5m.k (k:=(Sum.inr h:Key)) (s6 _ _ h4),?_⟩
  rcases h5 h with ⟨e,g5⟩ | ⟨L,ys,e,g2,g4⟩
  ·rw [e]
   refine ⟨N,_,rfl,.inl (SqL.of h6),fun l hl=>?_⟩
   obtain ⟨H7,e7,s7,h7⟩:=a0I hl (.lst []);rw [e7]
   refine q l [] _ (s6.trans s7) (none_of s6 hl) h7 ?_
   rw [g5];exact ⟨rfl,fun i r e=>by simp at e⟩
  ·rw [e]
   refine ⟨L,_,rfl,.inl (SqL.of (s6 _ _ g2)),fun l hl=>?_⟩
   obtain ⟨H7,e7,s7,h7⟩:=a0I hl (.lst ys);rw [e7]
   exact q l ys _ (s6.trans s7) (none_of s6 hl) h7 (g4.same (s6.trans s7))
theorem a4E (T:Txt K mg t):a1a P w K mg base CX0 1 t.f_z17 t.fd_z17 ["statement"] b9Y:=by
 refine T.F_z17.ok b8x (fun vs H Q E h=>?_) (fun cdv A outer s H vs Q E hr h=>?_)
 ·obtain ⟨z,rfl,hz,q⟩:=h;rfl
 ·obtain ⟨z,rfl,hz,q⟩:=h
  refine ⟨_,‹A3 (A6 (H1 (C0 (C8 Ui PySem.F.slot_str_startswith PySem.F.type_str_startswith b1m 0 (A0 B5 A1))) (D6 a1I 0 (D3 A2) E0) (A5 a0k B5 0)))›,?_⟩
  rw [show a0t b8y [V.str z]=[some (V.str z)] from rfl]
  unfold a1G at q
  simp only [a0O,tIf,tB,tBM,a0l,Qa,a0h,tC,a0v,tSl,a3n,a1T,a3M,a0b,a7r,tOp,a1Y,a8e,a1q,b0f]
  refine a0S (fun c=>?_) (fun c=>?_)
  ·rw [if_pos c] at q
   exact ⟨a2S ‹om›,q⟩
  ·rw [if_neg c] at q
   exact ⟨Qj (Vi (show (Xw "-").length≤1 by decide+kernel) hz) ‹dc›,q⟩
theorem b3H (T:Txt K mg t):a1a P w K mg base CX0 2 t.f_z03 t.fd_z03 ["self","statement"] (b0X t):=by
 refine T.F_z03.ok b9S (fun vs H Q E h=>?_) (fun cdv A outer s H vs Q E hr h=>?_)
 ·obtain ⟨g,h,rs,pl,rfl,hG,hO,hhl,q⟩:=h;rfl
 ·obtain ⟨g,h,rs,pl,rfl,hG,hO,hhl,q⟩:=h
  refine ⟨_,‹A3 (A6 (E5 0 T.me_Ground_ruling (b0T T) T.b_z04 (A0 (A7 (a4E T) T.g_z17 T.F_z17.kp T.b_z17 (A0 1 A1)) A1)))›,?_⟩
  rw [show a0t b8t [V.ref g,V.str h]=[some (V.ref g),some (V.str h)] from rfl]
  obtain ⟨dx,io,bh,pr,_,_,_,hg1,_⟩:=id hG
  simp only [a0O,a2F,a0l,Qa,a0h,a0B,Qb,a0v,Qf,a0b]
  refine ⟨g,dx,_,rfl,hg1,a2A _ _ _ ‹dk› ‹dk› ‹dk›,h,rfl,hhl,?_⟩
  refine ⟨g,a1G h,rs,pl,rfl,hG,fun W ys H3 s3 hWn hW3 hR3=>?_⟩
  obtain ⟨zr,ez1,ez2,hz⟩:=hR3.zip (fun r hr=>hO r (Xc.mp hr).1)
  subst ez1
  exact q W zr H3 s3 hWn hW3 hz ez2
theorem b7J (T:Txt K mg t):a1a P w K mg base CX0 1 t.f_z09 t.fd_z09 ["self"] (a1d false):=by
 refine T.F_z09.ok b7X (fun vs H Q E h=>?_) (fun cdv A outer s H vs Q E hr h=>?_)
 ·obtain ⟨x,rfl,q⟩:=h;rfl
 ·obtain ⟨x,rfl,q⟩:=h
  refine ⟨_,‹A3 (A6 B4)›,?_⟩
  rw [show a0t b8R [x]=[some (x)] from rfl]
  simp only [a0O,tC]
  exact q
theorem a9J (T:Txt K mg t):a1a P w K mg base CX0 1 t.f_z0e t.fd_z0e ["self"] (a1d true):=by
 refine T.F_z0e.ok b6u (fun vs H Q E h=>?_) (fun cdv A outer s H vs Q E hr h=>?_)
 ·obtain ⟨x,rfl,q⟩:=h;rfl
 ·obtain ⟨x,rfl,q⟩:=h
  refine ⟨_,‹A3 (A6 B4)›,?_⟩
  rw [show a0t b8Y [x]=[some (x)] from rfl]
  simp only [a0O,tC]
  exact q
theorem b3j (T:Txt K mg t):a1a P w K mg base CX0 2 t.f_z01 t.fd_z01 ["self","statement"] (a8h t):=by
 refine T.F_z01.ok b7V (fun vs H Q E h=>?_) (fun cdv A outer s H vs Q E hr h=>?_)
 ·obtain ⟨g,h,rs,pl,rfl,hG,hO,hrl,q⟩:=h;rfl
 ·obtain ⟨g,h,rs,pl,rfl,hG,hO,hrl,q⟩:=h
  refine ⟨_,‹A3 (A6 (C3 (B8 (a0a a7Q) b5k ["rule"] [none]) (B7 (E5 0 T.me_Ground_ruling (b0T T) T.b_z04 (A0 1 A1))) (B1 0 (show Xm (["rule"]:List Str) by decide+kernel)) (D1 (C0 (D4 (C4 0 T.cl_Fact T.me_Fact_speaks (a9J T) T.b_z0e) (D4 (C4 0 T.cl_Sure T.me_Sure_speaks (a9J T) T.b_z0e) (D4 (C4 0 T.cl_Most T.me_Most_speaks (a9J T) T.b_z0e) (C4 0 T.cl_Block T.me_Block_speaks (b7J T) T.b_z09)))))) 0))›,?_⟩
  rw [show a0t b5k [V.ref g,V.str h]=[some (V.ref g),some (V.str h)] from rfl]
  obtain ⟨dx,io,bh,pr,_,_,_,hg1,_⟩:=id hG
  simp only [a0O,a0p,a1c,a2F,a0l,Qa,a0h,Qb,a0v,Qf,a0b]
  refine ⟨g,dx,_,rfl,hg1,a2A _ _ _ ‹dk› ‹dk› ‹dk›,g,h,rs,pl,rfl,hG,fun W ys H3 s3 hWn hW3 hR3=>?_⟩
  obtain ⟨zr,ez1,ez2,hz⟩:=hR3.zip (fun r hr=>hO r (Xc.mp hr).1)
  subst ez1
  have hzl:zr.length≤63:=by
   have:=congrArg Zp ez2
   rw [Qd] at this
   rw [this];exact Qj (Qz _ _) hrl
  simp only [a1o]
  refine ⟨⟨_,SqL.of hW3⟩,?_⟩
  refine a1p zr hW3 ‹om› hz [] rfl spk (fun p=>p.1) (fun x r H' R ho hr s' hR=>?_) (fun x r H' R ho hr s' hR=>?_) (fun W2 H4 hW2n s4 hW4=>?_)
  ·simp only [tB]
   refine b6j ho.1 (a1k rfl) hr ⟨by decide+kernel,by decide+kernel,by decide+kernel⟩ ?_
   rw [a6G ho.1]
   simp only [a2Y,a1q]
   exact hR _ (a0g.refl _)
  ·simp only [a0l,Qa,a0b]
   exact hR _ (a0g.refl _)
  refine q W2 (zr.filter fun p=>spk p.2) H4 (s3.trans s4) (none_of s3 hW2n) hW4 (fun p hp=>(hz.same s4) p (Xc.mp hp).1) ?_
  rw [←ez2,Ze];rfl
theorem a6V (T:Txt K mg t):a1a P w K mg base CX0 1 t.f_z0t t.fd_z0t ["statements","some"] a7p:=by
 refine T.F_z0t.ok b8q (fun vs H Q E h=>?_) (fun cdv A outer s H vs Q E hr h=>?_)
 ·obtain ⟨t0,v,bd,S,rfl,ht,hl,hD,q⟩:=h;rfl
 ·obtain ⟨t0,v,bd,S,rfl,ht,hl,hD,q⟩:=h
  refine ⟨_,‹A3 (A6 (B6 (a1g rfl) T.z_all a2o (A0 (C3 (B8 (a0a a8K) b5w ["statement","some"] [none,some 1]) (E6 0) (B1 0 (show Xm (["statement","some"]:List Str) by decide+kernel)) D7 (D4 (F5 (a2L (a3p hr) ‹0› ‹1›)) (E7 (a9K (K:=K) rfl) 0 1 (by with_unfolding_all rfl)))) A1)))›,?_⟩
  rw [show a0t b5w [V.ref t0,v]=[some (V.ref t0),some (v)] from rfl]
  simp only [a0O,tCB,a0h,a0v,a0p,b3n,a0l,Qa,a0b,a1o]
  refine ⟨⟨_,SqT.of ht⟩,?_⟩
  refine a4p (b0M (xs:=bd.map V.str)) (Qj (show (bd.map V.str).length≤1000 by simpa using hl) ‹dc›) [some v] rfl (fun i v=>∃hi:i < bd.length,v=.bl (decide (bd[i]∈S))) (fun H' s=>SqT.of (s _ _ ht)) (fun i H' R hi s hR=>?_) (fun E1 H1 ys hEn s1 hE hl1 hv1=>?_)
  ·have hi':i < bd.length:=by simpa using hi
   have e2:((bd.map V.str)[i]?).getD .non=V.str bd[i]:=by rw [Qr,Qc hi'];rfl
   rw [e2]
   exact b0R (hD.same s) (a1k rfl) (a1k rfl) (hR _ _ (a0g.refl _) ⟨hi',rfl⟩)
  have eys:ys=(bd.map fun q=>decide (q∈S)).map V.bl:=by
   refine Ue fun i=>?_
   rw [Qr,Qr]
   by_cases hi:i < ys.length
   ·obtain ⟨hi',e⟩:=hv1 i _ (Qc hi)
    rw [Qc hi,e,Qc hi'];rfl
   ·rw [Zc ‹om›,Zc (by rw [Qd] at hl1;omega)];rfl
  subst eys
  refine ⟨E1,_,rfl,SqL.of hE,?_⟩
  have:=q _ s1
  rw [Ub];exact this
theorem b3P (T:Txt K mg t):a1a P w K mg base CX0 1 t.f_z0u t.fd_z0u ["statements","some"] b6k:=by
 refine T.F_z0u.ok b6h (fun vs H Q E h=>?_) (fun cdv A outer s H vs Q E hr h=>?_)
 ·obtain ⟨t0,v,bd,S,rfl,ht,hl,hD,q⟩:=h;rfl
 ·obtain ⟨t0,v,bd,S,rfl,ht,hl,hD,q⟩:=h
  refine ⟨_,‹A3 (A6 (B6 (a1f rfl) T.z_any a2q (A0 (C3 (B8 (a0a a8p) b4O ["statement","some"] [none,some 1]) (E6 0) (B1 0 (show Xm (["statement","some"]:List Str) by decide+kernel)) D7 (D4 (F5 (a2L (a3p hr) ‹0› ‹1›)) (E7 (a9K (K:=K) rfl) 0 1 (by with_unfolding_all rfl)))) A1)))›,?_⟩
  rw [show a0t b4O [V.ref t0,v]=[some (V.ref t0),some (v)] from rfl]
  simp only [a0O,tCB,a0h,a0v,a0p,b3n,a0l,Qa,a0b,a1o]
  refine ⟨⟨_,SqT.of ht⟩,?_⟩
  refine a4p (b0M (xs:=bd.map V.str)) (Qj (show (bd.map V.str).length≤1000 by simpa using hl) ‹dc›) [some v] rfl (fun i v=>∃hi:i < bd.length,v=.bl (decide (bd[i]∈S))) (fun H' s=>SqT.of (s _ _ ht)) (fun i H' R hi s hR=>?_) (fun E1 H1 ys hEn s1 hE hl1 hv1=>?_)
  ·have hi':i < bd.length:=by simpa using hi
   have e2:((bd.map V.str)[i]?).getD .non=V.str bd[i]:=by rw [Qr,Qc hi'];rfl
   rw [e2]
   exact b0R (hD.same s) (a1k rfl) (a1k rfl) (hR _ _ (a0g.refl _) ⟨hi',rfl⟩)
  have eys:ys=(bd.map fun q=>decide (q∈S)).map V.bl:=by
   refine Ue fun i=>?_
   rw [Qr,Qr]
   by_cases hi:i < ys.length
   ·obtain ⟨hi',e⟩:=hv1 i _ (Qc hi)
    rw [Qc hi,e,Qc hi'];rfl
   ·rw [Zc ‹om›,Zc (by rw [Qd] at hl1;omega)];rfl
  subst eys
  refine ⟨E1,_,rfl,SqL.of hE,?_⟩
  have:=q _ s1
  rw [Zr];exact this
theorem b9i (T:Txt K mg t):a1a P w K mg base CX0 1 t.f_z0b t.fd_z0b ["self","one","other"] (b4R t):=by
 refine T.F_z0b.ok b9f (fun vs H Q E h=>?_) (fun cdv A outer s H vs Q E hr h=>?_)
 ·obtain ⟨g,x,y,rs,pl,r1,r2,rfl,hG,h1,h2,o1,o2,q⟩:=h;rfl
 ·obtain ⟨g,x,y,rs,pl,r1,r2,rfl,hG,h1,h2,o1,o2,q⟩:=h
  refine ⟨_,‹A3 (A6 (F5 (a2L (a3p hr) ‹D0 (A0 (C2 1) (A0 (C2 2) A1))› ‹C2 0›)))›,?_⟩
  rw [show a0t b7w [V.ref g,V.ref x,V.ref y]=[some (V.ref g),some (V.ref x),some (V.ref y)] from rfl]
  obtain ⟨dx,io,bh,pr,_,_,kps,hg1,_,_,_,_,hk,hp⟩:=id hG
  obtain ⟨_,e1,dx1,t1,a1,b1⟩:=h1
  cases e1
  obtain ⟨_,e2,dx2,t2,a2,b2⟩:=h2
  cases e2
  have C1:=a5b T o1.1
  have C2:=a5b T o2.1
  simp only [a0O,b5W,a6u,a0h,a3s,a0l,Qb,Qa,a0v,a0b]
  refine ⟨x,_,dx1,_,_,rfl,a1,C1.cl,C1.nl,a1l _ _ _,y,_,dx2,_,_,rfl,a2,C2.cl,C2.nl,a1l _ _ _,by simp only [Qt,Xl];decide,fun c hc=>?_⟩
  obtain ⟨H1,e1,s1,h1⟩:=a0I hc (.tup [V.str r1.2.1,V.str r2.2.1]);rw [e1]
  refine ⟨g,_,dx,_,_,rfl,s1 _ _ hg1,T.cl_Ground,T.nf_Ground_pairs,b2R _ _ _,pr,_,rfl,a5m.t (k:=[Sum.inr r1.2.1,Sum.inr r2.2.1]) (s1 _ _ hk) h1,?_⟩
  have:=q _ s1
  rw [hp]
  by_cases z:(r1.2.1,r2.2.1)∈pl
  ·rw [if_pos z];rw [decide_eq_true z] at this;exact this
  ·rw [if_neg z];rw [decide_eq_false z] at this;exact this
theorem b3y (T:Txt K mg t):a1a P w K mg base CX0 2 t.f_z0v t.fd_z0v ["ground","rule","beaters"] (b1S t):=by
 refine T.F_z0v.ok b9v (fun vs H Q E h=>?_) (fun cdv A outer s H vs Q E hr h=>?_)
 ·obtain ⟨g,x,L,rs,pl,r,zr,rfl,hG,hx,hro,hL,hz,hzl,q⟩:=h;rfl
 ·obtain ⟨g,x,L,rs,pl,r,zr,rfl,hG,hx,hro,hL,hz,hzl,q⟩:=h
  refine ⟨_,‹A3 (A6 (B6 (a1f rfl) T.z_any a2q (A0 (C3 (B8 (a0a a8c) b4q ["beater","rule","ground"] [none,some 1,some 0]) (B7 2) (B1 0 (show Xm (["beater","rule","ground"]:List Str) by decide+kernel)) D7 (E5 2 T.me_Ground_beats (b9i T) T.b_z0b (A0 0 (A0 1 A1)))) A1)))›,?_⟩
  rw [show a0t b4q [V.ref g,V.ref x,V.ref L]=[some (V.ref g),some (V.ref x),some (V.ref L)] from rfl]
  simp only [a0O,tCB,a0h,a0v,a0p,a1c,a0l,Qb,Qa,a0b,a1o]
  refine ⟨⟨_,SqL.of hL⟩,?_⟩
  refine a1p zr hL ‹om› hz [some (V.ref x),some (V.ref g)] rfl (fun _=>true) (fun p=>V.bl (decide ((p.2.2.1,r.2.1)∈pl))) (fun y r' H' R ho hr s' hR=>hR _ (a0g.refl _)) (fun y r' H' R ho hr s' hR=>?_) (fun B H5 hBn s5 hB5=>?_)
  ·obtain ⟨dx,io,bh,pr,_,_,_,hg1,_⟩:=id (hG.same s')
   simp only [a2F,a0l,Qb,Qa,a0h,a0v,Qf,a0b]
   exact ⟨g,dx,_,rfl,hg1,a2A _ _ _ ‹dk› ‹dk› ‹dk›,g,y,x,rs,pl,r',r,rfl,hG.same s',⟨y,rfl,hr⟩,hx.same s',ho,hro,fun H'' s''=>hR _ s''⟩
  have hB5':H5 B=some (.lst ((zr.map fun p=>decide ((p.2.2.1,r.2.1)∈pl)).map V.bl)):=by
   rw [hB5,Jk.mpr (fun _ _=>rfl),Yr];rfl
  refine ⟨B,_,rfl,SqL.of hB5',?_⟩
  have:=q _ s5
  rw [show ((zr.map fun p=>decide ((p.2.2.1,r.2.1)∈pl)).any id)=btn pl (zr.map (·.2)) r from by unfold btn;rw [Zr,Zr];rfl]
  exact this
theorem b3z (T:Txt K mg t):a1a P w K mg base CX0 3 t.f_z18 t.fd_z18 ["ground","sures","held","refused","q"] (a9S t a0U):=by
 refine T.F_z18.ok b3L (fun vs H Q E h=>?_) (fun cdv A outer s H vs Q E hr h=>?_)
 ·obtain ⟨g,v1,v2,v3,q0,rs,pl,S,U,D,rfl,hG,hO,hrl,h1,h2,h3,hql,q⟩:=h;rfl
 ·obtain ⟨g,v1,v2,v3,q0,rs,pl,S,U,D,rfl,hG,hO,hrl,h1,h2,h3,hql,q⟩:=h
  refine ⟨_,‹A4 (B2 (F6 (F0 (a2L (a3p hr) ‹4› ‹1›)) (A9 a1N 4 1 (by with_unfolding_all rfl))) (A3 (A6 B4)) B3) (A4 (A8 5 b3L.nd (C3 (B8 (a0a a6P) b2a ["rule","held"] [none,some 2]) (B7 (E5 0 T.me_Ground_speaking (b3j T) T.b_z01 (A0 4 A1))) (B1 0 (show Xm (["rule","held"]:List Str) by decide+kernel)) (D1 (C0 (A7 (a6V T) T.g_z0t T.F_z0t.kp T.b_z0t (A0 (E2 0) (A0 1 A1))))) 0)) (C6 (B2 (C1 (D8 (A9 (a0T hr.units) (B6 a0x T.z_len a0y (A0 5 A1)) A2 (a0o _)) (E1 (F6 (F0 (a2L (a3p hr) ‹A7 (a4E T) T.g_z17 T.F_z17.kp T.b_z17 (A0 4 A1)› ‹1›)) (A9 a1N (A7 (a4E T) T.g_z17 T.F_z17.kp T.b_z17 (A0 4 A1)) 1 (by with_unfolding_all rfl)))))) (A3 (A6 B4)) B3) (A3 (A6 (B6 (a1g rfl) T.z_all a2o (A0 (C3 (B8 (a0a a6P) b2a ["rule","refused","ground","standing"] [none,some 3,some 0,some 5]) (B7 (E5 0 T.me_Ground_against (b3H T) T.b_z03 (A0 4 A1))) (B1 0 (show Xm (["rule","refused","ground","standing"]:List Str) by decide+kernel)) D7 (F9 (A7 (b3P T) T.g_z0u T.F_z0u.kp T.b_z0u (A0 (E2 0) (A0 1 A1))) (F8 (A7 (b3y T) T.g_z0v T.F_z0v.kp T.b_z0v (A0 2 (A0 0 (A0 3 A1))))))) A1))))))›,?_⟩
  rw [show a0t b2a [V.ref g,v1,v2,v3,V.str q0]=[some (V.ref g),some (v1),some (v2),some (v3),some (V.str q0),none] from rfl]
  obtain ⟨dx,io,bh,pr,_,_,_,hg1,_⟩:=id hG
  simp only [a1x,a1O,a0O,tC,a0K,a2a,a0s,Qg,Qh,a0p,a1c,a2F,a0l,Qa,a0h,Qb,a0v,Qf,a0b]
  refine a3t h1 (a1k rfl) (a1k rfl) ?_
  simp only [decide_eq_true_eq]
  refine a0S (fun c0=>?_) (fun c0=>?_)
  ·have:=q H (a0g.refl _)
   unfold a0U at this
   rw [if_pos c0] at this
   exact this
  refine ⟨g,dx,_,rfl,hg1,a2A _ _ _ ‹dk› ‹dk› ‹dk›,g,q0,rs,pl,rfl,hG,hO,hrl,fun W zr H3 s3 hWn hW3 hz ez=>?_⟩
  have hzl:zr.length≤63:=by
   have:=congrArg Zp ez
   rw [Qd] at this
   rw [this];exact Qj (Qz _ _) (Qj (Qz _ _) hrl)
  simp only [a1o]
  refine ⟨⟨_,SqL.of hW3⟩,?_⟩
  refine a1p zr hW3 ‹om› hz [some v2] rfl (fun r=>a1X r.2.2.2 U) (fun p=>p.1) (fun x r H' R ho hr s' hR=>?_) (fun x r H' R ho hr s' hR=>?_) (fun W2 H4 hW2n s4 hW4=>?_)
  ·have CF:=a5b T ho.1
   obtain ⟨dx',t0,g1,g2⟩:=hr
   simp only [tB,a0B,a0h,a3s,a0l,Qa,Qb,a0v,Qf,a0b]
   refine ⟨x,_,dx',_,_,rfl,g1,CF.cl,CF.nb,a1B _ _ _,t0,v2,r.2.2.2,U,rfl,g2,by have:=ho.2.2.2.2.2;omega,h2.same (s3.trans s'),fun H'' s''=>?_⟩
   simp only [a1q]
   exact hR _ s''
  ·simp only [a0l,Qa,a0b]
   exact hR _ (a0g.refl _)
  have s04:=s3.trans s4
  have hz4:a5k t H4 (zr.filter fun p=>a1X p.2.2.2.2 U):=fun p hp=>(hz.same s4) p (Xc.mp hp).1
  have hzl4:(zr.filter fun p=>a1X p.2.2.2.2 U).length≤63:=Qj (Qz _ _) hzl
  have est:(zr.filter fun p=>a1X p.2.2.2.2 U).map (·.2)=a1V rs U q0:=by
   unfold a1V
   rw [←ez,Ze];rfl
  generalize (zr.filter fun p=>a1X p.2.2.2.2 U)=zs at hW4 hz4 hzl4 est
  have hneed:∀H',a0g H H'→(a1V rs U q0=[]∨a1G q0∈S)→Q (.bl false) H':=fun H' s' hc=>by
   have:=q H' s'
   unfold a0U at this
   rw [if_neg c0,if_pos hc] at this
   exact this
  refine ⟨fun σ' H'=>σ'=[some (V.ref g),some v1,some v2,some v3,some (V.str q0),some (V.ref W2)]∧H'=H4∧¬(a1V rs U q0=[]∨a1G q0∈S),?_,?_⟩
  ·simp only [a1O,tOr,a0D,tOp,tCB,a0h,a0l,Qb,Qa,a0v,tC,a0O,a0K,a0b]
   refine a0w (SqL.of hW4) ?_
   simp only [a0G,a1q,decide_eq_true_eq]
   refine a0S (fun c1=>?_) (fun c1=>?_)
   ·refine hneed _ s04 (.inl ?_)
    rw [←est]
    have:zs.length=0:=by rw [Qd] at c1;omega
    rw [Zm.mp this];rfl
   refine a3t (h1.same s04) (x:=a1G q0) (fun R hR=>?_) (a1k rfl) ?_
   ·simp only [a0B,a0h,a0l,Qb,Qa,a0v,Qf,a0b]
    exact ⟨q0,rfl,hql,hR⟩
   simp only [decide_eq_true_eq]
   refine a0S (fun c2=>hneed _ s04 (.inr c2)) (fun c2=>⟨(by trivial),(by trivial),fun z=>z.elim (fun w=>c1 ?_) c2⟩)
   rw [←est] at w
   have:zs.length=0:=by have:=congrArg Zp w;rw [Qd] at this;exact this
   rw [Qd,this];rfl
  rintro σ' H5 ⟨rfl,rfl,hc⟩
  simp only [a0O,tCB,a0h,a0v,a0p,a1c,a2F,a0l,Qa,Qb,Qf,a0b]
  refine ⟨g,dx,_,rfl,s04 _ _ hg1,a2A _ _ _ ‹dk› ‹dk› ‹dk›,g,q0,rs,pl,rfl,hG.same s04,hO,hql,fun B zb H6 s6 hBn hB6 hzb eb=>?_⟩
  have hbl:zb.length≤63:=by
   have:=congrArg Zp eb
   rw [Qd] at this
   rw [this];exact Qj (Qz _ _) hrl
  have s06:=s04.trans s6
  simp only [a1o]
  refine ⟨⟨_,SqL.of hB6⟩,?_⟩
  refine a1p zb hB6 ‹om› hzb [some v3,some (V.ref g),some (V.ref W2)] rfl (fun _=>true) (fun p=>V.bl (a2G p.2.2.2.2 D || btn pl (zs.map (·.2)) p.2)) (fun x r H' R ho hr s' hR=>hR _ (a0g.refl _)) (fun x r H' R ho hr s' hR=>?_) (fun C H7 hCn s7 hC7=>?_)
  ·have CF:=a5b T ho.1
   have hru:a7g t H' (.ref x) r:=⟨x,rfl,hr⟩
   obtain ⟨dx',t0,g1,g2⟩:=hr
   simp only [c0B,a0B,a0h,a3s,a0l,Qa,Qb,a0v,Qf,a0b]
   refine ⟨x,_,dx',_,_,rfl,g1,CF.cl,CF.nb,a1B _ _ _,t0,v3,r.2.2.2,D,rfl,g2,by have:=ho.2.2.2.2.2;omega,h3.same (s06.trans s'),fun H'' s''=>?_⟩
   have s48:=(s6.trans s').trans s''
   have hh:=fun H'' s''=>hR H'' s''
   simp only [a1q]
   refine a0S (fun c5=>?_) (fun c5=>?_)
   ·have:=hR _ s''
    rw [c5,Bool.true_or] at this;exact this
   ·have c6:a2G r.2.2.2 D=false:=by simpa using c5
    rw [c6] at hR
    exact ⟨g,x,W2,rs,pl,r,zs,rfl,(hG.same s04).same s48,hru.same s'',ho,s48 _ _ hW4,hz4.same s48,hzl4,fun H9 s9=>hR _ (s''.trans s9)⟩
  have hC7':H7 C=some (.lst ((zb.map fun p=>(a2G p.2.2.2.2 D || btn pl (zs.map (·.2)) p.2)).map V.bl)):=by
   rw [hC7,Jk.mpr (fun _ _=>rfl),Yr];rfl
  refine ⟨C,_,rfl,SqL.of hC7',?_⟩
  have:=q _ (s06.trans s7)
  unfold a0U at this
  rw [if_neg c0,if_neg hc,←eb,Ub,←est] at this
  rw [Ub]
  exact this
theorem b3m (T:Txt K mg t):a1a P w K mg base CX0 3 t.f_z0k t.fd_z0k ["ground","sures","held","refused","q"] (a9S t a3d):=by
 refine T.F_z0k.ok b3k (fun vs H Q E h=>?_) (fun cdv A outer s H vs Q E hr h=>?_)
 ·obtain ⟨g,v1,v2,v3,q0,rs,pl,S,U,D,rfl,hG,hO,hrl,h1,h2,h3,hql,q⟩:=h;rfl
 ·obtain ⟨g,v1,v2,v3,q0,rs,pl,S,U,D,rfl,hG,hO,hrl,h1,h2,h3,hql,q⟩:=h
  refine ⟨_,‹A4 (B2 (F6 (F0 (a2L (a3p hr) ‹4› ‹1›)) (A9 a1N 4 1 (by with_unfolding_all rfl))) (A3 (A6 B4)) B3) (A4 (A8 5 b3k.nd (C3 (B8 (a0a a6K) b2p ["rule","refused"] [none,some 3]) (B7 (E5 0 T.me_Ground_speaking (b3j T) T.b_z01 (A0 4 A1))) (B1 0 (show Xm (["rule","refused"]:List Str) by decide+kernel)) (D1 (D9 (C0 (A7 (b3P T) T.g_z0u T.F_z0u.kp T.b_z0u (A0 (E2 0) (A0 1 A1)))))) 0)) (C6 (B2 (C1 (D8 (A9 (a0T hr.units) (B6 a0x T.z_len a0y (A0 5 A1)) A2 (a0o _)) (E1 (F6 (F0 (a2L (a3p hr) ‹A7 (a4E T) T.g_z17 T.F_z17.kp T.b_z17 (A0 4 A1)› ‹1›)) (A9 a1N (A7 (a4E T) T.g_z17 T.F_z17.kp T.b_z17 (A0 4 A1)) 1 (by with_unfolding_all rfl)))))) (A3 (A6 B4)) B3) (A3 (A6 (B6 (a1f rfl) T.z_any a2q (A0 (C3 (B8 (a0a a6K) b2p ["rule","held","ground","unfallen"] [none,some 2,some 0,some 5]) (B7 (E5 0 T.me_Ground_against (b3H T) T.b_z03 (A0 4 A1))) (B1 0 (show Xm (["rule","held","ground","unfallen"]:List Str) by decide+kernel)) D7 (H2 (A7 (a6V T) T.g_z0t T.F_z0t.kp T.b_z0t (A0 (E2 0) (A0 1 A1))) (F8 (G0 (A7 (b3y T) T.g_z0v T.F_z0v.kp T.b_z0v (A0 2 (A0 0 (A0 3 A1)))))))) A1))))))›,?_⟩
  rw [show a0t b2p [V.ref g,v1,v2,v3,V.str q0]=[some (V.ref g),some (v1),some (v2),some (v3),some (V.str q0),none] from rfl]
  obtain ⟨dx,io,bh,pr,_,_,_,hg1,_⟩:=id hG
  simp only [a1x,a1O,a0O,tC,a0K,a2a,a0s,Qg,Qh,a0p,a1c,a2F,a0l,Qa,a0h,Qb,a0v,Qf,a0b]
  refine a3t h1 (a1k rfl) (a1k rfl) ?_
  simp only [decide_eq_true_eq]
  refine a0S (fun c0=>?_) (fun c0=>?_)
  ·have:=q H (a0g.refl _)
   unfold a3d at this
   rw [if_pos c0] at this
   exact this
  refine ⟨g,dx,_,rfl,hg1,a2A _ _ _ ‹dk› ‹dk› ‹dk›,g,q0,rs,pl,rfl,hG,hO,hrl,fun W zr H3 s3 hWn hW3 hz ez=>?_⟩
  have hzl:zr.length≤63:=by
   have:=congrArg Zp ez
   rw [Qd] at this
   rw [this];exact Qj (Qz _ _) (Qj (Qz _ _) hrl)
  simp only [a1o]
  refine ⟨⟨_,SqL.of hW3⟩,?_⟩
  refine a1p zr hW3 ‹om› hz [some v3] rfl (fun r=>!a2G r.2.2.2 D) (fun p=>p.1) (fun x r H' R ho hr s' hR=>?_) (fun x r H' R ho hr s' hR=>?_) (fun W2 H4 hW2n s4 hW4=>?_)
  ·have CF:=a5b T ho.1
   obtain ⟨dx',t0,g1,g2⟩:=hr
   simp only [a8P,tB,a0B,a0h,a3s,a0l,Qa,Qb,a0v,Qf,a0b]
   refine ⟨x,_,dx',_,_,rfl,g1,CF.cl,CF.nb,a1B _ _ _,t0,v3,r.2.2.2,D,rfl,g2,by have:=ho.2.2.2.2.2;omega,h3.same (s3.trans s'),fun H'' s''=>?_⟩
   simp only [a1q]
   exact hR _ s''
  ·simp only [a0l,Qa,a0b]
   exact hR _ (a0g.refl _)
  have s04:=s3.trans s4
  have hz4:a5k t H4 (zr.filter fun p=>!a2G p.2.2.2.2 D):=fun p hp=>(hz.same s4) p (Xc.mp hp).1
  have hzl4:(zr.filter fun p=>!a2G p.2.2.2.2 D).length≤63:=Qj (Qz _ _) hzl
  have est:(zr.filter fun p=>!a2G p.2.2.2.2 D).map (·.2)=unf rs D q0:=by
   unfold unf
   rw [←ez,Ze];rfl
  generalize (zr.filter fun p=>!a2G p.2.2.2.2 D)=zs at hW4 hz4 hzl4 est
  have hneed:∀H',a0g H H'→(unf rs D q0=[]∨a1G q0∈S)→Q (.bl true) H':=fun H' s' hc=>by
   have:=q H' s'
   unfold a3d at this
   rw [if_neg c0,if_pos hc] at this
   exact this
  refine ⟨fun σ' H'=>σ'=[some (V.ref g),some v1,some v2,some v3,some (V.str q0),some (V.ref W2)]∧H'=H4∧¬(unf rs D q0=[]∨a1G q0∈S),?_,?_⟩
  ·simp only [a1O,tOr,a0D,tOp,tCB,a0h,a0l,Qb,Qa,a0v,tC,a0O,a0K,a0b]
   refine a0w (SqL.of hW4) ?_
   simp only [a0G,a1q,decide_eq_true_eq]
   refine a0S (fun c1=>?_) (fun c1=>?_)
   ·refine hneed _ s04 (.inl ?_)
    rw [←est]
    have:zs.length=0:=by rw [Qd] at c1;omega
    rw [Zm.mp this];rfl
   refine a3t (h1.same s04) (x:=a1G q0) (fun R hR=>?_) (a1k rfl) ?_
   ·simp only [a0B,a0h,a0l,Qb,Qa,a0v,Qf,a0b]
    exact ⟨q0,rfl,hql,hR⟩
   simp only [decide_eq_true_eq]
   refine a0S (fun c2=>hneed _ s04 (.inr c2)) (fun c2=>⟨(by trivial),(by trivial),fun z=>z.elim (fun w=>c1 ?_) c2⟩)
   rw [←est] at w
   have:zs.length=0:=by have:=congrArg Zp w;rw [Qd] at this;exact this
   rw [Qd,this];rfl
  rintro σ' H5 ⟨rfl,rfl,hc⟩
  simp only [a0O,tCB,a0h,a0v,a0p,a1c,a2F,a0l,Qa,Qb,Qf,a0b]
  refine ⟨g,dx,_,rfl,s04 _ _ hg1,a2A _ _ _ ‹dk› ‹dk› ‹dk›,g,q0,rs,pl,rfl,hG.same s04,hO,hql,fun B zb H6 s6 hBn hB6 hzb eb=>?_⟩
  have hbl:zb.length≤63:=by
   have:=congrArg Zp eb
   rw [Qd] at this
   rw [this];exact Qj (Qz _ _) hrl
  have s06:=s04.trans s6
  simp only [a1o]
  refine ⟨⟨_,SqL.of hB6⟩,?_⟩
  refine a1p zb hB6 ‹om› hzb [some v2,some (V.ref g),some (V.ref W2)] rfl (fun _=>true) (fun p=>V.bl (a1X p.2.2.2.2 U && !btn pl (zs.map (·.2)) p.2)) (fun x r H' R ho hr s' hR=>hR _ (a0g.refl _)) (fun x r H' R ho hr s' hR=>?_) (fun C H7 hCn s7 hC7=>?_)
  ·have CF:=a5b T ho.1
   have hru:a7g t H' (.ref x) r:=⟨x,rfl,hr⟩
   obtain ⟨dx',t0,g1,g2⟩:=hr
   simp only [b8k,a0B,a0h,a3s,a0l,Qa,Qb,a0v,Qf,b5A,a0b]
   refine ⟨x,_,dx',_,_,rfl,g1,CF.cl,CF.nb,a1B _ _ _,t0,v2,r.2.2.2,U,rfl,g2,by have:=ho.2.2.2.2.2;omega,h2.same (s06.trans s'),fun H'' s''=>?_⟩
   have s48:=(s6.trans s').trans s''
   simp only [a1q]
   refine a0S (fun c5=>?_) (fun c5=>?_)
   ·rw [c5,Yg] at hR
    refine ⟨g,x,W2,rs,pl,r,zs,rfl,(hG.same s04).same s48,hru.same s'',ho,s48 _ _ hW4,hz4.same s48,hzl4,fun H9 s9=>?_⟩
    simp only [a1q]
    exact hR _ (s''.trans s9)
   ·have c6:a1X r.2.2.2 U=false:=by simpa using c5
    have:=hR _ s''
    rw [c6,Zl] at this
    exact this
  have hC7':H7 C=some (.lst ((zb.map fun p=>(a1X p.2.2.2.2 U && !btn pl (zs.map (·.2)) p.2)).map V.bl)):=by
   rw [hC7,Jk.mpr (fun _ _=>rfl),Yr];rfl
  refine ⟨C,_,rfl,SqL.of hC7',?_⟩
  have:=q _ (s06.trans s7)
  unfold a3d at this
  rw [if_neg c0,if_neg hc,←eb,Zr,←est] at this
  rw [Zr]
  exact this
theorem b3M (T:Txt K mg t):a1a P w K mg base CX0 1 t.f_z1t t.fd_z1t ["some"] b4h:=by
 refine T.F_z1t.ok a9P (fun vs H Q E h=>?_) (fun cdv A outer s H vs Q E hr h=>?_)
 ·obtain ⟨a,zs,rfl,ha,hl,q⟩:=h;rfl
 ·obtain ⟨a,zs,rfl,ha,hl,q⟩:=h
  refine ⟨_,‹A4 (A8 1 a9P.nd F4) (A4 (C5 (B7 0) (B1 2 a9P.nd) (A3 (F2 1 2 B4))) (A3 (A6 1)))›,?_⟩
  rw [show a0t b8i [V.ref a]=[some (V.ref a),none,none] from rfl]
  simp only [a1x,a2a,a6n,a0s,Qg,Qh,a0J,a1c,a0l,Qa,a0b,a1o]
  intro D hD
  obtain ⟨H1,e1,s1,h1⟩:=a0I hD (.dK []);rw [e1]
  refine ⟨⟨_,SqL.of (s1 _ _ ha)⟩,?_⟩
  refine a1j (K:=K) (a:=a) (xs:=zs.map V.str) (fun i σ H'=>∃(kvs:List (Key×V)) (y:Option V),σ=[some (V.ref a),some (V.ref D),y]∧a0g H H'∧H' D=some (.dK kvs)∧kvs.length≤i∧∀x:Str,(a1Z kvs (Sum.inr x:Key)).isSome=decide (x∈zs.take i))
   ⟨[],_,rfl,s1,h1,Qk _,fun x=>by simp [a1Z]⟩ (fun i σ H' _ h=>by obtain ⟨_,_,_,s,_⟩:=h;exact SqL.of (s _ _ ha)) ?_ ?_
  ·rintro i v σ H5 hi ⟨kvs,y,rfl,s5,h5,hkl,hF⟩
   obtain ⟨hi',rfl⟩:=a2s hi
   simp only [a0s,a6A,tC,a0l,Qg,Qh,Qb,Qa,a0b]
   refine ⟨D,_,rfl,b1E.k (k:=(Sum.inr zs[i]:Key)) h5 (Xv (show kvs.length≤1000 by omega) ‹dc›),a4e kvs (Sum.inr zs[i]) (V.bl true),_,rfl,fun b o e=>by rw [a0d (a0c e hD)];exact s5 _ _ e,a0e,?_,fun x=>?_⟩
   ·have:=a1w kvs (Sum.inr zs[i]:Key) (V.bl true);omega
   ·rw [a3v,Yh,decide_eq_true_iff,a1H hi']
    by_cases z:(Sum.inr x:Key)=Sum.inr zs[i]
    ·rw [if_pos z,Sum.inr.inj z];exact ⟨fun _=>.inr rfl,fun _=>rfl⟩
    ·rw [if_neg z,hF,decide_eq_true_iff]
     exact ⟨.inl,fun h=>h.elim id fun w=>absurd (by rw [w]) z⟩
  ·rintro σ H5 ⟨kvs,y,rfl,s5,h5,hkl,hF⟩
   simp only [a0O,a0l,Qb,Qa,a0b]
   rw [Qd,Xy] at hF
   exact q D H5 s5 ⟨kvs,h5,hF⟩
theorem a7v (T:Txt K mg t):a1a P w K mg base CX0 2 t.f_z0w t.fd_z0w ["rows","word"] a7V:=by
 refine T.F_z0w.ok b7E (fun vs H Q E h=>?_) (fun cdv A outer s H vs Q E hr h=>?_)
 ·obtain ⟨a,w,ps,rl,rfl,ha,hP,hl,q⟩:=h;rfl
 ·obtain ⟨a,w,ps,rl,rfl,ha,hP,hl,q⟩:=h
  refine ⟨_,‹A3 (A6 (A7 (b3M T) T.g_z1t T.F_z1t.kp T.b_z1t (A0 (C3 (B8 (a0a a7M) b5g ["row","word"] [none,some 1]) (B7 0) (B1 0 (show Xm (["row","word"]:List Str) by decide+kernel)) (D1 (A9 (a7c hr.units (K:=K) rfl) (B0 (a2n (K:=K) rfl) 0 A2) 1 (a0o _))) (B0 (a2n (K:=K) rfl) 0 A2)) A1)))›,?_⟩
  rw [show a0t b5g [V.ref a,V.str w]=[some (V.ref a),some (V.str w)] from rfl]
  simp only [a0O,a0B,a0h,a0v,Qf,a0p,a1c,a0l,Qa,a0b,a1o]
  refine ⟨⟨_,SqL.of ha⟩,?_⟩
  refine a5c ha hP ‹om› [some (V.str w)] rfl (fun p=>decide (p.1=w)) (fun p=>V.str p.2) (fun x p H' R hx s' hR=>?_) (fun x p H' R hx s' hR=>?_) (fun D H' hD s' hD'=>?_)
  ·simp only [a0D,tOp,a0l,Qa,tC,Qb,a0b]
   refine a0V (SqT.of hx) rfl ?_
   simp only [a1z,a1q]
   exact hR _ (a0g.refl _)
  ·simp only [tOp,a0l,Qa,tC,a0b]
   exact a0V (SqT.of hx) rfl (hR _ (a0g.refl _))
  refine ⟨D,wOf rl w,rfl,by rw [hD'];unfold wOf;rw [Yr];rfl,?_,fun D' H'' s'' hk=>q D' H'' (s'.trans s'') hk⟩
  unfold wOf
  rw [Qd]
  exact Qj (Qz _ _) ‹om›
theorem b6w (T:Txt K mg t):a1a P w K mg base CX0 4 t.f_z1e t.fd_z1e ["ground","sures","rows","claim"] (b0s t):=by
 refine T.F_z1e.ok b0d (fun vs H Q E h=>?_) (fun cdv A outer s H vs Q E hr h=>?_)
 ·obtain ⟨g,a,c,v1,rs,pl,rl,ps,S,b,q0,rfl,hG,hO,hrl,h1,ha,hP,hl,hc,hql,q⟩:=h;rfl
 ·obtain ⟨g,a,c,v1,rs,pl,rl,ps,S,b,q0,rfl,hG,hO,hrl,h1,ha,hP,hl,hc,hql,q⟩:=h
  obtain ⟨_,k_HELD⟩:=T.k_HELD
  obtain ⟨_,k_REFUSED⟩:=T.k_REFUSED
  refine ⟨_,‹A4 (A8 4 b0d.nd (A7 (a7v T) T.g_z0w T.F_z0w.kp T.b_z0w (A0 2 (A0 (E8 (.str "held") k_HELD ⟨_,rfl⟩) A1)))) (A4 (A8 5 b0d.nd (A7 (a7v T) T.g_z0w T.F_z0w.kp T.b_z0w (A0 2 (A0 (E8 (.str "refused") k_REFUSED ⟨_,rfl⟩) A1)))) (A4 (B2 (A9 (a0T hr.units) (B0 a0i 3 A2) (E8 (.str "held") k_HELD ⟨_,rfl⟩) (a0o _)) (A3 (A6 (A7 (b3z T) T.g_z18 T.F_z18.kp T.b_z18 (A0 0 (A0 1 (A0 4 (A0 5 (A0 (B0 a0i 3 A2) A1)))))))) B3) (A4 (B2 (A9 (a0T hr.units) (B0 a0i 3 A2) (E8 (.str "refused") k_REFUSED ⟨_,rfl⟩) (a0o _)) (A3 (A6 (A7 (b3m T) T.g_z0k T.F_z0k.kp T.b_z0k (A0 0 (A0 1 (A0 4 (A0 5 (A0 (B0 a0i 3 A2) A1)))))))) B3) (A3 (A6 B4)))))›,?_⟩
  rw [show a0t b6r [V.ref g,v1,V.ref a,V.ref c]=[some (V.ref g),some (v1),some (V.ref a),some (V.ref c),none,none] from rfl]
  simp only [a1x,a2a,a0B,a0h,a0l,Qb,Qa,tC,a0v,Qf,a0s,Qg,Qh,a1O,a0D,tOp,a0O,a0b,a0K]
  refine ⟨a,_,ps,rl,rfl,ha,hP,hl,fun D1 H1 s1 k1=>?_⟩
  refine ⟨a,_,ps,rl,rfl,s1 _ _ ha,a0q.same s1 hP,hl,fun D2 H2 s2 k2=>?_⟩
  have s02:=s1.trans s2
  have hc2:=s02 _ _ hc
  refine a0V (SqT.of hc2) rfl ?_
  simp only [a1z,a1q,decide_eq_true_eq]
  cases b with
  | true=>
   refine a0S (fun _=>?_) (fun c=>absurd rfl c)
   exact a0V (SqT.of hc2) rfl ⟨g,_,_,_,q0,rs,pl,S,_,_,rfl,hG.same s02,hO,hrl,h1.same s02,(k1.same s2).some,k2.some,hql,fun H' s'=>q H' (s02.trans s')⟩
  | false=>
   refine a0S (fun c=>absurd c ‹dk›) (fun _=>?_)
   refine a0V (SqT.of hc2) rfl ?_
   simp only [a1z,a1q,decide_eq_true_eq]
   refine a0S (fun _=>?_) (fun c=>absurd rfl c)
   exact a0V (SqT.of hc2) rfl ⟨g,_,_,_,q0,rs,pl,S,_,_,rfl,hG.same s02,hO,hrl,h1.same s02,(k1.same s2).some,k2.some,hql,fun H' s'=>q H' (s02.trans s')⟩
theorem b3b (T:Txt K mg t):a1a P w K mg base CX0 1 t.f_z07 t.fd_z07 ["self"] (a1d true):=by
 refine T.F_z07.ok b9g (fun vs H Q E h=>?_) (fun cdv A outer s H vs Q E hr h=>?_)
 ·obtain ⟨x,rfl,q⟩:=h;rfl
 ·obtain ⟨x,rfl,q⟩:=h
  refine ⟨_,‹A3 (A6 B4)›,?_⟩
  rw [show a0t b7j [x]=[some (x)] from rfl]
  simp only [a0O,tC]
  exact q
theorem b7C (T:Txt K mg t):a1a P w K mg base CX0 1 t.f_z0a t.fd_z0a ["self"] (b1d t):=by
 refine T.F_z0a.ok b8b (fun vs H Q E h=>?_) (fun cdv A outer s H vs Q E hr h=>?_)
 ·obtain ⟨g,rs,pl,rfl,hG,q⟩:=h;rfl
 ·obtain ⟨g,rs,pl,rfl,hG,q⟩:=h
  refine ⟨_,‹A3 (A6 (C7 a0u T.z_list a0z (A0 (C2 0) A1)))›,?_⟩
  rw [show a0t b9e [V.ref g]=[some (V.ref g)] from rfl]
  obtain ⟨dx,io,bh,pr,xs,kvs,kps,h1,h2,h3,h4,h5,h6',h7'⟩:=hG
  simp only [a0O,tCB,a0h,a3s,a0l,Qa,a0v,a0b]
  refine ⟨g,_,dx,_,_,rfl,h1,T.cl_Ground,T.nf_Ground_in_order,b3e _ _ _,io,_,rfl,.inr (SqT.of h2),fun l hl=>?_⟩
  obtain ⟨H6,e6,s6,h6⟩:=a0I hl (.lst xs);rw [e6]
  exact q l xs _ s6 hl h6 (h3.same s6)
theorem a7o (T:Txt K mg t):a1a P w K mg base CX0 1 t.f_z05 t.fd_z05 ["self"] (a1d false):=by
 refine T.F_z05.ok b6y (fun vs H Q E h=>?_) (fun cdv A outer s H vs Q E hr h=>?_)
 ·obtain ⟨x,rfl,q⟩:=h;rfl
 ·obtain ⟨x,rfl,q⟩:=h
  refine ⟨_,‹A3 (A6 B4)›,?_⟩
  rw [show a0t b9r [x]=[some (x)] from rfl]
  simp only [a0O,tC]
  exact q
theorem b3r (T:Txt K mg t):a1a P w K mg base CX0 1 t.f_z08 t.fd_z08 ["self"] (a1d true):=by
 refine T.F_z08.ok b9q (fun vs H Q E h=>?_) (fun cdv A outer s H vs Q E hr h=>?_)
 ·obtain ⟨x,rfl,q⟩:=h;rfl
 ·obtain ⟨x,rfl,q⟩:=h
  refine ⟨_,‹A3 (A6 B4)›,?_⟩
  rw [show a0t b7r [x]=[some (x)] from rfl]
  simp only [a0O,tC]
  exact q
theorem b6M (T:Txt K mg t):a1a P w K mg base CX0 2 t.f_z0d t.fd_z0d ["ground","some"] (c6L t):=by
 refine T.F_z0d.ok a5z (fun vs H Q E h=>?_) (fun cdv A outer s H vs Q E hr h=>?_)
 ·obtain ⟨g,s,rs,pl,l,rfl,hG,hO,hrl,hs,hl,q⟩:=h;rfl
 ·obtain ⟨g,s,rs,pl,l,rfl,hG,hO,hrl,hs,hl,q⟩:=h
  refine ⟨_,‹A4 (A8 2 a5z.nd F4) (A4 (C5 (B7 1) (B1 3 a5z.nd) (A4 (E3 4 (B8 (a0a a5e) a8q ["rule"] [none]) (B7 (E5 0 T.me_Ground_ruling (b0T T) T.b_z04 (A0 3 A1))) (B1 0 (show Xm (["rule"]:List Str) by decide+kernel)) (D1 (C0 (D4 (C4 0 T.cl_Fact T.me_Fact_is_sure (b3b T) T.b_z07) (D4 (C4 0 T.cl_Sure T.me_Sure_is_sure (b3r T) T.b_z08) (D4 (C4 0 T.cl_Most T.me_Most_is_sure (a7o T) T.b_z05) (C4 0 T.cl_Block T.me_Block_is_sure (a7o T) T.b_z05)))))) 0 a5z.nd) (C6 (B2 (C1 (D8 (F0 (a2L (a3p hr) ‹3› ‹2›)) (E1 (D9 (C0 (B6 (a1f rfl) T.z_any a2q (A0 (C3 (B8 (a0a a5e) a8q ["rule","ahead"] [none,some 2]) (B7 4) (B1 0 (show Xm (["rule","ahead"]:List Str) by decide+kernel)) D7 (A7 (a6V T) T.g_z0t T.F_z0t.kp T.b_z0t (A0 (E2 0) (A0 1 A1)))) A1))))))) (A3 (A6 B4)) B3) (A3 (F2 2 3 B4))))) (A4 (E3 5 (B8 (a0a a5e) a8q ["rule"] [none]) (B7 (C4 0 T.cl_Ground T.me_Ground_rules (b7C T) T.b_z0a)) (B1 0 (show Xm (["rule"]:List Str) by decide+kernel)) (D1 (C0 (D4 (C4 0 T.cl_Fact T.me_Fact_is_sure (b3b T) T.b_z07) (D4 (C4 0 T.cl_Sure T.me_Sure_is_sure (b3r T) T.b_z08) (D4 (C4 0 T.cl_Most T.me_Most_is_sure (a7o T) T.b_z05) (C4 0 T.cl_Block T.me_Block_is_sure (a7o T) T.b_z05)))))) 0 a5z.nd) (A3 (A6 (B6 (a1g rfl) T.z_all a2o (A0 (C3 (B8 (a0a a5e) a8q ["rule","ahead"] [none,some 2]) (B7 5) (B1 0 (show Xm (["rule","ahead"]:List Str) by decide+kernel)) (D1 (C0 (A7 (a6V T) T.g_z0t T.F_z0t.kp T.b_z0t (A0 (E2 0) (A0 1 A1))))) (F5 (a2L (a3p hr) ‹E2 0› ‹1›))) A1))))))›,?_⟩
  rw [show a0t a8q [V.ref g,V.ref s]=[some (V.ref g),some (V.ref s),none,none,none,none] from rfl]
  unfold isS at q
  simp only [a1x,a2a,a6n,a0s,a0p,a1c,a2F,a0l,a0h,a0v,Qf,Qg,Qh,a0J,Qb,Qa,a0b,a1o]
  intro A hA0
  obtain ⟨H1,e1,s1,h1⟩:=a0I hA0 (.dK []);rw [e1]
  have sureE:∀r:Rw,decide ((r.1:Int) < 2)=(srW r).1:=fun r=>by
   show _=decide (r.1 < 2)
   rw [Yh,decide_eq_true_eq,decide_eq_true_eq];omega
  have hAm:∀(S:List Str) (x:Addr) (r:Rw) (H':Hp) (R:V→Hp→Prop),a3Q r→a1L H' x (a3S t r.1) (.str r.2.1) (.str r.2.2.1) (r.2.2.2.map V.str)→H' A=some (.dK (bv S))→(∀H'',a0g H' H''→R (V.bl (a1X (srW r).2.2 S)) H'')→a0B a7p [] E0 (a0h (a3s K (a0l 0) "body") (a0h (a0l 1) a0v)) [some (V.ref x),some (V.ref A)] H' R:=by
   intro S x r H' R ho hr hD' hR
   have CF:=a5b T ho.1
   obtain ⟨dx,t0,h1,h2⟩:=hr
   simp only [a0B,a0h,a3s,a0l,Qa,Qb,a0v,Qf,a0b]
   refine ⟨x,_,dx,_,_,rfl,h1,CF.cl,CF.nb,a1B _ _ _,?_⟩
   exact ⟨t0,.ref A,r.2.2.2,S,rfl,h2,by have:=ho.2.2.2.2.2;omega,.inr ⟨A,_,rfl,hD',fun x=>by rw [a4X];by_cases c:x∈S<;>simp [c]⟩,fun H'' s''=>hR _ s''⟩
  refine ⟨⟨_,SqL.of (s1 _ _ hs)⟩,?_⟩
  refine a1j (K:=K) (a:=s) (xs:=l.map V.str) (fun i σ H'=>∃(x3 x4:Option V),σ=[some (V.ref g),some (V.ref s),some (V.ref A),x3,x4,none]∧a0g H H'∧H' A=some (.dK (bv (l.take i)))∧a2E (rs.map srW) [] l=a2E (rs.map srW) (l.take i) (l.drop i))
   ⟨_,_,rfl,s1,h1,by rw [Wt,Ws]⟩ (fun i σ H' _ h=>by obtain ⟨_,_,_,s',_⟩:=h;exact SqL.of (s' _ _ hs)) ?_ ?_
  ·rintro i v σ H2 hi ⟨x3,x4,rfl,s2,hA2,ho2⟩
   have hil:i < l.length:=by simpa using (Xa.mp hi).1
   have ev:v=V.str l[i]:=by
    rw [Qr,Qc hil] at hi
    exact (Option.some.inj hi).symm
   subst ev
   rw [Vv hil] at ho2
   have etk:l.take (i+1)=l.take i++[l[i]]:=Xe hil
   have hSl:(l.take i).length≤100:=by rw [Xo];omega
   have hG2:=hG.same s2
   obtain ⟨dx,io,bh,pr,_,_,_,hg1,_⟩:=id hG2
   have hAn:H A=none:=hA0
   generalize l.take i=S at hA2 ho2 etk hSl
   simp only [a0s,a1x,Qg,Qh,Qa,Qb,a0b]
   refine ⟨g,dx,_,rfl,hg1,a2A _ _ _ ‹dk› ‹dk› ‹dk›,g,l[i],rs,pl,rfl,hG2,fun W ys H3 s3 hWn hW3 hR3=>?_⟩
   obtain ⟨zr,ez1,ez2,hz⟩:=hR3.zip (fun r hr=>hO r (Xc.mp hr).1)
   subst ez1
   have hzl:zr.length≤63:=by
    have:=congrArg Zp ez2
    rw [Qd] at this
    rw [this];exact Qj (Qz _ _) hrl
   simp only [a1o]
   refine ⟨⟨_,SqL.of hW3⟩,?_⟩
   refine a1p zr hW3 ‹om› hz [] rfl (fun r=>(srW r).1) (fun p=>p.1) (fun x r H' R ho hr s' hR=>?_) (fun x r H' R ho hr s' hR=>?_) (fun W2 H4 hW2n s4 hW4=>?_)
   ·simp only [tB]
    refine b6j ho.1 (a1k rfl) hr ⟨by decide+kernel,by decide+kernel,by decide+kernel⟩ ?_
    rw [a6r ho.1]
    simp only [a2Y,a1q]
    rw [sureE]
    exact hR _ (a0g.refl _)
   ·simp only [a0l,Qa,a0b]
    exact hR _ (a0g.refl _)
   have s24:=s3.trans s4
   have hA4:=s24 _ _ hA2
   have hz4:a5k t H4 (zr.filter fun p=>(srW p.2).1):=fun p hp=>(hz.same s4) p (Xc.mp hp).1
   try skip
   refine ⟨fun σ' H'=>σ'=[some (V.ref g),some (V.ref s),some (V.ref A),some (V.str l[i]),some (V.ref W2),none]∧a0g H4 H'∧l[i]∉S∧a4c (rs.map srW) S l[i]=true,?_,?_⟩
   ·simp only [a1O,tOr,tB,b5W,a0l,Qb,Qa,a0O,tC,a0K,a8P,tCB,a0h,a0v,Xf,a1q,a0p,a1c,a0b,a1o]
    refine ⟨A,_,rfl,c4z hA4 _,?_⟩
    have qf:∀H',a0g H4 H'→((!decide (l[i]∈S) && a4c (rs.map srW) S l[i])=false)→Q (.bl false) H':=fun H' s' hf=>by
     have:=q H' ((s2.trans s24).trans s')
     rw [ho2,show a2E (rs.map srW) S (l[i]::l.drop (i+1))=((!decide (l[i]∈S) && a4c (rs.map srW) S l[i]) && a2E (rs.map srW) (S++[l[i]]) (l.drop (i+1))) from rfl,hf,Zl,Zl] at this
     exact this
    by_cases c:l[i]∈S
    ·rw [if_pos c]
     try skip
     exact qf _ (a0g.refl _) (by rw [decide_eq_true c];rfl)
    rw [if_neg c]
    try skip
    refine ⟨⟨_,SqL.of hW4⟩,?_⟩
    refine a1p (zr.filter fun p=>(srW p.2).1) hW4 (Qj (Qz _ _) ‹om›) hz4 [some (V.ref A)] rfl (fun _=>true) (fun p=>V.bl (a1X (srW p.2).2.2 S)) (fun x r H' R ho hr s' hR=>hR _ (a0g.refl _)) (fun x r H' R ho hr s' hR=>hAm S x r H' R ho hr (s' _ _ hA4) hR) (fun B H5 hBn s5 hB5=>?_)
    have eany:((zr.filter fun p=>(srW p.2).1).map fun p=>a1X (srW p.2).2.2 S).any id=a4c (rs.map srW) S l[i]:=by
     rw [←b8O,←ez2,Ze,Zr,Zr];rfl
    have hB5':H5 B=some (.lst (((zr.filter fun p=>(srW p.2).1).map fun p=>a1X (srW p.2).2.2 S).map V.bl)):=by
     rw [hB5,Jk.mpr (fun _ _=>rfl),Yr];rfl
    refine ⟨B,_,rfl,SqL.of hB5',?_⟩
    rw [eany]
    try skip
    refine a0S (fun c2=>?_) (fun c2=>?_)
    ·exact qf _ s5 (by rw [show a4c (rs.map srW) S l[i]=false from by simpa using c2,Ud])
    ·exact ⟨(by trivial),s5,c,by simpa using c2⟩
   ·rintro σ' H5 ⟨rfl,s5,hc1,hc2⟩
    have hA5:=s5 _ _ hA4
    simp only [a6A,tC,a0l,Qb,Qa,a0b]
    refine ⟨A,_,rfl,c0G hA5 ‹om› l[i],_,_,rfl,?_,?_,?_⟩
    ·intro b o e;rw [a0d (a0c e hAn)];exact s5 _ _ (s24 _ _ (s2 _ _ e))
    ·rw [a0e,b2J hc1,etk]
    ·rw [ho2,etk,show a2E (rs.map srW) S (l[i]::l.drop (i+1))=((!decide (l[i]∈S) && a4c (rs.map srW) S l[i]) && a2E (rs.map srW) (S++[l[i]]) (l.drop (i+1))) from rfl,hc2,decide_eq_false hc1]
     rfl
  ·rintro σ H2 ⟨x3,x4,rfl,s2,hA2,ho2⟩
   rw [Qd,Xy] at hA2 ho2
   rw [List.drop_length] at ho2
   have hor:a2E (rs.map srW) [] l=true:=ho2
   have hG2:=hG.same s2
   obtain ⟨dx,io,bh,pr,_,_,_,hg1,_⟩:=id hG2
   simp only [a1x,Qa,a0O,tCB,a0h,Qg,Qh,a0v,a0p,a1c,a0l,Qb,a0b]
   refine ⟨g,dx,_,rfl,hg1,a2A _ _ _ ‹dk› ‹dk› ‹dk›,g,rs,pl,rfl,hG2,fun W ys H3 s3 hWn hW3 hR3=>?_⟩
   obtain ⟨zr,ez1,ez2,hz⟩:=hR3.zip hO
   subst ez1
   have hzl:zr.length≤63:=by
    have:=congrArg Zp ez2
    rw [Qd] at this
    rw [this];exact hrl
   simp only [a1o]
   refine ⟨⟨_,SqL.of hW3⟩,?_⟩
   refine a1p zr hW3 ‹om› hz [] rfl (fun r=>(srW r).1) (fun p=>p.1) (fun x r H' R ho hr s' hR=>?_) (fun x r H' R ho hr s' hR=>?_) (fun W2 H4 hW2n s4 hW4=>?_)
   ·simp only [tB]
    refine b6j ho.1 (a1k rfl) hr ⟨by decide+kernel,by decide+kernel,by decide+kernel⟩ ?_
    rw [a6r ho.1]
    simp only [a2Y,a1q]
    rw [sureE]
    exact hR _ (a0g.refl _)
   ·simp only [a0l,Qa,a0b]
    exact hR _ (a0g.refl _)
   have s24:=s3.trans s4
   have hA4:=s24 _ _ hA2
   have hz4:a5k t H4 (zr.filter fun p=>(srW p.2).1):=fun p hp=>(hz.same s4) p (Xc.mp hp).1
   simp only [a1o]
   refine ⟨⟨_,SqL.of hW4⟩,?_⟩
   refine a1p (zr.filter fun p=>(srW p.2).1) hW4 (Qj (Qz _ _) ‹om›) hz4 [some (V.ref A)] rfl (fun r=>a1X (srW r).2.2 l) (fun p=>V.bl (decide ((srW p.2).2.1∈l))) (fun x r H' R ho hr s' hR=>?_) (fun x r H' R ho hr s' hR=>?_) (fun B H5 hBn s5 hB5=>?_)
   ·refine hAm l x r H' _ ho hr (s' _ _ hA4) fun H'' s''=>?_
    exact ⟨_,rfl,hR _ s''⟩
   ·have CF:=a5b T ho.1
    obtain ⟨dx',t0,h1,h2⟩:=hr
    simp only [b5W,a3s,a0l,Qa,Qb,a0b]
    refine ⟨x,_,dx',_,_,rfl,h1,CF.cl,CF.nh,a0Z _ _ _,A,_,rfl,c4z (s' _ _ hA4) _,?_⟩
    have:=hR _ (a0g.refl _)
    by_cases h:r.2.2.1∈l
    ·rw [if_pos h];rw [decide_eq_true (show (srW r).2.1∈l from h)] at this;exact this
    ·rw [if_neg h];rw [decide_eq_false (show ¬(srW r).2.1∈l from h)] at this;exact this
   have eall:(((zr.filter fun p=>(srW p.2).1).filter fun p=>a1X (srW p.2).2.2 l).map fun p=>decide ((srW p.2).2.1∈l)).all id=a6M (rs.map srW) l:=by
    rw [←b8d,←ez2,Ze,Ze,Ub,Ub];rfl
   have hB5':H5 B=some (.lst ((((zr.filter fun p=>(srW p.2).1).filter fun p=>a1X (srW p.2).2.2 l).map fun p=>decide ((srW p.2).2.1∈l)).map V.bl)):=by
    rw [hB5,Yr];rfl
   refine ⟨B,_,rfl,SqL.of hB5',?_⟩
   rw [eall]
   have:=q H5 ((s2.trans s24).trans s5)
   rw [hor,Yg] at this
   exact this
theorem b6T (T:Txt K mg t):a1a P w K mg base CX0 5 t.f_z1f t.fd_z1f ["ground","paper"] (b9z t):=by
 refine T.F_z1f.ok a9T (fun vs H Q E h=>?_) (fun cdv A outer s H vs Q E hr h=>?_)
 ·obtain ⟨g,p,a1,a2,rs,pl,S,ps,cl,rfl,hG,hO,hrl,hp,h1,hSl,h2,hP,hcl,hcq,q⟩:=h;rfl
 ·obtain ⟨g,p,a1,a2,rs,pl,S,ps,cl,rfl,hG,hO,hrl,hp,h1,hSl,h2,hP,hcl,hcq,q⟩:=h
  refine ⟨_,‹A4 (A8 2 a9T.nd (B0 a0i 1 A2)) (A4 (A8 3 a9T.nd (B0 a0i 1 A2)) (A4 (B2 (D9 (C0 (A7 (b6M T) T.g_z0d T.F_z0d.kp T.b_z0d (A0 0 (A0 2 A1))))) (A3 (A6 B4)) B3) (A3 (A6 (B6 (a1g rfl) T.z_all a2o (A0 (C3 (B8 (a0a a8o) b4N ["place","row","ground","sures","rows"] [none,none,some 0,some 2,some 3]) (G1 (A0 3 A1)) (G2 (E4 (B1 0 (show Xm (["place","row","ground","sures","rows"]:List Str) by decide+kernel)) (E4 (B1 1 (show Xm (["place","row","ground","sures","rows"]:List Str) by decide+kernel)) F7))) D7 (A7 (b6w T) T.g_z1e T.F_z1e.kp T.b_z1e (A0 2 (A0 3 (A0 (D6 (b5u (K:=K) rfl) 4 E0 (D3 0)) (A0 1 A1)))))) A1))))))›,?_⟩
  rw [show a0t b4N [V.ref g,V.ref p]=[some (V.ref g),some (V.ref p),none,none] from rfl]
  simp only [a1x,a2a,tOp,a0l,Qb,Qa,tC,a0s,Qg,Qh,a1O,a8P,tB,a0B,a0h,a0v,Qf,Xf,a0O,a0K,tCB,a0p,b4I,a0b]
  refine a0V (i:=0) (v:=.ref a1) (SqT.of hp) (by rfl) (a0V (i:=1) (v:=.ref a2) (SqT.of hp) (by rfl) ?_)
  refine ⟨g,a1,rs,pl,S,rfl,hG,hO,hrl,h1,hSl,fun H1 s1=>⟨_,rfl,?_⟩⟩
  by_cases hS:isS rs S=true
  ·rw [hS,if_neg ‹dc›]
   rw [hS] at q
   refine ⟨a2,rfl,⟨_,SqL.of (s1 _ _ h2)⟩,?_⟩
   have hpl:ps.length=cl.length:=by have:=a0q.len hP;rw [Qd] at this;exact this
   refine b6K (xs:=ps) (Qj (show ps.length≤1000 by omega) ‹dc›) [some (V.ref g),some (V.ref a1),some (V.ref a2)] rfl (fun D i v H'=>v=V.bl (b6a rs pl S [] cl i)) (fun _ _ _ _ _ _ h=>h) (SqL.of (s1 _ _ h2)) (fun D i H' R hi hDn s hD hR=>?_) (fun B H2 ys hBn s2 hB2 hyl hv=>?_)
   ·have hi':i < cl.length:=by omega
    obtain ⟨x,ex,hx⟩:=a0q.at hP (i:=i) (by rw [Qd];exact hi')
    rw [Qc hi] at ex
    have ex':ps[i]=.ref x:=Option.some.inj ex
    rw [Yo] at hx
    have s0:=s1.trans s
    rw [ex']
    simp only [a0B,a0h,a0l,Qb,Qa,tSl,a1T,a3n,a0v,Qf,a0b,a3M]
    refine .inr (.inl ⟨a2,_,rfl,SqL.of (s0 _ _ h2),fun W hW=>?_⟩)
    have ec:a4j ps none (some (i:Int))=ps.take i:=by
     unfold a4j
     rw [HT.sIx_nat]
     show (ps.drop 0).take (min i ps.length - 0)=_
     rw [Ws,Nat.sub_zero,Nat.min_eq_left ‹om›]
    rw [ec]
    obtain ⟨H3,e3,s3,h3⟩:=a0I hW (.lst (ps.take i));rw [e3]
    have s03:=s0.trans s3
    have hc:cl[i]∈cl:=Qv hi'
    refine ⟨g,W,x,.ref a1,rs,pl,(cl.take i).map cw,ps.take i,S,cl[i].1,cl[i].2,rfl,hG.same s03,hO,hrl,.inl ⟨a1,rfl,s03 _ _ h1⟩,h3,by rw [Jd];exact b2I (a0q.same s03 hP) i,by rw [Qd,Xo];omega,s03 _ _ hx,hcq _ hc,fun H4 s4=>?_⟩
    refine hR _ _ (s3.trans s4) ?_
    unfold b6a
    rw [Qc hi'];rfl
   have ey:ys=((Yb cl.length).map (b6a rs pl S [] cl)).map V.bl:=by
    refine Zt (by rw [hyl,Qd,Qd,Zn,hpl]) fun i h1 h2=>?_
    rw [hv i _ (Qc h1),Yo,Yo,Vl]
   refine ⟨B,_,rfl,by rw [←ey];exact SqL.of hB2,?_⟩
   rw [a7w]
   exact q H2 (s1.trans s2)
  ·have hS':isS rs S=false:=by simpa using hS
   rw [hS',if_pos rfl]
   have:=q H1 s1
   rw [hS',Zl] at this
   exact this
theorem b9F (T:Txt K mg t):a1a P w K mg base CX0 2 t.f_z00 t.fd_z00 ["self"] (c0S t):=by
 refine T.F_z00.ok a7F (fun vs H Q E h=>?_) (fun cdv A outer s H vs Q E hr h=>?_)
 ·obtain ⟨g,rs,pl,po,rfl,hG,hO,hrl,hpo,hpl,q⟩:=h;rfl
 ·obtain ⟨g,rs,pl,po,rfl,hG,hO,hrl,hpo,hpl,q⟩:=h
  refine ⟨_,‹A4 (A8 1 a7F.nd F4) (A4 (C5 (E6 (C2 0)) (B1 2 a7F.nd) (A3 (C5 (E6 (A5 a0k (D0 (A0 (C2 2) A1)) (C2 2))) (B1 3 a7F.nd) (A4 (F2 1 3 B4) (A3 (F2 1 (A7 (a4E T) T.g_z17 T.F_z17.kp T.b_z17 (A0 3 A1)) B4)))))) (A3 (A6 (B6 (a1A rfl) T.z_sorted a0H (A0 1 A1)))))›,?_⟩
  rw [show a0t c0c [V.ref g]=[some (V.ref g),none,none,none] from rfl]
  obtain ⟨dx,io,bh,pr,xs,_,_,h1,h2,h3,_⟩:=id hG
  simp only [a1x,a2a,a6n,a0s,Qg,Qh,a0J,b3n,a3s,a0l,Qa,a0b]
  intro D hD
  obtain ⟨H1,e1,s1,hD1⟩:=a0I hD (.dK []);rw [e1]
  have hioD:io≠D:=a0c h2 hD
  have hsz:∀A:List Str,(∀x∈A,x∈po)→(A.foldl a6g []).length≤28:=fun A hA=>Qj (a1U (a2Z A Yi) (m:=po) fun x hx=>by
   rcases a5T.mp hx with z | z
   ·cases z
   ·exact hA x z) hpl
  refine ⟨g,_,dx,_,_,rfl,s1 _ _ h1,T.cl_Ground,T.nf_Ground_in_order,b3e _ _ _,?_⟩
  simp only [a1o]
  refine ⟨⟨_,SqT.of (s1 _ _ h2)⟩,?_⟩
  refine a3H (K:=K) (a:=io) (xs:=xs) (fun i σ H'=>∃(x y:Option V),σ=[some (V.ref g),some (V.ref D),x,y]∧b2W H1 D H'∧H' D=some (.dK (bv ((sts (rs.take i)).foldl a6g []))))
   ⟨_,_,rfl,b2W.refl _ _,hD1⟩ (fun i σ H' _ ⟨_,_,_,k,_⟩=>SqT.of (k _ _ (s1 _ _ h2) hioD)) ?_ ?_
  ·rintro i v σ H3 hi ⟨x,y,rfl,k3,hD3⟩
   have hil:i < rs.length:=by rw [←h3.len];exact (Xa.mp hi).1
   obtain ⟨v',ev,p,rfl,hp⟩:=h3.get i rs[i] (Qc hil)
   rw [hi] at ev;cases ev
   have hrm:=Qv hil
   have hro:=hO _ hrm
   have CF:=a5b T hro.1
   have esn:sts (rs.take (i+1))=sts (rs.take i)++(rs[i].2.2.1::rs[i].2.2.2).flatMap fun q=>[q,a1G q]:=by
    unfold sts
    rw [Xe hil,Vd];simp
   have hA0:∀x∈sts (rs.take i),x∈po:=fun x hx=>hpo x (by
    obtain ⟨r,hr,z⟩:=a3b.mp hx
    exact a3b.mpr ⟨r,Zf hr,z⟩)
   have hA1:∀q∈rs[i].2.2.1::rs[i].2.2.2,q∈po∧a1G q∈po∧q.length≤100:=fun q hq=>⟨hpo q (a3b.mpr ⟨_,hrm,q,hq,.inl rfl⟩),hpo _ (a3b.mpr ⟨_,hrm,q,hq,.inr rfl⟩),by
    rcases Qn.mp hq with z | z
    ·rw [z];have:=hro.2.2.2.1.2;omega
    ·have:=(hro.2.2.2.2.1 q z).2;omega⟩
   generalize rs[i]=r at hp hro CF esn hA1
   generalize sts (rs.take i)=A0 at hD3 esn hA0
   rw [esn]
   clear esn
   obtain ⟨dx',t0,hp1,hp2⟩:=hp
   have hp1':=s1 _ _ hp1
   have hp2':=s1 _ _ hp2
   have hpD:p≠D:=a0c hp1 hD
   have htD:t0≠D:=a0c hp2 hD
   have hbl:=hro.2.2.2.2.2
   simp only [a0s,Qg,Qh,a0J,b3n,tOp,a6u,a0h,a3s,a0l,Qb,Qa,a0v,a0b]
   refine ⟨p,_,dx',_,_,rfl,k3 _ _ hp1' hpD,CF.cl,CF.nh,a0Z _ _ _,by simp only [Qt,Xl];decide,fun c hc=>?_⟩
   obtain ⟨H4,e4,s4,h4⟩:=a0I hc (.tup [V.str r.2.2.1]);rw [e4]
   have walk:∀(c2:Addr) (H5:Hp),a0g H3 H5→H5 c2=some (.tup ((r.2.2.1::r.2.2.2).map V.str))→c2W (Itt K c2) (a0s 3) (a1x (a6A (a0l 1) (a0l 3) (tC (V.bl true))) (a6A (a0l 1) (a0B b9Y [] E0 (a0h (a0l 3) a0v)) (tC (V.bl true)))) {nx:=fun σ H'=>∃(x y:Option V),σ=[some (V.ref g),some (V.ref D),x,y]∧b2W H1 D H'∧H' D=some (.dK (bv ((A0++(r.2.2.1::r.2.2.2).flatMap fun q=>[q,a1G q]).foldl a6g []))),rt:=Q,bk:=a0O (tCB (b6F K) (a0h (a0l 1) a0v)) {nx:=fun x H'=>Q V.non H',rt:=Q},ct:=fun σ H'=>∃(x y:Option V),σ=[some (V.ref g),some (V.ref D),x,y]∧b2W H1 D H'∧H' D=some (.dK (bv ((A0++(r.2.2.1::r.2.2.2).flatMap fun q=>[q,a1G q]).foldl a6g [])))} [some (V.ref g),some (V.ref D),some (V.ref p),y] H5:=fun c2 H5 s5 h5=>by
    have hcD:c2≠D:=a1S h5 (s5 _ _ hD3) ‹iz›
    generalize r.2.2.1::r.2.2.2=qs at h5 hA1
    refine a3H (K:=K) (a:=c2) (xs:=qs.map V.str) (fun j σ H'=>∃(y:Option V),σ=[some (V.ref g),some (V.ref D),some (V.ref p),y]∧b2W H5 D H'∧H' D=some (.dK (bv ((A0++(qs.take j).flatMap fun q=>[q,a1G q]).foldl a6g []))))
     ⟨_,rfl,b2W.refl _ _,by rw [Wt,List.flatMap_nil,Qf];exact s5 _ _ hD3⟩ (fun j σ H' _ ⟨_,_,k,_⟩=>SqT.of (k _ _ h5 hcD)) ?_ ?_
    ·rintro j v σ H6 hj ⟨y,rfl,k6,hD6⟩
     have hjl:j < qs.length:=by simpa using (Xa.mp hj).1
     have ex:v=V.str qs[j]:=by
      rw [Qr,Qc hjl] at hj
      exact (Option.some.inj hj).symm
     subst ex
     have hq1:=hA1 _ (Qv hjl)
     have hA2:∀x∈A0++(qs.take j).flatMap (fun q=>[q,a1G q]),x∈po:=fun x hx=>by
      rcases Xn.mp hx with z | z
      ·exact hA0 x z
      ·obtain ⟨q,hq,w⟩:=Zu.mp z
       have:=hA1 q (Zf hq)
       simp only [Qn,Xh,or_false] at w
       rcases w with w | w
       ·rw [w];exact this.1
       ·rw [w];exact this.2.1
     have ej:A0++(qs.take (j+1)).flatMap (fun q=>[q,a1G q])=(A0++(qs.take j).flatMap fun q=>[q,a1G q])++[qs[j],a1G qs[j]]:=by
      rw [Xe hjl,Vd,←Yj];simp
     rw [ej]
     generalize (A0++(qs.take j).flatMap fun q=>[q,a1G q])=A1 at hD6 hA2
     generalize qs[j]=q0 at hq1
     have l1:=hsz A1 hA2
     have l2:=hsz (A1++[q0]) fun x hx=>by
      rcases Xn.mp hx with z | z
      ·exact hA2 x z
      ·rw [Qw.mp z];exact hq1.1
     simp only [a0s,a1x,a6A,tC,a0l,Qg,Qh,Qb,Qa,a0B,a0h,a0v,Qf,a0b]
     refine ⟨D,_,rfl,c0G hD6 ‹om› q0,q0,rfl,hq1.2.2,D,_,rfl,c0G (x:=a1G q0) (S:=(A1++[q0]).foldl a6g []) (by rw [a0e,Vu];rfl) ‹om›,_,rfl,fun b o e n=>?_,?_⟩
     ·rw [a0d n,a0d n];exact k6 _ _ e n
     ·rw [a0e,Vu,Vu];rfl
    ·rintro σ H6 ⟨y,rfl,k6,hD6⟩
     rw [Qd,Xy] at hD6
     exact ⟨_,_,rfl,fun b o e n=>k6 _ _ (s5 _ _ (k3 _ _ e n)) n,hD6⟩
   refine ⟨p,_,dx',_,_,rfl,s4 _ _ (k3 _ _ hp1' hpD),CF.cl,CF.nb,a1B _ _ _,.inr (.inr (.inr ⟨c,t0,_,_,rfl,rfl,SqT.of h4,SqT.of (s4 _ _ (k3 _ _ hp2' htD)),by simp,Qj (show _≤1000 by simp;omega) ‹dc›,fun e=>?_,fun e c2 hc2=>?_⟩))⟩
   ·refine ⟨c,rfl,⟨_,SqT.of h4⟩,walk c H4 s4 ?_⟩
    rw [Xj,e];exact h4
   ·obtain ⟨H5,e5,s5,h5⟩:=a0I hc2 (.tup ([V.str r.2.2.1]++r.2.2.2.map V.str));rw [e5]
    exact ⟨c2,rfl,⟨_,SqT.of h5⟩,walk c2 H5 (s4.trans s5) h5⟩
  ·rintro σ H3 ⟨x,y,rfl,k3,hD3⟩
   rw [show rs.take xs.length=rs by rw [h3.len];exact Xy] at hD3
   have hl:=hsz (sts rs) hpo
   simp only [a0O,tCB,a0h,a0l,Qb,Qa,a0v,a0b]
   refine .inr (.inl ⟨D,_,_,rfl,.inl hD3,b5e _,by omega,fun l ss hl' hp hs=>?_⟩)
   have s3:a0g H H3:=fun b o e=>k3 _ _ (s1 _ _ e) (a0c e hD)
   obtain ⟨H4,e4,s4,h4⟩:=a0I hl' (.lst (ss.map V.str));rw [e4]
   exact q l ss H4 (s3.trans s4) (none_of s3 hl') h4 hp hs
theorem b3I (T:Txt K mg t):a1a P w K mg base CX0 3 t.f_z02 t.fd_z02 ["ground","some","contrary"] (c0F K t):=by
 refine T.F_z02.ok b9H (fun vs H Q E h=>?_) (fun cdv A outer s H vs Q E hr h=>?_)
 ·obtain ⟨g,a,c,rs,pl,po,S,C,rfl,hG,hO,hrl,hpo,hpl,ha,hc,q⟩:=h;rfl
 ·obtain ⟨g,a,c,rs,pl,po,S,C,rfl,hG,hO,hrl,hpo,hpl,ha,hc,q⟩:=h
  refine ⟨_,‹A3 (A6 (A7 (b3M T) T.g_z1t T.F_z1t.kp T.b_z1t (A0 (C3 (B8 (a0a a7R) b4B ["q","some","contrary"] [none,some 1,some 2]) (B7 (C4 0 T.cl_Ground T.me_Ground_statements (b9F T) T.b_z00)) (B1 0 (show Xm (["q","some","contrary"]:List Str) by decide+kernel)) (D1 (C1 (D2 (A9 (a2r (K:=K) rfl) 0 1 (by with_unfolding_all rfl)) (D5 (F0 ‹H3 (a3p hr) 0 2›))))) 0) A1)))›,?_⟩
  rw [show a0t b4B [V.ref g,V.ref a,V.ref c]=[some (V.ref g),some (V.ref a),some (V.ref c)] from rfl]
  obtain ⟨dx,io,bh,pr,_,_,_,hg1,_⟩:=id hG
  simp only [a0O,a0B,a0h,a0v,Qf,a0p,a1c,a2F,a0l,Qa,a0b]
  refine ⟨g,dx,_,rfl,hg1,a2A _ _ _ ‹dk› ‹dk› ‹dk›,g,rs,pl,po,rfl,hG,hO,hrl,hpo,hpl,fun D St H1 s1 hDn hD hp ho=>?_⟩
  have hm:∀z,z∈St↔z∈sts rs:=fun z=>hp.mem_iff.trans (by rw [a5T];simp)
  have hl:St.length≤28:=Qj (a1U (hp.nodup_iff.mpr (a2Z _ Yi)) fun x hx=>hpo x ((hm x).mp hx)) hpl
  obtain ⟨kvs,hck,hcv⟩:=hc
  refine ⟨D,rfl,⟨_,SqL.of hD⟩,?_⟩
  refine a3C (a1E (xs:=St.map V.str)) (Qj (show (St.map V.str).length≤1000 by rw [Qd];omega) ‹dc›) [some (V.ref a),some (V.ref c)] rfl (fun i=>decide (((St[i]?).getD "")∉S) && decide (((St[i]?).getD "")∉C)) (fun i=>V.str ((St[i]?).getD "")) (fun H' s=>SqL.of (s _ _ hD)) (fun i H' R' hi s hR'=>?_) (fun i H' R' hi s hR'=>?_) (fun D2 H2 hD2n s2 hD2=>?_)
  ·have hi':i < St.length:=by simpa using hi
   have e2:((St.map V.str)[i]?).getD .non=V.str St[i]:=by rw [Qr,Qc hi'];rfl
   rw [e2]
   rw [Qc hi',Xs] at hR'
   generalize St[i]=z at hR' ⊢
   have s0:=s1.trans s
   simp only [a6t,a0D,tOp,a0l,Qa,Qb,tB,a8U,a1q,a0b]
   refine a1u (SqL.of (s0 _ _ ha)) ?_
   simp only [a1q,Xf,decide_eq_false_iff_not]
   refine a0S (fun c1=>?_) (fun c1=>?_)
   ·refine ⟨c,_,rfl,a5m.k (k:=(Sum.inr z:Key)) (s0 _ _ hck),?_⟩
    have:=hR' _ (a0g.refl _)
    rw [decide_eq_true c1,Yg] at this
    rw [hcv]
    by_cases h:z∈C
    ·rw [decide_eq_true h];rw [decide_eq_false (by simpa using h)] at this;exact this
    ·rw [decide_eq_false h];rw [decide_eq_true h] at this;exact this
   ·have:=hR' _ (a0g.refl _)
    rwa [decide_eq_false c1,Zl] at this
  ·have hi':i < St.length:=by simpa using hi
   have e2:((St.map V.str)[i]?).getD .non=V.str St[i]:=by rw [Qr,Qc hi'];rfl
   rw [e2]
   rw [Qc hi',Xs] at hR'
   simp only [a0l,Qa,a0b]
   exact hR' _ (a0g.refl _)
  rw [show (St.map V.str).length=St.length by simp,a0X ("":Str) (fun z=>decide (z∉S) && decide (z∉C)) V.str St] at hD2
  refine ⟨D2,_,rfl,hD2,by have:=Qz (fun z=>decide (z∉S) && decide (z∉C)) St;omega,fun D3 H3 s3 hk=>q D3 _ H3 ((s1.trans s2).trans s3) hk fun z=>?_⟩
  rw [Xc,hm,Ql,decide_eq_true_eq,decide_eq_true_eq]
theorem b7I (T:Txt K mg t):a1a P w K mg base CX0 1 t.f_z1u t.fd_z1u ["some"] (b4b K):=by
 refine T.F_z1u.ok b8m (fun vs H Q E h=>?_) (fun cdv A outer s H vs Q E hr h=>?_)
 ·obtain ⟨a,S,rfl,ha,hSl,q⟩:=h;rfl
 ·obtain ⟨a,S,rfl,ha,hSl,q⟩:=h
  refine ⟨_,‹A3 (A6 (B6 (a1g rfl) T.z_all a2o (A0 (C3 (B8 (a0a a8i) b5i ["place","some"] [none,some 0]) (F1 (A0 (A5 b9p (B6 a0x T.z_len a0y (A0 0 A1)) A2) A1)) (B1 0 (show Xm (["place","some"]:List Str) by decide+kernel)) D7 (E7 a3W (B0 (a2n (K:=K) rfl) 1 0) (B0 (a2n (K:=K) rfl) 1 (A5 (a9l (K:=K) rfl) 0 A2)) (a0o _))) A1)))›,?_⟩
  rw [show a0t b5i [V.ref a]=[some (V.ref a)] from rfl]
  simp only [a0O,tCB,a0h,a0v,a0p,a8x,tOp,a0l,Qa,tC,a0b]
  refine a0w ha ?_
  rw [Qd]
  simp only [b0U]
  refine ⟨_,rfl,by omega,by omega,?_⟩
  refine a4p a3V (Qj (show ((S.length:Int) - 1).toNat≤1000 by omega) ‹dc›) [some (V.ref a)] rfl (fun i v=>v=V.bl (b5G S i)) (fun _ _=>trivial) (fun i H' R hi s' hR=>?_) (fun D H1 ys hDn s1 hD hyl hv=>?_)
  ·have hi1:i+1 < S.length:=by omega
   have ix:∀j:Nat,j < S.length→atI (S.map V.str) (j:Int)=some (.str ((S[j]?).getD Up)):=fun j hj=>by
    unfold atI ixN
    rw [if_pos ‹om›,if_pos (by rw [Qd];omega)]
    show (S.map V.str)[((j:Int)).toNat]?=_
    rw [Zj,Qr,Qc hj];rfl
   rw [Int.zero_add]
   simp only [tOp,a0l,Qb,Qa,tC,a0b,a0N]
   refine a0m (s'.seq ha) (ix i ‹om›) (a0m (s'.seq ha) (ix (i+1) hi1) ?_)
   exact .inr ⟨_,_,rfl,rfl,hR _ _ (a0g.refl _) rfl⟩
  have ey:ys=((Yb (S.length - 1)).map (b5G S)).map V.bl:=by
   refine Zt (by rw [hyl,Qd,Qd,Zn];omega) fun i h1 h2=>?_
   rw [hv i _ (Qc h1),Yo,Yo,Vl]
  refine ⟨D,_,rfl,by rw [←ey];exact SqL.of hD,?_⟩
  rw [a7j]
  exact q H1 s1
theorem a7m (T:Txt K mg t):a1a P w K mg base CX0 6 t.f_z0l t.fd_z0l ["ground","told"] (a9F K t):=by
 refine T.F_z0l.ok a4D (fun vs H Q E h=>?_) (fun cdv A outer s H vs Q E hr h=>?_)
 ·obtain ⟨g,p,a1,a2,a3,rs,pl,po,S,So,ps,cl,rfl,hG,hO,hrl,hpo,hpl,hp,h1,hSl,h2,hP,hcl,hcq,h3,hSo,hSq,q⟩:=h;rfl
 ·obtain ⟨g,p,a1,a2,a3,rs,pl,po,S,So,ps,cl,rfl,hG,hO,hrl,hpo,hpl,hp,h1,hSl,h2,hP,hcl,hcq,h3,hSo,hSq,q⟩:=h
  obtain ⟨_,k_HELD⟩:=T.k_HELD
  obtain ⟨_,k_REFUSED⟩:=T.k_REFUSED
  refine ⟨_,‹A4 (A8 2 a4D.nd (B0 a0i 1 A2)) (A4 (A8 3 a4D.nd (B0 a0i 1 A2)) (A4 (A8 4 a4D.nd (B0 a0i 1 A2)) (C6 (B2 (C1 (D8 (D9 (C0 (A7 (b6T T) T.g_z1f T.F_z1f.kp T.b_z1f (A0 0 (A0 (D0 (A0 2 (A0 3 A1))) A1))))) (E1 (D9 (C0 (A7 (b7I T) T.g_z1u T.F_z1u.kp T.b_z1u (A0 4 A1))))))) (A3 (A6 B4)) B3) (A4 (A8 5 a4D.nd (A7 (b3I T) T.g_z02 T.F_z02.kp T.b_z02 (A0 0 (A0 4 (A0 (A7 (a7v T) T.g_z0w T.F_z0w.kp T.b_z0w (A0 3 (A0 (E8 (.str "refused") k_REFUSED ⟨_,rfl⟩) A1))) A1))))) (A4 (A8 6 a4D.nd (A7 (b3I T) T.g_z02 T.F_z02.kp T.b_z02 (A0 0 (A0 4 (A0 (A7 (a7v T) T.g_z0w T.F_z0w.kp T.b_z0w (A0 3 (A0 (E8 (.str "held") k_HELD ⟨_,rfl⟩) A1))) A1))))) (A3 (A6 (G0 (B6 (a1f rfl) T.z_any a2q (A0 (C3 (B8 (a0a a8I) b4K ["q","ground","sures","maybe_held","maybe_refused"] [none,some 0,some 2,some 5,some 6]) (B7 4) (B1 0 (show Xm (["q","ground","sures","maybe_held","maybe_refused"]:List Str) by decide+kernel)) D7 (F9 (A7 (b3z T) T.g_z18 T.F_z18.kp T.b_z18 (A0 1 (A0 2 (A0 3 (A0 4 (A0 0 A1)))))) (F8 (A7 (b3m T) T.g_z0k T.F_z0k.kp T.b_z0k (A0 1 (A0 2 (A0 3 (A0 4 (A0 0 A1))))))))) A1))))))))))›,?_⟩
  rw [show a0t b4K [V.ref g,V.ref p]=[some (V.ref g),some (V.ref p),none,none,none,none,none] from rfl]
  simp only [a1x,a2a,tOp,a0l,Qb,Qa,tC,a0s,Qg,Qh,a0b]
  refine a0V (i:=0) (v:=.ref a1) (SqT.of hp) (by rfl) (a0V (i:=1) (v:=.ref a2) (SqT.of hp) (by rfl) (a0V (i:=2) (v:=.ref a3) (SqT.of hp) (by rfl) ?_))
  have hno:∀H',a0g H H'→((isS rs S && a1e rs pl S [] cl) && a2p So)=false→Q (.bl false) H':=fun H' s' e=>by
   have:=q H' s'
   unfold a3l at this
   rwa [e,Zl] at this
  refine ⟨fun σ' H'=>σ'=[some (V.ref g),some (V.ref p),some (V.ref a1),some (V.ref a2),some (V.ref a3),none,none]∧a0g H H'∧((isS rs S && a1e rs pl S [] cl) && a2p So)=true,?_,?_⟩
  ·simp only [a1O,tOr,a8P,tB,a0B,a0h,a0l,Qa,a6u,Qb,a0v,Qf,Xf,a0O,tC,a0K,a0b]
   refine ⟨by simp only [Qt,Xl];decide,fun p1 hp1=>?_⟩
   obtain ⟨H1,e1,s1,g1⟩:=a0I hp1 (.tup [V.ref a1,V.ref a2]);rw [e1]
   refine ⟨g,p1,a1,a2,rs,pl,S,ps,cl,rfl,hG.same s1,hO,hrl,g1,s1 _ _ h1,hSl,s1 _ _ h2,a0q.same s1 hP,hcl,hcq,fun H2 s2=>⟨_,rfl,?_⟩⟩
   try skip
   refine a0S (fun c1=>?_) (fun c1=>?_)
   ·rw [if_pos trivial]
    exact hno H2 (s1.trans s2) (by rw [c1];rfl)
   ·have c1':(isS rs S && a1e rs pl S [] cl)=true:=by simpa using c1
    refine ⟨a3,So,rfl,SqL.of ((s1.trans s2) _ _ h3),by omega,fun H3 s3=>⟨_,rfl,a0S (fun c2=>hno H3 ((s1.trans s2).trans s3) (by rw [c2,Ud])) (fun c2=>⟨trivial,(s1.trans s2).trans s3,?_⟩)⟩⟩
    rw [c1',Yg];simpa using c2
  ·rintro σ' H1 ⟨rfl,s1,hyes⟩
   simp only [a1x,a2a,a0B,a0h,a0l,Qa,Qb,tC,a0v,Qf,a0s,Qg,Qh,a0O,b5A,tCB,a1q,a0p,a1c,a0b,a1o]
   refine ⟨a2,"refused",ps,cl.map cw,rfl,s1 _ _ h2,a0q.same s1 hP,by rw [Qd];omega,fun D1 H2 s2 k2=>?_⟩
   have s02:=s1.trans s2
   refine ⟨g,a3,D1,rs,pl,po,So,_,rfl,hG.same s02,hO,hrl,hpo,hpl,s02 _ _ h3,k2,fun D2 zs2 H3 s3 k3 m3=>?_⟩
   have s03:=s02.trans s3
   refine ⟨a2,"held",ps,cl.map cw,rfl,s03 _ _ h2,a0q.same s03 hP,by rw [Qd];omega,fun D3 H4 s4 k4=>?_⟩
   have s04:=s03.trans s4
   refine ⟨g,a3,D3,rs,pl,po,So,_,rfl,hG.same s04,hO,hrl,hpo,hpl,s04 _ _ h3,k4,fun D4 zs4 H5 s5 k5 m5=>?_⟩
   have s05:=s04.trans s5
   have k3':=k3.same (s4.trans s5)
   have mU:∀z,z∈zs2↔z∈a6v rs So cl true:=fun z=>by
    unfold a6v
    rw [m3,Xc,Ql,decide_eq_true_eq,decide_eq_true_eq];rfl
   have mD:∀z,z∈zs4↔z∈a6v rs So cl false:=fun z=>by
    unfold a6v
    rw [m5,Xc,Ql,decide_eq_true_eq,decide_eq_true_eq];rfl
   have eH:∀q,a0U rs pl S zs2 zs4 q=a0U rs pl S (a6v rs So cl true) (a6v rs So cl false) q:=fun q=>by
    rw [Yh]
    exact ⟨a1W (fun x hx=>(mU x).mp hx) (fun x hx=>(mD x).mp hx),a1W (fun x hx=>(mU x).mpr hx) (fun x hx=>(mD x).mpr hx)⟩
   have eR:∀q,a3d rs pl S zs2 zs4 q=a3d rs pl S (a6v rs So cl true) (a6v rs So cl false) q:=fun q=>by
    rw [Yh]
    exact ⟨a2K (fun x hx=>(mU x).mp hx) (fun x hx=>(mD x).mp hx),a2K (fun x hx=>(mU x).mpr hx) (fun x hx=>(mD x).mpr hx)⟩
   refine ⟨⟨_,SqL.of (s05 _ _ h3)⟩,?_⟩
   refine a4p (a1E (xs:=So.map V.str)) (Qj (show (So.map V.str).length≤1000 by rw [Qd];omega) ‹dc›) [some (V.ref g),some (V.ref a1),some (V.ref D2),some (V.ref D4)] rfl (fun i v=>v=V.bl (a2U rs pl S So cl ((So[i]?).getD ""))) (fun H' s'=>SqL.of (s' _ _ (s05 _ _ h3))) (fun i H' R hi s' hR=>?_) (fun D H6 ys hDn s6 hD hyl hv=>?_)
   ·have hi':i < So.length:=by simpa using hi
    have e2:((So.map V.str)[i]?).getD .non=V.str So[i]:=by rw [Qr,Qc hi'];rfl
    have hz:=hSq _ (Qv hi')
    rw [e2]
    rw [Qc hi',Xs] at hR
    generalize So[i]=z at hR hz ⊢
    have s0:=s05.trans s'
    simp only [c0B,a0B,a0h,a0l,Qb,Qa,a0v,Qf,a0b]
    refine ⟨g,.ref a1,.ref D2,.ref D4,z,rs,pl,S,zs2,zs4,rfl,hG.same s0,hO,hrl,.inl ⟨a1,rfl,s0 _ _ h1⟩,(k3'.same s').some,(k5.same s').some,hz,fun H6 s6=>⟨_,rfl,a0S (fun c1=>?_) (fun c1=>?_)⟩⟩
    ·exact hR _ _ s6 (by unfold a2U;rw [←eH,c1];rfl)
    ·have s1':=s'.trans s6
     refine ⟨g,.ref a1,.ref D2,.ref D4,z,rs,pl,S,zs2,zs4,rfl,hG.same (s05.trans s1'),hO,hrl,.inl ⟨a1,rfl,(s05.trans s1') _ _ h1⟩,(k3'.same s1').some,(k5.same s1').some,hz,fun H7 s7=>hR _ _ (s6.trans s7) ?_⟩
     unfold a2U
     rw [←eH,←eR,Xz.mpr c1,Bool.false_or]
   have ey:ys=(So.map (a2U rs pl S So cl)).map V.bl:=by
    refine Zt (by rw [hyl,Qd,Qd,Qd]) fun i h1 h2=>?_
    have hi':i < So.length:=by rw [hyl,Qd] at h1;exact h1
    rw [hv i _ (Qc h1),Yo,Yo,Qc hi'];rfl
   refine ⟨D,_,rfl,by rw [←ey];exact SqL.of hD,?_⟩
   have:=q H6 (s05.trans s6)
   unfold a3l at this
   rw [hyes,Yg] at this
   rw [Zr];exact this
theorem a6i (T:Txt K mg t):a1a P w K mg base CX0 1 t.f_z14 t.fd_z14 ["_law_text"] b1e:=by
 refine T.F_z14.ok b9a (fun vs H Q E h=>?_) (fun cdv A outer s H vs Q E hr h=>?_)
 ·obtain ⟨n,z,rfl,hz,hn,q⟩:=h;rfl
 ·obtain ⟨n,z,rfl,hz,hn,q⟩:=h
  refine ⟨_,‹A4 (B2 (A9 (a0T hr.units) (B0 a0i 0 A2) B5 (a0o _)) (A3 (A6 (D6 a1I 0 (D3 A2) E0))) B3) (A3 (A6 (A5 a0k B5 0)))›,?_⟩
  rw [show a0t b8U [V.str z]=[some (V.str z)] from rfl]
  have hlen:=hz.len
  obtain ⟨c,r,rfl,h1,h2⟩:=hz
  rw [b8e] at q
  simp only [a1x,a1O,a0D,tOp,a0l,Qa,tC,a0O,tSl,a3n,a1T,a3M,a0b,a7r,a0K,a1Y,a6Q,a1z,a1q,decide_eq_true_eq]
  refine ⟨a2S ‹om›,c,a4b c r,a0S (fun e=>?_) (fun e=>?_)⟩
  ·rw [if_pos (by
    rw [show (Xw "-")=mk [45] by decide+kernel] at e
    have:=congrArg (fun z:Str=>z.cps.toList) e
    exact (List.cons.inj this).1)] at q
   exact ⟨a2S ‹om›,q⟩
  ·rw [if_neg (fun z=>e (by rw [z,show (Xw "-")=mk [45] by decide+kernel]))] at q
   exact ⟨Qj (Vi (show (Xw "-").length≤1 by decide+kernel) hlen) (Qj (show 1+n≤1000 by omega) ‹dc›),q⟩
theorem b3E (T:Txt K mg t):a1a P w K mg base CX0 2 t.f_z16 t.fd_z16 ["_law_scene_here","_law_text"] (c0x t):=by
 refine T.F_z16.ok b8w (fun vs H Q E h=>?_) (fun cdv A outer s H vs Q E hr h=>?_)
 ·obtain ⟨s,T0,P0,E,zr,ps,pl,ev,q0,rfl,hs,hq,q⟩:=h;rfl
 ·obtain ⟨s,T0,P0,E,zr,ps,pl,ev,q0,rfl,hs,hq,q⟩:=h
  refine ⟨_,‹A3 (A6 (C3 (B8 (a0a a8E) b3Z ["_law_rule_here","_law_text"] [none,some 1]) (B7 (B0 a0i 0 A2)) (B1 0 (show Xm (["_law_rule_here","_law_text"]:List Str) by decide+kernel)) (D1 (A9 (a7c hr.units (K:=K) rfl) (E2 0) (A7 (a6i T) T.g_z14 T.F_z14.kp T.b_z14 (A0 1 A1)) (a0o _))) 0))›,?_⟩
  rw [show a0t b3Z [V.ref s,V.str q0]=[some (V.ref s),some (V.str q0)] from rfl]
  simp only [a0O,a0p,a1c,tOp,a0l,Qa,tC,a0b]
  refine a0m (SqL.of hs.s) rfl ⟨T0,rfl,⟨_,SqL.of hs.r.1⟩,?_⟩
  refine a1p zr hs.r.1 (by have:=hs.r.2.2.1;omega) hs.r.2.1 [some (V.str q0)] rfl (fun r=>decide (r.2.2.1=a1G q0)) (fun p=>p.1) (fun x r H' R ho hr' s' hR=>?_) (fun x r H' R ho hr' s' hR=>?_) (fun D H' hD s' hD'=>?_)
  ·have CF:=a5b T ho.1
   obtain ⟨dx,t0,g1,g2⟩:=id hr'
   simp only [a0D,tOp,a3s,a0l,Qa,a0B,a0h,Qb,a0v,Qf,a0b]
   refine ⟨x,_,dx,_,_,rfl,g1,CF.cl,CF.nh,a0Z _ _ _,31,q0,rfl,hq,by decide,?_⟩
   simp only [a1z,a1q]
   exact hR _ (a0g.refl _)
  ·simp only [a0l,Qa,a0b]
   exact hR _ (a0g.refl _)
  have hf:∀p∈zr.filter (fun p=>decide (p.2.2.2.1=a1G q0)),p∈zr:=fun p hp=>(Xc.mp hp).1
  refine q D _ H' s' hD' (fun p hp=>(hs.r.2.1.same s') p (hf p hp)) (Qj (Qz _ _) hs.r.2.2.1) ?_
  unfold hdF
  rw [Ze];rfl
theorem b3t (T:Txt K mg t):a1a P w K mg base CX0 1 t.f_z1d t.fd_z1d ["_law_scene_here","_law_rule_here","_law_others"] (c0l t):=by
 refine T.F_z1d.ok b3c (fun vs H Q E h=>?_) (fun cdv A outer s H vs Q E hr h=>?_)
 ·obtain ⟨s,T0,P0,E,x,L,zr,ps,pl,ev,r,zo,rfl,hs,hru,ho,hL,hz,hzl,q⟩:=h;rfl
 ·obtain ⟨s,T0,P0,E,x,L,zr,ps,pl,ev,r,zo,rfl,hs,hru,ho,hL,hz,hzl,q⟩:=h
  refine ⟨_,‹A4 (C5 (B7 2) (B1 3 b3c.nd) (A3 (B2 (A9 (b6B hr.units) (D0 (A0 (C2 3) (A0 (C2 1) A1))) (B0 a0i 0 A2) (by with_unfolding_all rfl)) (A3 (A6 B4)) B3))) (A3 (A6 B4))›,?_⟩
  rw [show a0t b6J [V.ref s,V.ref x,V.ref L]=[some (V.ref s),some (V.ref x),some (V.ref L),none] from rfl]
  obtain ⟨x',ex,dx,t0,g1,g2⟩:=hru
  cases ex
  have CF:=a5b T ho.1
  simp only [a1x,a0J,a1c,a0l,Qb,Qa,a0b,a1o]
  refine ⟨⟨_,SqL.of hL⟩,?_⟩
  refine a1j (K:=K) (a:=L) (xs:=zo.map (·.1)) (fun i σ H'=>a0g H H'∧(∀b∈zo.take i,(b.2.2.1,r.2.1)∉pl)∧∃y,σ=[some (V.ref s),some (V.ref x),some (V.ref L),y]) ⟨a0g.refl _,by simp,_,rfl⟩ (fun i σ H' _ h=>SqL.of (h.1 _ _ hL)) ?_ ?_
  ·rintro i v σ H' hi ⟨s',hU,y,rfl⟩
   obtain ⟨hi',ev⟩:=a2s hi
   obtain ⟨⟨x2,ex2,dx2,t2,f1,f2⟩,ho2⟩:=hz _ (Qv hi')
   rw [ex2] at ev
   subst ev
   have CF2:=a5b T ho2.1
   simp only [a0s,a1O,a0D,tOp,a6u,a0h,a3s,a0l,Qg,Qh,Qb,Qa,a0v,tC,a0O,a0K,a0b]
   refine ⟨x2,_,dx2,_,_,rfl,s' _ _ f1,CF2.cl,CF2.nl,a1l _ _ _,x,_,dx,_,_,rfl,s' _ _ g1,CF.cl,CF.nl,a1l _ _ _,(show 2≤sizeLine by decide),fun Z hZ=>?_⟩
   obtain ⟨H1,e1,s1,h1⟩:=a0I hZ (.tup [V.str zo[i].2.2.1,V.str r.2.1]);rw [e1]
   have s01:=s'.trans s1
   refine a0m (SqL.of (s01 _ _ hs.s)) rfl ⟨Z,P0,_,_,_,_,rfl,rfl,h1,SqL.of (s01 _ _ hs.p),a0q.same s01 hs.prs,⟨ho2.2.2.1.1,ho.2.2.1.1⟩,hs.po,?_⟩
   refine ⟨_,rfl,a0S (fun c=>?_) (fun c=>⟨s01,fun b hb=>?_,_,rfl⟩)⟩
   ·have:=q _ s01
    rwa [show btn pl (zo.map (·.2)) r=true from ?_] at this
    unfold btn
    exact Xx.mpr ⟨_,Qy.mpr ⟨_,Qv hi',rfl⟩,c⟩
   ·rcases (a1H hi' b).mp hb with z | z
    ·exact hU _ z
    ·rw [z];exact fun w=>c (decide_eq_true w)
  ·rintro σ H' ⟨s',hU,y,rfl⟩
   rw [Qd,Xy] at hU
   simp only [a0O,tC]
   have:=q _ s'
   rwa [show btn pl (zo.map (·.2)) r=false from ?_] at this
   refine Xz.mpr fun z=>?_
   unfold btn at z
   obtain ⟨w,h1,h2⟩:=Xx.mp z
   obtain ⟨b,hb,rfl⟩:=Qy.mp h1
   exact hU b hb (by simpa using h2)
theorem b3q (T:Txt K mg t):a1a P w K mg base CX0 1 t.f_z1k t.fd_z1k ["_law_rule_here","_law_refused"] (a6Z t a2G):=by
 refine T.F_z1k.ok b3p (fun vs H Q E h=>?_) (fun cdv A outer s H vs Q E hr h=>?_)
 ·obtain ⟨x,a,r,U,rfl,hru,ho,ha,q⟩:=h;rfl
 ·obtain ⟨x,a,r,U,rfl,hru,ho,ha,q⟩:=h
  refine ⟨_,‹A4 (C5 (E6 (C2 0)) (B1 2 b3p.nd) (A3 (B2 (A9 a1N 2 1 (by with_unfolding_all rfl)) (A3 (A6 B4)) B3))) (A3 (A6 B4))›,?_⟩
  rw [show a0t b7D [V.ref x,V.ref a]=[some (V.ref x),some (V.ref a),none] from rfl]
  obtain ⟨x',ex,dx,t0,g1,g2⟩:=hru
  cases ex
  have CF:=a5b T ho.1
  simp only [a1x,a0J,b3n,a3s,a0l,Qa,a0b]
  refine ⟨x,_,dx,_,_,rfl,g1,CF.cl,CF.nb,a1B _ _ _,t0,rfl,⟨_,SqT.of g2⟩,?_⟩
  refine a3H (K:=K) (a:=t0) (xs:=r.2.2.2.map V.str) (fun i σ H'=>H=H'∧(∀q∈r.2.2.2.take i,q∉U)∧∃y,σ=[some (V.ref x),some (V.ref a),y]) ⟨rfl,by simp,_,rfl⟩ (fun i σ H' _ h=>by rw [←h.1];exact SqT.of g2) ?_ ?_
  ·rintro i v σ H' hi ⟨rfl,hU,y,rfl⟩
   obtain ⟨hi',rfl⟩:=a2s hi
   simp only [a0s,a1O,a0D,tOp,a0l,Qg,Qh,Qb,Qa,a0O,tC,a0K,a0b]
   refine a1C (SqL.of ha) ?_
   simp only [a1q,decide_eq_true_eq]
   refine a0S (fun c=>?_) (fun c=>⟨by trivial,fun q hq=>?_,_,rfl⟩)
   ·have:=q _ (a0g.refl _)
    rwa [show a2G r.2.2.2 U=true from ?_] at this
    unfold a2G;exact Xx.mpr ⟨_,Qv hi',by simpa using c⟩
   ·rw [Xe hi'] at hq
    rcases Xn.mp hq with z | z
    ·exact hU _ z
    ·rw [Qw.mp z];exact c
  ·rintro σ H' ⟨rfl,hU,y,rfl⟩
   rw [Qd,Xy] at hU
   simp only [a0O,tC]
   have:=q _ (a0g.refl _)
   rwa [show a2G r.2.2.2 U=false from ?_] at this
   refine Xz.mpr fun z=>?_;unfold a2G at z;obtain ⟨w,h1,h2⟩:=Xx.mp z;exact hU w h1 (by simpa using h2)
theorem b3N (T:Txt K mg t):a1a P w K mg base CX0 1 t.f_z0q t.fd_z0q ["self"] (a2z "block"):=by
 refine T.F_z0q.ok b8u (fun vs H Q E h=>?_) (fun cdv A outer s H vs Q E hr h=>?_)
 ·obtain ⟨x,rfl,q⟩:=h;rfl
 ·obtain ⟨x,rfl,q⟩:=h
  refine ⟨_,‹A3 (A6 B5)›,?_⟩
  rw [show a0t b7m [x]=[some (x)] from rfl]
  simp only [a0O,tC]
  exact q
theorem b3A (T:Txt K mg t):a1a P w K mg base CX0 1 t.f_z10 t.fd_z10 ["self"] (a2z "fact"):=by
 refine T.F_z10.ok b9A (fun vs H Q E h=>?_) (fun cdv A outer s H vs Q E hr h=>?_)
 ·obtain ⟨x,rfl,q⟩:=h;rfl
 ·obtain ⟨x,rfl,q⟩:=h
  refine ⟨_,‹A3 (A6 B5)›,?_⟩
  rw [show a0t b9N [x]=[some (x)] from rfl]
  simp only [a0O,tC]
  exact q
theorem b3u (T:Txt K mg t):a1a P w K mg base CX0 1 t.f_z12 t.fd_z12 ["self"] (a2z "most"):=by
 refine T.F_z12.ok b7L (fun vs H Q E h=>?_) (fun cdv A outer s H vs Q E hr h=>?_)
 ·obtain ⟨x,rfl,q⟩:=h;rfl
 ·obtain ⟨x,rfl,q⟩:=h
  refine ⟨_,‹A3 (A6 B5)›,?_⟩
  rw [show a0t b6l [x]=[some (x)] from rfl]
  simp only [a0O,tC]
  exact q
theorem b3B (T:Txt K mg t):a1a P w K mg base CX0 1 t.f_z11 t.fd_z11 ["self"] (a2z "sure"):=by
 refine T.F_z11.ok b8E (fun vs H Q E h=>?_) (fun cdv A outer s H vs Q E hr h=>?_)
 ·obtain ⟨x,rfl,q⟩:=h;rfl
 ·obtain ⟨x,rfl,q⟩:=h
  refine ⟨_,‹A3 (A6 B5)›,?_⟩
  rw [show a0t b9W [x]=[some (x)] from rfl]
  simp only [a0O,tC]
  exact q
theorem b3h (T:Txt K mg t):a1a P w K mg base CX0 2 t.f_z0r t.fd_z0r ["_law_scene_here","_law_text"] (c0I t):=by
 refine T.F_z0r.ok b9c (fun vs H Q E h=>?_) (fun cdv A outer s H vs Q E hr h=>?_)
 ·obtain ⟨s,T0,P0,E,zr,ps,pl,ev,q0,rfl,hs,q⟩:=h;rfl
 ·obtain ⟨s,T0,P0,E,zr,ps,pl,ev,q0,rfl,hs,q⟩:=h
  refine ⟨_,‹A3 (A6 (C3 (B8 (a0a a8f) b5x ["_law_rule_here","_law_text"] [none,some 1]) (B7 (B0 a0i 0 A2)) (B1 0 (show Xm (["_law_rule_here","_law_text"]:List Str) by decide+kernel)) (D1 (C1 (D2 (A9 (a7c hr.units (K:=K) rfl) (E2 0) 1 (a0o _)) (D5 (A9 (b9x hr.units (K:=K) rfl) (D4 (C4 0 T.cl_Fact T.me_Fact_word (b3A T) T.b_z10) (D4 (C4 0 T.cl_Sure T.me_Sure_word (b3B T) T.b_z11) (D4 (C4 0 T.cl_Most T.me_Most_word (b3u T) T.b_z12) (C4 0 T.cl_Block T.me_Block_word (b3N T) T.b_z0q)))) B5 (a0o _)))))) 0))›,?_⟩
  rw [show a0t b5x [V.ref s,V.str q0]=[some (V.ref s),some (V.str q0)] from rfl]
  simp only [a0O,a0p,a1c,tOp,a0l,Qa,tC,a0b]
  refine a0m (SqL.of hs.s) rfl ⟨T0,rfl,⟨_,SqL.of hs.r.1⟩,?_⟩
  refine a1p zr hs.r.1 (by have:=hs.r.2.2.1;omega) hs.r.2.1 [some (V.str q0)] rfl (fun r=>decide (r.2.2.1=q0) && spk r) (fun p=>p.1) (fun x r H' R ho hr' s' hR=>?_) (fun x r H' R ho hr' s' hR=>?_) (fun D H' hD s' hD'=>?_)
  ·have CF:=a5b T ho.1
   obtain ⟨dx,t0,g1,g2⟩:=id hr'
   simp only [a6t,a0D,tOp,a3s,a0l,Qa,Qb,tC,a0b]
   refine ⟨x,_,dx,_,_,rfl,g1,CF.cl,CF.nh,a0Z _ _ _,?_⟩
   simp only [a1z,a1q,decide_eq_true_eq]
   refine a0S (fun c=>?_) (fun c=>?_)
   ·refine b6j ho.1 (a1k rfl) hr' ⟨by decide+kernel,by decide+kernel,by decide+kernel⟩ ?_
    rw [a5p ho.1]
    simp only [a5C,a4V,a1q]
    have:=hR _ (a0g.refl _)
    rwa [decide_eq_true c,Yg,show spk r=_ from (b2m ho.1).symm] at this
   ·have:=hR _ (a0g.refl _)
    rwa [decide_eq_false c,Zl] at this
  ·simp only [a0l,Qa,a0b]
   exact hR _ (a0g.refl _)
  have hf:∀p∈zr.filter (fun p=>decide (p.2.2.2.1=q0) && spk p.2),p∈zr:=fun p hp=>(Xc.mp hp).1
  refine q D _ H' s' hD' (fun p hp=>(hs.r.2.1.same s') p (hf p hp)) (Qj (Qz _ _) hs.r.2.2.1) ?_
  unfold hdF
  rw [Vm,Ze]
  congr 1
  refine List.filter_congr fun p _=>?_
  show (_ && _)=(_ && _)
  exact Bool.and_comm _ _
theorem b1j (T:Txt K mg t):a1a P w K mg base CX0 1 t.f_z1c t.fd_z1c ["_law_rule_here","_law_held"] (a6Z t a1X):=by
 refine T.F_z1c.ok b2V (fun vs H Q E h=>?_) (fun cdv A outer s H vs Q E hr h=>?_)
 ·obtain ⟨x,a,r,U,rfl,hru,ho,ha,q⟩:=h;rfl
 ·obtain ⟨x,a,r,U,rfl,hru,ho,ha,q⟩:=h
  refine ⟨_,‹A4 (C5 (E6 (C2 0)) (B1 2 b2V.nd) (A3 (B2 (A9 a2H 2 1 (by with_unfolding_all rfl)) (A3 (A6 B4)) B3))) (A3 (A6 B4))›,?_⟩
  rw [show a0t b9C [V.ref x,V.ref a]=[some (V.ref x),some (V.ref a),none] from rfl]
  obtain ⟨x',ex,dx,t0,g1,g2⟩:=hru
  cases ex
  have CF:=a5b T ho.1
  simp only [a1x,a0J,b3n,a3s,a0l,Qa,a0b]
  refine ⟨x,_,dx,_,_,rfl,g1,CF.cl,CF.nb,a1B _ _ _,t0,rfl,⟨_,SqT.of g2⟩,?_⟩
  refine a3H (K:=K) (a:=t0) (xs:=r.2.2.2.map V.str) (fun i σ H'=>H=H'∧(∀q∈r.2.2.2.take i,q∈U)∧∃y,σ=[some (V.ref x),some (V.ref a),y]) ⟨rfl,by simp,_,rfl⟩ (fun i σ H' _ h=>by rw [←h.1];exact SqT.of g2) ?_ ?_
  ·rintro i v σ H' hi ⟨rfl,hU,y,rfl⟩
   obtain ⟨hi',rfl⟩:=a2s hi
   simp only [a0s,a1O,a0D,tOp,a0l,Qg,Qh,Qb,Qa,a0O,tC,a0K,a0b]
   refine a1u (SqL.of ha) ?_
   simp only [a1q,Xf,decide_eq_false_iff_not]
   refine a0S (fun c=>?_) (fun c=>⟨by trivial,fun q hq=>?_,_,rfl⟩)
   ·have:=q _ (a0g.refl _)
    rwa [show a1X r.2.2.2 U=false from ?_] at this
    refine Xz.mpr fun z=>c (a0W.mp z _ (Qv hi'))
   ·rw [Xe hi'] at hq
    rcases Xn.mp hq with z | z
    ·exact hU _ z
    ·rw [Qw.mp z];exact Uz c
  ·rintro σ H' ⟨rfl,hU,y,rfl⟩
   rw [Qd,Xy] at hU
   simp only [a0O,tC]
   have:=q _ (a0g.refl _)
   rwa [show a1X r.2.2.2 U=true from ?_] at this
   exact a0W.mpr hU
theorem b0H (T:Txt K mg t):a1a P w K mg base CX0 3 t.f_z0s t.fd_z0s ["_law_scene_here","_law_sures_here","_law_held","_law_refused","_law_text"] (b6f t a0U):=by
 refine T.F_z0s.ok a9y (fun vs H Q E h=>?_) (fun cdv A outer s H vs Q E hr h=>?_)
 ·obtain ⟨s,T0,P0,E,a1,a2,a3,zr,ps,pl,ev,S,U,D,q0,rfl,hs,hq,h1,h2,h3,q⟩:=h;rfl
 ·obtain ⟨s,T0,P0,E,a1,a2,a3,zr,ps,pl,ev,S,U,D,q0,rfl,hs,hq,h1,h2,h3,q⟩:=h
  refine ⟨_,‹A4 (B2 (A9 a1N 4 1 (by with_unfolding_all rfl)) (A3 (A6 B4)) B3) (A4 (E3 5 (B8 (a0a a8d) b4r ["_law_rule_here","_law_held"] [none,some 2]) (B7 (A7 (b3h T) T.g_z0r T.F_z0r.kp T.b_z0r (A0 0 (A0 4 A1)))) (B1 0 (show Xm (["_law_rule_here","_law_held"]:List Str) by decide+kernel)) (D1 (C0 (A7 (b1j T) T.g_z1c T.F_z1c.kp T.b_z1c (A0 0 (A0 1 A1))))) 0 a9y.nd) (C6 (B2 (C1 (D8 (A9 (b3i hr.units) 5 (B9 A1) (a0o _)) (E1 (A9 a1N (A7 (a6i T) T.g_z14 T.F_z14.kp T.b_z14 (A0 4 A1)) 1 (by with_unfolding_all rfl))))) (A3 (A6 B4)) B3) (A4 (C5 (B7 (A7 (b3E T) T.g_z16 T.F_z16.kp T.b_z16 (A0 0 (A0 4 A1)))) (B1 6 a9y.nd) (A3 (B2 (C1 (D2 (D9 (C0 (A7 (b3q T) T.g_z1k T.F_z1k.kp T.b_z1k (A0 6 (A0 3 A1))))) (D5 (D9 (C0 (A7 (b3t T) T.g_z1d T.F_z1d.kp T.b_z1d (A0 0 (A0 6 (A0 5 A1))))))))) (A3 (A6 B4)) B3))) (A3 (A6 B4)))))›,?_⟩
  rw [show a0t b4r [V.ref s,V.ref a1,V.ref a2,V.ref a3,V.str q0]=[some (V.ref s),some (V.ref a1),some (V.ref a2),some (V.ref a3),some (V.str q0),none,none] from rfl]
  obtain ⟨rs,ers⟩:∃rs,zr.map (·.2)=rs:=⟨_,rfl⟩
  rw [ers] at q
  simp only [a1x,a1O,a0D,tOp,a0l,Qb,Qa,a0O,tC,a0K,Qg,Qh,a0p,a1c,a0B,a0h,a0v,Qf,a0b]
  refine a1C (SqL.of h1) ⟨_,rfl,a0S (fun c0=>?_) (fun c0=>?_)⟩
  ·have:=q H (a0g.refl _)
   unfold a0U at this
   rwa [if_pos (by simpa using c0)] at this
  have c0':q0∉S:=by simpa using c0
  refine ⟨s,T0,P0,E,zr,ps,pl,ev,q0,rfl,hs,fun W zs H1 s1 hW1 hz1 hzl1 ez1=>?_⟩
  refine ⟨W,rfl,⟨_,SqL.of hW1⟩,?_⟩
  refine a1p zs hW1 ‹om› hz1 [some (V.ref a2)] rfl (fun r=>a1X r.2.2.2 U) (fun p=>p.1) (fun x r H' R ho hr' s' hR=>?_) (fun x r H' R ho hr' s' hR=>?_) (fun W2 H2 hW2n s2 hW2=>?_)
  ·simp only [tB,a0B,a0h,a0l,Qa,Qb,a0v,Qf,a0b]
   refine ⟨x,a2,r,U,rfl,⟨x,rfl,hr'⟩,ho,(s1.trans s') _ _ h2,fun H'' s''=>?_⟩
   simp only [a1q]
   exact hR _ s''
  ·simp only [a0l,Qa,a0b]
   exact hR _ (a0g.refl _)
  have s02:=s1.trans s2
  have hz2:a5k t H2 (zs.filter fun p=>a1X p.2.2.2.2 U):=fun p hp=>(hz1.same s2) p (Xc.mp hp).1
  have hzl2:(zs.filter fun p=>a1X p.2.2.2.2 U).length≤30:=Qj (Qz _ _) hzl1
  have est:(zs.filter fun p=>a1X p.2.2.2.2 U).map (·.2)=a1V rs U q0:=by
   unfold a1V
   rw [←ers,←ez1,Ze];rfl
  generalize (zs.filter fun p=>a1X p.2.2.2.2 U)=zw at hW2 hz2 hzl2 est
  have hneed:∀H',a0g H H'→(a1V rs U q0=[]∨a1G q0∈S)→Q (.bl false) H':=fun H' s' hc=>by
   have:=q H' s'
   unfold a0U at this
   rwa [if_neg c0',if_pos hc] at this
  refine ⟨fun σ' H'=>σ'=[some (V.ref s),some (V.ref a1),some (V.ref a2),some (V.ref a3),some (V.str q0),some (V.ref W2),none]∧a0g H2 H'∧¬(a1V rs U q0=[]∨a1G q0∈S),?_,?_⟩
  ·simp only [a1O,tOr,a0D,tOp,a0l,Qb,Qa,a4a,a0v,a0O,tC,a0K,a0B,a0h,Qf,a0b]
   refine ⟨by decide,fun N hN=>?_⟩
   obtain ⟨H3,e3,s3,h3'⟩:=a0I hN (.lst []);rw [e3]
   refine ⟨W2,N,_,rfl,rfl,SqL.of (s3 _ _ hW2),SqL.of h3',_,rfl,a0S (fun c1=>?_) (fun c1=>?_)⟩
   ·refine hneed _ (s02.trans s3) (.inl ?_)
    have:zw.map (·.1)=[]:=by simpa using c1
    rw [←est,Jt.mp this];rfl
   refine ⟨31,q0,rfl,hq,by decide,a1C (SqL.of ((s02.trans s3) _ _ h1)) ⟨_,rfl,a0S (fun c2=>hneed _ (s02.trans s3) (.inr (by simpa using c2))) (fun c2=>⟨(by trivial),s3,fun z=>z.elim (fun w=>c1 ?_) (fun w=>c2 (by simpa using w))⟩)⟩⟩
   rw [←est] at w
   have:zw=[]:=Jt.mp w
   rw [this];rfl
  rintro σ' H3 ⟨rfl,s23,hc⟩
  have s03:=s02.trans s23
  simp only [a1x,a0J,a1c,a0B,a0h,a0l,Qa,Qb,a0v,Qf,a0b]
  refine ⟨s,T0,P0,E,zr,ps,pl,ev,q0,rfl,hs.same s03,hq,fun B zb H4 s4 hB4 hzb hbl eb=>?_⟩
  rw [ers] at eb
  have s04:=s03.trans s4
  have s24:=s23.trans s4
  refine ⟨B,rfl,⟨_,SqL.of hB4⟩,?_⟩
  refine a1j (K:=K) (a:=B) (xs:=zb.map (·.1)) (fun i σ H'=>a0g H4 H'∧(∀b∈zb.take i,a2G b.2.2.2.2 D=true∨btn pl (zw.map (·.2)) b.2=true)∧∃y,σ=[some (V.ref s),some (V.ref a1),some (V.ref a2),some (V.ref a3),some (V.str q0),some (V.ref W2),y]) ⟨a0g.refl _,(fun b hb=>by simp at hb),_,rfl⟩ (fun i σ H' _ h=>SqL.of (h.1 _ _ hB4)) ?_ ?_
  ·rintro i v σ H5 hi ⟨s5,hU,y,rfl⟩
   obtain ⟨hi',ev'⟩:=a2s hi
   obtain ⟨⟨x,ex,hx⟩,ho⟩:=hzb _ (Qv hi')
   rw [ex] at ev'
   subst ev'
   have hmem:zb[i].2∈hdF rs (a1G q0):=by rw [←eb];exact Qy.mpr ⟨_,Qv hi',rfl⟩
   have s05:=s04.trans s5
   simp only [a0s,a1O,a6t,a8P,tB,a0B,a0h,a0l,Qg,Qh,Qb,Qa,a0v,Qf,Xf,a0O,tC,a0K,a0b,a2j]
   refine ⟨x,a3,_,D,rfl,⟨x,rfl,hx.same s5⟩,ho,s05 _ _ h3,fun H6 s6=>?_⟩
   simp only [a1q]
   have s06:=s05.trans s6
   have s26:=(s24.trans s5).trans s6
   refine a0S (fun c1=>?_) (fun c1=>⟨s5.trans s6,fun b hb=>?_,_,rfl⟩)
   ·refine ⟨s,T0,P0,E,x,W2,zr,ps,pl,ev,_,zw,rfl,hs.same s06,⟨x,rfl,(hx.same s5).same s6⟩,ho,s26 _ _ hW2,hz2.same s26,hzl2,fun H7 s7=>⟨_,rfl,a0S (fun c2=>?_) (fun c2=>⟨(s5.trans s6).trans s7,fun b hb=>?_,_,rfl⟩)⟩⟩
    ·have:=q _ (s06.trans s7)
     unfold a0U at this
     rw [if_neg c0',if_neg hc,←est] at this
     rwa [show (List.all _ _)=false from ?_] at this
     refine Xz.mpr fun z=>?_
     have w:=Jb.mp z _ hmem
     rw [c1,c2] at w;cases w
    ·rcases (a1H hi' b).mp hb with z | z
     ·exact hU b z
     ·rw [z];right;simpa using c2
   ·rcases (a1H hi' b).mp hb with z | z
    ·exact hU b z
    ·rw [z];left;simpa using c1
  ·rintro σ H5 ⟨s5,hU,y,rfl⟩
   rw [Qd,Xy] at hU
   simp only [a0O,tC]
   have:=q _ (s04.trans s5)
   unfold a0U at this
   rw [if_neg c0',if_neg hc,←est,←eb] at this
   rwa [Jb.mpr fun r hr=>?_] at this
   obtain ⟨p,hp,rfl⟩:=Qy.mp hr
   rcases hU p hp with w | w
   ·rw [w];rfl
   ·rw [w];exact Bool.or_true _
theorem a9p (T:Txt K mg t):a1a P w K mg base CX0 3 t.f_z0c t.fd_z0c ["_law_scene_here","_law_sures_here","_law_held","_law_refused","_law_text"] (b6f t a3d):=by
 refine T.F_z0c.ok a9E (fun vs H Q E h=>?_) (fun cdv A outer s H vs Q E hr h=>?_)
 ·obtain ⟨s,T0,P0,E,a1,a2,a3,zr,ps,pl,ev,S,U,D,q0,rfl,hs,hq,h1,h2,h3,q⟩:=h;rfl
 ·obtain ⟨s,T0,P0,E,a1,a2,a3,zr,ps,pl,ev,S,U,D,q0,rfl,hs,hq,h1,h2,h3,q⟩:=h
  refine ⟨_,‹A4 (B2 (A9 a1N 4 1 (by with_unfolding_all rfl)) (A3 (A6 B4)) B3) (A4 (E3 5 (B8 (a0a a8J) b4X ["_law_rule_here","_law_refused"] [none,some 3]) (B7 (A7 (b3h T) T.g_z0r T.F_z0r.kp T.b_z0r (A0 0 (A0 4 A1)))) (B1 0 (show Xm (["_law_rule_here","_law_refused"]:List Str) by decide+kernel)) (D1 (D9 (C0 (A7 (b3q T) T.g_z1k T.F_z1k.kp T.b_z1k (A0 0 (A0 1 A1)))))) 0 a9E.nd) (C6 (B2 (C1 (D8 (A9 (b3i hr.units) 5 (B9 A1) (a0o _)) (E1 (A9 a1N (A7 (a6i T) T.g_z14 T.F_z14.kp T.b_z14 (A0 4 A1)) 1 (by with_unfolding_all rfl))))) (A3 (A6 B4)) B3) (A4 (C5 (B7 (A7 (b3E T) T.g_z16 T.F_z16.kp T.b_z16 (A0 0 (A0 4 A1)))) (B1 6 a9E.nd) (A3 (B2 (C1 (D2 (C0 (A7 (b1j T) T.g_z1c T.F_z1c.kp T.b_z1c (A0 6 (A0 2 A1)))) (D5 (D9 (C0 (A7 (b3t T) T.g_z1d T.F_z1d.kp T.b_z1d (A0 0 (A0 6 (A0 5 A1))))))))) (A3 (A6 B4)) B3))) (A3 (A6 B4)))))›,?_⟩
  rw [show a0t b4X [V.ref s,V.ref a1,V.ref a2,V.ref a3,V.str q0]=[some (V.ref s),some (V.ref a1),some (V.ref a2),some (V.ref a3),some (V.str q0),none,none] from rfl]
  obtain ⟨rs,ers⟩:∃rs,zr.map (·.2)=rs:=⟨_,rfl⟩
  rw [ers] at q
  simp only [a1x,a1O,a0D,tOp,a0l,Qb,Qa,a0O,tC,a0K,Qg,Qh,a0p,a1c,a0B,a0h,a0v,Qf,a0b]
  refine a1C (SqL.of h1) ⟨_,rfl,a0S (fun c0=>?_) (fun c0=>?_)⟩
  ·have:=q H (a0g.refl _)
   unfold a3d at this
   rwa [if_pos (by simpa using c0)] at this
  have c0':q0∉S:=by simpa using c0
  refine ⟨s,T0,P0,E,zr,ps,pl,ev,q0,rfl,hs,fun W zs H1 s1 hW1 hz1 hzl1 ez1=>?_⟩
  refine ⟨W,rfl,⟨_,SqL.of hW1⟩,?_⟩
  refine a1p zs hW1 ‹om› hz1 [some (V.ref a3)] rfl (fun r=>!a2G r.2.2.2 D) (fun p=>p.1) (fun x r H' R ho hr' s' hR=>?_) (fun x r H' R ho hr' s' hR=>?_) (fun W2 H2 hW2n s2 hW2=>?_)
  ·simp only [a8P,tB,a0B,a0h,a0l,Qa,Qb,a0v,Qf,a0b]
   refine ⟨x,a3,r,D,rfl,⟨x,rfl,hr'⟩,ho,(s1.trans s') _ _ h3,fun H'' s''=>?_⟩
   simp only [a1q]
   exact hR _ s''
  ·simp only [a0l,Qa,a0b]
   exact hR _ (a0g.refl _)
  have s02:=s1.trans s2
  have hz2:a5k t H2 (zs.filter fun p=>!a2G p.2.2.2.2 D):=fun p hp=>(hz1.same s2) p (Xc.mp hp).1
  have hzl2:(zs.filter fun p=>!a2G p.2.2.2.2 D).length≤30:=Qj (Qz _ _) hzl1
  have est:(zs.filter fun p=>!a2G p.2.2.2.2 D).map (·.2)=unf rs D q0:=by
   unfold unf
   rw [←ers,←ez1,Ze];rfl
  generalize (zs.filter fun p=>!a2G p.2.2.2.2 D)=zw at hW2 hz2 hzl2 est
  have hneed:∀H',a0g H H'→(unf rs D q0=[]∨a1G q0∈S)→Q (.bl true) H':=fun H' s' hc=>by
   have:=q H' s'
   unfold a3d at this
   rwa [if_neg c0',if_pos hc] at this
  refine ⟨fun σ' H'=>σ'=[some (V.ref s),some (V.ref a1),some (V.ref a2),some (V.ref a3),some (V.str q0),some (V.ref W2),none]∧a0g H2 H'∧¬(unf rs D q0=[]∨a1G q0∈S),?_,?_⟩
  ·simp only [a1O,tOr,a0D,tOp,a0l,Qb,Qa,a4a,a0v,a0O,tC,a0K,a0B,a0h,Qf,a0b]
   refine ⟨by decide,fun N hN=>?_⟩
   obtain ⟨H3,e3,s3,h3'⟩:=a0I hN (.lst []);rw [e3]
   refine ⟨W2,N,_,rfl,rfl,SqL.of (s3 _ _ hW2),SqL.of h3',_,rfl,a0S (fun c1=>?_) (fun c1=>?_)⟩
   ·refine hneed _ (s02.trans s3) (.inl ?_)
    have:zw.map (·.1)=[]:=by simpa using c1
    rw [←est,Jt.mp this];rfl
   refine ⟨31,q0,rfl,hq,by decide,a1C (SqL.of ((s02.trans s3) _ _ h1)) ⟨_,rfl,a0S (fun c2=>hneed _ (s02.trans s3) (.inr (by simpa using c2))) (fun c2=>⟨(by trivial),s3,fun z=>z.elim (fun w=>c1 ?_) (fun w=>c2 (by simpa using w))⟩)⟩⟩
   rw [←est] at w
   have:zw=[]:=Jt.mp w
   rw [this];rfl
  rintro σ' H3 ⟨rfl,s23,hc⟩
  have s03:=s02.trans s23
  simp only [a1x,a0J,a1c,a0B,a0h,a0l,Qa,Qb,a0v,Qf,a0b]
  refine ⟨s,T0,P0,E,zr,ps,pl,ev,q0,rfl,hs.same s03,hq,fun B zb H4 s4 hB4 hzb hbl eb=>?_⟩
  rw [ers] at eb
  have s04:=s03.trans s4
  have s24:=s23.trans s4
  refine ⟨B,rfl,⟨_,SqL.of hB4⟩,?_⟩
  refine a1j (K:=K) (a:=B) (xs:=zb.map (·.1)) (fun i σ H'=>a0g H4 H'∧(∀b∈zb.take i,a1X b.2.2.2.2 U=false∨btn pl (zw.map (·.2)) b.2=true)∧∃y,σ=[some (V.ref s),some (V.ref a1),some (V.ref a2),some (V.ref a3),some (V.str q0),some (V.ref W2),y]) ⟨a0g.refl _,(fun b hb=>by simp at hb),_,rfl⟩ (fun i σ H' _ h=>SqL.of (h.1 _ _ hB4)) ?_ ?_
  ·rintro i v σ H5 hi ⟨s5,hU,y,rfl⟩
   obtain ⟨hi',ev'⟩:=a2s hi
   obtain ⟨⟨x,ex,hx⟩,ho⟩:=hzb _ (Qv hi')
   rw [ex] at ev'
   subst ev'
   have hmem:zb[i].2∈hdF rs (a1G q0):=by rw [←eb];exact Qy.mpr ⟨_,Qv hi',rfl⟩
   have s05:=s04.trans s5
   simp only [a0s,a1O,a6t,tB,a0B,a0h,a0l,Qg,Qh,Qb,Qa,a0v,Qf,a8P,Xf,a0O,tC,a0K,a0b,a2j]
   refine ⟨x,a2,_,U,rfl,⟨x,rfl,hx.same s5⟩,ho,s05 _ _ h2,fun H6 s6=>?_⟩
   simp only [a1q]
   have s06:=s05.trans s6
   have s26:=(s24.trans s5).trans s6
   refine a0S (fun c1=>?_) (fun c1=>⟨s5.trans s6,fun b hb=>?_,_,rfl⟩)
   ·refine ⟨s,T0,P0,E,x,W2,zr,ps,pl,ev,_,zw,rfl,hs.same s06,⟨x,rfl,(hx.same s5).same s6⟩,ho,s26 _ _ hW2,hz2.same s26,hzl2,fun H7 s7=>⟨_,rfl,a0S (fun c2=>?_) (fun c2=>⟨(s5.trans s6).trans s7,fun b hb=>?_,_,rfl⟩)⟩⟩
    ·have:=q _ (s06.trans s7)
     unfold a3d at this
     rw [if_neg c0',if_neg hc,←est] at this
     rwa [show (List.any _ _)=true from ?_] at this
     exact Xx.mpr ⟨_,hmem,by rw [c1,c2];rfl⟩
    ·rcases (a1H hi' b).mp hb with z | z
     ·exact hU b z
     ·rw [z];right;simpa using c2
   ·rcases (a1H hi' b).mp hb with z | z
    ·exact hU b z
    ·rw [z];left;simpa using c1
  ·rintro σ H5 ⟨s5,hU,y,rfl⟩
   rw [Qd,Xy] at hU
   simp only [a0O,tC]
   have:=q _ (s04.trans s5)
   unfold a3d at this
   rw [if_neg c0',if_neg hc,←est,←eb] at this
   rwa [show (List.any _ _)=false from ?_] at this
   refine Xz.mpr fun z=>?_
   obtain ⟨r,h1,h2⟩:=Xx.mp z
   obtain ⟨p,hp,rfl⟩:=Qy.mp h1
   rcases hU p hp with w | w
   ·rw [w] at h2;cases h2
   ·rw [w] at h2;simp at h2
theorem b6e (T:Txt K mg t):a1a P w K mg base CX0 4 t.f_z0j t.fd_z0j ["_law_scene_here","_law_sures_here","_law_rows_here"] (b4x t):=by
 refine T.F_z0j.ok a5R (fun vs H Q E h=>?_) (fun cdv A outer s H vs Q E hr h=>?_)
 ·obtain ⟨s,T0,P0,E,a1,a2,zr,ps,pl,ev,S,R,rfl,hs,h1,hR,hRl,q⟩:=h;rfl
 ·obtain ⟨s,T0,P0,E,a1,a2,zr,ps,pl,ev,S,R,rfl,hs,h1,hR,hRl,q⟩:=h
  refine ⟨_,‹A4 (A8 3 a5R.nd (B9 A1)) (A4 (A8 4 a5R.nd (B9 A1)) (A4 (C5 (B7 2) (G3 (E4 (B1 5 a5R.nd) (E4 (B1 6 a5R.nd) F7))) (A3 (B2 (A9 (a0T hr.units) 5 B5 (a0o _)) (A4 (B2 (D9 (C0 (A7 (b0H T) T.g_z0s T.F_z0s.kp T.b_z0s (A0 0 (A0 1 (A0 3 (A0 4 (A0 6 A1)))))))) (A3 (A6 B4)) B3) (A3 (C9 (C8 Xi Xp Xq a0E 3 (A0 6 A1))))) (A4 (B2 (D9 (C0 (A7 (a9p T) T.g_z0c T.F_z0c.kp T.b_z0c (A0 0 (A0 1 (A0 3 (A0 4 (A0 6 A1)))))))) (A3 (A6 B4)) B3) (A3 (C9 (C8 Xi Xp Xq a0E 4 (A0 6 A1)))))))) (A3 (A6 B4))))›,?_⟩
  rw [show a0t b6v [V.ref s,V.ref a1,V.ref a2]=[some (V.ref s),some (V.ref a1),some (V.ref a2),none,none,none,none] from rfl]
  obtain ⟨qs,hD,hP,he⟩:=hR
  have hql:=a0q.len hP
  rw [Qd] at hql
  simp only [a1x,a2a,a4a,a0v,a0s,Qg,Qh,a0J,a1c,a0l,Qb,Qa,a0b,a1o]
  refine ⟨Xg _,fun A1 hA1=>⟨Xg _,fun A2 hA2=>?_⟩⟩
  obtain ⟨H2,e2,s2,g2⟩:=a0I hA1 (.lst []);rw [e2] at hA2 ⊢
  obtain ⟨H3,e3,s3,g3⟩:=a0I hA2 (.lst []);rw [e3]
  have s13:=s2.trans s3
  have n12:A1≠A2:=fun z=>by rw [z] at g2;rw [g2] at hA2;cases hA2
  have f1:H A1=none:=hA1
  have f2:H A2=none:=none_of s2 hA2
  refine ⟨⟨_,SqL.of (s13 _ _ hD)⟩,?_⟩
  refine a1j (K:=K) (a:=a2) (xs:=qs) (fun j σ H'=>∃(x5 x6:Option V),σ=[some (V.ref s),some (V.ref a1),some (V.ref a2),some (V.ref A1),some (V.ref A2),x5,x6]∧a0g H H'∧H' A1=some (.lst ((wOf ((R.take j).map cw) "held").map V.str))∧H' A2=some (.lst ((wOf ((R.take j).map cw) "refused").map V.str))∧a1e (zr.map (·.2)) pl S [] (R.take j)=true)
   ⟨_,_,rfl,s13,s3 _ _ g2,g3,rfl⟩ (fun i σ H' _ ⟨_,_,_,s',_⟩=>SqL.of (s' _ _ hD)) ?_ ?_
  ·rintro j x σ H4 hj ⟨x5,x6,rfl,s4,hU,hDn,hL⟩
   have hj':j < R.length:=by rw [←hql];exact (Xa.mp hj).1
   obtain ⟨x',ex,hx⟩:=a0q.at hP (i:=j) (by rw [Qd];exact hj')
   rw [hj] at ex
   cases ex
   rw [Yo] at hx
   have hce:=hs.eo _ (he _ (Qv hj'))
   have hbad:a1e (zr.map (·.2)) pl S [] (R.take (j+1))=false→∀H',a0g H H'→Q (.bl false) H':=fun hb H' s'=>by
    have:=q H' s'
    rwa [show a1e (zr.map (·.2)) pl S [] R=false from Xz.mpr fun z=>by rw [a5V (j+1) z] at hb;cases hb] at this
   have hw:∀w,(wOf ((R.take j).map cw) w).length≤1000:=fun w=>by
    unfold wOf
    rw [Qd]
    refine Qj (Qz _ _) ?_
    rw [Qd,Xo]
    omega
   rw [Xe hj'] at hbad ⊢
   have hstep:a1e (zr.map (·.2)) pl S [] (R.take j++[R[j]])=a2b (zr.map (·.2)) pl S (R.take j) R[j]:=by rw [a3z,hL,Yg,Jm]
   generalize R[j]=c at hx hce hbad hstep ⊢
   generalize R.take j=U at hbad hstep hU hDn hL hw ⊢
   simp only [b6b,a6L,a0s,b6X,a1O,a0D,tOp,a0l,Qg,Qh,Qb,Qa,tC,a1x,a8P,tB,a0B,a0h,a0v,Qf,Xf,a0O,a0K,a2X,tBM,a0b]
   refine ⟨x',_,rfl,SqT.of (s4 _ _ hx),rfl,_,_,rfl,_,_,rfl,rfl,?_⟩
   obtain ⟨b,z⟩:=c
   cases b
   ·refine a1z.mpr ⟨_,rfl,?_⟩
    rw [decide_eq_false (show ¬(cw (false,z)).1="held" from (by decide+kernel:¬clW false="held")),if_neg ‹dc›]
    refine ⟨s,T0,P0,E,a1,A1,A2,zr,ps,pl,ev,S,_,_,z,rfl,hs.same s4,hce,s4 _ _ h1,hU,hDn,fun H5 s5=>⟨_,rfl,?_⟩⟩
    have ed:a3d (zr.map (·.2)) pl S (wOf (U.map cw) "held") (wOf (U.map cw) "refused") z=a2b (zr.map (·.2)) pl S U (false,z):=rfl
    rw [ed]
    by_cases hd:a2b (zr.map (·.2)) pl S U (false,z)=true
    ·rw [hd,if_neg ‹dc›]
     have h5:=s5 _ _ hDn
     refine ⟨.inl ⟨rfl,_,SqL.of h5⟩,A2,_,_,rfl,rfl,h5,Xv (show _≤1000 by rw [Qd];exact hw _) ‹dc›,_,_,rfl,fun b o e=>?_,?_,?_,by rw [hstep];exact hd⟩
     ·rw [a0d (a0c e f2)];exact s5 _ _ (s4 _ _ e)
     ·rw [a0d n12,a4x,if_neg (show ¬clW false="held" by decide+kernel),Qf];exact s5 _ _ hU
     ·rw [a0e,a4x,if_pos (show clW false="refused" from rfl),Yc];rfl
    ·have hd':a2b (zr.map (·.2)) pl S U (false,z)=false:=Xz.mpr hd
     rw [hd',if_pos rfl]
     exact hbad (by rw [hstep];exact hd') _ (s4.trans s5)
   ·refine a1z.mpr ⟨_,rfl,?_⟩
    rw [decide_eq_true (show (cw (true,z)).1="held" from rfl),if_pos rfl]
    refine ⟨s,T0,P0,E,a1,A1,A2,zr,ps,pl,ev,S,_,_,z,rfl,hs.same s4,hce,s4 _ _ h1,hU,hDn,fun H5 s5=>⟨_,rfl,?_⟩⟩
    have ed:a0U (zr.map (·.2)) pl S (wOf (U.map cw) "held") (wOf (U.map cw) "refused") z=a2b (zr.map (·.2)) pl S U (true,z):=rfl
    rw [ed]
    by_cases hd:a2b (zr.map (·.2)) pl S U (true,z)=true
    ·rw [hd,if_neg ‹dc›]
     have h5:=s5 _ _ hU
     refine ⟨.inl ⟨rfl,_,SqL.of h5⟩,A1,_,_,rfl,rfl,h5,Xv (show _≤1000 by rw [Qd];exact hw _) ‹dc›,_,_,rfl,fun b o e=>?_,?_,?_,by rw [hstep];exact hd⟩
     ·rw [a0d (a0c e f1)];exact s5 _ _ (s4 _ _ e)
     ·rw [a0e,a4x,if_pos (show clW true="held" from rfl),Yc];rfl
     ·rw [a0d n12.symm,a4x,if_neg (show ¬clW true="refused" by decide+kernel),Qf];exact s5 _ _ hDn
    ·have hd':a2b (zr.map (·.2)) pl S U (true,z)=false:=Xz.mpr hd
     rw [hd',if_pos rfl]
     exact hbad (by rw [hstep];exact hd') _ (s4.trans s5)
  ·rintro σ H4 ⟨x5,x6,rfl,s4,_,_,hL⟩
   rw [hql,Xy] at hL
   simp only [a0O,tC]
   have:=q H4 s4
   rwa [hL] at this
theorem b7k (T:Txt K mg t):a1a P w K mg base CX0 5 t.f_z1w t.fd_z1w ["_law_scene_here","_law_firm_here","_law_told"] (b7T t):=by
 refine T.F_z1w.ok a3F (fun vs H Q E h=>?_) (fun cdv A outer s H vs Q E hr h=>?_)
 ·obtain ⟨s,T0,P0,E,f,p,a1,a2,a3,zr,ps,pl,ev,L,S,So,R,rfl,hs,hf,hiL,hLl,hp,h1,hO,hR,hRl,h3,hSl,hSe,q⟩:=h;rfl
 ·obtain ⟨s,T0,P0,E,f,p,a1,a2,a3,zr,ps,pl,ev,L,S,So,R,rfl,hs,hf,hiL,hLl,hp,h1,hO,hR,hRl,h3,hSl,hSe,q⟩:=h
  refine ⟨_,‹A4 (G4 2 (G3 (E4 (B1 3 a3F.nd) (E4 (B1 4 a3F.nd) (E4 (B1 5 a3F.nd) F7))))) (C6 (B2 (C1 (D8 (A9 (a3j hr.units) (B6 (a1A rfl) T.z_sorted a0H (A0 3 A1)) (B6 (a1A rfl) T.z_sorted a0H (A0 1 A1)) (a0o _)) (D8 (D9 (C0 (A7 (b6e T) T.g_z0j T.F_z0j.kp T.b_z0j (A0 0 (A0 3 (A0 4 A1)))))) (E1 (A9 (a3j hr.units) 5 (B6 (a5X rfl) T.z_sorted a0H (A0 (C7 (b1w rfl) T.z_set a9N (A0 5 A1)) A1)) (a0o _)))))) (A3 (A6 B4)) B3) (A4 (E3 6 (B8 (a0a a6N) b2z ["_law_text","_law_some_here","_law_rows_here"] [none,some 5,some 4]) (B7 (B0 a0i 0 A2)) (B1 0 (show Xm (["_law_text","_law_some_here","_law_rows_here"]:List Str) by decide+kernel)) (D1 (C1 (D2 (A9 (a2r (K:=K) rfl) 0 1 (by with_unfolding_all rfl)) (D5 (A9 (a4l hr.units (K:=K) rfl) (D0 (A0 B5 (A0 0 A1))) 2 (by with_unfolding_all rfl)))))) 0 a3F.nd) (A4 (E3 7 (B8 (a0a a6N) b2z ["_law_text","_law_some_here","_law_rows_here"] [none,some 5,some 4]) (B7 (B0 a0i 0 A2)) (B1 0 (show Xm (["_law_text","_law_some_here","_law_rows_here"]:List Str) by decide+kernel)) (D1 (C1 (D2 (A9 (a2r (K:=K) rfl) 0 1 (by with_unfolding_all rfl)) (D5 (A9 (a4l hr.units (K:=K) rfl) (D0 (A0 B5 (A0 0 A1))) 2 (by with_unfolding_all rfl)))))) 0 a3F.nd) (A4 (C5 (B7 5) (B1 8 a3F.nd) (C6 (B2 (C1 (D8 (A9 a1N 8 3 (by with_unfolding_all rfl)) (E1 (A9 a1N (A7 (a6i T) T.g_z14 T.F_z14.kp T.b_z14 (A0 8 A1)) 3 (by with_unfolding_all rfl))))) (A3 (A6 B4)) B3) (A3 (B2 (C1 (D8 (C0 (A7 (b0H T) T.g_z0s T.F_z0s.kp T.b_z0s (A0 0 (A0 3 (A0 6 (A0 7 (A0 8 A1))))))) (E1 (C0 (A7 (a9p T) T.g_z0c T.F_z0c.kp T.b_z0c (A0 0 (A0 3 (A0 6 (A0 7 (A0 8 A1)))))))))) (A3 (A6 B4)) B3)))) (A3 (A6 B4))))))›,?_⟩
  rw [show a0t b2z [V.ref s,V.ref f,V.ref p]=[some (V.ref s),some (V.ref f),some (V.ref p),none,none,none,none,none,none] from rfl]
  obtain ⟨qs,hD,hP,he⟩:=id hR
  have hen:=hs.en
  have sok:∀z∈ev,Xd z=true:=fun z hz=>((hs.eo z hz).ok ‹dc›).1
  have hez:∀r∈zr.map (·.2),RwE ev r:=fun r hr=>by
   obtain ⟨p,hp,rfl⟩:=Qy.mp hr
   exact hs.ez p hp
  have inE:∀{M:List Str},a2E ((zr.map (·.2)).map srW) [] M=true→M.length≤30∧∀z∈M,z∈ev:=fun h=>by
   obtain ⟨_,b1,b2⟩:=a1Q h
   have:=hs.r.2.2.1
   rw [Qd] at b2
   refine ⟨by omega,fun z hz=>?_⟩
   obtain ⟨r,hr,e⟩:=b1 z hz
   rw [←e];exact (hez r hr).1
  have hiL':=hiL
  unfold isS at hiL'
  rw [Ql] at hiL'
  have hLe:=(inE hiL'.1).2
  have hSf:=inE hO
  have hpo:∀p∈R.map cw,Xd p.1=true∧Xd p.2=true:=fun p hp=>by
   obtain ⟨d,hd,rfl⟩:=Qy.mp hp
   exact ⟨b0q _,sok _ (he d hd)⟩
  simp only [a1x,a2a,a0l,Qb,Qa,b6b,a6L,a0s,b6X,a0p,a1c,tOp,tC,Qg,Qh,a0b]
  refine ⟨p,_,rfl,SqT.of hp,rfl,_,_,rfl,_,_,rfl,_,_,rfl,rfl,?_⟩
  have hno:∀H',a0g H H'→((isS (zr.map (·.2)) S && a1e (zr.map (·.2)) pl S [] R) && a2p So)=false→Q (.bl false) H':=fun H' s' e=>by
   have:=q H' s'
   unfold a3l at this
   rwa [e,Zl] at this
  refine ⟨fun σ' H'=>σ'=[some (V.ref s),some (V.ref f),some (V.ref p),some (V.ref a1),some (V.ref a2),some (V.ref a3),none,none,none]∧a0g H H'∧((isS (zr.map (·.2)) S && a1e (zr.map (·.2)) pl S [] R) && a2p So)=true,?_,?_⟩
  ·simp only [a1O,tOr,a0D,tOp,tCB,a0h,a0l,Qb,Qa,a0v,a0O,tC,a0K,a8P,tB,a0B,Qf,Xf,a0b]
   refine .inl ⟨a1,S,rfl,SqL.of h1,by omega,fun l1 S1 hl1 p1 o1=>?_⟩
   obtain ⟨H1,e1,s1,g1⟩:=a0I hl1 (.lst (S1.map V.str));rw [e1]
   refine .inl ⟨f,L,rfl,SqL.of (s1 _ _ hf),by omega,fun l2 S2 hl2 p2 o2=>?_⟩
   obtain ⟨H2,e2,s2,g2⟩:=a0I hl2 (.lst (S2.map V.str));rw [e2]
   have s02:=s1.trans s2
   refine a4H (SqL.of (s2 _ _ g1)) (SqL.of g2) (fun z hz=>sok z (hSf.2 z (p1.mem_iff.mp hz))) (fun z hz=>sok z (hLe z (p2.mem_iff.mp hz))) ?_
   rw [a7I hiL hO p1 p2 o1 o2]
   refine ⟨_,rfl,a0S (fun c1=>?_) (fun c1=>?_)⟩
   ·rw [if_pos trivial]
    exact hno H2 s02 (by rw [show isS (zr.map (·.2)) S=false by simpa using c1];rfl)
   have c1':isS (zr.map (·.2)) S=true:=by simpa using c1
   try skip
   refine ⟨s,T0,P0,E,a1,a2,zr,ps,pl,ev,S,R,rfl,hs.same s02,s02 _ _ h1,hR.same s02,hRl,fun H3 s3=>⟨_,rfl,?_⟩⟩
   have s03:=s02.trans s3
   refine a0S (fun c2=>hno H3 s03 (by rw [c2,Ud];rfl)) (fun c2=>?_)
   have c2':a1e (zr.map (·.2)) pl S [] R=true:=by simpa using c2
   refine b3X (s03 _ _ h3) ‹om› hSe ‹om› fun D T H4 s4 hDn hT n4 m4 o4=>?_
   have s04:=s03.trans s4
   refine a4H (SqL.of (s04 _ _ h3)) (SqL.of hT) (fun z hz=>sok z (hSe z hz)) (fun z hz=>sok z (hSe z ((m4 z).mp hz))) ?_
   have er:=a6E n4 m4 o4
   rw [show (!decide (So=T))=!a2p So by rw [←er];simp]
   refine ⟨_,rfl,a0S (fun c3=>?_) (fun c3=>?_)⟩
   ·exact hno H4 s04 (by rw [show a2p So=false by simpa using c3,Ud])
   ·exact ⟨trivial,s04,by rw [c1',c2',show a2p So=true by simpa using c3];rfl⟩
  ·rintro σ' H1 ⟨rfl,s1,hyes⟩
   have walk:∀(w:Str) (b:Bool) (Hx:Hp) (σ:St) (Q':VK),w=clW (!b)→a0g H Hx→a2l [none,some 5,some 4] σ=[none,some (V.ref a3),some (V.ref a2)]→(∀D H',a0g Hx H'→H' D=some (.lst ((a8Q ev So R b).map V.str))→Q' (.ref D) H')→a4f (Itl K E) [none,some 5,some 4] (a0s 0) (a6t (a0D (tOp (a5d K) (a0l 0) (a0l 1))) (a0D (tOp (a6U K) (a6u (a0h (tC (V.str w)) (a0h (a0l 0) a0v))) (a0l 2)))) (a0l 0) σ Hx Q':=fun w b Hx σ Q' ew sx hσ hq=>by
    refine a3C (a1E (xs:=ev.map V.str)) (Qj (show (ev.map V.str).length≤1000 by rw [Qd];omega) ‹dc›) [some (V.ref a3),some (V.ref a2)] hσ (fun i=>decide (((ev[i]?).getD "")∉So) && decide ((clW (!b),(ev[i]?).getD "")∉R.map cw)) (fun i=>V.str ((ev[i]?).getD "")) (fun H' s=>SqL.of (s _ _ (sx _ _ hs.e))) (fun i H' R' hi s hR'=>?_) (fun i H' R' hi s hR'=>?_) (fun D2 H2 hD2n s2 hD2=>?_)
    ·have hi':i < ev.length:=by simpa using hi
     have e2:((ev.map V.str)[i]?).getD .non=V.str ev[i]:=by rw [Qr,Qc hi'];rfl
     rw [e2]
     rw [Qc hi',Xs] at hR'
     have hz:=Qv hi'
     generalize ev[i]=z at hR' hz ⊢
     have s0:=sx.trans s
     simp only [a6t,a0D,tOp,a0l,Qa,Qb,a6u,a0h,tC,a0v,a0b]
     refine a1u (SqL.of (s0 _ _ h3)) ?_
     simp only [a1q,Xf,decide_eq_false_iff_not]
     refine a0S (fun c1=>?_) (fun c1=>?_)
     ·refine ⟨by simp only [Qt,Xl];decide,fun p1 hp1=>?_⟩
      obtain ⟨H4,e4,s4,g4⟩:=a0I hp1 (.tup [V.str w,V.str z]);rw [e4]
      refine ⟨p1,a2,w,z,qs,R.map cw,rfl,rfl,g4,SqL.of (s4 _ _ (s0 _ _ hD)),a0q.same (s0.trans s4) hP,⟨by rw [ew];exact b0q _,sok z hz⟩,hpo,_,rfl,?_⟩
      have:=hR' H4 s4
      rw [decide_eq_true c1,Yg] at this
      rw [ew]
      simpa using this
     ·have:=hR' _ (a0g.refl _)
      rwa [decide_eq_false c1,Zl] at this
    ·have hi':i < ev.length:=by simpa using hi
     have e2:((ev.map V.str)[i]?).getD .non=V.str ev[i]:=by rw [Qr,Qc hi'];rfl
     rw [e2]
     rw [Qc hi',Xs] at hR'
     simp only [a0l,Qa,a0b]
     exact hR' _ (a0g.refl _)
    rw [show (ev.map V.str).length=ev.length by simp,a0X ("":Str) (fun z=>decide (z∉So) && decide ((clW (!b),z)∉R.map cw)) V.str ev] at hD2
    exact hq D2 H2 s2 hD2
   simp only [a1x,Qa,Qg,Qh,a0J,a1c,a0l,Qb,a0b,a1o]
   refine a0m (SqL.of (s1 _ _ hs.s)) rfl ⟨E,rfl,⟨_,SqL.of (s1 _ _ hs.e)⟩,walk _ true _ _ _ rfl s1 rfl fun A1 H2 s2 g2=>?_⟩
   have s02:=s1.trans s2
   refine a0m (SqL.of (s02 _ _ hs.s)) rfl ⟨E,rfl,⟨_,SqL.of (s02 _ _ hs.e)⟩,walk _ false _ _ _ rfl s02 rfl fun A2 H3 s3 g3=>?_⟩
   have s03:=s02.trans s3
   have g2':=s3 _ _ g2
   have yes:∀b H',a0g H H'→So.any (a1r (zr.map (·.2)) pl S ev So R)=b→Q (.bl (!b)) H':=fun b H' s' e=>by
    have:=q H' s'
    unfold a3l at this
    rw [hyes,Yg] at this
    rwa [show So.any (a2U (zr.map (·.2)) pl S So R)=b by rw [←e];exact congrArg (So.any ·) (funext fun z=>a4Q hez z)] at this
   refine ⟨⟨_,SqL.of (s03 _ _ h3)⟩,?_⟩
   refine a1j (K:=K) (a:=a3) (xs:=So.map V.str) (fun j σ H'=>∃(x8:Option V),σ=[some (V.ref s),some (V.ref f),some (V.ref p),some (V.ref a1),some (V.ref a2),some (V.ref a3),some (V.ref A1),some (V.ref A2),x8]∧a0g H3 H'∧(So.take j).any (a1r (zr.map (·.2)) pl S ev So R)=false) ⟨_,rfl,a0g.refl _,rfl⟩ (fun i σ H' _ ⟨_,_,s',_⟩=>SqL.of (s' _ _ (s03 _ _ h3))) ?_ ?_
   ·rintro j x σ H4 hj ⟨x8,rfl,s4,hL⟩
    obtain ⟨hj',rfl⟩:=a2s hj
    have hzm:=Qv hj'
    have hce:=hs.eo _ (hSe _ hzm)
    have htk:(So.take (j+1)).any (a1r (zr.map (·.2)) pl S ev So R)=a1r (zr.map (·.2)) pl S ev So R So[j]:=by rw [Xe hj',List.any_append,hL];simp
    generalize So[j]=z at hzm hce htk
    have s04:=s03.trans s4
    have bad:∀H',a0g H H'→a1r (zr.map (·.2)) pl S ev So R z=true→Q (.bl false) H':=fun H' s' e=>yes true H' s' (Xx.mpr ⟨z,hzm,e⟩)
    refine ⟨fun σ' H'=>σ'=[some (V.ref s),some (V.ref f),some (V.ref p),some (V.ref a1),some (V.ref a2),some (V.ref a3),some (V.ref A1),some (V.ref A2),some (V.str z)]∧H'=H4,?_,?_⟩
    ·simp only [a1O,tOr,a0D,tOp,a0l,Qg,Qh,Qb,Qa,a0O,tC,a0K,a0B,a0h,a0v,Qf,a0b]
     refine a1C (SqL.of (s04 _ _ h1)) ?_
     simp only [a1q,decide_eq_true_eq]
     refine a0S (fun c=>?_) (fun c=>?_)
     ·rw [if_pos trivial]
      exact bad H4 s04 (a4s (.inl c))
     refine ⟨31,z,rfl,hce,by decide,a1C (SqL.of (s04 _ _ h1)) ⟨_,rfl,a0S (fun c'=>bad H4 s04 (a4s (.inr (of_decide_eq_true c')))) (fun c'=>⟨trivial,rfl⟩)⟩⟩
    ·rintro σ' H' ⟨rfl,rfl⟩
     simp only [a1O,tOr,tB,a0B,a0h,a0l,Qa,Qb,a0v,Qf,a0O,tC,a0K,a0b]
     refine ⟨s,T0,P0,E,a1,A1,A2,zr,ps,pl,ev,S,_,_,z,rfl,hs.same s04,hce,s04 _ _ h1,s4 _ _ g2',s4 _ _ g3,fun H5 s5=>⟨_,rfl,a0S (fun c=>?_) (fun c=>?_)⟩⟩
     ·rw [if_pos trivial]
      exact bad H5 (s04.trans s5) (by unfold a1r;rw [c];rfl)
     refine ⟨s,T0,P0,E,a1,A1,A2,zr,ps,pl,ev,S,_,_,z,rfl,hs.same (s04.trans s5),hce,(s04.trans s5) _ _ h1,(s4.trans s5) _ _ g2',(s4.trans s5) _ _ g3,fun H6 s6=>⟨_,rfl,a0S (fun c'=>?_) (fun c'=>?_)⟩⟩
     ·exact bad H6 ((s04.trans s5).trans s6) (by unfold a1r;rw [c',Bool.or_true])
     ·refine ⟨_,rfl,(s4.trans s5).trans s6,?_⟩
      rw [htk]
      unfold a1r
      rw [Xz.mpr c,Xz.mpr c'];rfl
   ·rintro σ H4 ⟨x8,rfl,s4,hL⟩
    rw [Qd,Xy] at hL
    simp only [a0O,tC]
    exact yes false H4 (s03.trans s4) hL
theorem b7u (T:Txt K mg t):a1a P w K mg base CX0 4 t.f_z1m t.fd_z1m ["_law_scene_here","_law_sures_here"] (b5F t):=by
 refine T.F_z1m.ok a3G (fun vs H Q E h=>?_) (fun cdv A outer s H vs Q E hr h=>?_)
 ·obtain ⟨s,T0,P0,E,a1,zr,ps,pl,ev,S,rfl,hs,h1,q⟩:=h;rfl
 ·obtain ⟨s,T0,P0,E,a1,zr,ps,pl,ev,S,rfl,hs,h1,q⟩:=h
  refine ⟨_,‹A4 (A8 2 a3G.nd (B9 A1)) (A4 (A8 3 a3G.nd (B9 A1)) (A4 (A8 4 a3G.nd (B9 A1)) (A4 (A8 5 a3G.nd (G5 A2)) (A4 (G6 (A9 a3W 5 (B6 a0x T.z_len a0y (A0 4 A1)) (a0o _)) (A4 (A8 5 a3G.nd (B6 a0x T.z_len a0y (A0 4 A1))) (A3 (C5 (B7 (B0 a0i 0 A2)) (B1 6 a3G.nd) (C6 (B2 (C1 (D8 (A9 a1N 6 2 (by with_unfolding_all rfl)) (E1 (A9 a1N 6 3 (by with_unfolding_all rfl))))) (A3 H4) B3) (A3 (B2 (C0 (A7 (b0H T) T.g_z0s T.F_z0s.kp T.b_z0s (A0 0 (A0 1 (A0 2 (A0 3 (A0 6 A1))))))) (A4 (C9 (C8 Xi Xp Xq a0E 2 (A0 6 A1))) (A3 (C9 (C8 Xi Xp Xq a0E 4 (A0 (D0 (A0 B5 (A0 6 A1))) A1))))) (A3 (B2 (C0 (A7 (a9p T) T.g_z0c T.F_z0c.kp T.b_z0c (A0 0 (A0 1 (A0 2 (A0 3 (A0 6 A1))))))) (A4 (C9 (C8 Xi Xp Xq a0E 3 (A0 6 A1))) (A3 (C9 (C8 Xi Xp Xq a0E 4 (A0 (D0 (A0 B5 (A0 6 A1))) A1))))) B3))))))))) (A3 (A6 4))))))›,?_⟩
  rw [show a0t b7P [V.ref s,V.ref a1]=[some (V.ref s),some (V.ref a1),none,none,none,none,none] from rfl]
  simp only [a1x,a2a,a4a,a0v,a0s,tUn,tC,Qg,Qh,b3C]
  refine ⟨Xg _,fun A1 hA1=>⟨Xg _,fun A2 hA2=>⟨Xg _,fun A3 hA3=>?_⟩⟩⟩
  obtain ⟨H1,e1,s1,g1⟩:=a0I hA1 (.lst [])
  rw [e1] at hA2 hA3 ⊢
  obtain ⟨H2,e2,s2,g2⟩:=a0I hA2 (.lst [])
  rw [e2] at hA3 ⊢
  obtain ⟨H3,e3,s3,g3⟩:=a0I hA3 (.lst [])
  rw [e3]
  have s03:=(s1.trans s2).trans s3
  have n12:A1≠A2:=fun z=>by rw [z] at g1;rw [g1] at hA2;cases hA2
  have n13:A1≠A3:=fun z=>by rw [←z,s2 _ _ g1] at hA3;cases hA3
  have n23:A2≠A3:=fun z=>by rw [←z,g2] at hA3;cases hA3
  have f2:H A2=none:=none_of s1 hA2
  have f3:H A3=none:=none_of (s1.trans s2) hA3
  have hel:=hs.en.2
  refine b0C (fun m σ H'=>∃(G:List (Bool×Str)) (qs:List V) (z:Int) (x6:Option V),σ=[some (V.ref s),some (V.ref a1),some (V.ref A1),some (V.ref A2),some (V.ref A3),some (V.int z),x6]∧GrI H H' A1 A2 A3 (zr.map (·.2)) pl S ev G qs∧z≤G.length∧(z=G.length→GrC (zr.map (·.2)) pl S ev G)∧m=if z < G.length then ev.length+1 - G.length else 0)
   (ev.length+1) ⟨[],[],-1,_,rfl,⟨s03,s3 _ _ (s2 _ _ g1),s3 _ _ g2,g3,⟨[],rfl,rfl,fun i a p e=>(by cases e)⟩,⟨rfl,Yi,fun c hc=>(by cases hc)⟩⟩,by decide,fun z=>(by cases z),by rw [if_pos ‹dc›];rfl⟩ ?_
  rintro m σ H4 ⟨G,qs,z,x6,rfl,hI,hz,hc,rfl⟩
  have hql:qs.length=G.length:=by have:=a0q.len hI.p;rwa [Qd] at this
  simp only [a0D,tOp,a0l,Qb,Qa,tCB,a0h,a0v,a1x,a2a,a0s,Qg,Qh,a0J,a1c,tC,a0b,a0O]
  refine a0w (SqL.of hI.r) ?_
  rw [hql]
  simp only [a2v,a1q,decide_eq_true_eq]
  refine a0S (fun c1=>?_) (fun c1=>q A3 G qs H4 hI.s f3 hI.r hI.p hI.g (hc ‹om›))
  rw [if_pos c1]
  refine ⟨_,fun _ _ h=>h,?_⟩
  refine a0w (SqL.of hI.r) ?_
  rw [hql]
  refine a0m (SqL.of (hI.s _ _ hs.s)) rfl ⟨E,rfl,⟨_,SqL.of (hI.s _ _ hs.e)⟩,?_⟩
  refine a1j (K:=K) (a:=E) (xs:=ev.map V.str) (fun j σ H'=>∃(G':List (Bool×Str)) (qs':List V) (x6:Option V),σ=[some (V.ref s),some (V.ref a1),some (V.ref A1),some (V.ref A2),some (V.ref A3),some (V.int (G.length:Int)),x6]∧GrI H H' A1 A2 A3 (zr.map (·.2)) pl S ev G' qs'∧((G'=G∧∀q∈ev.take j,q∉G.map (·.2)→a2b (zr.map (·.2)) pl S G (true,q)=false∧a2b (zr.map (·.2)) pl S G (false,q)=false)∨G.length < G'.length))
   ⟨G,qs,_,rfl,hI,.inl ⟨rfl,fun r hr=>(by cases hr)⟩⟩ (fun i σ H' _ ⟨_,_,_,_,h,_⟩=>SqL.of (h.s _ _ hs.e)) ?_ ?_
  ·rintro j x σ H5 hj ⟨G',qs',y6,rfl,hJ,hL⟩
   obtain ⟨hj',rfl⟩:=a2s hj
   have hqo:ev[j]∈ev:=Qv hj'
   have etk:=a1H hj'
   generalize ev[j]=q0 at hqo etk
   have htx:=hs.eo q0 hqo
   have hl2:=hJ.g.len
   have hql':qs'.length=G'.length:=by have:=a0q.len hJ.p;rwa [Qd] at this
   have stay:∀H',a0g H5 H'→(G'=G→q0∉G.map (·.2)→a2b (zr.map (·.2)) pl S G (true,q0)=false∧a2b (zr.map (·.2)) pl S G (false,q0)=false)→∃(G':List (Bool×Str)) (qs':List V) (x6:Option V),[some (V.ref s),some (V.ref a1),some (V.ref A1),some (V.ref A2),some (V.ref A3),some (V.int (G.length:Int)),some (V.str q0)]=[some (V.ref s),some (V.ref a1),some (V.ref A1),some (V.ref A2),some (V.ref A3),some (V.int (G.length:Int)),x6]∧GrI H H' A1 A2 A3 (zr.map (·.2)) pl S ev G' qs'∧((G'=G∧∀q∈ev.take (j+1),q∉G.map (·.2)→a2b (zr.map (·.2)) pl S G (true,q)=false∧a2b (zr.map (·.2)) pl S G (false,q)=false)∨G.length < G'.length):=fun H' s' hc=>
    ⟨G',qs',_,rfl,hJ.same s',hL.elim (fun h=>.inl ⟨h.1,fun x hx=>((etk x).mp hx).elim (h.2 x) fun e=>by rw [e];exact hc h.1⟩) .inr⟩
   have put:∀(b:Bool) (Ab p:Addr) (H6:Hp),a0g H5 H6→(b=true∧Ab=A1)∨(b=false∧Ab=A2)→q0∉G'.map (·.2)→a2b (zr.map (·.2)) pl S G' (b,q0)=true→upd H6 Ab (.lst ((wOf (G'.map cw) (clW b)).map V.str++[V.str q0])) p=none→∃(G2:List (Bool×Str)) (qs2:List V) (x6:Option V),[some (V.ref s),some (V.ref a1),some (V.ref A1),some (V.ref A2),some (V.ref A3),some (V.int (G.length:Int)),some (V.str q0)]=[some (V.ref s),some (V.ref a1),some (V.ref A1),some (V.ref A2),some (V.ref A3),some (V.int (G.length:Int)),x6]∧GrI H (upd (upd (upd H6 Ab (.lst ((wOf (G'.map cw) (clW b)).map V.str++[V.str q0]))) p (.tup [.str (clW b),.str q0])) A3 (.lst (qs'++[.ref p]))) A1 A2 A3 (zr.map (·.2)) pl S ev G2 qs2∧((G2=G∧∀q∈ev.take (j+1),q∉G.map (·.2)→a2b (zr.map (·.2)) pl S G (true,q)=false∧a2b (zr.map (·.2)) pl S G (false,q)=false)∨G.length < G2.length):=fun b Ab p H6 s6 hb hn hd hp=>
    ⟨G'++[(b,q0)],qs'++[.ref p],_,rfl,(hJ.same s6).add n12 n13 n23 hA1 f2 f3 hb (hJ.g.snoc hqo hn hd) hp,.inr (by rw [Xk,Jo];rcases hL with ⟨rfl,_⟩ | h<;>omega)⟩
   refine ⟨fun σ' H'=>σ'=[some (V.ref s),some (V.ref a1),some (V.ref A1),some (V.ref A2),some (V.ref A3),some (V.int (G.length:Int)),some (V.str q0)]∧a0g H5 H'∧q0∉G'.map (·.2),?_,?_⟩
   ·simp only [a1O,tOr,a0D,tOp,a0l,Qg,Qh,Qb,Qa,b7c,a0K,a0b]
    refine a1C (SqL.of hJ.u) ?_
    simp only [a1q,decide_eq_true_eq]
    have no:∀b,(b,q0)∈G'→G'=G→q0∉G.map (·.2)→a2b (zr.map (·.2)) pl S G (true,q0)=false∧a2b (zr.map (·.2)) pl S G (false,q0)=false:=fun b h e hn=>absurd (Qy.mpr ⟨(b,q0),e ▸ h,rfl⟩) hn
    refine a0S (fun c=>?_) (fun c=>?_)
    ·rw [if_pos trivial]
     exact stay _ (a0g.refl _) (no true (a5W.mp c))
    refine a1C (SqL.of hJ.d) ?_
    simp only [a1q,decide_eq_true_eq]
    refine a0S (fun c'=>stay _ (a0g.refl _) (no false (a5r.mp c'))) (fun c'=>⟨trivial,a0g.refl _,fun h=>?_⟩)
    obtain ⟨⟨b,x⟩,hx,rfl⟩:=Qy.mp h
    cases b
    ·exact c' (a5r.mpr hx)
    ·exact c (a5W.mpr hx)
   ·rintro σ' H6 ⟨rfl,s6,hn⟩
    have h6:=hJ.same s6
    have hw:∀w,(wOf (G'.map cw) w).length≤G'.length:=fun w=>by
     unfold wOf
     rw [Qd]
     exact Qj (Qz _ _) (by rw [Qd];exact Qk _)
    simp only [a1O,tB,a0B,a0h,a0l,Qa,Qb,a0v,Qf,a1x,a2X,tBM,a6u,tC,a0b,a0K]
    refine ⟨s,T0,P0,E,a1,A1,A2,zr,ps,pl,ev,S,_,_,q0,rfl,hs.same h6.s,htx,h6.s _ _ h1,h6.u,h6.d,fun H7 s7=>⟨_,rfl,a0S (fun c2=>?_) (fun c2=>?_)⟩⟩
    ·have h7:=h6.same s7
     refine ⟨.inl ⟨rfl,_,SqL.of h7.u⟩,A1,_,_,rfl,rfl,h7.u,Xv (show _≤1000 by rw [Qd];have:=hw "held";omega) ‹dc›,?_⟩
     have h3:upd H7 A1 (.lst ((wOf (G'.map cw) "held").map V.str++[V.str q0])) A3=some (.lst qs'):=by rw [a0d n13.symm];exact h7.r
     refine ⟨.inl ⟨rfl,_,SqL.of h3⟩,by simp only [Qt,Xl];decide,fun p hp=>?_⟩
     exact ⟨A3,_,_,rfl,rfl,by rw [a0d (a0c h3 hp)];exact h3,Xv (show _≤1000 by omega) ‹dc›,put true A1 p H7 (s6.trans s7) (.inl ⟨rfl,rfl⟩) hn c2 hp⟩
    have h7':=h6.same s7
    refine ⟨s,T0,P0,E,a1,A1,A2,zr,ps,pl,ev,S,_,_,q0,rfl,hs.same h7'.s,htx,h7'.s _ _ h1,h7'.u,h7'.d,fun H7 s8=>⟨_,rfl,a0S (fun c3=>?_) (fun c3=>stay _ ((s6.trans s7).trans s8) fun e _=>?_)⟩⟩
    ·have h7:=h7'.same s8
     refine ⟨.inl ⟨rfl,_,SqL.of h7.d⟩,A2,_,_,rfl,rfl,h7.d,Xv (show _≤1000 by rw [Qd];have:=hw "refused";omega) ‹dc›,?_⟩
     have h3:upd H7 A2 (.lst ((wOf (G'.map cw) "refused").map V.str++[V.str q0])) A3=some (.lst qs'):=by rw [a0d n23.symm];exact h7.r
     refine ⟨.inl ⟨rfl,_,SqL.of h3⟩,by simp only [Qt,Xl];decide,fun p hp=>?_⟩
     exact ⟨A3,_,_,rfl,rfl,by rw [a0d (a0c h3 hp)];exact h3,Xv (show _≤1000 by omega) ‹dc›,put false A2 p H7 ((s6.trans s7).trans s8) (.inr ⟨rfl,rfl⟩) hn c3 hp⟩
    ·rw [←e]
     exact ⟨Xz.mpr c2,Xz.mpr c3⟩
  ·rintro σ H5 ⟨G',qs',y6,rfl,hJ,hL⟩
   rw [Qd,Xy] at hL
   have hl2:=hJ.g.len
   have hl1:=hI.g.len
   rcases hL with ⟨rfl,h⟩ | h
   ·exact ⟨0,by omega,G',qs',_,_,rfl,hJ,Int.le_refl _,fun _=>h,by rw [if_neg ‹om›]⟩
   ·exact ⟨ev.length+1 - G'.length,by omega,G',qs',_,_,rfl,hJ,by omega,fun z=>‹om›,by rw [if_pos ‹om›]⟩
theorem a2Q (T:Txt K mg t):a1a P w K mg base CX0 1 t.f_z1v t.fd_z1v ["_law_cell","_law_k"] b8M:=by
 refine T.F_z1v.ok a7A (fun vs H Q E h=>?_) (fun cdv A outer s H vs Q E hr h=>?_)
 ·obtain ⟨c,k,rfl,q⟩:=h;rfl
 ·obtain ⟨c,k,rfl,q⟩:=h
  refine ⟨_,‹A4 (A8 2 a7A.nd (A5 a0L (A5 a0k (A5 a0k (A5 a0L 0 A2) (A5 a4w A2 1)) A2) A2)) (A4 (A8 2 a7A.nd (A5 a0L (A5 a4w 2 2) A2)) (A4 (A8 2 a7A.nd (A5 a0L (A5 a0k (A5 a4w 2 A2) 1) A2)) (A3 (A6 (A5 a0L (A5 a4w 2 2) A2)))))›,?_⟩
  rw [show a0t b6d [V.int c,V.int k]=[some (V.int c),some (V.int k),none] from rfl]
  simp only [a1x,a2a,tOp,a0l,Qa,tC,Qb,a0s,Qg,Qh,a0O,a0b,a0Y,b5X,a0N]
  have hmx:b2k c k=b2k c k:=rfl
  conv at hmx=>lhs;unfold b2k
  have h1:=a1y (i:=c % 2147483647+7919 * k+12345) (j:=2147483647) ‹dc›
  generalize (c % 2147483647+7919 * k+12345) % 2147483647=n at h1 hmx ⊢
  have h2:=a1y (i:=n * n) (j:=2147483629) ‹dc›
  generalize n * n % 2147483629=m at h2 hmx ⊢
  have h3:=a1y (i:=m * 48271+k) (j:=2147483647) ‹dc›
  generalize (m * 48271+k) % 2147483647=l at h3 hmx ⊢
  exact ⟨by decide,.inl ‹dc›,by decide,.inl ‹om›,by decide,.inl ‹om›,by decide,.inl ‹om›,by decide,q _ ⟨Int.emod_nonneg _ ‹dc›,hmx⟩⟩
theorem b8S (T:Txt K mg t):a1a P w K mg base CX0 1 t.f_z1q t.fd_z1q ["_law_claims","_law_cell"] b4D:=by
 refine T.F_z1q.ok a5N (fun vs H Q E h=>?_) (fun cdv A outer s H vs Q E hr h=>?_)
 ·obtain ⟨a,c,ev,rfl,ha,q⟩:=h;rfl
 ·obtain ⟨a,c,ev,rfl,ha,q⟩:=h
  refine ⟨_,‹A4 (A8 2 a5N.nd (C7 a0u T.z_list a0z (A0 0 A1))) (C6 (B2 (C1 (D2 (A9 (a0T hr.units) (A5 a0L 1 A2) A2 (a0o _)) (D5 (A9 (a6Y hr.units) 2 (B9 A1) (a0o _))))) (A3 (A8 2 a5N.nd (D6 a1I 2 E0 (D3 (A5 a0L (A5 a1K 1 A2) (A5 a0k (B6 a0x T.z_len a0y (A0 2 A1)) A2)))))) B3) (C6 (B2 (C1 (D2 (A9 (a0T hr.units) (A5 a0L 1 A2) A2 (a0o _)) (D5 (A9 (a6Y hr.units) 2 (B9 A1) (a0o _))))) (A4 (A8 3 a5N.nd (A5 a0L (A5 a1K 1 A2) (B6 a0x T.z_len a0y (A0 2 A1)))) (A4 (A8 2 a5N.nd (A5 a0k (D6 a1I 2 E0 (D3 3)) (D6 a1I 2 (D3 (A5 a0k 3 A2)) E0))) (A3 (B2 (A9 (a0T hr.units) (A5 a0L (A5 a1K 1 A2) A2) A2 (a0o _)) (A3 (C9 (C8 Xi Xp Xq a0E 2 (A0 (D0 (A0 (B0 a0i (B9 (A0 B5 (A0 B5 A1))) (C7 a9q T.z_int a9M (A0 (E7 (a0T hr.units) (B0 a0i (B0 a0i 0 3) A2) B5 (a0o _)) A1))) (A0 (B0 a0i (B0 a0i 0 3) A2) A1))) A1)))) B3)))) B3) (A3 (A6 2))))›,?_⟩
  rw [show a0t b7U [V.ref a,V.int c]=[some (V.ref a),some (V.int c),none,none] from rfl]
  obtain ⟨ys,hy0,hyl,hyP⟩:=id ha
  have kc:=c0w ev
  simp only [a1x,a2a,tCB,a0h,a0l,Qa,a0v,a0s,Qg,Qh,a0b]
  refine ⟨a,_,rfl,.inl (SqL.of hy0),fun p1 hp1=>?_⟩
  obtain ⟨H1,e1,s1,g1⟩:=a0I hp1 (.lst ys);rw [e1]
  have l1:LsP (b1G ev) H1 p1 14:=⟨ys,g1,hyl,fun v hv=>kc _ _ _ s1 (hyP v hv)⟩
  refine ⟨fun σ' H'=>∃p,σ'=[some (V.ref a),some (V.int c),some (V.ref p),none]∧a0g H H'∧LsP (b1G ev) H' p 14∧(c % 3=2→H' p=some (.lst ys)),?_,?_⟩
  ·simp only [a1O,a6t,a0D,tOp,a0l,Qb,Qa,tC,a4a,a0v,a2a,tSl,a1T,a3n,tCB,a0h,a0s,Qg,Qh,a0b,a0Y,a8X,a0K,a2j,a0G,a1q,decide_eq_true_eq]
   refine ⟨by decide,a0S (fun c1=>?_) (fun c1=>⟨p1,rfl,s1,l1,fun _=>g1⟩)⟩
   refine ⟨Xg _,fun p2 hp2=>?_⟩
   obtain ⟨H2,e2,s2,g2⟩:=a0I hp2 (.lst []);rw [e2]
   refine ⟨p1,p2,_,rfl,rfl,SqL.of (s2 _ _ g1),SqL.of g2,⟨_,rfl,a0S (fun c2=>?_) (fun _=>⟨p1,rfl,s1.trans s2,l1.same kc s2,fun _=>s2 _ _ g1⟩)⟩⟩
   refine ⟨by decide,a0w (SqL.of (s2 _ _ g1)) ?_⟩
   simp only [a0N,a0Y,a3M]
   refine ⟨by omega,(l1.same kc s2).cut kc fun p3 H3 s3 l3=>⟨p3,rfl,(s1.trans s2).trans s3,l3,fun z=>by omega⟩⟩
  rintro σ' H2 ⟨p,rfl,s2,l2,h2⟩
  refine ⟨fun σ' H'=>∃(p:Addr) (x:Option V),σ'=[some (V.ref a),some (V.int c),some (V.ref p),x]∧a0g H H'∧LsP (b1G ev) H' p 29,?_,?_⟩
  ·simp only [a1O,a6t,a0D,tOp,a0l,Qb,Qa,tC,a4a,a0v,a1x,a2a,tCB,a0h,a0s,tSl,Qg,Qh,a1T,a3n,a2X,tBM,a6u,a0b,a0K,a0Y,a8X,a0G,a1q,decide_eq_true_eq,a2j]
   refine ⟨by decide,a0S (fun c1=>?_) (fun c1=>⟨p,_,rfl,s2,l2.up ‹dc›⟩)⟩
   have g2:=h2 c1
   refine ⟨Xg _,fun p3 hp3=>?_⟩
   obtain ⟨H3,e3,s3,g3⟩:=a0I hp3 (.lst []);rw [e3]
   refine ⟨p,p3,_,rfl,rfl,SqL.of (s3 _ _ g2),SqL.of g3,⟨_,rfl,a0S (fun c2=>?_) (fun _=>⟨p,_,rfl,s2.trans s3,(l2.same kc s3).up ‹dc›⟩)⟩⟩
   have hy1:0 < ys.length:=Ve.mpr (by simpa using c2)
   refine ⟨by decide,a0w (SqL.of (s3 _ _ g2)) ?_⟩
   simp only [a0Y,a0N,a3M]
   refine ⟨by omega,?_⟩
   have m1:=a1y (i:=c / 3) (j:=(ys.length:Int)) ‹om›
   obtain ⟨v4,e4',hv4,_⟩:=a2O (xs:=ys) (i:=c / 3 % (ys.length:Int)) m1.1 m1.2
   obtain ⟨x,d,rfl,hx,hde⟩:=hyP v4 hv4
   refine (l2.same kc s3).cut kc fun p4 H4 s4 l4=>((l2.same kc s3).same kc s4).cut kc fun p5 H5 s5 l5=>?_
   obtain ⟨y4,g4,n4,P4⟩:=id l4
   obtain ⟨y5,g5,n5,P5⟩:=id l5
   refine .inr (.inr (.inl ⟨p4,p5,_,_,rfl,rfl,s5 _ _ g4,g5,Qj (show y4.length+y5.length≤1000 by omega) ‹dc›,fun p6 hp6=>?_⟩))
   obtain ⟨H6,e6,s6,g6⟩:=a0I hp6 (.lst (y4++y5));rw [e6]
   have s05:=((s2.trans s3).trans s4).trans s5
   have s06:=s05.trans s6
   have f6:H p6=none:=none_of s05 hp6
   have P6:∀v∈y4++y5,b1G ev H6 v:=fun v hv=>(Xn.mp hv).elim (fun m=>kc _ _ _ (s5.trans s6) (P4 v m)) (fun m=>kc _ _ _ s6 (P5 v m))
   refine ⟨⟨by decide,by decide⟩,by decide,a0S (fun c3=>?_) (fun c3=>⟨p6,_,rfl,s06,_,g6,by simp only [Xk];omega,P6⟩)⟩
   refine ⟨.inl ⟨rfl,_,SqL.of g6⟩,by simp only [Qt,Xl];decide,fun p7 hp7=>?_⟩
   obtain ⟨H7,e7,s7,g7⟩:=a0I hp7 (.lst [V.str "held",V.str "refused"]);rw [e7]
   have s07:=s06.trans s7
   obtain ⟨b4,eb4⟩:∃b,atI [V.str "held",V.str "refused"] (if decide (clW d.1="held")=true then 1 else 0)=some (V.str (clW b)):=by
    cases decide (clW d.1="held")
    ·exact ⟨true,rfl⟩
    ·exact ⟨false,rfl⟩
   refine a0m (SqL.of (s07 _ _ hy0)) e4' (a0V (i:=0) (v:=.str (clW d.1)) (SqT.of (s07 _ _ hx)) (by rfl) (a1z.mpr (b1V.mpr ?_)))
   refine a0m (SqL.of g7) eb4 (a0m (SqL.of (s07 _ _ hy0)) e4' (a0V (i:=1) (v:=.str d.2) (SqT.of (s07 _ _ hx)) (by rfl) ⟨by simp only [Qt,Xl];decide,fun p8 hp8=>?_⟩))
   obtain ⟨H8,e8,s8,g8⟩:=a0I hp8 (.tup [V.str (clW b4),V.str d.2]);rw [e8]
   have g8':=s8 _ _ (s7 _ _ g6)
   have s08:=s07.trans s8
   refine ⟨p6,_,_,rfl,rfl,g8',Xv (show _≤1000 by rw [Xk];omega) ‹dc›,p6,_,rfl,fun b o e=>by rw [a0d (a0c e f6)];exact s08 _ _ e,_,a0e,by simp only [Xk,Jo];omega,fun v hv=>?_⟩
   rcases Xn.mp hv with m | m
   ·obtain ⟨x',c',e',h',m'⟩:=P6 v m
    have h8:=s8 _ _ (s7 _ _ h')
    exact ⟨x',c',e',by rw [a0d (a1S h8 g8' ‹iz›)];exact h8,m'⟩
   ·rw [Qw.mp m]
    exact ⟨p8,(b4,d.2),rfl,by rw [a0d (a1S g8 g8' ‹iz›)];exact g8,hde⟩
  ·rintro σ' H3 ⟨p,x,rfl,s3,l3⟩
   simp only [a0O,a0l,Qb,Qa,a0b]
   exact q p H3 s3 l3
theorem a4y (T:Txt K mg t):a1a P w K mg base CX0 1 t.f_z13 t.fd_z13 ["_law_script","_law_k"] (b6V K):=by
 refine T.F_z13.ok b8a (fun vs H Q E h=>?_) (fun cdv A outer s H vs Q E hr h=>?_)
 ·obtain ⟨a,ns,k,rfl,hS,hl,k0,k1,q⟩:=h;rfl
 ·obtain ⟨a,ns,k,rfl,hS,hl,k0,k1,q⟩:=h
  refine ⟨_,‹A4 (B2 (A9 a3W 1 (B6 a0x T.z_len a0y (A0 0 A1)) (a0o _)) (A3 (A6 (B0 a0i 0 1))) B3) (A3 (A6 A2))›,?_⟩
  rw [show a0t c0b [V.ref a,V.int k]=[some (V.ref a),some (V.int k)] from rfl]
  simp only [a1x,a1O,a0D,tOp,a0l,Qb,Qa,tCB,a0h,a0v,a0O,a0b,a0K,tC]
  refine a0w hS ?_
  simp only [a2v,a1q,decide_eq_true_eq]
  refine a0S (fun c=>?_) (fun c=>q 0)
  obtain ⟨v,e,hv,_⟩:=a2O (xs:=ns.map V.int) (i:=k) k0 (by simpa using c)
  obtain ⟨i,_,rfl⟩:=Qy.mp hv
  exact a0m hS e (q i)
theorem b7a (T:Txt K mg t):a1a P w K mg base CX0 2 t.f_z1i t.fd_z1i ["_law_rules","_law_cell"] (a9d t):=by
 refine T.F_z1i.ok a5B (fun vs H Q E h=>?_) (fun cdv A outer s H vs Q E hr h=>?_)
 ·obtain ⟨a,c,zr,rfl,hR,q⟩:=h;rfl
 ·obtain ⟨a,c,zr,rfl,hR,q⟩:=h
  refine ⟨_,‹A4 (A8 2 a5B.nd (B9 A1)) (A4 (C5 (F1 (A0 (B6 a0x T.z_len a0y (A0 0 A1)) A1)) (B1 3 a5B.nd) (A3 (C5 (H5 rfl T.z_range (A0 (A5 a0k 3 A2) (A0 (B6 a0x T.z_len a0y (A0 0 A1)) A1))) (B1 4 a5B.nd) (A3 (B2 (C1 (D2 (A9 (a0T hr.units) (C2 (B0 a0i 0 3)) (A7 (a6i T) T.g_z14 T.F_z14.kp T.b_z14 (A0 (C2 (B0 a0i 0 4)) A1)) (a0o _)) (D2 (A9 (a3j hr.units) (C2 (B0 a0i 0 3)) B5 (a0o _)) (D5 (A9 (a3j hr.units) (C2 (B0 a0i 0 4)) B5 (a0o _)))))) (A4 (A8 5 a5B.nd (A5 a0L (A7 (a2Q T) T.g_z1v T.F_z1v.kp T.b_z1v (A0 1 (A0 (A5 a0k (A5 a4w A2 3) 4) A1))) A2)) (A3 (B2 (C1 (D2 (A9 a3W 5 A2 (a0o _)) (D5 (A9 a3W (B6 a0x T.z_len a0y (A0 2 A1)) A2 (a0o _))))) (A3 (C9 (C8 Xi Xp Xq a0E 2 (A0 (D0 (A0 (C2 (B0 a0i 0 3)) (A0 (C2 (B0 a0i 0 4)) A1))) A1)))) B3))) B3))))) (A3 (A6 2)))›,?_⟩
  rw [show a0t b9O [V.ref a,V.int c]=[some (V.ref a),some (V.int c),none,none,none,none] from rfl]
  simp only [a1x,a2a,a4a,a0v,a0s,Qg,Qh,a0J,a8x,a0h,tCB,a0l,Qa,a0b]
  refine ⟨by decide,fun D hD=>?_⟩
  obtain ⟨H1,e1,s1,h1⟩:=a0I hD (.lst []);rw [e1]
  have hR1:=hR.same s1
  have hzl:=hR.2.2.1
  refine a0w (SqL.of hR1.1) ?_
  rw [Qd]
  refine ⟨_,rfl,by omega,by omega,?_⟩
  have inv0:a0q H1 [] []:=⟨[],rfl,rfl,fun i a p e=>by cases e⟩
  refine a2N (n:=(zr.length:Int).toNat) (lo:=0) (fun i σ H'=>∃(ps:List V) (pl:List (Str×Str)) (x3 x4 x5:Option V),σ=[some (V.ref a),some (V.int c),some (V.ref D),x3,x4,x5]∧a0g H H'∧H' D=some (.lst ps)∧a0q H' ps pl∧pl.length≤60∧b7z pl)
   ⟨[],[],_,_,_,rfl,s1,h1,inv0,by decide,fun p hp=>absurd hp Xh⟩ ?_ ?_
  ·rintro i σ H2 hi ⟨ps,pl,x3,x4,x5,rfl,s2,hD2,hps,hpl,hpo⟩
   have hR2:=hR.same s2
   simp only [a0s,Qg,Qh,a0J,b7R,a0h,tOp,a0l,Qb,Qa,tC,tCB,a0v,a0b,a0N]
   refine a0w (SqL.of hR2.1) ?_
   rw [Qd]
   refine ⟨_,_,rfl,by omega,?_⟩
   obtain ⟨xa,ra,ea,hxa,hra⟩:=hR.at2 (k:=0+(i:Int)) ‹om› ‹om›
   have CA:=a5b T hra.1.1
   obtain ⟨dxa,ta,fa1,fa2⟩:=hxa
   refine a2N (lo:=0+(i:Int)+1) (fun j σ H'=>∃(ps:List V) (pl:List (Str×Str)) (x4 x5:Option V),σ=[some (V.ref a),some (V.int c),some (V.ref D),some (V.int (0+(i:Int))),x4,x5]∧a0g H H'∧H' D=some (.lst ps)∧a0q H' ps pl∧pl.length≤60∧b7z pl)
    ⟨ps,pl,_,_,rfl,s2,hD2,hps,hpl,hpo⟩ ?_ ?_
   ·clear hps hpl hpo hD2
    rintro j σ H3 hj ⟨ps,pl,x4,x5,rfl,s3,hD3,hps,hpl,hpo⟩
    obtain ⟨xb,rb,eb,hxb,hrb⟩:=hR.at2 (k:=0+(i:Int)+1+(j:Int)) ‹om› ‹om›
    have CB:=a5b T hrb.1.1
    obtain ⟨dxb,tb,fb1,fb2⟩:=hxb
    have hR3:=(hR.same s3).1
    simp only [a0s,a1O,a6t,a0D,tOp,a3s,a0l,Qg,Qh,Qa,Qb,a0B,a0h,a0v,Qf,tC,a1x,a2a,tCB,a2X,tBM,a6u,a0b,a0K,a2j,a0Y,b5X,a0N,a2d,a2v,a1q,decide_eq_true_eq]
    refine a0m (SqL.of hR3) ea ⟨xa,_,dxa,_,_,rfl,s3 _ _ fa1,CA.cl,CA.nh,a0Z _ _ _,?_⟩
    refine a0m (SqL.of hR3) eb ⟨xb,_,dxb,_,_,rfl,s3 _ _ fb1,CB.cl,CB.nh,a0Z _ _ _,31,_,rfl,hrb.2.1,by decide,?_⟩
    simp only [a1z,a1q,decide_eq_true_eq]
    have keep:∀x5',∃(ps':List V) (pl':List (Str×Str)) (x4' x5'':Option V),[some (V.ref a),some (V.int c),some (V.ref D),some (V.int (0+(i:Int))),some (V.int (0+(i:Int)+1+(j:Int))),x5']=[some (V.ref a),some (V.int c),some (V.ref D),some (V.int (0+(i:Int))),x4',x5'']∧a0g H H3∧H3 D=some (.lst ps')∧a0q H3 ps' pl'∧pl'.length≤60∧b7z pl':=fun x5'=>⟨ps,pl,_,_,rfl,s3,hD3,hps,hpl,hpo⟩
    refine a0S (fun _=>?_) (fun _=>keep _)
    refine a0m (SqL.of hR3) ea ⟨xa,_,dxa,_,_,rfl,s3 _ _ fa1,CA.cl,CA.nl,a1l _ _ _,?_⟩
    simp only [a4V,a1q,Xf,decide_eq_false_iff_not]
    refine a0S (fun _=>?_) (fun _=>keep _)
    refine a0m (SqL.of hR3) eb ⟨xb,_,dxb,_,_,rfl,s3 _ _ fb1,CB.cl,CB.nl,a1l _ _ _,?_⟩
    simp only [a4V,a1q,Xf,decide_eq_false_iff_not]
    refine a0S (fun _=>?_) (fun _=>keep _)
    refine ⟨.inl ‹dc›,fun r hr'=>⟨by decide,a0S (fun _=>?_) (fun _=>keep _)⟩⟩
    refine a0w (SqL.of hD3) ?_
    have hpn:=a0q.len hps
    simp only [a2v,a1q,decide_eq_true_eq]
    refine a0S (fun c60=>?_) (fun _=>keep _)
    refine ⟨.inl ⟨rfl,_,SqL.of hD3⟩,?_⟩
    refine a0m (SqL.of hR3) ea ⟨xa,_,dxa,_,_,rfl,s3 _ _ fa1,CA.cl,CA.nl,a1l _ _ _,?_⟩
    refine a0m (SqL.of hR3) eb ⟨xb,_,dxb,_,_,rfl,s3 _ _ fb1,CB.cl,CB.nl,a1l _ _ _,(show 2≤sizeLine by decide),fun Z hZ=>?_⟩
    obtain ⟨H4,e4,s4,h4⟩:=a0I hZ (.tup [V.str ra.2.1,V.str rb.2.1]);rw [e4]
    refine ⟨D,_,_,rfl,rfl,s4 _ _ hD3,Xv (show ps.length≤1000 by omega) ‹dc›,?_⟩
    have hZD:Z≠D:=fun z=>by rw [z,hD3] at hZ;cases hZ
    have hps4:a0q (upd H4 D (.lst (ps++[V.ref Z]))) ps pl:=b2q (a0q.same s4 hps) ⟨_,s4 _ _ hD3⟩ fun b o hb e=>by rw [a0d hb];exact e
    refine ⟨ps++[V.ref Z],pl++[(ra.2.1,rb.2.1)],_,_,rfl,fun b o e=>by rw [a0d (a0c e hD)];exact s4 _ _ (s3 _ _ e),a0e,a7b hps4 (by rw [a0d hZD];exact h4),?_,fun p hp=>?_⟩
    ·rw [Xk];simp;omega
    ·rcases Xn.mp hp with z | z
     ·exact hpo p z
     ·rw [Qw.mp z];exact ⟨hra.1.2.2.1.1,hrb.1.2.2.1.1⟩
   ·rintro σ H3 ⟨ps,pl,x4,x5,rfl,s3,hD3,hps,hpl,hpo⟩
    exact ⟨ps,pl,_,_,_,rfl,s3,hD3,hps,hpl,hpo⟩
  ·rintro σ H2 ⟨ps,pl,x3,x4,x5,rfl,s2,hD2,hps,hpl,hpo⟩
   simp only [a0O,a0l,Qb,Qa,a0b]
   exact q D ps pl H2 s2 hD hD2 hps hpl hpo
theorem b3x (T:Txt K mg t):a1a P w K mg base CX0 2 t.f_z1g t.fd_z1g ["_law_cell","_law_many"] b4k:=by
 refine T.F_z1g.ok a3e (fun vs H Q E h=>?_) (fun cdv A outer s H vs Q E hr h=>?_)
 ·obtain ⟨c,m,rfl,hm,q⟩:=h;rfl
 ·obtain ⟨c,m,rfl,hm,q⟩:=h
  refine ⟨_,‹A4 (A8 2 a3e.nd B5) (A4 (E3 3 (B8 (a0a a8b) b5L ["_law_k","_law_signs","_law_cell"] [none,some 2,some 0]) (F1 (A0 A2 A1)) (B1 0 (show Xm (["_law_k","_law_signs","_law_cell"]:List Str) by decide+kernel)) D7 (B0 (a2n (K:=K) rfl) 1 (A5 a0L (A7 (a2Q T) T.g_z1v T.F_z1v.kp T.b_z1v (A0 2 (A0 (A5 (a9l (K:=K) rfl) A2 0) A1))) A2)) a3e.nd) (A4 (A8 4 a3e.nd (A5 a0k A2 (A5 a0L (A7 (a2Q T) T.g_z1v T.F_z1v.kp T.b_z1v (A0 0 (A0 A2 A1))) A2))) (A4 (A8 5 a3e.nd (A5 a0L (A7 (a2Q T) T.g_z1v T.F_z1v.kp T.b_z1v (A0 0 (A0 A2 A1))) 4)) (A4 (A8 6 a3e.nd (B9 A1)) (A4 (C5 (F1 (A0 1 A1)) (B1 7 a3e.nd) (A4 (A8 8 a3e.nd (C7 a0u T.z_list a0z (A0 3 A1))) (A4 (G4 (B0 a0i 2 (A5 a0L (A5 a0k (A7 (a2Q T) T.g_z1v T.F_z1v.kp T.b_z1v (A0 0 (A0 A2 A1))) 7) A2)) (H6 8 5 b2y)) (A3 (B2 (A9 (a0T hr.units) (A5 a0L 0 A2) A2 (a0o _)) (A3 (C9 (C8 Xi Xp Xq a0E 6 (A0 (C8 Ui Wu Wv b1a B5 (A0 (D6 a1I 3 E0 (D3 (A5 a0k A2 7))) A1)) A1)))) (A3 (C9 (C8 Xi Xp Xq a0E 6 (A0 (C8 Ui Wu Wv b1a B5 (A0 (D6 a1I 8 E0 (D3 4)) A1)) A1))))))))) (A3 (A6 6)))))))›,?_⟩
  rw [show a0t b5L [V.int c,V.int m]=[some (V.int c),some (V.int m),none,none,none,none,none,none,none] from rfl]
  simp only [a1x,a2a,tC,a0s,Qg,Qh,tOp,a0B,a0h,a0l,Qa,a0v,Qf,Qb,a4a,a0J,a8x,a0b,a2d,a0Y,a0N,a0p]
  rw [b9y]
  refine ⟨8,rfl,by decide,by decide,?_⟩
  refine a4p a3V (Qj (show (8:Int).toNat≤1000 by decide) ‹dc›) [some (V.str (mk a6F)),some (V.int c)] rfl (fun i v=>∃d,v=sv [d]∧d∈a6F) (fun _ _=>trivial) (fun i H' R hi s hR=>?_) (fun B H1 ys hBn s1 hB hl hv=>?_)
  ·simp only [tOp,a0l,Qb,Qa,a0B,a0h,tC,a0v,Qf,a0b,a0N,a2d,a0Y,a6Q]
   intro r hr
   have m26:=a1y (i:=r) (j:=26) ‹dc›
   obtain ⟨d,e,hd,_⟩:=a2O (xs:=a6F) m26.1 m26.2
   exact ⟨by decide,a2S (by rw [a2y];decide),d,e,hR _ _ (a0g.refl _) ⟨d,rfl,hd⟩⟩
  obtain ⟨cs,rfl,hcs⟩:=b3D hv
  have hcl:cs.length=8:=by rw [Qd,a9f] at hl;exact hl
  intro r hr
  have m8:=a1y (i:=r) (j:=8) ‹dc›
  refine ⟨by decide,fun r1 hr1=>?_⟩
  have mz:=a1y (i:=r1) (j:=1+r % 8) ‹om›
  refine ⟨by omega,by decide,fun F hF=>⟨_,rfl,by omega,by omega,?_⟩⟩
  have hsz:1≤1+r % 8∧1+r % 8≤8:=by omega
  generalize 1+r % 8=sz at mz hsz ⊢
  generalize r1 % sz=at0 at mz ⊢
  obtain ⟨H2,e2,s2,h2⟩:=a0I hF (.lst []);rw [e2]
  have hFn:H F=none:=none_of s1 hF
  refine a2N (n:=m.toNat) (lo:=0) (fun i σ H'=>∃(ws:List (List Nat)) (x7 x8:Option V),σ=[some (V.int c),some (V.int m),some (V.str (mk a6F)),some (V.ref B),some (V.int sz),some (V.int at0),some (V.ref F),x7,x8]∧a0g H H'∧H' B=some (.lst (pv' (sgl cs)))∧H' F=some (.lst (pv' ws))∧ws.length=i∧(∀w∈ws,IsW w)∧ws=(Yb i).map (wdF cs at0.toNat sz.toNat (b2k c 3) (decide (c % 3=1))))
   ⟨[],_,_,rfl,s1.trans s2,s2 _ _ hB,h2,rfl,(by simp),rfl⟩ ?_ ?_
  ·rintro i σ H3 hi ⟨ws,x7,x8,rfl,s3,hB3,hF3,hwl,hww,hwe⟩
   have hBF:B≠F:=a0c hB hF
   simp only [a0s,a1x,a2a,tCB,a0h,a0l,Qg,Qh,Qb,Qa,a0v,tOp,a0B,tC,Qf,c1X,a1O,a0D,a2X,tBM,tSl,a1T,a3n,a0b,a0N,a3M,b0f,a0Y,a0G,a1q,decide_eq_true_eq,a2d,a6Q]
   refine ⟨B,_,rfl,.inl (SqL.of hB3),fun O hO=>?_⟩
   obtain ⟨H4,e4,s4,h4⟩:=a0I hO (.lst (pv' (sgl cs)));rw [e4]
   intro r2 hr2
   have m26:=a1y (i:=r2+(0+(i:Int))) (j:=26) ‹dc›
   obtain ⟨d,e,hd,_⟩:=a2O (xs:=a6F) m26.1 m26.2
   have hdx:d=sgF (b2k c 3) i:=by rw [←hr2.2];exact c0J m26 e
   refine ⟨by decide,a2S (by rw [a2y];decide),d,e,?_⟩
   refine b2s h4 mz.1 (by rw [Qd,a9f,hcl];omega) ?_
   rw [show (V.str (⟨#[d]⟩:Str))=sv [d] from rfl,b3W]
   obtain ⟨H5,e5,s5,h5⟩:∃H5,upd H4 O (.lst (pv' (sgl (cs.set at0.toNat d))))=H5∧a0g H3 H5∧H5 O=some (.lst (pv' (sgl (cs.set at0.toNat d)))):=⟨_,rfl,fun b o e=>by rw [a0d (a0c e hO)];exact s4 _ _ e,a0e⟩
   rw [e5]
   have hF5:=s5 _ _ hF3
   have hB5:=s5 _ _ hB3
   have fin:∀(H6:Hp) (w:List Nat),a0g H5 H6→IsW w→w=wdF cs at0.toNat sz.toNat (b2k c 3) (decide (c % 3=1)) i→∃(ws':List (List Nat)) (x7' x8':Option V),[some (V.int c),some (V.int m),some (V.str (mk a6F)),some (V.ref B),some (V.int sz),some (V.int at0),some (V.ref F),some (V.int (0+(i:Int))),some (V.ref O)]=[some (V.int c),some (V.int m),some (V.str (mk a6F)),some (V.ref B),some (V.int sz),some (V.int at0),some (V.ref F),x7',x8']∧a0g H (upd H6 F (.lst (pv' ws++[sv w])))∧upd H6 F (.lst (pv' ws++[sv w])) B=some (.lst (pv' (sgl cs)))∧upd H6 F (.lst (pv' ws++[sv w])) F=some (.lst (pv' ws'))∧ws'.length=i+1∧(∀w∈ws',IsW w)∧ws'=(Yb (i+1)).map (wdF cs at0.toNat sz.toNat (b2k c 3) (decide (c % 3=1))):=fun H6 w s6 hw hwi=>by
    refine ⟨ws++[w],_,_,rfl,fun b o e=>by rw [a0d (a0c e hFn)];exact s6 _ _ (s5 _ _ (s3 _ _ e)),by rw [a0d hBF];exact s6 _ _ hB5,by rw [a0e,b9m],by simp [hwl],fun x hx=>?_,by rw [hwe,hwi,Uv,Yc];rfl⟩
    rcases Xn.mp hx with z | z
    ·exact hww x z
    ·rw [Qw.mp z];exact hw
   have hj:∀(ds:List Nat),ds.length≤8→(((sgl ds).map mk).map (·.length)).sum+((sgl ds).map mk).length * ("":Str).length≤16777216:=fun ds hd=>by
    rw [b0F,show ("":Str).length=0 from rfl];omega
   have hwb:(pv' ws).length < sizeLine:=Xv (show _≤1000 by rw [Qd];omega) ‹dc›
   try skip
   refine ⟨by decide,a0S (fun c1=>?_) (fun c1=>?_)⟩
   ·refine ⟨.inl ⟨rfl,_,SqL.of hF5⟩,.inr (.inl ⟨B,_,rfl,SqL.of hB5,fun Z hZ=>?_⟩)⟩
    rw [a3r _ ‹om›,b1o,a7y]
    obtain ⟨H6,e6,s6,h6⟩:=a0I hZ (.lst (pv' (sgl (cs.take (1+(0+(i:Int))).toNat))));rw [e6]
    have hw:=b3Q hcl hcs (k:=(1+(0+(i:Int))).toNat) ‹om› ‹om›
    refine a7G (ys:=(sgl (cs.take (1+(0+(i:Int))).toNat)).map mk) (.inl (by rw [Yr];exact SqL.of h6)) (hj _ hw.2.1) ?_
    rw [show ("":Str)=mk [] from rfl,b1k,a7f]
    exact ⟨F,_,_,rfl,rfl,s6 _ _ hF5,hwb,fin H6 _ s6 hw (by unfold wdF;rw [decide_eq_true c1,if_pos rfl];congr 1;omega)⟩
   ·refine ⟨.inl ⟨rfl,_,SqL.of hF5⟩,.inr (.inl ⟨O,_,rfl,SqL.of h5,fun Z hZ=>?_⟩)⟩
    rw [a3r _ ‹om›,b1o,a7y]
    obtain ⟨H6,e6,s6,h6⟩:=a0I hZ (.lst (pv' (sgl ((cs.set at0.toNat d).take sz.toNat))));rw [e6]
    have hw:=b3Q (cs:=cs.set at0.toNat d) (by rw [List.length_set];exact hcl) (fun x hx=>by
     rcases List.mem_or_eq_of_mem_set hx with z | z
     ·exact hcs x z
     ·rw [z];exact hd) (k:=sz.toNat) ‹om› ‹om›
    refine a7G (ys:=(sgl ((cs.set at0.toNat d).take sz.toNat)).map mk) (.inl (by rw [Yr];exact SqL.of h6)) (hj _ hw.2.1) ?_
    rw [show ("":Str)=mk [] from rfl,b1k,a7f]
    exact ⟨F,_,_,rfl,rfl,s6 _ _ hF5,hwb,fin H6 _ s6 hw (by unfold wdF;rw [decide_eq_false c1,if_neg Qq,hdx])⟩
  ·rintro σ H3 ⟨ws,x7,x8,rfl,s3,hB3,hF3,hwl,hww,hwe⟩
   simp only [a0O,a0l,Qb,Qa,a0b]
   exact q F ws H3 s3 hFn hF3 hwl hww (by rw [hwe];exact b1J hcl ‹om› ‹om› ‹om›)
theorem b6C (T:Txt K mg t):a1a P w K mg base CX0 3 t.f_z1n t.fd_z1n ["_law_script"] (b2C K):=by
 refine T.F_z1n.ok a6c (fun vs H Q E h=>?_) (fun cdv A outer s H vs Q E hr h=>?_)
 ·obtain ⟨a,ns,rfl,hS,hl,q⟩:=h;rfl
 ·obtain ⟨a,ns,rfl,hS,hl,q⟩:=h
  refine ⟨_,‹A4 (A8 1 a6c.nd (A7 (b3x T) T.g_z1g T.F_z1g.kp T.b_z1g (A0 (A7 (a4y T) T.g_z13 T.F_z13.kp T.b_z13 (A0 0 (A0 A2 A1))) (A0 A2 A1)))) (A4 (A8 2 a6c.nd (A7 (b3x T) T.g_z1g T.F_z1g.kp T.b_z1g (A0 (A7 (a2Q T) T.g_z1v T.F_z1v.kp T.b_z1v (A0 (A7 (a4y T) T.g_z13 T.F_z13.kp T.b_z13 (A0 0 (A0 A2 A1))) (A0 A2 A1))) (A0 A2 A1)))) (A4 (A8 3 a6c.nd (B9 (A0 (B0 a0i 1 A2) (A0 (A5 a0k (A5 a0k (A5 a0k (B0 a0i 1 A2) B5) (B0 a0i 2 A2)) B5) (A0 (A5 a0k (A5 a0k (A5 a0k (A5 a0k (A5 a0k (B0 a0i 1 A2) B5) (B0 a0i 2 A2)) B5) (B0 a0i 2 A2)) B5) (A0 (B0 a0i 1 A2) A1)))))) (A4 (A8 3 a6c.nd (A5 a0k 3 (B9 (A0 (A5 a0k (A5 a0k (A5 a0k (B0 a0i 1 A2) B5) (B0 a0i 2 A2)) B5) (A0 (B0 a0i 1 A2) (A0 (A5 a0k (A5 a0k (A5 a0k (A5 a0k (A5 a0k (B0 a0i 1 A2) B5) (B0 a0i 2 A2)) B5) (B0 a0i 2 A2)) B5) A1)))))) (A3 (A6 (D6 a1I 3 E0 (D3 (A5 a0k A2 (A5 a0L (A7 (a4y T) T.g_z13 T.F_z13.kp T.b_z13 (A0 0 (A0 A2 A1))) A2)))))))))›,?_⟩
  rw [show a0t b8Q [V.ref a]=[some (V.ref a),none,none,none] from rfl]
  simp only [a1x,a2a,a0B,a0h,a0l,Qa,tC,a0v,Qf,a0s,Qg,Qh,a4a,tOp,Qb,a0O,tSl,a1T,a3n,a0b]
  refine ⟨a,ns,0,rfl,hS,hl,by decide,by decide,fun c0=>?_⟩
  refine ⟨c0,3,rfl,by decide,fun Na nm H1 s1 hNn hNa hNl hNw hNu=>?_⟩
  have hS1:SqL K H1 a (ns.map V.int):=s1.seq hS
  simp only []
  refine ⟨a,ns,0,rfl,hS1,hl,by decide,by decide,fun c1=>?_⟩
  simp only [a2d]
  intro r hr
  refine ⟨r,2,rfl,by decide,fun Ta th H2 s2 hTn hTa hTl hTw hTu=>?_⟩
  have hN2:=s2 _ _ hNa
  obtain ⟨n0,n1,n2,rfl⟩:∃n0 n1 n2,nm=[n0,n1,n2]:=by
   match nm,hNl with
   | [x,y,z],_=>exact ⟨x,y,z,rfl⟩
  obtain ⟨t0,t1,rfl⟩:∃t0 t1,th=[t0,t1]:=by
   match th,hTl with
   | [x,y],_=>exact ⟨x,y,rfl⟩
  have w0:=hNw n0 (by simp)
  have w1:=hNw n1 (by simp)
  have w2:=hNw n2 (by simp)
  have u0:=hTw t0 (by simp)
  have u1:=hTw t1 (by simp)
  clear hNl hTl
  have b0:=w0.2.1
  have b1:=w1.2.1
  have b2:=w2.2.1
  have d0:=u0.2.1
  have d1:=u1.2.1
  have lw:∀{l:List Nat},IsW l→∀x∈l,x < 128:=fun h x hx=>b9K (h.2.2 x hx)
  have ne:∀{l:List Nat},IsW l→l≠[]:=fun h z=>by have:=h.1;rw [z] at this;simp at this
  have ap:∀{l m:List Nat},IsW l→m.length≤22→(∀x∈m,x < 128)→TxN 30 (mk (l++m)):=fun {l m} h h1 h2=>TxN.of (fun z=>ne h (List.append_eq_nil_iff.mp z).1) (by rw [Xk];have:=h.2.1;omega) (fun x hx=>(Xn.mp hx).elim (lw h x) (h2 x))
  simp only []
  rw [show (Xw "(")=mk [40] by decide+kernel,show (Xw ")")=mk [41] by decide+kernel,show (Xw ",")=mk [44] by decide+kernel]
  repeat (first | refine a0m (SqL.of hN2) rfl ?_ | refine a0m (SqL.of hTa) rfl ?_ | refine b3d (by simp only [Xk,Qt,Xl];omega) ?_)
  refine ⟨by simp only [Qt,Xl];decide,fun p1 hp1=>?_⟩
  obtain ⟨H3,e3,s3,h3⟩:=a0I hp1 (.lst ([mk n0,mk (n1++[40]++t0++[41]),mk (n0++[40]++t1++[44]++t0++[41]),mk n2].map V.str))
  have e3':upd H2 p1 (.lst [V.str (mk n0),sv (n1++[40]++t0++[41]),sv (n0++[40]++t1++[44]++t0++[41]),V.str (mk n2)])=H3:=e3
  rw [e3']
  have hN3:=s3 _ _ hN2
  have hT3:=s3 _ _ hTa
  repeat (first | refine a0m (SqL.of hN3) rfl ?_ | refine a0m (SqL.of hT3) rfl ?_ | refine b3d (by simp only [Xk,Qt,Xl];omega) ?_)
  refine ⟨by simp only [Qt,Xl];decide,fun p2 hp2=>?_⟩
  obtain ⟨H4,e4,s4,h4⟩:=a0I hp2 (.lst ([mk (n1++[40]++t1++[41]),mk n1,mk (n2++[40]++t0++[44]++t0++[41])].map V.str))
  have e4':upd H3 p2 (.lst [sv (n1++[40]++t1++[41]),V.str (mk n1),sv (n2++[40]++t0++[44]++t0++[41])])=H4:=e4
  rw [e4']
  refine a3u (s4 _ _ h3) h4 (by simp) fun p3 hp3=>?_
  obtain ⟨all,eall⟩:∃all:List Str,[mk n0,mk (n1++[40]++t0++[41]),mk (n0++[40]++t1++[44]++t0++[41]),mk n2]++[mk (n1++[40]++t1++[41]),mk n1,mk (n2++[40]++t0++[44]++t0++[41])]=all:=⟨_,rfl⟩
  have hall:∀z∈all,TxN 30 z:=by
   have one:∀{l:List Nat},IsW l→∀x∈[40]++l++[41],x < 128:=fun {l} h x hx=>by
    simp only [Xn,Qw] at hx
    rcases hx with (rfl | e) | rfl
    ·decide
    ·exact lw h x e
    ·decide
   have two:∀{l m:List Nat},IsW l→IsW m→∀x∈[40]++l++[44]++m++[41],x < 128:=fun {l m} h k x hx=>by
    simp only [Xn,Qw] at hx
    rcases hx with (((rfl | e) | rfl) | e) | rfl
    ·decide
    ·exact lw h x e
    ·decide
    ·exact lw k x e
    ·decide
   intro z hz
   rw [←eall] at hz
   simp only [Xn,Qn,Xh,or_false] at hz
   rcases hz with (rfl | rfl | rfl | rfl) | (rfl | rfl | rfl)
   ·exact TxN.of (ne w0) ‹om› (lw w0)
   ·have:=ap (l:=n1) (m:=[40]++t0++[41]) w1 (by simp;omega) (one u0);simpa [Yj] using this
   ·have:=ap (l:=n0) (m:=[40]++t1++[44]++t0++[41]) w0 (by simp;omega) (two u1 u0);simpa [Yj] using this
   ·exact TxN.of (ne w2) ‹om› (lw w2)
   ·have:=ap (l:=n1) (m:=[40]++t1++[41]) w1 (by simp;omega) (one u1);simpa [Yj] using this
   ·exact TxN.of (ne w1) ‹om› (lw w1)
   ·have:=ap (l:=n2) (m:=[40]++t0++[44]++t0++[41]) w2 (by simp;omega) (two u0 u0);simpa [Yj] using this
  have hal:all.length=7:=by rw [←eall];rfl
  have hau:PlU all:=by rw [←eall];exact b9w w0 w1 w2 u0 u1 hNu hTu
  rw [eall]
  obtain ⟨H5,e5,s5,h5⟩:=a0I hp3 (.lst (all.map V.str));rw [e5]
  have s25:=(s3.trans s4).trans s5
  have hS5:SqL K H5 a (ns.map V.int):=(s2.trans s25).seq hS1
  try skip
  refine ⟨a,ns,1,rfl,hS5,hl,by decide,by decide,fun c2=>?_⟩
  have m6:=a1y (i:=c2) (j:=6) ‹dc›
  simp only [a0Y,a0N,a3M]
  refine ⟨by decide,.inr (.inl ⟨p3,_,rfl,SqL.of h5,fun p4 hp4=>?_⟩)⟩
  rw [a3r _ ‹om›,←Jd]
  obtain ⟨H6,e6,s6,h6⟩:=a0I hp4 (.lst ((all.take (2+c2 % 6).toNat).map V.str));rw [e6]
  have s06:=((s1.trans s2).trans s25)
  exact q p4 _ H6 (s06.trans s6) (none_of s06 hp4) h6 (by rw [Xo];omega) (by rw [Xo];omega) (fun z hz=>hall z (Zf hz)) (hau.take _)
theorem a7i (T:Txt K mg t):a1a P w K mg base CX0 1 t.f_z0x t.fd_z0x ["self","label","head","body"] (b6P K):=by
 refine T.F_z0x.ok b9D (fun vs H Q E h=>?_) (fun cdv A outer s H vs Q E hr h=>?_)
 ·obtain ⟨x,C,dx,lb,hd,b,bs,rfl,hx,hC,hb,q⟩:=h;rfl
 ·obtain ⟨x,C,dx,lb,hd,b,bs,rfl,hx,hC,hb,q⟩:=h
  refine ⟨_,‹A4 (E9 0 1) (A4 (E9 0 2) (A3 (E9 0 (C7 a4C T.z_tuple a3R (A0 3 A1)))))›,?_⟩
  rw [show a0t b8v [V.ref x,lb,hd,V.ref b]=[some (V.ref x),some (lb),some (hd),some (V.ref b)] from rfl]
  obtain ⟨cl,n1,n2,n3⟩:=hC
  simp only [a1x,c0g,a0l,Qb,Qa,tCB,a0h,a0v,a0b]
  have cut:∀(H0:Hp),(∀c o,H c=some o→c≠x→H0 c=some o)→H0 x=some (.ins C dx (a1F "head" hd (a1F "label" lb [])))→∀t,H0 t=some (.tup bs)→t≠x→(∀c o,H c=some o→c≠x→upd H0 x (.ins C dx (a8O lb hd t)) c=some o)∧a1L (upd H0 x (.ins C dx (a8O lb hd t))) x C lb hd bs:=fun H0 k0 h0 t ht htx=>
   ⟨fun c o e hc=>by rw [a0d hc];exact k0 c o e hc,dx,t,a0e,by rw [a0d htx];exact ht⟩
  refine ⟨x,C,dx,_,rfl,hx,cl,n1,by show 0 < 1000;decide,x,C,dx,_,rfl,a0e,cl,n2,by show 1 < 1000;decide,?_⟩
  rw [b5Q]
  obtain ⟨H1,e1,k1,h1⟩:∃H',upd H x (.ins C dx (a1F "head" hd (a1F "label" lb [])))=H'∧(∀c o,H c=some o→c≠x→H' c=some o)∧H' x=some (.ins C dx (a1F "head" hd (a1F "label" lb []))):=⟨_,rfl,fun c o e hc=>by rw [a0d hc];exact e,a0e⟩
  rw [e1]
  have hlen:(a1F "head" hd (a1F "label" lb [])).length < 1000:=by
   rw [show a1F "head" hd (a1F "label" lb [])=([("label",lb),("head",hd)]:List (Str×V)) from by
    show (if ("label":Str)="head" then _ else _)=_
    rw [if_neg ‹dk›];rfl]
   show 2 < 1000;decide
  rcases hb with hb | ⟨hb,hb'⟩
  ·have hb1:SqL K H1 b bs:=by
    rcases hb with (hb | ⟨o,hb⟩) | hb
    ·exact .inl (.inl (k1 _ _ hb (a1S hb hx ‹iz›)))
    ·exact .inl (.inr ⟨o,k1 _ _ hb (a1S hb hx ‹iz›)⟩)
    ·exact .inr hb
   refine ⟨b,bs,rfl,.inl ⟨hb1,fun t ht=>?_⟩⟩
   have htx:t≠x:=fun z=>by rw [z,h1] at ht;cases ht
   obtain ⟨H2,e2,s2,h2⟩:=a0I ht (.tup bs);rw [e2]
   obtain ⟨a1,a2⟩:=cut H2 (fun c o e hc=>s2 _ _ (k1 c o e hc)) (s2 _ _ h1) t h2 htx
   exact ⟨x,C,dx,_,rfl,s2 _ _ h1,cl,n3,hlen,q _ a1 a2⟩
  ·have hbx:b≠x:=a1S hb' hx ‹iz›
   have hb1:=k1 _ _ hb' hbx
   refine ⟨b,bs,rfl,.inr ⟨SqT.of hb1,?_⟩⟩
   obtain ⟨a1,a2⟩:=cut H1 k1 h1 b hb1 hbx
   exact ⟨x,C,dx,_,rfl,h1,cl,n3,hlen,q _ a1 a2⟩
theorem b6c (T:Txt K mg t):a1a P w K mg base CX0 2 t.f_z0z t.fd_z0z ["self","head"] (b4W K t.C_Fact):=by
 refine T.F_z0z.ok b9X (fun vs H Q E h=>?_) (fun cdv A outer s H vs Q E hr h=>?_)
 ·obtain ⟨x,dx,hd,rfl,hx,q⟩:=h;rfl
 ·obtain ⟨x,dx,hd,rfl,hx,q⟩:=h
  refine ⟨_,‹A3 (C9 (H7 (E8 (.ref t.C_Rule) T.g_Rule rfl) T.cm_Rule (a7i T) (hr.mono ‹dc›) T.b_z0x .nil b0h (A0 0 (A0 B5 (A0 1 (A0 (D0 A1) A1))))))›,?_⟩
  rw [show a0t b6q [V.ref x,hd]=[some (V.ref x),some (hd)] from rfl]
  simp only [a2X,b3U,tC,a0h,a0l,Qa,Qb,a6u,a0v,Qf,a0b]
  refine ⟨(by trivial),by decide,fun b hb=>?_⟩
  obtain ⟨H1,e1,s1,h1⟩:=a0I hb (.tup []);rw [e1]
  refine ⟨x,t.C_Fact,dx,_,hd,b,[],rfl,s1 _ _ hx,⟨T.cl_Fact,T.nf_Fact_label,T.nf_Fact_head,T.nf_Fact_body⟩,.inr ⟨SqT.of h1,h1⟩,fun H' k r=>?_⟩
  exact q _ (fun c o e hc=>k c o (s1 _ _ e) hc) r
theorem b9Z (T:Txt K mg t):a1a P w K mg base CX0 1 t.f_z1h t.fd_z1h ["_law_pool_here","_law_number"] b5y:=by
 refine T.F_z1h.ok b2Y (fun vs H Q E h=>?_) (fun cdv A outer s H vs Q E hr h=>?_)
 ·obtain ⟨P0,n,pl,rfl,hP,hp1,hp7,hpo,q⟩:=h;rfl
 ·obtain ⟨P0,n,pl,rfl,hP,hp1,hp7,hpo,q⟩:=h
  refine ⟨_,‹A4 (A8 2 b2Y.nd (B0 a0i 0 (A5 a0L (A5 a1K 1 A2) (B6 a0x T.z_len a0y (A0 0 A1))))) (A4 (B2 (A9 (a0T hr.units) (A5 a0L 1 A2) A2 (a0o _)) (A3 (A6 (A5 a0k B5 2))) B3) (A3 (A6 2)))›,?_⟩
  rw [show a0t b9J [V.ref P0,V.int n]=[some (V.ref P0),some (V.int n),none] from rfl]
  simp only [a1x,a2a,tOp,a0l,Qa,Qb,tC,tCB,a0h,a0v,a0s,a1O,a0D,Qg,Qh,a0O,a0b,a0K,a0Y,a0G,a1q,decide_eq_true_eq,a8X]
  refine ⟨⟨by decide,by decide⟩,a0w (SqL.of hP) ?_⟩
  rw [Qd]
  simp only [a0Y]
  have m1:=a1y (i:=n / 3) (j:=(pl.length:Int)) ‹om›
  obtain ⟨v,e,hv,_⟩:=a2O (xs:=pl.map V.str) (i:=n / 3 % (pl.length:Int)) m1.1 (by rw [Qd];exact m1.2)
  obtain ⟨z,hz,rfl⟩:=Qy.mp hv
  have hzo:=hpo z hz
  have hzl:=hzo.len
  refine ⟨by omega,a0m (SqL.of hP) e ⟨by decide,a0S (fun _=>?_) (fun _=>q z (hzo.up ‹dc›) (c0K hz))⟩⟩
  rw [a1Y]
  exact ⟨Qj (Vi (show (Xw "-").length≤1 by decide+kernel) hzl) ‹dc›,q _ hzo.neg (b7v hz)⟩
theorem b6D (T:Txt K mg t):a1a P w K mg base CX0 2 t.f_z15 t.fd_z15 ["_law_cell","_law_many","_law_size","_law_plain"] b0i:=by
 refine T.F_z15.ok a6j (fun vs H Q E h=>?_) (fun cdv A outer s H vs Q E hr h=>?_)
 ·obtain ⟨c,m,sz,p,rfl,hm,hsz,q⟩:=h;rfl
 ·obtain ⟨c,m,sz,p,rfl,hm,hsz,q⟩:=h
  refine ⟨_,‹A4 (A8 4 a6j.nd (B9 A1)) (A4 (A8 5 a6j.nd (A5 a1K 0 A2)) (A4 (C5 (F1 (A0 1 A1)) (B1 6 a6j.nd) (A3 (B2 (C0 3) (A4 (C9 (C8 Xi Xp Xq a0E 4 (A0 (A5 a0L 5 2) A1))) (A3 (A8 5 a6j.nd (A5 a1K 5 2)))) (A3 (C9 (C8 Xi Xp Xq a0E 4 (A0 (A7 (a2Q T) T.g_z1v T.F_z1v.kp T.b_z1v (A0 0 (A0 (A5 a0k A2 6) A1))) A1))))))) (A3 (A6 4))))›,?_⟩
  rw [show a0t b6Q [V.int c,V.int m,V.int sz,V.bl p]=[some (V.int c),some (V.int m),some (V.int sz),some (V.bl p),none,none,none] from rfl]
  simp only [a1x,a2a,a4a,a0v,a0s,tOp,a0l,Qg,Qh,Qa,tC,a0J,a8x,a0h,Qb,a0b,a0Y,a8X]
  refine ⟨by decide,fun D hD=>⟨⟨by decide,by decide⟩,_,rfl,by omega,by omega,?_⟩⟩
  obtain ⟨H1,e1,s1,h1⟩:=a0I hD (.lst []);rw [e1]
  refine a2N (n:=m.toNat) (lo:=0) (fun i σ H'=>∃(is:List Int) (a4d:Int) (x6:Option V),σ=[some (V.int c),some (V.int m),some (V.int sz),some (V.bl p),some (V.ref D),some (V.int a4d),x6]∧a0g H H'∧H' D=some (.lst (is.map V.int))∧is.length=i)
   ⟨[],_,_,rfl,s1,h1,rfl⟩ ?_ ?_
  ·rintro i σ H2 hi ⟨is,a4d,x6,rfl,s2,hD2,hil⟩
   have hb:(is.map V.int).length < sizeLine:=Xv (show _≤1000 by rw [Qd];omega) ‹dc›
   have fin:∀y:Int,a0g H (upd H2 D (.lst (is.map V.int++[V.int y])))∧upd H2 D (.lst (is.map V.int++[V.int y])) D=some (.lst ((is++[y]).map V.int))∧(is++[y]).length=i+1:=fun y=>
    ⟨fun b o e=>by rw [a0d (a0c e hD)];exact s2 _ _ e,by rw [a0e,Yc];rfl,by simp [hil]⟩
   simp only [a0s,a1O,tB,a0l,Qg,Qh,Qb,Qa,a1x,a2X,tBM,a0h,tOp,a0v,a2a,a0b,a0Y,a8X,a0B,tC,Qf,a0N,a2d,a1q]
   refine a0S (fun _=>?_) (fun _=>?_)
   ·refine ⟨.inl ⟨rfl,_,SqL.of hD2⟩,by omega,D,_,_,rfl,rfl,hD2,hb,⟨by omega,by omega⟩,is++[a4d % sz],_,_,rfl,(fin _).1,(fin _).2.1,(fin _).2.2⟩
   ·refine ⟨.inl ⟨rfl,_,SqL.of hD2⟩,fun r hr=>⟨D,_,_,rfl,rfl,hD2,hb,is++[r],_,_,rfl,(fin _).1,(fin _).2.1,(fin _).2.2⟩⟩
  ·rintro σ H2 ⟨is,a4d,x6,rfl,s2,hD2,hil⟩
   simp only [a0O,a0l,Qb,Qa,a0b]
   exact q D is H2 s2 hD hD2 hil
theorem b9n (T:Txt K mg t):a1a P w K mg base CX0 4 t.f_z1o t.fd_z1o ["_law_pool_here","_law_cell","_law_k","_law_plain"] (b2d t):=by
 refine T.F_z1o.ok a5I (fun vs H Q E h=>?_) (fun cdv A outer s H vs Q E hr h=>?_)
 ·obtain ⟨P0,c,k,p,pl,rfl,hP,hp1,hp7,hpo,hk,q⟩:=h;rfl
 ·obtain ⟨P0,c,k,p,pl,rfl,hP,hp1,hp7,hpo,hk,q⟩:=h
  refine ⟨_,‹A4 (A8 4 a5I.nd (B0 a0i (B9 (A0 A2 (A0 A2 (A0 A2 (A0 A2 (A0 A2 (A0 A2 (A0 A2 (A0 A2 A1))))))))) (A5 a0L 1 A2))) (A4 (E3 5 (B8 (a0a a7S) b5l ["_law_number","_law_pool_here"] [none,some 0]) (B7 (A7 (b6D T) T.g_z15 T.F_z15.kp T.b_z15 (A0 1 (A0 (A5 a0k A2 4) (A0 (A5 a4w A2 (B6 a0x T.z_len a0y (A0 0 A1))) (A0 3 A1)))))) (B1 0 (show Xm (["_law_number","_law_pool_here"]:List Str) by decide+kernel)) D7 (A7 (b9Z T) T.g_z1h T.F_z1h.kp T.b_z1h (A0 1 (A0 0 A1))) a5I.nd) (A4 (A8 6 a5I.nd (A5 a0L (A5 a1K 1 A2) A2)) (A4 (A8 7 a5I.nd (A5 a0k B5 (C7 a5u T.z_str b0Z (A0 2 A1)))) (C6 (B2 (C1 (D2 (A9 (a0T hr.units) 6 A2 (a0o _)) (D5 (A9 (a0T hr.units) 4 A2 (a0o _))))) (A3 (A6 (F3 T.mk_Fact (b6c T) T.g_Fact T.b_z0z (A0 (B0 a0i 5 A2) A1)))) B3) (A4 (B2 (A9 a3W 6 A2 (a0o _)) (A3 (A6 (F3 T.mk_Sure (a7i T) T.g_Sure T.b_z0x (A0 7 (A0 (B0 a0i 5 A2) (A0 (D6 a1I 5 (D3 A2) E0) A1)))))) B3) (A4 (B2 (A9 (a0T hr.units) 6 A2 (a0o _)) (A3 (A6 (F3 T.mk_Block (a7i T) T.g_Block T.b_z0x (A0 7 (A0 (B0 a0i 5 A2) (A0 (D6 a1I 5 (D3 A2) E0) A1)))))) B3) (A3 (A6 (F3 T.mk_Most (a7i T) T.g_Most T.b_z0x (A0 7 (A0 (B0 a0i 5 A2) (A0 (D6 a1I 5 (D3 A2) E0) A1))))))))))))›,?_⟩
  rw [show a0t b5l [V.ref P0,V.int c,V.int k,V.bl p]=[some (V.ref P0),some (V.int c),some (V.int k),some (V.bl p),none,none,none,none] from rfl]
  simp only [a1x,a2a,tOp,a4a,a0h,tC,a0v,a0l,Qb,Qa,a0s,Qg,Qh,tCB,a1Y,a0b,a0Y,a8X,a0p,a1c,a0B,Qf]
  refine ⟨by simp only [Qt,Xl];decide,fun p1 hp1'=>?_⟩
  obtain ⟨H1,e1,s1,h1⟩:=a0I hp1' (.lst [V.int 0,V.int 1,V.int 1,V.int 1,V.int 2,V.int 2,V.int 3,V.int 4]);rw [e1]
  have m8:=a1y (i:=c) (j:=8) ‹dc›
  obtain ⟨v8,e8,hv8,_⟩:=a2O (xs:=[V.int 0,V.int 1,V.int 1,V.int 1,V.int 2,V.int 2,V.int 3,V.int 4]) m8.1 m8.2
  obtain ⟨mn,rfl,hmn⟩:∃n:Int,v8=.int n∧(0≤n∧n≤4):=by
   simp only [Qn,Xh,or_false] at hv8
   rcases hv8 with rfl | rfl | rfl | rfl | rfl | rfl | rfl | rfl<;>exact ⟨_,rfl,by decide⟩
  refine ⟨by decide,a0m (SqL.of h1) e8 ?_⟩
  simp only [a0N]
  have hP1:=s1 _ _ hP
  refine a0w (SqL.of hP1) ?_
  rw [Qd]
  simp only [a0Y,b5X]
  refine ⟨.inl ‹dc›,?_⟩
  refine ⟨c,1+mn,_,p,rfl,by omega,by omega,fun D is H2 s2 hDn hD hil=>?_⟩
  have hP2:=s2 _ _ hP1
  simp only [a1o]
  refine ⟨⟨_,SqL.of hD⟩,?_⟩
  refine a4p (a1E (xs:=is.map V.int)) (Qj (show (is.map V.int).length≤1000 by rw [Qd];omega) ‹dc›) [some (V.ref P0)] rfl (fun i v=>∃z,v=V.str z∧(TxN 31 z∧z∈b1Y pl)) (fun H' s=>SqL.of (s _ _ hD)) (fun i H' R hi s hR=>?_) (fun X H3 ys hXn s3 hX hyl hv=>?_)
  ·have hi':i < is.length:=by simpa using hi
   have e2:((is.map V.int)[i]?).getD .non=V.int is[i]:=by rw [Qr,Qc hi'];rfl
   rw [e2]
   simp only [a0B,a0h,a0l,Qb,Qa,a0v,Qf,a0b]
   exact ⟨P0,is[i],pl,rfl,s _ _ hP2,hp1,hp7,hpo,fun z hz hz2=>hR _ _ (a0g.refl _) ⟨z,rfl,hz,hz2⟩⟩
  obtain ⟨zs,rfl,hzo⟩:=b7o hv
  have hzl:zs.length=(1+mn).toNat:=by rw [Qd,Qd] at hyl;omega
  obtain ⟨z0,zr,rfl⟩:∃z0 zr,zs=z0::zr:=by
   cases zs with
   | nil=>simp at hzl;omega
   | cons z0 zr=>exact ⟨z0,zr,rfl⟩
  have hzr:zr.length≤4:=by simp at hzl;omega
  have s03:=(s1.trans s2).trans s3
  have o0:=(hzo z0 Qm).1
  have or:∀q∈zr,TxN 31 q:=fun q hq=>(hzo q (Qp _ hq)).1
  have eR:∀k lb,RwE (b1Y pl) (k,lb,z0,zr):=fun _ _=>⟨(hzo z0 Qm).2,fun q hq=>(hzo q (Qp _ hq)).2⟩
  obtain ⟨kn,rfl⟩:∃kn:Nat,k=(kn:Int):=⟨k.toNat,by omega⟩
  have hlab:=b7b kn ‹om›
  try skip
  refine ⟨⟨by decide,by decide⟩,by decide,_,rfl,?_,?_,?_⟩
  ·show kn.log2 < 1920
   by_cases h0:kn=0
   ·rw [h0];decide
   ·exact (Nat.log2_lt h0).mpr (Xr (show kn < 2 ^ 6 by omega) (Nat.pow_le_pow_right ‹dc› ‹dc›))
  ·have:=hlab.2
   rw [b2i] at this
   exact Qj this ‹dc›
  obtain ⟨lb,elb⟩:∃lb,Xw "r"++Xw (toString (kn:Int))=lb:=⟨_,rfl⟩
  rw [elb] at hlab ⊢
  have okR:∀k,0 < k→k < 4→RwT (k,lb,z0,zr):=fun k h0 h4=>⟨⟨h4,fun z=>absurd (show k=0 from z) ‹om›,hlab,o0.ok ‹dc›,fun q hq=>(or q hq).ok ‹dc›,hzr⟩,o0,or⟩
  have okF:RwT (0,"",z0,[]):=⟨⟨show 0 < 4 by decide,fun _=>⟨rfl,rfl⟩,(⟨by decide+kernel,by decide+kernel⟩:OkS ""),o0.ok ‹dc›,(fun q hq=>absurd hq Xh),show 0≤4 by decide⟩,o0,(fun q hq=>absurd hq Xh)⟩
  generalize hw:c / 8 % 6=w0
  refine ⟨fun σ' H'=>σ'=[some (V.ref P0),some (V.int c),some (V.int kn),some (V.bl p),some (V.int mn),some (V.ref X),some (V.int w0),some (V.str lb)]∧H'=H3,?_,?_⟩
  ·simp only [a1O,a6t,a0D,tOp,a0l,Qb,Qa,tC,a0O,b2e,a0h,a0v,Qf,a0b,a0K,a0G,a1q,decide_eq_true_eq,a2j]
   refine a0S (fun _=>?_) (fun _=>⟨by trivial,by trivial⟩)
   refine a0S (fun _=>?_) (fun _=>⟨by trivial,by trivial⟩)
   refine a0m (SqL.of hX) (a4b _ _) ?_
   intro x dx nx ndx ne
   obtain ⟨s,hx⟩:=b7W (C:=t.C_Fact) nx ndx
   exact ⟨x,dx,_,rfl,hx,fun H' k r=>⟨rfl,q x (0,"",z0,[]) H' (fun c o e=>k c o (s _ _ (s03 _ _ e)) (a0c (s03 _ _ e) nx)) okF ⟨(eR 0 "").1,fun q hq=>absurd hq Xh⟩ r⟩⟩
  rintro σ' H' ⟨rfl,rfl⟩
  simp only [a1x,a1O,a0D,tOp,a0l,Qb,Qa,tC,a0O,b2e,a0h,tSl,a3n,a1T,a0v,Qf,a3M,a0b,a0K,a0G,a1q,decide_eq_true_eq,a2v]
  refine a0S (fun _=>?_) (fun _=>a0S (fun _=>?_) (fun _=>?_))
  ·refine a0m (SqL.of hX) (a4b _ _) (.inr (.inl ⟨X,_,rfl,SqL.of hX,fun Z hZ=>?_⟩))
   rw [show a4j (Gw V.str (z0::zr)) (some 1) none=zr.map V.str from b5R _ _]
   obtain ⟨H4,e4,s4,h4⟩:=a0I hZ (.lst (zr.map V.str));rw [e4]
   intro x dx nx ndx ne
   obtain ⟨s,hx⟩:=b7W (C:=t.C_Sure) nx ndx
   exact ⟨x,t.C_Sure,dx,_,_,Z,_,rfl,hx,⟨T.cl_Sure,T.nf_Sure_label,T.nf_Sure_head,T.nf_Sure_body⟩,.inl (SqL.of (s _ _ h4)),fun H' k r=>⟨rfl,q x (1,lb,z0,zr) H' (fun c o e=>k c o (s _ _ (s4 _ _ (s03 _ _ e))) (a0c (s4 _ _ (s03 _ _ e)) nx)) (okR 1 ‹dc› ‹dc›) (eR _ _) r⟩⟩
  ·refine a0m (SqL.of hX) (a4b _ _) (.inr (.inl ⟨X,_,rfl,SqL.of hX,fun Z hZ=>?_⟩))
   rw [show a4j (Gw V.str (z0::zr)) (some 1) none=zr.map V.str from b5R _ _]
   obtain ⟨H4,e4,s4,h4⟩:=a0I hZ (.lst (zr.map V.str));rw [e4]
   intro x dx nx ndx ne
   obtain ⟨s,hx⟩:=b7W (C:=t.C_Block) nx ndx
   exact ⟨x,t.C_Block,dx,_,_,Z,_,rfl,hx,⟨T.cl_Block,T.nf_Block_label,T.nf_Block_head,T.nf_Block_body⟩,.inl (SqL.of (s _ _ h4)),fun H' k r=>⟨rfl,q x (3,lb,z0,zr) H' (fun c o e=>k c o (s _ _ (s4 _ _ (s03 _ _ e))) (a0c (s4 _ _ (s03 _ _ e)) nx)) (okR 3 ‹dc› ‹dc›) (eR _ _) r⟩⟩
  ·refine a0m (SqL.of hX) (a4b _ _) (.inr (.inl ⟨X,_,rfl,SqL.of hX,fun Z hZ=>?_⟩))
   rw [show a4j (Gw V.str (z0::zr)) (some 1) none=zr.map V.str from b5R _ _]
   obtain ⟨H4,e4,s4,h4⟩:=a0I hZ (.lst (zr.map V.str));rw [e4]
   intro x dx nx ndx ne
   obtain ⟨s,hx⟩:=b7W (C:=t.C_Most) nx ndx
   exact ⟨x,t.C_Most,dx,_,_,Z,_,rfl,hx,⟨T.cl_Most,T.nf_Most_label,T.nf_Most_head,T.nf_Most_body⟩,.inl (SqL.of (s _ _ h4)),fun H' k r=>⟨rfl,q x (2,lb,z0,zr) H' (fun c o e=>k c o (s _ _ (s4 _ _ (s03 _ _ e))) (a0c (s4 _ _ (s03 _ _ e)) nx)) (okR 2 ‹dc› ‹dc›) (eR _ _) r⟩⟩
theorem b8C (T:Txt K mg t):a1a P w K mg base CX0 1 t.f_z1b t.fd_z1b ["_law_rules","_law_cell"] (b2o t):=by
 refine T.F_z1b.ok b6x (fun vs H Q E h=>?_) (fun cdv A outer s H vs Q E hr h=>?_)
 ·obtain ⟨a,c,zr,rfl,hR,q⟩:=h;rfl
 ·obtain ⟨a,c,zr,rfl,hR,q⟩:=h
  refine ⟨_,‹A4 (B2 (A9 (a0T hr.units) (A5 a0L (A5 a1K 1 A2) A2) A2 (a0o _)) (A3 (A6 (G7 0))) B3) (A3 (A6 (C7 a0u T.z_list a0z (A0 0 A1))))›,?_⟩
  rw [show a0t b7s [V.ref a,V.int c]=[some (V.ref a),some (V.int c)] from rfl]
  have fin:∀(p:Addr) (zs:List VR),H p=none→(∀x∈zs,x∈zr)→zs.length=zr.length→Q (.ref p) (upd H p (.lst (zs.map (·.1)))):=fun p zs hp hm hl=>by
   obtain ⟨H1,e1,s1,h1⟩:=a0I hp (.lst (zs.map (·.1)));rw [e1]
   exact q p zs H1 s1 hp ⟨h1,fun x hx=>(hR.2.1.same s1) x (hm x hx),by rw [hl];exact hR.2.2.1,fun x hx=>hR.2.2.2 x (hm x hx)⟩ hm
  simp only [a1x,a1O,a0D,tOp,a0l,Qb,Qa,tC,a0O,a0K,tCB,a0h,a0v,a0b,a0Y,a8X,a0G,a1q,decide_eq_true_eq]
  refine ⟨⟨by decide,by decide⟩,by decide,a0S (fun _=>?_) (fun _=>?_)⟩
  ·refine ⟨V.ref a,rfl,a,_,rfl,SqL.of hR.1,fun p hp=>?_⟩
   rw [←List.map_reverse]
   exact fin p zr.reverse hp (fun x hx=>List.mem_reverse.mp hx) (Vc)
  ·exact ⟨a,_,rfl,.inl (SqL.of hR.1),fun p hp=>fin p zr hp (fun x hx=>hx) rfl⟩
theorem b8f (T:Txt K mg t):a1a P w K mg base CX0 5 t.f_z1j t.fd_z1j ["_law_script","_law_many"] (b4v K t):=by
 refine T.F_z1j.ok a3f (fun vs H Q E h=>?_) (fun cdv A outer s H vs Q E hr h=>?_)
 ·obtain ⟨a,ns,rfl,hS,hl,q⟩:=h;rfl
 ·obtain ⟨a,ns,rfl,hS,hl,q⟩:=h
  refine ⟨_,‹A4 (A8 2 a3f.nd (A7 (b6C T) T.g_z1n T.F_z1n.kp T.b_z1n (A0 0 A1))) (A4 (A8 3 a3f.nd (D6 a1I 0 (D3 A2) (D3 (A5 a0k A2 1)))) (A4 (A8 4 a3f.nd (E7 (a0T hr.units) (A5 a0L (A5 a1K (A7 (a4y T) T.g_z13 T.F_z13.kp T.b_z13 (A0 0 (A0 A2 A1))) A2) A2) A2 (a0o _))) (A4 (E3 5 (B8 (a0a a8n) b5h ["_law_k","_law_pool_here","_law_plain","_law_cells"] [none,some 2,some 4,some 3]) (F1 (A0 (B6 a0x T.z_len a0y (A0 3 A1)) A1)) (B1 0 (show Xm (["_law_k","_law_pool_here","_law_plain","_law_cells"]:List Str) by decide+kernel)) D7 (A7 (b9n T) T.g_z1o T.F_z1o.kp T.b_z1o (A0 1 (A0 (B0 (a2n (K:=K) rfl) 3 0) (A0 0 (A0 2 A1))))) a3f.nd) (A4 (A8 6 a3f.nd (A7 (b7a T) T.g_z1i T.F_z1i.kp T.b_z1i (A0 5 (A0 (A7 (a4y T) T.g_z13 T.F_z13.kp T.b_z13 (A0 0 (A0 A2 A1))) A1)))) (A4 (A8 7 a3f.nd (B9 A1)) (A4 (C5 (B7 2) (B1 8 a3f.nd) (A3 (C9 (C8 Xi PySem.F.slot_list_extend PySem.F.type_list_extend b0z 7 (A0 (B9 (A0 8 (A0 (A5 a0k B5 8) A1))) A1))))) (A3 (A6 (B9 (A0 (A7 (b8C T) T.g_z1b T.F_z1b.kp T.b_z1b (A0 5 (A0 (A7 (a4y T) T.g_z13 T.F_z13.kp T.b_z13 (A0 0 (A0 A2 A1))) A1))) (A0 6 (A0 7 A1))))))))))))›,?_⟩
  rw [show a0t b5h [V.ref a,V.int 30]=[some (V.ref a),some (V.int 30),none,none,none,none,none,none,none] from rfl]
  simp only [a1x,a2a,a0B,a0h,a0l,Qa,a0v,Qf,a0s,tSl,Qg,Qh,a3n,tC,tOp,Qb,a4a,a0J,a1c,a0b,a0p,a8x,tCB,a0N,a3M]
  refine ⟨a,ns,rfl,hS,hl,fun Pa pl H1 s1 hPn hP1 hp1 hp7 hpo hpu=>?_⟩
  have hS1:SqL K H1 a (ns.map V.int):=s1.seq hS
  refine .inr (.inl ⟨a,_,rfl,hS1,fun Ca hCa=>?_⟩)
  obtain ⟨cs,ecs,hcl⟩:=c0P ns
  rw [ecs]
  obtain ⟨H2,e2,s2,h2⟩:=a0I hCa (.lst (cs.map V.int));rw [e2]
  have hS2:SqL K H2 a (ns.map V.int):=s2.seq hS1
  refine ⟨a,ns,1,rfl,hS2,hl,by decide,by decide,fun c1=>?_⟩
  simp only [a1o,a0Y,a8X,a0G]
  refine ⟨by decide,by decide,a0w (SqL.of h2) ?_⟩
  rw [Qd]
  refine ⟨_,rfl,by omega,by omega,?_⟩
  have hP2:=s2 _ _ hP1
  refine b4y a3V (Qj (show (cs.length:Int).toNat≤1000 by omega) ‹dc›) [some (V.ref Pa),some (V.bl (decide (c1 / 12 % 2=1))),some (V.ref Ca)] rfl (fun D i v H'=>∃r,(RwT r∧RwE (b1Y pl) r)∧RuD t D v r H') ?_ (fun _ _=>trivial) (fun D i H' R hi hDn s hD hR=>?_) (fun Ru H3 ys hRn s3 hR3 hyl hv=>?_)
  ·rintro D i v Ha Hb up ⟨r,hr,p,dx,t0,e,n1,n2,g1,g2⟩
   exact ⟨r,hr,p,dx,t0,e,n1,n2,up _ _ n1 g1,up _ _ n2 g2⟩
  ·obtain ⟨zs,hD⟩:=hD
   have hi':i < cs.length:=by omega
   obtain ⟨v,e,hv,_⟩:=a2O (xs:=cs.map V.int) (i:=(0+(i:Int))) ‹om› (by rw [Qd];omega)
   obtain ⟨n,_,rfl⟩:=Qy.mp hv
   simp only [a0B,a0h,a0l,Qb,Qa,tOp,a0v,Qf,a0b]
   refine a0m (SqL.of (s _ _ h2)) e ⟨Pa,n,_,_,pl,rfl,s _ _ hP2,hp1,hp7,hpo,by omega,fun x r H' s' hr hr2 hx=>?_⟩
   obtain ⟨dx,t0,f1,f2⟩:=hx
   have hD':=s' _ _ hD
   exact hR _ _ s' ⟨r,⟨hr,hr2⟩,x,dx,t0,rfl,a1S f1 hD' ‹iz›,a1S f2 hD' ‹iz›,f1,f2⟩
  obtain ⟨zr,ezr,hzw,hzt⟩:=b8p hv
  have hzl:zr.length≤30:=by rw [←ezr,Qd] at hyl;omega
  clear hv hyl
  subst ezr
  have hR:a2g t H3 Ru zr:=⟨hR3,hzw,hzl,fun p hp=>(hzt p hp).1⟩
  have hS3:SqL K H3 a (ns.map V.int):=s3.seq hS2
  refine ⟨a,ns,2,rfl,hS3,hl,by decide,by decide,fun c2=>?_⟩
  refine ⟨Ru,c2,zr,rfl,hR,fun Pr ps prl H4 s4 hPrn hPr4 hprs hprl hpro=>?_⟩
  refine ⟨by decide,fun E hE=>?_⟩
  obtain ⟨H5,e5,s5,h5⟩:=a0I hE (.lst []);rw [e5]
  have s25:=(s3.trans s4).trans s5
  have hP5:=s25 _ _ hP2
  refine ⟨⟨_,SqL.of hP5⟩,?_⟩
  refine a1j (K:=K) (a:=Pa) (xs:=pl.map V.str) (fun i σ H'=>∃(ev:List Str) (x8:Option V),σ=[some (V.ref a),some (V.int 30),some (V.ref Pa),some (V.ref Ca),some (V.bl (decide (c1 / 12 % 2=1))),some (V.ref Ru),some (V.ref Pr),some (V.ref E),x8]∧a0g H4 H'∧H' E=some (.lst (ev.map V.str))∧ev.length=2 * i∧(∀z∈ev,TxN 31 z)∧ev=b1Y (pl.take i))
   ⟨[],_,rfl,s5,h5,rfl,(fun z hz=>absurd hz Xh),rfl⟩ (fun i σ H' _ h=>by obtain ⟨_,_,_,s,_⟩:=h;exact SqL.of (s _ _ (s4 _ _ (s3 _ _ hP2)))) ?_ ?_
  ·rintro i v σ H6 hi ⟨ev,x8,rfl,s6,hE6,hel,heo,hee⟩
   obtain ⟨hi',rfl⟩:=a2s hi
   have hz:=hpo _ (Qv hi')
   simp only [a0s,a2X,tBM,a0l,Qg,Qh,Qb,Qa,a0h,a4a,tOp,tC,a0v,a0b,a1Y]
   refine ⟨.inl ⟨rfl,_,SqL.of hE6⟩,?_⟩
   refine ⟨Qj (Vi (show (Xw "-").length≤1 by decide+kernel) hz.len) ‹dc›,(show 2≤sizeLine by decide),fun Z hZ=>?_⟩
   obtain ⟨H7,e7,s7,h7⟩:=a0I hZ (.lst [V.str pl[i],V.str (Xw "-"++pl[i])]);rw [e7]
   refine ⟨E,Z,_,_,rfl,rfl,s7 _ _ hE6,h7,Qj (show _≤1000 by rw [Qd];simp;omega) ‹dc›,?_⟩
   refine ⟨ev++[pl[i],"-"++pl[i]],_,rfl,fun b o e=>by rw [a0d (a0c e hE)];exact s7 _ _ (s6 _ _ e),by rw [a0e,Yc];rfl,by simp;omega,fun z hz'=>?_,by rw [hee,Xe hi'];unfold b1Y;rw [Vd];simp⟩
   rcases Xn.mp hz' with w | w
   ·exact heo z w
   ·rcases Qn.mp w with w | w
    ·rw [w];exact hz.up ‹dc›
    ·rw [Qw.mp w];exact hz.neg
  ·rintro σ H6 ⟨ev,x8,rfl,s6,hE6,hel,heo,hee⟩
   rw [Qd,Xy] at hee
   have s36:=s4.trans s6
   simp only [a0O,a4a,a0h,a0B,a0l,Qb,Qa,tC,a0v,Qf,a0b]
   refine ⟨a,ns,1,rfl,s36.seq hS3,hl,by decide,by decide,fun c3=>?_⟩
   refine ⟨Ru,c3,zr,rfl,hR.same s36,fun T0 zr' H7 s7 hTn hT hTm=>?_⟩
   refine ⟨(show 3≤sizeLine by decide),fun Z hZ=>?_⟩
   obtain ⟨H8,e8,s8,h8⟩:=a0I hZ (.lst [V.ref T0,V.ref Pr,V.ref E]);rw [e8]
   have s78:=s7.trans s8
   have s68:=s6.trans s78
   rw [Qd] at hel
   exact q Z T0 Pr E zr' ps prl ev H8 ((((s1.trans s2).trans s3).trans s4).trans s68) ⟨h8,hT.same s8,s68 _ _ hPr4,a0q.same s68 hprs,hpro,hprl,s78 _ _ hE6,heo,by omega,fun p hp=>by rw [hee];exact (hzt p (hTm p hp)).2,by rw [hee];exact a6W hpu⟩
theorem b6Y (T:Txt K mg t):a1a P w K mg base CX0 2 t.f_z1r t.fd_z1r ["_law_scene_here","_law_claims","_law_cell"] (b8n t):=by
 refine T.F_z1r.ok a2T (fun vs H Q E h=>?_) (fun cdv A outer s H vs Q E hr h=>?_)
 ·obtain ⟨s,T0,P0,E,a,c,zr,ps,pl,ev,cl,rfl,hs,ha,hl,hc,q⟩:=h;rfl
 ·obtain ⟨s,T0,P0,E,a,c,zr,ps,pl,ev,cl,rfl,hs,ha,hl,hc,q⟩:=h
  refine ⟨_,‹A4 (A8 3 a2T.nd (C3 (B8 (a0a a5v) a9s ["_law_row"] [none]) (B7 1) (B1 0 (show Xm (["_law_row"]:List Str) by decide+kernel)) D7 (B0 (a2n (K:=K) rfl) 0 A2))) (A4 (A8 4 a2T.nd (B6 (a1A rfl) T.z_sorted a0H (A0 (C3 (B8 (a0a a5v) a9s ["_law_text","_law_known"] [none,some 3]) (B7 (B0 a0i 0 A2)) (B1 0 (show Xm (["_law_text","_law_known"]:List Str) by decide+kernel)) (D1 (A9 (a2r (K:=K) rfl) 0 1 (by with_unfolding_all rfl))) 0) A1))) (A4 (A8 5 a2T.nd (A5 a0L 2 A2)) (A4 (A8 6 a2T.nd (A5 a0L (A5 a1K 2 A2) (B6 a0x T.z_len a0y (A0 (B0 a0i 0 A2) A1)))) (C6 (B2 (C1 (D2 (A9 (a0T hr.units) 5 A2 (a0o _)) (D5 (A9 (a6Y hr.units) 4 (B9 A1) (a0o _))))) (A3 (C9 (C8 Xi Ww Wx b1P 4 (A0 (A5 a0L 6 (B6 a0x T.z_len a0y (A0 4 A1))) A1)))) B3) (C6 (B2 (C1 (D2 (A9 (a0T hr.units) 5 A2 (a0o _)) (D5 (A9 a2H (B0 a0i (B0 a0i 0 A2) 6) 4 (by with_unfolding_all rfl))))) (A3 (A8 4 a2T.nd (B6 (a1A rfl) T.z_sorted a0H (A0 (A5 a0k 4 (B9 (A0 (B0 a0i (B0 a0i 0 A2) 6) A1))) A1)))) B3) (C6 (B2 (A9 (a0T hr.units) 5 A2 (a0o _)) (A3 (A8 4 a2T.nd (B6 (a1A rfl) T.z_sorted a0H (A0 (C3 (B8 (a0a a5v) a9s ["_law_k","_law_text","_law_cell"] [none,none,some 2]) (G1 (A0 (B0 a0i 0 A2) A1)) (G2 (E4 (B1 0 (show Xm (["_law_k","_law_text","_law_cell"]:List Str) by decide+kernel)) (E4 (B1 1 (show Xm (["_law_k","_law_text","_law_cell"]:List Str) by decide+kernel)) F7))) (D1 (A9 (a7c hr.units (K:=K) rfl) (A5 b7d (A5 b7Y (A5 a1K 2 A2) 0) A2) A2 (a0o _))) 1) A1)))) B3) (C6 (B2 (A9 (a0T hr.units) 5 A2 (a0o _)) (A3 (A8 4 a2T.nd (G7 4))) B3) (C6 (B2 (A9 (a0T hr.units) 5 A2 (a0o _)) (A3 (A8 4 a2T.nd (B6 (a1A rfl) T.z_sorted a0H (A0 (A5 a0k 4 (D6 a1I 4 E0 (D3 A2))) A1)))) B3) (A3 (A6 4))))))))))›,?_⟩
  rw [show a0t a9s [V.ref s,V.ref a,V.int c]=[some (V.ref s),some (V.ref a),some (V.int c),none,none,none,none] from rfl]
  obtain ⟨qs,hq,hP,hce⟩:=id ha
  have hen:=hs.en
  have srt:∀(p:Addr) (M:List Str) (Hx:Hp) (Q':VK),a0g H Hx→Hx p=some (.lst (M.map V.str))→M.length≤29→(∀z∈M,z∈ev)→(∀D H',SmI H M.length ev D H'→Q' (.ref D) H')→b7i K [.ref p] Hx Q':=fun p M Hx Q' sx g n m k=>by
   refine .inl ⟨p,M,rfl,SqL.of g,by omega,fun l S' hln hp _=>?_⟩
   obtain ⟨H1,e1,s1,g1⟩:=a0I hln (.lst (S'.map V.str));rw [e1]
   exact k l H1 ⟨sx.trans s1,none_of sx hln,S',g1,Uu hp.length_eq,fun z hz=>m z (hp.mem_iff.mp hz)⟩
  simp only [a1x,a2a,a0s,tCB,a0h,Qg,Qh,a0v,tOp,a0l,Qb,Qa,tC,a0b,a0Y,a8X,a0p,a1c,a1o]
  refine ⟨⟨_,SqL.of hq⟩,?_⟩
  refine a5c hq hP (by rw [Qd];omega) [] rfl (fun _=>true) (fun p=>V.str p.2) (fun x p H' R hx s hR=>?_) (fun x p H' R hx s hR=>?_) (fun Kn H1 hKn s1 hK=>?_)
  ·simp only [b4m]
   exact hR _ (a0g.refl _)
  ·simp only [tOp,a0l,Qa,tC,a0b]
   exact a0V (i:=1) (v:=.str p.2) (SqT.of hx) (by rfl) (hR _ (a0g.refl _))
  obtain ⟨kn,ekn⟩:∃kn:List Str,((cl.map cw).filter fun _=>true).map (fun p=>V.str p.2)=kn.map V.str:=⟨((cl.map cw).filter fun _=>true).map (·.2),by rw [Yr];rfl⟩
  rw [ekn] at hK
  refine a0m (SqL.of (s1 _ _ hs.s)) rfl ⟨E,rfl,⟨_,SqL.of (s1 _ _ hs.e)⟩,?_⟩
  refine a3C (a1E (xs:=ev.map V.str)) (Qj (show (ev.map V.str).length≤1000 by rw [Qd];omega) ‹dc›) [some (V.ref Kn)] rfl (fun i=>decide (((ev[i]?).getD "")∉kn)) (fun i=>V.str ((ev[i]?).getD "")) (fun H' s=>SqL.of (s _ _ (s1 _ _ hs.e))) (fun i H' R' hi s hR'=>?_) (fun i H' R' hi s hR'=>?_) (fun D2 H2 hD2n s2 hD2=>?_)
  ·have hi':i < ev.length:=by simpa using hi
   have e2:((ev.map V.str)[i]?).getD .non=V.str ev[i]:=by rw [Qr,Qc hi'];rfl
   rw [e2]
   rw [Qc hi',Xs] at hR'
   simp only [a0D,tOp,a0l,Qa,Qb,a0b]
   refine a1u (SqL.of (s _ _ hK)) ⟨_,rfl,?_⟩
   have:=hR' _ (a0g.refl _)
   rwa [show decide (ev[i]∉kn)=!decide (ev[i]∈kn) by simp] at this
  ·have hi':i < ev.length:=by simpa using hi
   have e2:((ev.map V.str)[i]?).getD .non=V.str ev[i]:=by rw [Qr,Qc hi'];rfl
   rw [e2]
   rw [Qc hi',Xs] at hR'
   simp only [a0l,Qa,a0b]
   exact hR' _ (a0g.refl _)
  rw [show (ev.map V.str).length=ev.length by simp,a0X ("":Str) (fun z=>decide (z∉kn)) V.str ev] at hD2
  have hfl:=Qz (fun z=>decide (z∉kn)) ev
  refine srt D2 _ H2 _ (s1.trans s2) hD2 ‹om› (fun z hz=>(Xc.mp hz).1) fun D3 H3 h3=>?_
  have h3:=h3.up (show _≤14 by omega)
  refine ⟨by decide,⟨by decide,by decide⟩,a0m (SqL.of (h3.1 _ _ hs.s)) rfl (a0w (SqL.of (h3.1 _ _ hs.e)) ?_)⟩
  rw [Qd]
  simp only [a0Y]
  have m1:=a1y (i:=c / 6) (j:=(ev.length:Int)) ‹om›
  obtain ⟨v,e,hv,_⟩:=a2O (xs:=ev.map V.str) (i:=c / 6 % (ev.length:Int)) m1.1 (by rw [Qd];exact m1.2)
  obtain ⟨z0,hz0,rfl⟩:=Qy.mp hv
  refine ⟨by omega,fun σ' H'=>∃D,σ'=[some (V.ref s),some (V.ref a),some (V.int c),some (V.ref Kn),some (V.ref D),some (V.int (c % 6)),some (V.int (c / 6 % (ev.length:Int)))]∧SmI H 14 ev D H',?_,?_⟩
  ·simp only [a1O,a6t,a0D,tOp,a0l,Qb,Qa,tC,a4a,a0v,a2X,tBM,a0h,tCB,a0b,a0K,a2j,a0G,a1q,decide_eq_true_eq]
   refine a0S (fun c1=>?_) (fun c1=>⟨D3,rfl,h3⟩)
   refine ⟨Xg _,fun p2 hp2=>?_⟩
   obtain ⟨H4,e4,s4,g4⟩:=a0I hp2 (.lst []);rw [e4]
   have h4:=h3.same s4
   obtain ⟨x1,x2,So,x3,x4,x5⟩:=id h4
   refine ⟨D3,p2,_,rfl,rfl,SqL.of x3,SqL.of g4,⟨_,rfl,a0S (fun c2=>?_) (fun _=>⟨D3,rfl,h4⟩)⟩⟩
   have hS0:So≠[]:=by simpa using c2
   have hSp:0 < So.length:=Ve.mpr hS0
   refine ⟨.inl ⟨rfl,_,SqL.of x3⟩,a0w (SqL.of x3) ?_⟩
   rw [Qd]
   generalize c / 6 % (ev.length:Int)=at0
   have m2:=a1y (i:=at0) (j:=(So.length:Int)) ‹om›
   obtain ⟨v,e,_⟩:=a2O (xs:=So.map V.str) (i:=at0 % (So.length:Int)) m2.1 (by rw [Qd];exact m2.2)
   obtain ⟨j,j1,j2,j3,_⟩:=a5a e
   rw [Qd] at j3
   simp only [a0Y]
   refine ⟨by omega,D3,_,_,j,v,rfl,rfl,x3,by omega,by omega,j1,j2,D3,rfl,?_,x2,So.eraseIdx j,by rw [a0e,b3s],by rw [Js j3];omega,fun z hz=>x5 z (List.mem_of_mem_eraseIdx hz)⟩
   exact fun b x e=>by rw [a0d (a0c e x2)];exact x1 _ _ e
  rintro σ' H4 ⟨D4,rfl,h4⟩
  refine ⟨fun σ' H'=>∃D,σ'=[some (V.ref s),some (V.ref a),some (V.int c),some (V.ref Kn),some (V.ref D),some (V.int (c % 6)),some (V.int (c / 6 % (ev.length:Int)))]∧SmI H 15 ev D H',?_,?_⟩
  ·simp only [a1O,a6t,a0D,tOp,a0l,Qb,Qa,tC,a2a,tCB,a0h,a4a,a0v,a0s,Qg,Qh,a0b,a0K,a2j,a0G,a1q,decide_eq_true_eq]
   refine a0S (fun c1=>?_) (fun c1=>⟨D4,rfl,h4.up ‹dc›⟩)
   obtain ⟨x1,x2,So,x3,x4,x5⟩:=id h4
   have hE4:=x1 _ _ hs.e
   refine a0m (SqL.of (x1 _ _ hs.s)) rfl (a0m (SqL.of hE4) e (a1u (SqL.of x3) ⟨_,rfl,a0S (fun c2=>?_) (fun _=>⟨D4,rfl,h4.up ‹dc›⟩)⟩))
   refine a0m (SqL.of (x1 _ _ hs.s)) rfl (a0m (SqL.of hE4) e ⟨by simp only [Qt,Xl];decide,fun p5 hp5=>?_⟩)
   obtain ⟨H5,e5,s5,g5⟩:=a0I hp5 (.lst ([z0].map V.str))
   have e5':upd H4 p5 (.lst [V.str z0])=H5:=e5
   rw [e5']
   refine a3u (s5 _ _ x3) g5 (by simp;omega) fun p6 hp6=>?_
   obtain ⟨H6,e6,s6,g6⟩:=a0I hp6 (.lst ((So++[z0]).map V.str));rw [e6]
   refine srt p6 _ H6 _ ((x1.trans s5).trans s6) g6 (by simp;omega) (fun z hz=>?_) fun D7 H7 h7=>⟨D7,rfl,h7.up (by simp;omega)⟩
   rcases Xn.mp hz with m | m
   ·exact x5 z m
   ·rw [Qw.mp m];exact hz0
  rintro σ' H5 ⟨D5,rfl,h5⟩
  refine ⟨fun σ' H'=>∃D,σ'=[some (V.ref s),some (V.ref a),some (V.int c),some (V.ref Kn),some (V.ref D),some (V.int (c % 6)),some (V.int (c / 6 % (ev.length:Int)))]∧SmI H 15 ev D H',?_,?_⟩
  ·simp only [a1O,a0D,tOp,a0l,Qb,Qa,tC,a2a,tCB,a0h,a0v,a0s,Qg,Qh,a0p,b4I,a0b,a0K,a0G,a1q,decide_eq_true_eq]
   refine a0S (fun c1=>?_) (fun c1=>⟨D5,rfl,h5⟩)
   have hE5:=h5.1 _ _ hs.e
   refine a0m (SqL.of (h5.1 _ _ hs.s)) rfl ⟨E,rfl,⟨_,SqL.of hE5⟩,?_⟩
   refine b5r (xs:=ev.map V.str) [some (V.int c)] (Qj (show (ev.map V.str).length≤1000 by rw [Qd];omega) ‹dc›) rfl (fun _ _=>True) (SqL.of hE5) (fun i H' R hi s hR=>?_) (fun i H' R hi s hR=>?_) (fun Fi H6 bs hbl _ hFn s6 hF6=>?_)
   ·simp only [a0D,tOp,a0l,Qb,Qa,tC,a0b,a0Y,a8X,b0U,a0G,a1q]
    exact ⟨⟨by decide,by decide⟩,by omega,hR _ _ (a0g.refl _) trivial⟩
   ·simp only [a0l,Qb,Qa,a0b]
    exact hR _ (a0g.refl _)
   obtain ⟨sm,esm,hss⟩:=a9L ev bs
   rw [esm] at hF6
   have hsl:=hss.length_le
   exact srt Fi _ H6 _ (h5.1.trans s6) hF6 ‹om› (fun z hz=>hss.subset hz) fun D7 H7 h7=>⟨D7,rfl,h7.up ‹om›⟩
  rintro σ' H6 ⟨D6,rfl,h6⟩
  refine ⟨fun σ' H'=>∃D,σ'=[some (V.ref s),some (V.ref a),some (V.int c),some (V.ref Kn),some (V.ref D),some (V.int (c % 6)),some (V.int (c / 6 % (ev.length:Int)))]∧SmI H 15 ev D H',?_,?_⟩
  ·simp only [a1O,a0D,tOp,a0l,Qb,Qa,tC,a2a,a0s,Qg,Qh,a0K,a0b,a0G,a1q,decide_eq_true_eq]
   refine a0S (fun c1=>?_) (fun c1=>⟨D6,rfl,h6⟩)
   obtain ⟨x1,x2,So,x3,x4,x5⟩:=id h6
   refine ⟨V.ref D6,rfl,D6,_,rfl,SqL.of x3,fun p7 hp7=>?_⟩
   rw [←List.map_reverse]
   obtain ⟨H7,e7,s7,g7⟩:=a0I hp7 (.lst (So.reverse.map V.str));rw [e7]
   exact ⟨p7,rfl,x1.trans s7,none_of x1 hp7,_,g7,by rw [Vc];exact x4,fun z hz=>x5 z (List.mem_reverse.mp hz)⟩
  rintro σ' H7 ⟨D7,rfl,h7⟩
  refine ⟨fun σ' H'=>∃D,σ'=[some (V.ref s),some (V.ref a),some (V.int c),some (V.ref Kn),some (V.ref D),some (V.int (c % 6)),some (V.int (c / 6 % (ev.length:Int)))]∧SmI H 30 ev D H',?_,?_⟩
  ·simp only [a1O,a0D,tOp,a0l,Qb,Qa,tC,a2a,tCB,a0h,tSl,a1T,a3n,a0v,a0s,Qg,Qh,a3M,a0b,a0K,a0G,a1q,decide_eq_true_eq]
   refine a0S (fun c1=>?_) (fun c1=>⟨D7,rfl,h7.up ‹dc›⟩)
   obtain ⟨x1,x2,So,x3,x4,x5⟩:=id h7
   refine .inr (.inl ⟨D7,_,rfl,SqL.of x3,fun p8 hp8=>?_⟩)
   rw [a3r _ ‹dc›,←Jd]
   obtain ⟨H8,e8,s8,g8⟩:=a0I hp8 (.lst ((So.take (1:Int).toNat).map V.str));rw [e8]
   have htl:(So.take (1:Int).toNat).length≤1:=by rw [Xo];exact Ux _ _
   refine a3u (s8 _ _ x3) g8 ‹om› fun p9 hp9=>?_
   obtain ⟨H9,e9,s9,g9⟩:=a0I hp9 (.lst ((So++So.take (1:Int).toNat).map V.str));rw [e9]
   refine srt p9 _ H9 _ ((x1.trans s8).trans s9) g9 (by rw [Xk];omega) (fun z hz=>?_) fun D10 H10 h10=>⟨D10,rfl,h10.up (by rw [Xk];omega)⟩
   rcases Xn.mp hz with m | m
   ·exact x5 z m
   ·exact x5 z (Zf m)
  rintro σ' H8 ⟨D8,rfl,x1,x2,So,x3,x4,x5⟩
  simp only [a0O,a0l,Qb,Qa,a0b]
  exact q D8 So H8 x1 x2 x3 x4 x5
theorem c0d (T:Txt K mg t):a1a P w K mg base CX0 2 t.f_z1p t.fd_z1p ["_law_rule_here"] (b7A t):=by
 refine T.F_z1p.ok b9b (fun vs H Q E h=>?_) (fun cdv A outer s H vs Q E hr h=>?_)
 ·obtain ⟨x,r,rfl,hx,ho,q⟩:=h;rfl
 ·obtain ⟨x,r,rfl,hx,ho,q⟩:=h
  refine ⟨_,‹A3 (A6 (E7 a1N (D4 (C4 0 T.cl_Fact T.me_Fact_word (b3A T) T.b_z10) (D4 (C4 0 T.cl_Sure T.me_Sure_word (b3B T) T.b_z11) (D4 (C4 0 T.cl_Most T.me_Most_word (b3u T) T.b_z12) (C4 0 T.cl_Block T.me_Block_word (b3N T) T.b_z0q)))) (D0 (A0 B5 (A0 B5 A1))) (by with_unfolding_all rfl)))›,?_⟩
  rw [show a0t b6I [V.ref x]=[some (V.ref x)] from rfl]
  obtain ⟨x',ex,hr⟩:=id hx
  cases ex
  simp only [a0O,tOp,a6u,a0h,tC,a0v]
  refine b6j ho.1 (a1k rfl) hr ⟨by decide+kernel,by decide+kernel,by decide+kernel⟩ ?_
  rw [a5p ho.1]
  simp only [a5C]
  refine ⟨by simp only [Qt,Xl];decide,fun p5 hp5=>?_⟩
  obtain ⟨H5,e5,s5,h5⟩:=a0I hp5 (.tup [V.str "fact",V.str "sure"]);rw [e5]
  refine b5C (r:=["fact","sure"]) (SqT.of h5) ?_
  rw [b0m ho.1]
  exact q H5 s5
theorem b7G (T:Txt K mg t):a1a P w K mg base CX0 3 t.f_z1l t.fd_z1l ["_law_scene_here"] (b2j t):=by
 refine T.F_z1l.ok a6f (fun vs H Q E h=>?_) (fun cdv A outer s H vs Q E hr h=>?_)
 ·obtain ⟨s,T0,P0,E,zr,ps,pl,ev,rfl,hs,q⟩:=h;rfl
 ·obtain ⟨s,T0,P0,E,zr,ps,pl,ev,rfl,hs,q⟩:=h
  refine ⟨_,‹A4 (A8 1 a6f.nd (B9 A1)) (A4 (A8 2 a6f.nd (G5 A2)) (A4 (G6 (A9 a3W 2 (B6 a0x T.z_len a0y (A0 1 A1)) (a0o _)) (A4 (A8 2 a6f.nd (B6 a0x T.z_len a0y (A0 1 A1))) (A3 (C5 (B7 (B0 a0i 0 A2)) (B1 3 a6f.nd) (A3 (B2 (C1 (D2 (C0 (A7 (c0d T) T.g_z1p T.F_z1p.kp T.b_z1p (A0 3 A1))) (D2 (A9 a2H (C2 3) 1 (by with_unfolding_all rfl)) (D5 (C0 (A7 (b1j T) T.g_z1c T.F_z1c.kp T.b_z1c (A0 3 (A0 1 A1)))))))) (A3 (C9 (C8 Xi Xp Xq a0E 1 (A0 (C2 3) A1)))) B3)))))) (A3 (A6 1))))›,?_⟩
  rw [show a0t b9l [V.ref s]=[some (V.ref s),none,none,none] from rfl]
  simp only [a1x,a2a,a4a,a0v,a0s,tUn,tC,Qg,Qh,b3C]
  refine ⟨Xg _,fun D hD=>?_⟩
  have hrl:zr.length≤30:=hs.r.2.2.1
  have hfew:∀{L:List Str},a2E ((zr.map (·.2)).map srW) [] L=true→L.length≤zr.length:=fun h=>by have:=(a1Q h).2.2;rwa [Qd] at this
  refine b0C (fun m σ H'=>∃(L:List Str) (z:Int) (x3:Option V),σ=[some (V.ref s),some (V.ref D),some (V.int z),x3]∧a0g H H'∧H' D=some (.lst (L.map V.str))∧a2E ((zr.map (·.2)).map srW) [] L=true∧z≤L.length∧(z=L.length→a6M ((zr.map (·.2)).map srW) L=true)∧m=if z < L.length then zr.length+1 - L.length else 0)
   (zr.length+1) ⟨[],-1,_,rfl,a0g.upd hD,a0e,rfl,by decide,fun z=>(by cases z),by rw [if_pos ‹dc›];rfl⟩ ?_
  rintro m σ H1 ⟨L,z,x3,rfl,s1,hD1,hO,hz,hc,rfl⟩
  simp only [a0D,tOp,a0l,Qb,Qa,tCB,a0h,a0v,a1x,a2a,a0s,Qg,Qh,a0J,a1c,tC,a0b,a0O]
  refine a0w (SqL.of hD1) ?_
  rw [Qd]
  simp only [a2v,a1q,decide_eq_true_eq]
  refine a0S (fun c1=>?_) (fun c1=>?_)
  ·rw [if_pos c1]
   have hT:H T0=some (.lst (zr.map (·.1))):=hs.r.1
   refine ⟨_,fun _ _ h=>h,?_⟩
   refine a0w (SqL.of hD1) ?_
   rw [Qd]
   refine a0m (SqL.of (s1 _ _ hs.s)) rfl ⟨T0,rfl,⟨_,SqL.of (s1 _ _ hT)⟩,?_⟩
   refine a1j (K:=K) (a:=T0) (xs:=zr.map (·.1)) (fun j σ H'=>∃(L':List Str) (x3:Option V),σ=[some (V.ref s),some (V.ref D),some (V.int (L.length:Int)),x3]∧a0g H H'∧H' D=some (.lst (L'.map V.str))∧a2E ((zr.map (·.2)).map srW) [] L'=true∧((L'=L∧∀r∈(zr.take j).map (·.2),(srW r).1=true→a1X r.2.2.2 L=true→r.2.2.1∈L)∨L.length < L'.length))
    ⟨L,_,rfl,s1,hD1,hO,.inl ⟨rfl,fun r hr=>(by cases hr)⟩⟩ (fun i σ H' _ ⟨_,_,_,s',_⟩=>SqL.of (s' _ _ hT)) ?_ ?_
   ·rintro j x σ H2 hj ⟨L',y3,rfl,s2,hD2,hO2,hL2⟩
    obtain ⟨hj',rfl⟩:=a2s hj
    have hsm:=hs.r.same s2
    obtain ⟨⟨x,ex,hx⟩,ho⟩:=hsm.2.1 _ (Qv hj')
    have etk:∀r,r∈(zr.take (j+1)).map (·.2)↔r∈(zr.take j).map (·.2)∨r=zr[j].2:=fun r=>by
     rw [Xe hj',Yc,Xn,Xj,Vz,Qw]
    have hmem:zr[j].2∈zr.map (·.2):=Qy.mpr ⟨_,Qv hj',rfl⟩
    rw [ex]
    generalize zr[j].2=r at hx ho etk hmem
    have CF:=a5b T ho.1
    have hl2:=hfew hO2
    have stay:∀H',a0g H2 H'→(L'=L→(srW r).1=true→a1X r.2.2.2 L=true→r.2.2.1∈L)→∃(L':List Str) (x3:Option V),[some (V.ref s),some (V.ref D),some (V.int (L.length:Int)),some (V.ref x)]=[some (V.ref s),some (V.ref D),some (V.int (L.length:Int)),x3]∧a0g H H'∧H' D=some (.lst (L'.map V.str))∧a2E ((zr.map (·.2)).map srW) [] L'=true∧((L'=L∧∀r∈(zr.take (j+1)).map (·.2),(srW r).1=true→a1X r.2.2.2 L=true→r.2.2.1∈L)∨L.length < L'.length):=fun H' s' hc=>
     ⟨L',_,rfl,s2.trans s',s' _ _ hD2,hO2,hL2.elim (fun h=>.inl ⟨h.1,fun r' hr'=>((etk r').mp hr').elim (h.2 r') fun e=>by rw [e];exact hc h.1⟩) .inr⟩
    simp only [a0s,a1O,a6t,tB,a0B,a0h,a0l,Qg,Qh,Qb,Qa,a0v,Qf,a0D,tOp,a3s,a2X,tBM,a0b,a0K,a2j]
    refine ⟨x,r,rfl,⟨x,rfl,hx⟩,ho,fun H3 s3=>⟨_,rfl,a0S (fun c2=>?_) (fun c2=>stay _ s3 fun _ z=>absurd z c2)⟩⟩
    obtain ⟨dx,t0,g1,g2⟩:=id (hx.same s3)
    refine ⟨x,_,dx,_,_,rfl,g1,CF.cl,CF.nh,a0Z _ _ _,?_⟩
    refine a1u (SqL.of (s3 _ _ hD2)) ?_
    simp only [a1q,Xf,decide_eq_false_iff_not]
    refine a0S (fun c3=>?_) (fun c3=>stay _ s3 fun e _ _=>by rw [←e];exact Uz c3)
    refine ⟨x,D,r,L',rfl,⟨x,rfl,hx.same s3⟩,ho,s3 _ _ hD2,fun H4 s4=>⟨_,rfl,a0S (fun c4=>?_) (fun c4=>stay _ (s3.trans s4) fun e _ z=>absurd (by rw [←e] at z;exact z) c4)⟩⟩
    have s34:=s3.trans s4
    refine ⟨.inl ⟨rfl,_,SqL.of (s34 _ _ hD2)⟩,x,_,dx,_,_,rfl,s4 _ _ g1,CF.cl,CF.nh,a0Z _ _ _,D,_,_,rfl,rfl,s34 _ _ hD2,Xv (show _≤1000 by rw [Qd];omega) ‹dc›,L'++[r.2.2.1],_,rfl,fun b o e=>?_,?_,?_,.inr ?_⟩
    ·rw [a0d (a0c e hD)];exact s34 _ _ (s2 _ _ e)
    ·rw [a0e,Yc];rfl
    ·rw [a5A,hO2,Jm,decide_eq_false c3,Yg,Bool.not_false,Yg]
     unfold a4c
     rw [Xx]
     refine ⟨srW r,Qy.mpr ⟨r,hmem,rfl⟩,?_⟩
     rw [c2,Yg,show (srW r).2.1=r.2.2.1 from rfl,decide_eq_true rfl,Yg]
     exact c4
    ·rw [Xk,Jo]
     rcases hL2 with ⟨rfl,_⟩ | h<;>omega
   ·rintro σ H2 ⟨L',y3,rfl,s2,hD2,hO2,hL2⟩
    rw [Qd,Xy] at hL2
    have hl2:=hfew hO2
    have hl1:=hfew hO
    rcases hL2 with ⟨rfl,h⟩ | h
    ·refine ⟨0,by omega,L',_,_,rfl,s2,hD2,hO2,Int.le_refl _,fun _=>?_,by rw [if_neg ‹om›]⟩
     rw [a1M]
     intro x b hr hb
     obtain ⟨r,hr,e⟩:=Qy.mp hr
     have e1:(srW r).1=true:=congrArg (·.1) e
     have e2:r.2.2.1=x:=congrArg (fun z:SR Str=>z.2.1) e
     have e3:r.2.2.2=b:=congrArg (fun z:SR Str=>z.2.2) e
     rw [←e2]
     exact h r hr e1 (a0W.mpr (by rw [e3];exact hb))
    ·exact ⟨zr.length+1 - L'.length,by omega,L',_,_,rfl,s2,hD2,hO2,by omega,fun z=>‹om›,by rw [if_pos ‹om›]⟩
  ·exact q D L H1 s1 hD hD1 (by unfold isS;rw [hO,hc ‹om›];rfl)
theorem b1H (T:Txt K mg t):a1a P w K mg base CX0 8 t.f_d_law t.fd_d_law ["_law_script"] (b5f K):=by
 refine T.F_d_law.ok a1b (fun vs H Q E h=>?_) (fun cdv A outer s H vs Q E hr h=>?_)
 ·obtain ⟨a,ns,rfl,hS,hl,q⟩:=h;rfl
 ·obtain ⟨a,ns,rfl,hS,hl,q⟩:=h
  refine ⟨_,‹A4 (A8 1 a1b.nd (A7 (b8f T) T.g_z1j T.F_z1j.kp T.b_z1j (A0 0 (A0 A2 A1)))) (A4 (A8 2 a1b.nd (F3 T.mk_Ground (b7O T) T.g_Ground T.b_z0h (A0 (C7 a0u T.z_list a0z (A0 (B0 a0i 1 A2) A1)) (A0 (C7 a0u T.z_list a0z (A0 (B0 a0i 1 A2) A1)) A1)))) (A4 (A8 3 a1b.nd (A7 (b7G T) T.g_z1l T.F_z1l.kp T.b_z1l (A0 1 A1))) (A4 (A8 4 a1b.nd (A7 (b7u T) T.g_z1m T.F_z1m.kp T.b_z1m (A0 1 (A0 3 A1)))) (A4 (A8 5 a1b.nd (C3 (B8 (a0a a2i) a3O ["_law_row"] [none]) (B7 4) (B1 0 (show Xm (["_law_row"]:List Str) by decide+kernel)) D7 (B0 (a2n (K:=K) rfl) 0 A2))) (A4 (C5 (B7 (D6 a1I 0 (D3 A2) (D3 A2))) (B1 6 a1b.nd) (A4 (A8 7 a1b.nd (C7 a0u T.z_list a0z (A0 3 A1))) (C6 (B2 (C1 (D2 (A9 (a0T hr.units) (A5 a0L 6 A2) A2 (a0o _)) (D5 (A9 (a6Y hr.units) 7 (B9 A1) (a0o _))))) (A3 (C9 (H8 Xi Ww Wx b8L 7))) B3) (A4 (A8 8 a1b.nd (A7 (b6Y T) T.g_z1r T.F_z1r.kp T.b_z1r (A0 1 (A0 4 (A0 (A7 (a2Q T) T.g_z1v T.F_z1v.kp T.b_z1v (A0 6 (A0 A2 A1))) A1))))) (A4 (A8 9 a1b.nd (D0 (A0 7 (A0 (A7 (b8S T) T.g_z1q T.F_z1q.kp T.b_z1q (A0 4 (A0 (A7 (a2Q T) T.g_z1v T.F_z1v.kp T.b_z1v (A0 6 (A0 A2 A1))) A1))) (A0 8 A1))))) (A4 (A8 10 a1b.nd (D0 (A0 (C7 a0u T.z_list a0z (A0 7 A1)) (A0 (C7 a0u T.z_list a0z (A0 (B0 a0i 9 A2) A1)) (A0 (C7 a0u T.z_list a0z (A0 8 A1)) A1))))) (A4 (A8 11 a1b.nd (A7 (a7m T) T.g_z0l T.F_z0l.kp T.b_z0l (A0 2 (A0 10 A1)))) (C6 (B2 (C1 (D8 (D9 (C0 (B6 a6H T.z_isinstance a3o (A0 11 (A0 (H9 (.ty "bool") rfl T.z_bool a8g rfl) A1))))) (D8 (A9 (a3j hr.units) 11 (A7 (b7k T) T.g_z1w T.F_z1w.kp T.b_z1w (A0 1 (A0 3 (A0 9 A1)))) (a0o _)) (E1 (A9 (a3j hr.units) 10 9 (a0o _)))))) (A3 (A6 B4)) B3) (A3 (B2 (C1 (D2 (C0 11) (D5 (A9 (a3j hr.units) (C3 (B8 (a0a a2i) a3O ["_law_text","_law_known"] [none,some 5]) (B7 8) (B1 0 (show Xm (["_law_text","_law_known"]:List Str) by decide+kernel)) (D1 (A9 (a9K (K:=K) rfl) 0 1 (by with_unfolding_all rfl))) 0) (B9 A1) (a0o _))))) (A3 (A6 B4)) B3)))))))))) (C6 (B2 (C1 (D8 (D9 (C0 (A7 (a7m T) T.g_z0l T.F_z0l.kp T.b_z0l (A0 2 (A0 (D0 (A0 (C7 a0u T.z_list a0z (A0 3 A1)) (A0 (B9 A1) (A0 (B9 A1) A1)))) A1))))) (E1 (C0 (A7 (a7m T) T.g_z0l T.F_z0l.kp T.b_z0l (A0 2 (A0 (D0 (A0 (A5 a0k 3 (B9 (A0 B5 A1))) (A0 (B9 A1) (A0 (B9 A1) A1)))) A1))))))) (A3 (A6 B4)) B3) (A4 (A8 8 a1b.nd (B6 (a1A rfl) T.z_sorted a0H (A0 (C3 (B8 (a0a a2i) a3O ["_law_text","_law_known"] [none,some 5]) (B7 (B0 a0i 1 A2)) (B1 0 (show Xm (["_law_text","_law_known"]:List Str) by decide+kernel)) (D1 (A9 (a2r (K:=K) rfl) 0 1 (by with_unfolding_all rfl))) 0) A1))) (A3 (A6 (E7 b6s (A7 (a7m T) T.g_z0l T.F_z0l.kp T.b_z0l (A0 2 (A0 (D0 (A0 (C7 a0u T.z_list a0z (A0 3 A1)) (A0 (C7 a0u T.z_list a0z (A0 4 A1)) (A0 8 A1)))) A1))) B4 (a0o _)))))))))))›,?_⟩
  rw [show a0t a3O [V.ref a]=[some (V.ref a),none,none,none,none,none,none,none,none,none,none,none] from rfl]
  simp only [a1x,a2a,a0B,a0h,a0l,Qa,tC,a0v,Qf,a0s,b2e,tCB,tOp,Qg,Qh,Qb,a0J,a1c,tSl,a3n,a3M,a0b,a0p]
  refine ⟨a,ns,rfl,hS,hl,fun s T0 P0 E zr ps pl ev H1 s1 hs=>?_⟩
  have hS1:SqL K H1 a (ns.map V.int):=s1.seq hS
  refine a0m (SqL.of hs.s) rfl ⟨T0,_,rfl,.inl (SqL.of hs.r.1),fun Rl hRl=>?_⟩
  obtain ⟨H2,e2,s2,h2⟩:=a0I hRl (.lst (zr.map (·.1)));rw [e2]
  refine a0m (SqL.of (s2 _ _ hs.s)) rfl ⟨P0,_,rfl,.inl (SqL.of (s2 _ _ hs.p)),fun Pl hPl=>?_⟩
  obtain ⟨H3,e3,s3,h3⟩:=a0I hPl (.lst ps);rw [e3]
  have s13:=s2.trans s3
  intro g dx ng ndx ne
  obtain ⟨s4,h4⟩:=b7W (C:=t.C_Ground) ng ndx
  obtain ⟨H4,e4⟩:∃H4,upd (upd H3 dx (.own g)) g (.ins t.C_Ground dx [])=H4:=⟨_,rfl⟩
  rw [e4] at s4 h4 ⊢
  have hU:a2e t H1 (zr.map (·.1)) (zr.map (·.2)):=⟨by simp,fun i r e=>by
   rw [Qr] at e
   obtain ⟨p,ep,rfl⟩:=Wp.mp e
   exact ⟨p.1,by rw [Qr,ep];rfl,(hs.r.2.1 p (Jq ep)).1⟩⟩
  have s14:=s13.trans s4
  have hO:∀r∈zr.map (·.2),a3Q r:=fun r hr=>by
   obtain ⟨p,hp,rfl⟩:=Qy.mp hr
   exact (hs.r.2.2.2 p hp).1
  have hez:∀r∈zr.map (·.2),RwE ev r:=fun r hr=>by
   obtain ⟨p,hp,rfl⟩:=Qy.mp hr
   exact hs.ez p hp
  have hrl:=hs.r.2.2.1
  have hrm:(zr.map (·.2)).length≤63:=by rw [Qd];omega
  refine ⟨g,dx,Rl,Pl,_,_,ps,pl,rfl,h4,s4 _ _ (s3 _ _ h2),hU.same s14,hO,hrm,s4 _ _ h3,a0q.same s14 hs.prs,by have:=hs.pn;omega,fun H5 k5 hG5=>⟨rfl,?_⟩⟩
  have s35:a0g H3 H5:=fun b o e=>k5 b o (s4 _ _ e) (a0c e ng)
  have s15:=s13.trans s35
  have hS5:SqL K H5 a (ns.map V.int):=s15.seq hS1
  have hs5:=hs.same s15
  clear s1 s2 s3 s4 s13 s14 s15 s35 h2 h3 h4 hU hS1 hS k5 e4 e2 e3
  have hen:=hs.en
  have sok:∀z∈ev,Xd z=true:=fun z hz=>((hs.eo z hz).ok ‹dc›).1
  have slen:∀z∈ev,z.length≤100:=fun z hz=>Qj (hs.eo z hz).len ‹dc›
  have hpo:∀x∈sts (zr.map (·.2)),x∈ev++ev.map a1G:=fun x hx=>by
   obtain ⟨r,hr,y,hy,e⟩:=a3b.mp hx
   have hye:y∈ev:=(Qn.mp hy).elim (fun z=>by rw [z];exact (hez r hr).1) ((hez r hr).2 y)
   rcases e with rfl | rfl
   ·exact Zx _ hye
   ·exact Ye _ (Qy.mpr ⟨y,hye,rfl⟩)
  have hpl:(ev++ev.map a1G).length≤28:=by rw [Xk,Qd];omega
  refine ⟨s,T0,P0,E,zr,ps,pl,ev,rfl,hs5,fun Su S H6 s6 hSun hSu hiS=>?_⟩
  have hiS':=hiS
  unfold isS at hiS'
  rw [Ql] at hiS'
  have hSf:∀z∈S,z∈ev:=fun z hz=>by
   obtain ⟨_,b1,b2⟩:=a1Q hiS'.1
   obtain ⟨r,hr,e⟩:=b1 z hz
   rw [←e];exact (hez r hr).1
  refine ⟨s,T0,P0,E,Su,zr,ps,pl,ev,S,rfl,hs5.same s6,hSu,fun Cl G qG H7 s7 hCln hCl hPG hG hGC=>?_⟩
  have hGl:=hG.len
  have hqG:=a0q.len hPG
  rw [Qd] at hqG
  have s57:=s6.trans s7
  have hG7:=hG5.same s57
  have hs7:=hs5.same s57
  have hSu7:=s7 _ _ hSu
  have hSn:S.length≤14:=by
   have:=a1U (a1Q hiS'.1).1 hSf
   omega
  have hSo:∀z∈S,Xd z=true:=fun z hz=>sok z (hSf z hz)
  have hGe:∀c∈G,c.2.length≤100:=fun c hc=>slen _ (hG.e c hc)
  simp only [a1o]
  refine ⟨⟨_,SqL.of hCl⟩,?_⟩
  refine a5c hCl hPG (by rw [Qd];omega) [] rfl (fun _=>true) (fun p=>V.str p.2) (fun x p H' R hx s hR=>?_) (fun x p H' R hx s hR=>?_) (fun Kn H8 hKn s8 hK=>?_)
  ·simp only [b4m]
   exact hR _ (a0g.refl _)
  ·simp only [tOp,a0l,Qa,tC,a0b]
   exact a0V (i:=1) (v:=.str p.2) (SqT.of hx) (by rfl) (hR _ (a0g.refl _))
  rw [show ((G.map cw).filter fun _=>true).map (fun p=>V.str p.2)=(G.map (·.2)).map V.str by rw [Jk.mpr (fun _ _=>rfl),Yr,Yr];rfl] at hK
  try skip
  refine .inr (.inl ⟨a,_,rfl,(s57.trans s8).seq hS5,fun W1 hW1=>?_⟩)
  obtain ⟨c0,ec0,hc0⟩:=b4Y ns (some 33) (some 43)
  rw [ec0]
  obtain ⟨H9,e9,s9,g9⟩:=a0I hW1 (.lst (c0.map V.int));rw [e9]
  have s79:=s8.trans s9
  refine ⟨W1,rfl,⟨_,SqL.of g9⟩,?_⟩
  refine a1j (K:=K) (a:=W1) (xs:=c0.map V.int) (fun j σ H'=>∃(x6 x7 x8 x9 x10 x11:Option V),σ=[some (V.ref a),some (V.ref s),some (V.ref g),some (V.ref Su),some (V.ref Cl),some (V.ref Kn),x6,x7,x8,x9,x10,x11]∧a0g H9 H') ⟨_,_,_,_,_,_,rfl,a0g.refl _⟩ (fun i σ H' _ ⟨_,_,_,_,_,_,_,s'⟩=>SqL.of (s' _ _ g9)) ?_ ?_
  ·rintro j x σ H10 hj ⟨x6,x7,x8,x9,x10,x11,rfl,s10⟩
   obtain ⟨hj',rfl⟩:=a2s hj
   have s710:=s79.trans s10
   generalize c0[j]=c
   simp only [a0s,a1x,a2a,tCB,a0h,a0l,Qg,Qh,Qb,Qa,a0v,a0b]
   refine ⟨Su,_,rfl,.inl (SqL.of (s710 _ _ hSu7)),fun p1 hp1=>?_⟩
   obtain ⟨H11,e11,s11,g11⟩:=a0I hp1 (.lst (S.map V.str));rw [e11]
   refine ⟨fun σ' H'=>σ'=[some (V.ref a),some (V.ref s),some (V.ref g),some (V.ref Su),some (V.ref Cl),some (V.ref Kn),some (V.int c),some (V.ref p1),x8,x9,x10,x11]∧a0g H10 H'∧∃S',H' p1=some (.lst (S'.map V.str))∧a2E ((zr.map (·.2)).map srW) [] S'=true∧S'.length≤14∧(∀z∈S',z∈ev)∧(S'=S∨isS (zr.map (·.2)) S'=false),?_,?_⟩
   ·simp only [a1O,a6t,a0D,tOp,a0l,Qb,Qa,tC,a4a,a0v,a2X,c4t,a0b,a0K,a2j,a0Y,a0G,a1q,decide_eq_true_eq]
    refine ⟨by decide,a0S (fun c1=>?_) (fun c1=>⟨trivial,s11,S,g11,hiS'.1,hSn,hSf,.inl rfl⟩)⟩
    refine ⟨Xg _,fun p2 hp2=>?_⟩
    obtain ⟨H12,e12,s12,g12⟩:=a0I hp2 (.lst []);rw [e12]
    refine ⟨p1,p2,_,rfl,rfl,SqL.of (s12 _ _ g11),SqL.of g12,⟨_,rfl,a0S (fun c2=>?_) (fun _=>⟨trivial,s11.trans s12,S,s12 _ _ g11,hiS'.1,hSn,hSf,.inl rfl⟩)⟩⟩
    have hS0:S≠[]:=by simpa using c2
    have hlt:S.length - 1 < S.length:=by have:=Ve.mpr hS0;omega
    refine ⟨.inl ⟨rfl,_,SqL.of (s12 _ _ g11)⟩,p1,_,_,rfl,rfl,s12 _ _ g11,by rw [Qd,Qr,Qc hlt];rfl,trivial,fun b o e=>?_,S.take (S.length - 1),?_,a5S _ hiS'.1,by rw [Xo];omega,fun z hz=>hSf z (Zf hz),.inr ?_⟩
    ·rw [a0d (a0c e hp1)];exact s12 _ _ (s11 _ _ e)
    ·rw [a0e,←List.map_dropLast,List.dropLast_eq_take]
    ·rw [Xz]
     intro h
     unfold isS at h
     rw [Ql] at h
     have:=a1U (a1Q hiS'.1).1 (a2u (a1M.mp h.2) hiS'.1 (fun _ z=>by cases z))
     rw [Xo] at this
     omega
   ·rintro σ' H12 ⟨rfl,s12,S',g12,hO',hSl',hSe',hSS⟩
    simp only [a1x,a2a,a0B,a0h,a0l,Qb,Qa,tC,a0v,Qf,a0s,a6u,Qg,Qh,tCB,tOp,a0b,a2d]
    intro r2 hr2
    have s712:=s710.trans s12
    refine ⟨s,T0,P0,E,Cl,r2,zr,ps,pl,ev,G,rfl,hs7.same s712,⟨qG,s712 _ _ hCl,a0q.same s712 hPG,hG.e⟩,by omega,hr2.1,fun D So H13 s13 hDn hD hSol hSoe r1 hr1=>?_⟩
    have s713:=s712.trans s13
    refine ⟨Cl,r1,ev,rfl,b8I ⟨qG,s713 _ _ hCl,a0q.same s713 hPG,hG.e⟩ ‹om›,fun R H14 s14 lR=>⟨by simp only [Qt,Xl];decide,fun p3 hp3=>?_⟩⟩
    obtain ⟨cl,hcl,hcn⟩:=b9Q lR
    obtain ⟨qc,hq1,hq2,hqe⟩:=id hcl
    obtain ⟨H15,e15,s15,g15⟩:=a0I hp3 (.tup [V.ref p1,V.ref R,V.ref D]);rw [e15]
    have s1215:=(s13.trans s14).trans s15
    have s1315:=s14.trans s15
    refine ⟨p1,_,rfl,.inl (SqL.of (s1215 _ _ g12)),fun b1 hb1=>?_⟩
    obtain ⟨H16,e16,s16,g16⟩:=a0I hb1 (.lst (S'.map V.str));rw [e16]
    refine a0V (i:=1) (v:=.ref R) (SqT.of (s16 _ _ g15)) (by rfl) ⟨R,_,rfl,.inl (SqL.of (s16 _ _ (s15 _ _ hq1))),fun b2 hb2=>?_⟩
    obtain ⟨H17,e17,s17,g17⟩:=a0I hb2 (.lst qc);rw [e17]
    refine ⟨D,_,rfl,.inl (SqL.of (s17 _ _ (s16 _ _ (s1315 _ _ hD)))),fun b3 hb3=>?_⟩
    obtain ⟨H18,e18,s18,g18⟩:=a0I hb3 (.lst (So.map V.str));rw [e18]
    refine ⟨by simp only [Qt,Xl];decide,fun h hh=>?_⟩
    obtain ⟨H19,e19,s19,g19⟩:=a0I hh (.tup [V.ref b1,V.ref b2,V.ref b3]);rw [e19]
    have s1519:=((s16.trans s17).trans s18).trans s19
    have s1419:=s15.trans s1519
    have s719:=(s712.trans s1215).trans s1519
    have k1:=s19 _ _ (s18 _ _ (s17 _ _ g16))
    have k2:=s19 _ _ (s18 _ _ g17)
    have k3:=s19 _ _ g18
    refine ⟨g,h,b1,b2,b3,_,pl,_,S',So,qc,cl,rfl,hG7.same s719,hO,hrm,hpo,hpl,g19,k1,by omega,k2,a0q.same s1419 hq2,by omega,fun c hc=>slen _ (hqe c hc),k3,by omega,fun z hz=>slen _ (hSoe z hz),fun H20 s20=>?_⟩
    have s720:=s719.trans s20
    have s1420:=s1419.trans s20
    refine ⟨fun σ' H'=>σ'=[some (V.ref a),some (V.ref s),some (V.ref g),some (V.ref Su),some (V.ref Cl),some (V.ref Kn),some (V.int c),some (V.ref p1),some (V.ref D),some (V.ref p3),some (V.ref h),some (V.bl (a3l (zr.map (·.2)) pl S' cl So))]∧a0g H20 H',?_,?_⟩
    ·simp only [a1O,tOr,a8P,tB,tCB,a0h,a0l,Qb,Qa,tC,a0v,Xf,a0O,a0K,a0D,tOp,a0B,Qf,a0b,a5Z,a1q,b7f]
     refine ⟨s,T0,P0,E,Su,p3,p1,R,D,zr,ps,pl,ev,S,S',So,cl,rfl,hs7.same s720,s720 _ _ hSu7,hiS,by omega,(s1519.trans s20) _ _ g15,(s1215.trans (s1519.trans s20)) _ _ g12,hO',hcl.same s1420,by omega,(s14.trans s1420) _ _ hD,by omega,hSoe,fun H21 s21=>?_⟩
     have s1421:=s1420.trans s21
     refine b5S rfl ⟨_,rfl,?_⟩
     rw [if_neg Qq]
     refine b0J ((s20.trans s21) _ _ g19) ((s20.trans s21) _ _ k1) ((s20.trans s21) _ _ k2) (a0q.same s1421 hq2) ((s20.trans s21) _ _ k3) ((s1519.trans (s20.trans s21)) _ _ g15) ((s1215.trans (s1519.trans (s20.trans s21))) _ _ g12) (s1421 _ _ hq1) (a0q.same s1421 hq2) ((s14.trans s1421) _ _ hD) (fun z hz=>sok z (hSe' z hz)) (fun z hz=>sok z (hSoe z hz)) (fun p hp=>?_) ⟨_,rfl,?_⟩
     ·obtain ⟨d,hd,rfl⟩:=Qy.mp hp
      exact ⟨b0q _,sok _ (hqe d hd)⟩
     ·rw [if_neg Qq]
      exact ⟨trivial,s21⟩
    ·rintro σ' H21 ⟨rfl,s21⟩
     have s1021:a0g H10 H21:=(s12.trans (s1215.trans (s1519.trans s20))).trans s21
     have s1321:a0g H13 H21:=(s14.trans s1420).trans s21
     simp only [a1O,a6t,tB,a0l,Qb,Qa,a0D,tOp,a4a,a0v,a0O,tC,a0K,a0p,a1c,a0b,a1o,a2j,a1q]
     refine a0S (fun c3=>?_) (fun _=>⟨_,_,_,_,_,_,rfl,s10.trans s1021⟩)
     refine ⟨⟨_,SqL.of (s1321 _ _ hD)⟩,?_⟩
     have hK21:=(s9.trans (s10.trans s1021)) _ _ hK
     refine a3C (a1E (xs:=So.map V.str)) (Qj (show (So.map V.str).length≤1000 by rw [Qd];omega) ‹dc›) [some (V.ref Kn)] rfl (fun i=>decide (((So[i]?).getD "")∈G.map (·.2))) (fun i=>V.str ((So[i]?).getD "")) (fun H' s=>SqL.of (s _ _ (s1321 _ _ hD))) (fun i H' R' hi s hR'=>?_) (fun i H' R' hi s hR'=>?_) (fun D2 H22 hD2n s22 hD2=>?_)
     ·have hi':i < So.length:=by simpa using hi
      have e2:((So.map V.str)[i]?).getD .non=V.str So[i]:=by rw [Qr,Qc hi'];rfl
      rw [e2]
      rw [Qc hi',Xs] at hR'
      simp only [a0D,tOp,a0l,Qa,Qb,a0b]
      exact a1C (SqL.of (s _ _ hK21)) ⟨_,rfl,hR' _ (a0g.refl _)⟩
     ·have hi':i < So.length:=by simpa using hi
      have e2:((So.map V.str)[i]?).getD .non=V.str So[i]:=by rw [Qr,Qc hi'];rfl
      rw [e2]
      rw [Qc hi',Xs] at hR'
      simp only [a0l,Qa,a0b]
      exact hR' _ (a0g.refl _)
     rw [show (So.map V.str).length=So.length by simp,a0X ("":Str) (fun z=>decide (z∈G.map (·.2))) V.str So] at hD2
     rw [show (So.filter fun z=>decide (z∈G.map (·.2)))=[] from List.filter_eq_nil_iff.mpr fun z hz=>?_] at hD2
     ·refine ⟨Xg _,fun p4 hp4=>?_⟩
      obtain ⟨H23,e23,s23,g23⟩:=a0I hp4 (.lst (([]:List Str).map V.str));rw [show upd H22 p4 (.lst [])=H23 from e23]
      refine a4H (SqL.of (s23 _ _ hD2)) (SqL.of g23) (fun z hz=>by cases hz) (fun z hz=>by cases hz) ⟨_,rfl,?_⟩
      rw [if_neg ‹dc›]
      exact ⟨_,_,_,_,_,_,rfl,s10.trans ((s1021.trans s22).trans s23)⟩
     ·intro hm
      have hm':=of_decide_eq_true hm
      unfold a3l at c3
      rw [Ql,Ql,Ql,Xf] at c3
      rcases hSS with rfl | hSS
      ·obtain ⟨d,hd,rfl⟩:=Qy.mp hm'
       refine a9U hG hGC c3.1.1.2 hqe ?_ (pre:=[]) rfl hG.l (fun _ z=>by cases z) d hd hz
       rw [←c3.2]
       exact (congrArg (So.any ·) (funext fun z=>a4Q hez z)).symm
      ·rw [hSS] at c3;cases c3.1.1.1
  ·rintro σ H10 ⟨x6,x7,x8,x9,x10,x11,rfl,s10⟩
   have s710:=s79.trans s10
   refine ⟨fun σ' H'=>σ'=[some (V.ref a),some (V.ref s),some (V.ref g),some (V.ref Su),some (V.ref Cl),some (V.ref Kn),x6,x7,x8,x9,x10,x11]∧a0g H10 H',?_,?_⟩
   ·simp only [a1O,tOr,a8P,tB,a0B,a0h,a0l,Qb,Qa,a6u,tCB,a0v,a4a,Qf,Xf,a0O,tC,a0K,tOp,a0b]
    refine ⟨Su,_,rfl,.inl (SqL.of (s710 _ _ hSu7)),fun b1 hb1=>?_⟩
    obtain ⟨H11,e11,s11,g11⟩:=a0I hb1 (.lst (S.map V.str));rw [e11]
    have empty:∀(Hx:Hp) (b1 b2 b3:Addr) (M:List Str) (Q':VK),a0g H7 Hx→M.length≤15→Hx b1=some (.lst (M.map V.str))→Hx b2=none→upd Hx b2 (.lst []) b3=none→(∀H',a0g Hx H'→Q' (.bl (isS (zr.map (·.2)) M)) H')→∀p3,upd (upd Hx b2 (.lst [])) b3 (.lst []) p3=none→a9F K t [V.ref g,V.ref p3] (upd (upd (upd Hx b2 (.lst [])) b3 (.lst [])) p3 (.tup [V.ref b1,V.ref b2,V.ref b3])) Q' E0:=fun Hx b1 b2 b3 M Q' sx hM g1 hb2 hb3 hq p3 hp3=>by
     obtain ⟨H12,e12,s12,g12⟩:=a0I hb2 (.lst []);rw [e12] at hb3 hp3 ⊢
     obtain ⟨H13,e13,s13,g13⟩:=a0I hb3 (.lst []);rw [e13] at hp3 ⊢
     obtain ⟨H14,e14,s14,g14⟩:=a0I hp3 (.tup [V.ref b1,V.ref b2,V.ref b3]);rw [e14]
     have sx4:=(s12.trans s13).trans s14
     refine ⟨g,p3,b1,b2,b3,_,pl,_,M,[],[],[],rfl,hG7.same (sx.trans sx4),hO,hrm,hpo,hpl,g14,sx4 _ _ g1,by omega,s14 _ _ (s13 _ _ g12),⟨[],rfl,rfl,fun i a p e=>(by cases e)⟩,Xg _,fun c hc=>(by cases hc),s14 _ _ g13,Xg _,fun c hc=>(by cases hc),fun H15 s15=>?_⟩
     have:=hq H15 (sx4.trans s15)
     rwa [show isS (zr.map (·.2)) M=a3l (zr.map (·.2)) pl M [] [] by unfold a3l;simp [a2p,a1e]] at this
    refine ⟨Xg _,fun b2 hb2=>⟨Xg _,fun b3 hb3=>⟨by simp only [Qt,Xl];decide,empty H11 b1 b2 b3 S _ (s710.trans s11) ‹om› g11 hb2 hb3 fun H12 s12=>⟨_,rfl,?_⟩⟩⟩⟩
    rw [if_neg (by rw [hiS];decide)]
    refine ⟨by simp only [Qt,Xl];decide,fun b4 hb4=>?_⟩
    obtain ⟨H13,e13,s13,g13⟩:=a0I hb4 (.lst ((["p"]:List Str).map V.str));rw [show upd H12 b4 (.lst [V.str "p"])=H13 from e13]
    have s1013:=(s11.trans s12).trans s13
    refine a3u ((s710.trans s1013) _ _ hSu7) g13 (by simp;omega) fun b5 hb5=>?_
    obtain ⟨H14,e14,s14,g14⟩:=a0I hb5 (.lst ((S++[("p":Str)]).map V.str));rw [e14]
    refine ⟨Xg _,fun b6 hb6=>⟨Xg _,fun b7 hb7=>⟨by simp only [Qt,Xl];decide,empty H14 b5 b6 b7 _ _ (s710.trans (s1013.trans s14)) (by simp;omega) g14 hb6 hb7 fun H15 s15=>⟨_,rfl,?_⟩⟩⟩⟩
    rw [if_neg ?_]
    ·exact ⟨trivial,(s1013.trans s14).trans s15⟩
    ·intro h
     unfold isS at h
     rw [Ql] at h
     have:=a1U (a1Q h.1).1 (a2u (a1M.mp hiS'.2) h.1 (fun _ z=>by cases z))
     simp at this;omega
   ·rintro σ' H11 ⟨rfl,s11⟩
    have s711:=s710.trans s11
    have hK11:=(s9.trans (s10.trans s11)) _ _ hK
    have hE11:=s711 _ _ hs7.e
    simp only [a1x,a2a,tCB,a0h,a0v,a0s,a0O,tOp,a0B,a0l,Qg,Qh,Qb,Qa,a6u,Qf,tC,a0b,a0p,a1c]
    refine a0m (SqL.of (s711 _ _ hs7.s)) rfl ⟨E,rfl,⟨_,SqL.of hE11⟩,?_⟩
    refine a3C (a1E (xs:=ev.map V.str)) (Qj (show (ev.map V.str).length≤1000 by rw [Qd];omega) ‹dc›) [some (V.ref Kn)] rfl (fun i=>decide (((ev[i]?).getD "")∉G.map (·.2))) (fun i=>V.str ((ev[i]?).getD "")) (fun H' s=>SqL.of (s _ _ hE11)) (fun i H' R' hi s hR'=>?_) (fun i H' R' hi s hR'=>?_) (fun D2 H12 hD2n s12 hD2=>?_)
    ·have hi':i < ev.length:=by simpa using hi
     have e2:((ev.map V.str)[i]?).getD .non=V.str ev[i]:=by rw [Qr,Qc hi'];rfl
     rw [e2]
     rw [Qc hi',Xs] at hR'
     simp only [a0D,tOp,a0l,Qa,Qb,a0b]
     refine a1u (SqL.of (s _ _ hK11)) ⟨_,rfl,?_⟩
     have:=hR' _ (a0g.refl _)
     rwa [show decide (ev[i]∉G.map (·.2))=!decide (ev[i]∈G.map (·.2)) by simp] at this
    ·have hi':i < ev.length:=by simpa using hi
     have e2:((ev.map V.str)[i]?).getD .non=V.str ev[i]:=by rw [Qr,Qc hi'];rfl
     rw [e2]
     rw [Qc hi',Xs] at hR'
     simp only [a0l,Qa,a0b]
     exact hR' _ (a0g.refl _)
    rw [show (ev.map V.str).length=ev.length by simp,a0X ("":Str) (fun z=>decide (z∉G.map (·.2))) V.str ev] at hD2
    have hfl:=Qz (fun z=>decide (z∉G.map (·.2))) ev
    refine .inl ⟨D2,_,rfl,SqL.of hD2,by omega,fun D So hDn hp ho=>?_⟩
    obtain ⟨H13,e13,s13,g13⟩:=a0I hDn (.lst (So.map V.str));rw [e13]
    have hm:∀z,z∈So↔z∈ev∧z∉G.map (·.2):=fun z=>by rw [hp.mem_iff,Xc,decide_eq_true_eq]
    have hrise:a2p So=true:=a4O.mpr ⟨hp.nodup_iff.mpr (hs.nd.sublist (List.filter_sublist)),a2m ho⟩
    have hSl:=hp.length_eq
    have s713:=(s711.trans s12).trans s13
    refine ⟨Su,_,rfl,.inl (SqL.of (s713 _ _ hSu7)),fun b1 hb1=>?_⟩
    obtain ⟨H14,e14,s14,g14⟩:=a0I hb1 (.lst (S.map V.str));rw [e14]
    refine ⟨Cl,_,rfl,.inl (SqL.of (s14 _ _ (s713 _ _ hCl))),fun b2 hb2=>?_⟩
    obtain ⟨H15,e15,s15,g15⟩:=a0I hb2 (.lst qG);rw [e15]
    refine ⟨by simp only [Qt,Xl];decide,fun p3 hp3=>?_⟩
    obtain ⟨H16,e16,s16,g16⟩:=a0I hp3 (.tup [V.ref b1,V.ref b2,V.ref D]);rw [e16]
    have s1316:=(s14.trans s15).trans s16
    refine ⟨g,p3,b1,b2,D,_,pl,_,S,So,qG,G,rfl,hG7.same (s713.trans s1316),hO,hrm,hpo,hpl,g16,s16 _ _ (s15 _ _ g14),by omega,s16 _ _ g15,a0q.same (s713.trans s1316) hPG,by omega,hGe,s1316 _ _ g13,by omega,fun z hz=>slen z ((hm z).mp hz).1,fun H17 s17=>?_⟩
    have hk:a3l (zr.map (·.2)) pl S G So=true:=by
     unfold a3l
     rw [hiS,hG.l,hrise,show So.any (a2U (zr.map (·.2)) pl S So G)=So.any (a1r (zr.map (·.2)) pl S ev So G) from congrArg (So.any ·) (funext fun z=>a4Q hez z),b2M hGC hm];rfl
    rw [hk]
    exact b5t.mpr (q _)
end
end K56
open PySem PySem.W PyProof.Rows
namespace K56
open PySem PySem.W L2
noncomputable def adr:Adr:=⟨28,kG "keyed" "keyed" a9B m1 27,33,kG "all_among" "all_among" a8K m1 32,38,kG "any_among" "any_among" a8p m1 37,45,kG "opposite" "opposite" b1b m2 44,50,kG "is_sure_set" "is_sure_set" a5e m3 49,55,kG "is_beaten" "is_beaten" a8c m4 54,60,kG "holds_by" "holds_by" a6P m4 59,65,kG "refused_by" "refused_by" a6K m4 64,70,kG "with_word" "with_word" a7M m5 69,77,kG "follows" "follows" a9b m5 76,82,kG "lets_by" "lets_by" a8o m5 81,87,kG "rises" "rises" a8i m6 86,92,kG "out_of_the_way" "out_of_the_way" a7R m6 91,97,kG "keeps_open" "keeps_open" a8I m6 96,111,kG "__init__" "Rule.__init__" b0l m7 110,125,kG "speaks" "Rule.speaks" b0S m7 124,132,kG "is_sure" "Rule.is_sure" b0Y m7 131,181,kG "__init__" "Fact.__init__" a9V m7 180,188,kG "word" "Fact.word" b0j m7 187,195,kG "is_sure" "Fact.is_sure" b1t m7 194,228,kG "word" "Sure.word" b0O m7 227,235,kG "is_sure" "Sure.is_sure" a9i m7 234,261,kG "word" "Most.word" b1n m7 260,287,kG "word" "Block.word" a9I m7 286,294,kG "speaks" "Block.speaks" a9m m7 293,320,kG "__init__" "Ground.__init__" b1x m8 319,327,kG "rules" "Ground.rules" a8V m8 326,334,kG "ruling" "Ground.ruling" b0g m8 333,339,kG "speaking" "Ground.speaking" a7Q m8 338,346,kG "against" "Ground.against" b0u m8 345,353,kG "beats" "Ground.beats" b0o m8 352,360,kG "statements" "Ground.statements" a9H m8 359,381,kG "_law_cell_at" "_law_cell_at" b0A m9 380,388,kG "_law_mix" "_law_mix" b0W m9 387,393,kG "_law_words" "_law_words" a8b m9 392,400,kG "_law_opposed" "_law_opposed" b1u m9 399,407,kG "_law_pool" "_law_pool" b1i m9 406,414,kG "_law_drawn" "_law_drawn" b1s m9 413,421,kG "_law_numbers" "_law_numbers" a9k m9 420,426,kG "_law_rule" "_law_rule" a7S m9 425,433,kG "_law_pairs" "_law_pairs" a9w m9 432,440,kG "_law_turned" "_law_turned" b0w m9 439,445,kG "_law_scene" "_law_scene" a8n m9 444,452,kG "_law_firm" "_law_firm" a9g m9 451,459,kG "_law_stands" "_law_stands" b0K m9 458,466,kG "_law_falls" "_law_falls" b0v m9 465,471,kG "_law_speaking" "_law_speaking" a8f m9 470,476,kG "_law_against" "_law_against" a8E m9 475,483,kG "_law_beaten" "_law_beaten" b1B m9 482,488,kG "_law_may_hold" "_law_may_hold" a8d m9 487,493,kG "_law_may_refuse" "_law_may_refuse" a8J m9 492,500,kG "_law_sures" "_law_sures" a8R m9 499,507,kG "_law_grown" "_law_grown" b0E m9 506,514,kG "_law_rows_good" "_law_rows_good" b0a m9 513,519,kG "_law_due" "_law_due" a6N m9 518,526,kG "_law_rows" "_law_rows" b1A m9 525,531,kG "_law_some" "_law_some" a5v m9 530,536,kG "law" "law" a2i m9 535,163,212,245,271,304,370⟩
theorem b7n {K:Qe} {n q:String} {s:Stmt} {m:Value} {f c:Nat} (l:K.lookup f=some (kF n q s m c)) (e:Vg K (.ref c) q=true) (k:Jg K (.ref f)=true):Fun K n q s f (kG n q s m c):=b7t l e k
theorem txt (P:Params) {h:Heap} {mg:Str→Option Value} (X:(a5Q P).In h) (G:h.Ns mainGlobals mg):Txt (a5Q P) mg adr:=by
 constructor
 case k_HELD=>exact ⟨236,Ge X G (by kernel_rfl)⟩
 case k_REFUSED=>exact ⟨238,Ge X G (by kernel_rfl)⟩
 all_goals first
  | exact b7n (by kernel_rfl) (by kernel_rfl) (by kernel_rfl)
  | exact .all fun us hl=>match us,hl with | [_],_=>rfl
  | exact .all fun us hl=>match us,hl with | [_,_],_=>rfl
  | exact .all fun us hl=>match us,hl with | [_,_,_],_=>rfl
  | exact .all fun us hl=>match us,hl with | [_,_,_,_],_=>rfl
  | exact .all fun us hl=>match us,hl with | [_,_,_,_,_],_=>rfl
  | exact Ge X G (by kernel_rfl)
  | exact PySem.W.mg_none_of X G (by kernel_rfl)
  | kernel_rfl
  | exact ⟨by kernel_rfl,by kernel_rfl,by kernel_rfl⟩
  | exact ⟨by kernel_rfl,by kernel_rfl,by kernel_rfl,by kernel_rfl⟩
  | exact (by kernel_rfl:Yz _ _ _=_)
  | exact b8P (by k_is) (by kernel_rfl) (by kernel_rfl) (by kernel_rfl)
end K56
theorem K56.said0:PySem.Challenge.rw_mostwise_k56_whole_what_keeps_open.wellSaid=true:=by kernel_rfl
set_option maxRecDepth 100000 in
set_option maxHeartbeats 0 in
theorem PySem.Challenge.cw_mostwise_k56_whole_what_keeps_open_holds : PySem.Challenge.rw_mostwise_k56_whole_what_keeps_open.Holds := by
 w_on;refine PySem.W.holds_law K56.said0 fun said=>?_
 refine PySem.W.holds_open (q:=K56.b4M) (loose:=[]) (Xt:=fun s=>PySem.W.xlAt K56.b4M [] s && PySem.W.recOk (PySem.W.RowW.records (PySem.W.OpenRow.toRowW PySem.Challenge.rw_mostwise_k56_whole_what_keeps_open.row)) s) (XP:=PySem.W.XL K56.b4M []) (Yf:=Va.obs (Ul K56.a5Q K56.a8j K56.b1z)) (Ya:=Va.val (Ul K56.a5Q K56.a8j K56.b1z)) (YP:=Va.says (Ul K56.a5Q K56.a8j K56.b1z)) (N:=6992) ?hl (Va.of (Ul K56.a5Q K56.a8j K56.b1z)) (Va.keeps (Ul K56.a5Q K56.a8j K56.b1z)) (fun s e=>PySem.W.xl_of s (Gb.mp e).1) PySem.W.XL.keeps (by rfl) (by rfl) (by rfl) (fun s e=>PySem.W.recFacts_of (Gb.mp e).2) (by rfl) (by first | assumption | decide+kernel) ‹dk› ⟨rfl,rfl,rfl,rfl,rfl,by decide+kernel⟩ ?hw ?hc
 (case hl=>refine PySem.W.LeftO.of_pieces (H₀:=K56.H0) (H₁:=K56.H1) (gs₀:=#[]) (gs₁:=#[]) (d₀:={}) (d₁:={}) (k₀:=181) (k₁:=867) (m₀:=11) (ann:=(some (.ref 6))) (M:=3451) K56.b8H ?_ K56.c0j rfl ?_<;>(intro w;kernel_rfl))
 (case hw=>w_witness2)
 k_fill
 refine L2.b1X (l:=PySem.Challenge.rw_mostwise_k56_whole_what_keeps_open) (n:=63) (k:=8) (x:="_law_script") (CX:=L2.CX0) (sp:=K56.b5f) rfl ‹dc› rfl ⟨rfl,by decide,by decide⟩ (fun w h Y=>PySem.W.kIn_of Y) ?F (fun K H a ns hl hO hS=>K56.b1T hl hO hS) (fun _ _ _ _ z=>z)
 case F=>
  intro w mg fa h KX G hmg
  have T:K56.Txt (L2.KOf KX) mg K56.adr:=K56.txt w.params KX G
  obtain ⟨_,_,_,_,_,_,_,_,_,e2,_,_⟩:=T.F_d_law.ex
  have e0:=hmg.symm.trans T.g_d_law
  cases e0
  exact ⟨K56.adr.fd_d_law,fun s u=>by rw [e2];exact .of_eq rfl,fun base kb nb=>K56.b1H T⟩
