import PyProof.Rows.All
import Wide.All
import OpenK.AllK
import Wide.FinOn
import Lean
import PyProof.EqAt
import PyProof.EqKinds
import PyProof.TupleCall
import PyProof.StrLawsChain
import PyProof.StrLawsIn
import PyProof.Rows.StrNews2
import PyProof.StrBlockL
import PyProof.Rows.StrClose3
import PyProof.Rows.StrClose5
import PyProof.Rows.StrFirst
import PyProof.WalkInts
import PyProof.StrOps
import PyProof.WalksEnum
import PyProof.EnumMake
import PyProof.NeKinds
import KE.KEqDict
import KE.KRevIter
import PyProof.DictWalks
import PyProof.DictValues
import PyProof.ListRange
import PyProof.CollectIter
import PyProof.ZipIter
import PyProof.Rows.ZipGen
import PyProof.FString5
import KE.KDictLaws
import KE.KDictSum
import KE.KSortTup
import PyProof.Rows.SortStr
import PyProof.DictItems
import KE.KPairComp
import KE.KUnpack
import PyProof.P3Eq
import PyProof.Rows.SetFrom
import PySem.Challenge.RW_mostwise_k52_papers_let_by
set_option Elab.async false
set_option linter.all false
set_option maxRecDepth 100000
set_option maxHeartbeats 4000000
open List renaming getElem?_cons_zero → Qa, getElem?_cons_succ → Qb, length_map → Qd, getElem?_eq_getElem → Qe, append_nil → Qf, set_cons_succ → Qg, set_cons_zero → Qh, length_cons → Qj, size_toArray → Ql, mem_singleton → Qq, length_nil → Qr, mem_cons_of_mem → Qs, mem_cons_self → Qu, length_filter_le → Qv, mem_cons → Qw, getElem_mem → Qx, getElem?_eq_some_iff → Qy, getElem?_map → Qz, mem_map → Xa, take_succ_eq_append_getElem → Xc, replicate → Xd, length_append → Xl, mem_filter → Xn, map_append → Xo, map_cons → Xp, mem_append → Xq, length_take → Xu, Nodup → Xv, any_eq_true → Xy, take_length → Xz, mem_append_right → Yc, getElem?_append_right → Ye, getElem?_append_left → Yh, range → Yi, lookup_cons → Ym, getElem?_eq_none → Yo, filter_map → Yq, not_mem_nil → Yr, append_assoc → Yt, map_map → Yv, any_map → Yw, length → Za, mem_append_left → Zc, all_eq_true → Ze, toArray → Zg, pairwise_cons → Zh, nodup_cons → Zi, length_replicate → Zj, getD_eq_getElem?_getD → Zk, mem_of_getElem? → Zl, lookup → Zm, filter_cons → Zo, getElem_map → Zr, replicate_succ → Zt, map_eq_nil_iff → Zu, length_eq_zero_iff → Zv, map_take → Zw, nil_append → Zy, find?_cons → Zz, filter_eq_self → Je, filter_append → Ji, all_map → Jj, flatten_cons → Jk, ext_getElem? → Jl, any_cons → Jo, length_drop → Jr, length_singleton → Jt, mem_of_mem_take → Jw, eq_nil_iff_forall_not_mem → Jx, filterMap_cons → Jz, getElem_of_mem → Ub, nodup_nil → Uf, drop_zero → Uh, filter_filter → Uk, length_range → Up, drop_eq_getElem_cons → Ur, map_nil → Ux, ext_getElem → Uz, getElem?_replicate → Vb, of_mem_zip → Vg, getElem?_set_self → Vi, take_of_length_le → Vm, mem_range → Vo, getElem?_set_ne → Vu, getElem?_append → Vv, all_cons → Vz, length_reverse → Wc, map_congr_left → We, length_pos_iff → Wg, mem_filterMap → Wk, map_replicate → Wo, map → Wv, foldl → Wy
open PySem.W renaming Frag → Qc, kitOne → Yd, findIn → Yn, kia_one → Yp, emptyDict → Ys, instObj → Zb, keepIn → Zn, callWith_K → Jg, fnOf → Jh, kHook → Jp, plainGet → Jq, methodCall_KW → Js, Hook → Jy, plainGet_of → Ua, lookIn → Uc, codeIn → Ue, methodObj → Ul, hasDictIn → Um, specialIn → Uo, takerIn → Vf, cellsFrom_some → Vj, typeIn → Vp, subIn → Wa, mg_of → Wb, isFn → Wl, plainOver → Wp, kitx_list → Wq, kitx_dict → Wr, handedIn → Wt, makesIn → Ww, takesIn → Wx, OpenLaw → Wz
open Nat renaming le_trans → Qi, le_refl → Qk, ne_of_lt → Qt, zero_le → Xi, lt_of_lt_of_le → Xj, lt_of_le_of_lt → Xm, lt_succ_of_lt → Zd, le_succ → Zf, lt_irrefl → Jd, add_le_add → Ui, le_of_eq → Ut, lt_succ_self → Uu, min_eq_left → Vh, le_of_lt → Wi, ne_of_gt → Wj, sub_self → Wm, sub_zero → Wn
open PySem.Heap renaming get?_push_of_some → Qm, lt_size → Qo, get?_push_size → Xf, get?_push_ne → Jb, get?_update_other → Jm, size_push → Ud, SameBut → Us, size_update → Va, get?_update_self → Vq, get?_update_ne → Wd
open Bool renaming false_ne_true → Qn, and_eq_true → Qp, not_eq_true' → Xk, eq_false_iff → Xw, true_and → Xx, eq_iff_iff → Yl, false_and → Yy, and_true → Zx, false_eq_true → Ja, and_false → Vr, and_eq_true_iff → Vy, or_eq_true_iff → Wf
open PySem.PyData renaming strOk → Xb, eqv → Xs, tuple → Yb, str → Yj, keyHash → Yk, eqvAll → Yx, canLay0 → Yz, depth → Zq, depthAll → Jv, canLayAll0 → Uq
open PySem.F renaming plainAttrs_list → Xe, slot_list_append → Xg, type_list_append → Xh, plainAttrs_str → Jn, slot_dict_get → Ju, slot_dict_setdefault → Ug, args_tuple_add_2 → Uw, entry_tuple_add → Vc, args_dict_get_3 → Vd, plainAttrs_dict → Ve, slot_tuple_add → Vk, entry_dict_get → Vl, slot_str_join → Vs, type_str_join → Vt
open PySem.Str renaming ofString → Xr
open PySem.SeqAt renaming EqAt → Yg, shaped → Zp
open Option renaming getD_some → Yu, map_some → Jf, isSome_iff_exists → Uv, map_eq_some_iff → Vn, isSome_map → Ws, getD_none → Wu
open Array renaming length_toList → Zs, getD → Vw, append_assoc → Wh, Perm → Ga
open PySem.Txt renaming startswith → Jc, slice → Uj, slice_le → Uy
open Decidable renaming of_not_not → Vx
local macro_rules
 | `(‹sk›)=>`(⟨rfl,rfl,rfl,by decide+kernel,rfl,by decide+kernel,by decide+kernel⟩)
 | `(‹dk›)=>`(by decide+kernel)
 | `(‹iz›)=>`(by intro z;cases z)
 | `(‹dc›)=>`(by decide)
 | `(‹om›)=>`(by omega)
set_option compiler.extract_closed false
set_option bootstrap.genMatcherCode false
noncomputable section
namespace L2
open PySem PySem.Spec PyProof.Rows
def a0a (s:Stmt):Scope:=match s with
 | .FunctionDef _ _ _ _ _ _ sc _ _ _=>sc
 | _=>{kind:=.function,names:=[],isGenerator:=false,isCoroutine:=false}
def a0l (s:Stmt) (j:Nat):Stmt:=match s with
 | .ClassDef _ _ _ body _ _ _ _ _ _ _=>body.getD j (.Pass ⟨0,0,0,0⟩)
 | _=>.Pass ⟨0,0,0,0⟩
def a2V (s:Stmt):Arguments:=match s with
 | .FunctionDef _ a _ _ _ _ _ _ _ _=>a
 | _=>{posonlyargs:=[],args:=[],vararg:=none,kwonlyargs:=[],kw_defaults:=[],kwarg:=none,defaults:=[]}
def a2u (s:Stmt):List Stmt:=match s with
 | .FunctionDef _ _ b _ _ _ _ _ _ _=>b
 | _=>[]
end L2
namespace Tx
end Tx
namespace K52
open PySem L2 Tx
noncomputable def top (i:Nat):Stmt:=PySem.Challenge.pw_mostwise_k52_papers_let_by.main.body.getD i (.Pass ⟨0,0,0,0⟩)
abbrev a8v:Stmt:=top 2
abbrev a6J:Stmt:=top 3
abbrev a6Y:Stmt:=top 4
abbrev a7q:Stmt:=top 6
abbrev a3X:Stmt:=top 8
abbrev a6R:Stmt:=top 12
abbrev a5a:Stmt:=top 13
abbrev a5q:Stmt:=top 14
abbrev a6L:Stmt:=top 16
abbrev a8i:Stmt:=top 17
abbrev a6C:Stmt:=top 18
abbrev a7W:Stmt:=a0l (top 20) 0
abbrev a9p:Stmt:=a0l (top 20) 2
abbrev a9g:Stmt:=a0l (top 20) 3
abbrev a7Q:Stmt:=a0l (top 21) 0
abbrev a9w:Stmt:=a0l (top 21) 1
abbrev a9f:Stmt:=a0l (top 21) 2
abbrev a7s:Stmt:=a0l (top 22) 0
abbrev a8w:Stmt:=a0l (top 22) 1
abbrev a8C:Stmt:=a0l (top 23) 0
abbrev a8x:Stmt:=a0l (top 24) 0
abbrev a8p:Stmt:=a0l (top 24) 1
abbrev a7m:Stmt:=a0l (top 26) 0
abbrev a8K:Stmt:=a0l (top 26) 1
abbrev a9l:Stmt:=a0l (top 26) 2
abbrev a6o:Stmt:=a0l (top 26) 3
abbrev a7i:Stmt:=a0l (top 26) 4
abbrev a8B:Stmt:=a0l (top 26) 5
abbrev a7u:Stmt:=top 28
abbrev a8M:Stmt:=top 29
abbrev a6r:Stmt:=top 30
abbrev a7Y:Stmt:=top 31
abbrev a9q:Stmt:=top 32
abbrev a7V:Stmt:=top 33
abbrev a9h:Stmt:=top 34
abbrev a6S:Stmt:=top 35
abbrev a7E:Stmt:=top 36
abbrev a7C:Stmt:=top 37
abbrev a6v:Stmt:=top 38
abbrev a8r:Stmt:=top 39
abbrev a9o:Stmt:=top 40
abbrev a8u:Stmt:=top 41
abbrev a6F:Stmt:=top 42
abbrev a6x:Stmt:=top 43
abbrev a7I:Stmt:=top 44
abbrev a7e:Stmt:=top 45
abbrev a6V:Stmt:=top 46
abbrev a7K:Stmt:=top 47
abbrev a8g:Stmt:=top 48
abbrev a6B:Stmt:=top 49
abbrev a8X:Stmt:=top 50
abbrev a7v:Stmt:=top 51
abbrev a7U:Stmt:=top 52
abbrev a3l:Stmt:=top 53
end K52
namespace K52
open PySem PySem.W L2
noncomputable section
noncomputable abbrev kE (P:Params) (x:String) (t:Nat) (v:Value):DictEntry:=⟨Yk P x,.str x t,v⟩
noncomputable abbrev kC (n q:String) (s:Stmt):Obj:=⟨.none,none,(.func ⟨n,q,a2V s,.stmts (a2u s),a0a s,0,[],.none,.none,.none,.none,none,.none,.none,0⟩),#[]⟩
noncomputable abbrev kD1 (n q:String) (t l a r u:Nat):Obj:=⟨.type "code",none,.fields #[.str n t,.str q (t+1),.str "/claim/cut.py" (t+2),.int l 0,.int a 0,.int 0 0,.int 0 0,.int 3 0,.ref r,.bool true,.int 181 0,.ref (r+1),.none,.ref (r+2),.ref (r+3),.ref (r+4),.int u 0,.int l 0,.str "/claim/cut.py" (u+1)],#[]⟩
noncomputable abbrev kD2 (n q:String) (t l a r u:Nat):Obj:=⟨.type "code",none,.fields #[.str n t,.str q (t+1),.str "/claim/cut.py" (t+2),.int l 0,.int a 0,.int 0 0,.int 0 0,.int 3 0,.ref r,.bool true,.int 181 0,.ref (r+1),.none,.none,.none,.ref (r+2),.int u 0,.int l 0,.str "/claim/cut.py" (u+1)],#[]⟩
noncomputable abbrev kG (n q:String) (s:Stmt) (m:Value) (c:Nat):FuncData:=Jh n q (a2V s) (a2u s) (a0a s) .none .none .none m none (.ref c) .none
noncomputable abbrev kF (n q:String) (s:Stmt) (m:Value) (c:Nat):Obj:=⟨.type "function",none,.func (kG n q s m c),#[]⟩
noncomputable abbrev kTs:Nat→List String→List Value
 | _,[]=>[]
 | t,x::l=>.str x t::kTs (t+1) l
noncomputable abbrev kT (t:Nat) (l:List String):Obj:=⟨.type "tuple",none,.seq ⟨kTs t l⟩ 0,#[]⟩
noncomputable abbrev kBs (f:String→Value) (P:Params):Nat→List String→List DictEntry
 | _,[]=>[]
 | t,x::l=>kE P x t (f x)::kBs f P (t+1) l
noncomputable abbrev kLs:List (Nat×Nat×Nat)→List Value
 | []=>[]
 | (a,b,c)::l=>.int a 0::.int b 0::.ref c::kLs l
noncomputable abbrev kL (l:List (Nat×Nat×Nat)):Obj:=⟨.none,none,.fields ⟨kLs l⟩,#[]⟩
noncomputable abbrev kQ (l:List DictEntry) (n:Nat):Obj:=⟨.type "dict",none,.dict ⟨l⟩ n,#[]⟩
noncomputable def kU:Obj:=⟨.type "tuple",none,.seq #[] 0,#[]⟩
noncomputable def kN:Obj:=⟨.none,none,.fields #[],#[]⟩
noncomputable abbrev m0:Value:=.str "__main__" 164
noncomputable abbrev m1:Value:=.str "mostwise.among" 194
noncomputable abbrev m2:Value:=.str "mostwise.words" 217
noncomputable abbrev m3:Value:=.str "mostwise.sure" 226
noncomputable abbrev m4:Value:=.str "mostwise.mostly" 234
noncomputable abbrev m5:Value:=.str "mostwise.papers" 258
noncomputable abbrev m6:Value:=.str "mostwise.rules" 284
noncomputable abbrev m7:Value:=.str "mostwise.ground" 536
noncomputable abbrev m8:Value:=.str "law_mostwise_k52_papers_let_by" 628
def o0 (P:Params):Obj:=kQ ([kE P "__name__" 1 (.str "builtins" 160),kE P "__doc__" 2 (.builtin "builtins.__doc__:str#opaque"),kE P "__package__" 3 (.builtin "builtins.__package__:str#opaque"),kE P "__loader__" 4 (.builtin "builtins.__loader__:shared#opaque"),kE P "__spec__" 5 (.builtin "builtins.__spec__#opaque")]++kBs .builtin P 6 ["__build_class__","__import__","abs","all","any","ascii","bin","breakpoint","callable","chr","compile","delattr","dir","divmod","eval","exec","format","getattr","globals","hasattr","hash","hex","id","input","isinstance","issubclass","iter","aiter","len","locals","max","min","next","anext","oct","ord","pow","print","repr","round","setattr","sorted","sum","vars"]++[kE P "None" 50 .none,kE P "Ellipsis" 51 .ellipsis,kE P "NotImplemented" 52 .notImplemented,kE P "False" 53 (.bool false),kE P "True" 54 (.bool true)]++kBs .type P 55 ["bool","memoryview","bytearray","bytes","classmethod","complex","dict","enumerate","filter","float","frozenset","property","int","list","map","object","range","reversed","set","slice","staticmethod","str","super","tuple","type","zip"]++[kE P "__debug__" 81 (.bool true)]++kBs .type P 82 ["BaseException","BaseExceptionGroup","Exception","GeneratorExit","KeyboardInterrupt","SystemExit","ArithmeticError","AssertionError","AttributeError","BufferError","EOFError","ImportError","LookupError","MemoryError","NameError","OSError","ReferenceError","RuntimeError","StopAsyncIteration","StopIteration","SyntaxError","SystemError","TypeError","ValueError","Warning","FloatingPointError","OverflowError","ZeroDivisionError","BytesWarning","DeprecationWarning","EncodingWarning","FutureWarning","ImportWarning","PendingDeprecationWarning","ResourceWarning","RuntimeWarning","SyntaxWarning","UnicodeWarning","UserWarning","BlockingIOError","ChildProcessError","ConnectionError","FileExistsError","FileNotFoundError","InterruptedError","IsADirectoryError","NotADirectoryError","PermissionError","ProcessLookupError","TimeoutError"]++kBs .type P 132 ["IndentationError","_IncompleteInputError","IndexError","KeyError","ModuleNotFoundError","NotImplementedError","PythonFinalizationError","RecursionError","UnboundLocalError","UnicodeError","BrokenPipeError","ConnectionAbortedError","ConnectionRefusedError","ConnectionResetError","TabError","UnicodeDecodeError","UnicodeEncodeError","UnicodeTranslateError","ExceptionGroup"]++[kE P "EnvironmentError" 151 (.type "OSError"),kE P "IOError" 152 (.type "OSError"),kE P "open" 153 (.builtin "open"),kE P "quit" 154 (.builtin "builtins.quit#opaque"),kE P "exit" 155 (.builtin "builtins.exit#opaque"),kE P "copyright" 156 (.builtin "builtins.copyright#opaque"),kE P "credits" 157 (.builtin "builtins.credits#opaque"),kE P "license" 158 (.builtin "builtins.license#opaque"),kE P "help" 159 (.builtin "builtins.help#opaque")]) 159
def o1 (P:Params):Obj:=kQ [kE P "builtins" 162 (.ref 4),kE P "__main__" 163 (.ref 5)] 2
noncomputable def o2:Obj:=⟨.none,none,(.dict #[] 0),#[]⟩
def o3 (P:Params):Obj:=kQ ([kE P "__name__" 165 (.str "law_mostwise_k52_papers_let_by" 628),kE P "__doc__" 166 .none,kE P "__package__" 167 .none,kE P "__loader__" 168 (.builtin "__main__.__loader__#opaque"),kE P "__spec__" 169 .none,kE P "__annotations__" 170 (.ref 6),kE P "__builtins__" 171 (.ref 4),kE P "__file__" 173 (.str "/claim/cut.py" 172),kE P "__cached__" 174 .none,kE P "_wall" 193 (.ref 21),kE P "keyed" 204 (.ref 28),kE P "all_among" 210 (.ref 33),kE P "any_among" 216 (.ref 38),kE P "opposite" 225 (.ref 45),kE P "is_sure_set" 233 (.ref 50),kE P "HELD" 237 (.str "held" 236),kE P "REFUSED" 239 (.str "refused" 238),kE P "is_beaten" 245 (.ref 55),kE P "holds_by" 251 (.ref 60),kE P "refused_by" 257 (.ref 65),kE P "with_word" 265 (.ref 70),kE P "follows" 277 (.ref 77),kE P "lets_by" 283 (.ref 82),kE P "Rule" 371 (.ref 148),kE P "Fact" 425 (.ref 197),kE P "Sure" 464 (.ref 230),kE P "Most" 496 (.ref 256),kE P "Block" 535 (.ref 289),kE P "Ground" 627 (.ref 355),kE P "_law_cell_at" 637 (.ref 366),kE P "_law_mix" 646 (.ref 373),kE P "_law_words" 652 (.ref 378),kE P "_law_opposed" 659 (.ref 385),kE P "_law_pool" 669 (.ref 392),kE P "_law_drawn" 678 (.ref 399),kE P "_law_numbers" 691 (.ref 406),kE P "_law_rule" 697 (.ref 411),kE P "_law_pairs" 709 (.ref 418),kE P "_law_turned" 717 (.ref 425),kE P "_law_scene" 723 (.ref 430),kE P "_law_firm" 730 (.ref 437),kE P "_law_stands" 739 (.ref 444),kE P "_law_falls" 748 (.ref 451),kE P "_law_speaking" 754 (.ref 456),kE P "_law_against" 760 (.ref 461),kE P "_law_beaten" 770 (.ref 468),kE P "_law_may_hold" 776 (.ref 473),kE P "_law_may_refuse" 782 (.ref 478),kE P "_law_sures" 792 (.ref 485),kE P "_law_grown" 805 (.ref 492)]++[kE P "_law_sure_set" 811 (.ref 497),kE P "_law_due" 824 (.ref 504),kE P "_law_moved" 835 (.ref 511),kE P "_law_otherwise" 851 (.ref 518),kE P "law" 869 (.ref 525)]) 55
noncomputable def o4:Obj:=⟨(.type "module"),(some 0),.plain,#[]⟩
noncomputable def o5:Obj:=⟨(.type "module"),(some 3),.plain,#[]⟩
noncomputable def o6:Obj:=⟨(.type "dict"),none,(.dict #[] 0),#[]⟩
noncomputable def o9:Obj:=⟨(.type "code"),none,(.fields #[(.str "<module>" 176),(.str "<module>" 177),(.str "/claim/cut.py" 178),(.int (1) 0),(.int (0) 0),(.int (0) 0),(.int (0) 0),(.int (0) 0),(.ref 7),(.bool false),(.int (175) 0),(.ref 8),.none,.none,.none,.none,(.int (179) 0),(.int (1) 0),(.str "/claim/cut.py" 180)]),#[]⟩
noncomputable def o10:Obj:=⟨(.type "frame"),none,.plain,#[(some (.ref 9)),(some (.ref 3)),(some (.ref 3)),none,(some (.str "__main__" 164)),none,(some (.ref 0))]⟩
def o12:Obj:=kL [(1,0,20),(5,0,27),(10,0,32),(12,0,37),(15,0,44),(18,0,49),(30,0,54),(32,0,59),(39,0,64),(47,0,69),(49,0,76),(57,0,81),(64,0,88),(94,0,158),(110,0,205),(120,0,238),(127,0,264),(138,0,297),(175,0,365),(179,0,372),(184,0,377),(198,0,384),(202,0,391),(208,0,398),(213,0,405),(223,0,410),(235,0,417),(244,0,424),(248,0,429),(258,0,436),(260,0,443),(265,0,450),(270,0,455),(272,0,460),(274,0,467),(279,0,472),(289,0,477),(299,0,484),(308,0,491),(325,0,496),(333,0,503),(348,0,510),(355,0,517),(377,0,524)]
noncomputable def o13:Obj:=⟨(.type "code"),none,(.fields #[(.str "<module>" 182),(.str "<module>" 183),(.str "/claim/cut.py" 184),(.int (1) 0),(.int (0) 0),(.int (0) 0),(.int (0) 0),(.int (0) 0),(.ref 11),(.bool false),(.int (181) 0),(.ref 12),.none,.none,.none,.none,(.int (185) 0),(.int (1) 0),(.str "/claim/cut.py" 186)]),#[]⟩
noncomputable def o14:Obj:=⟨(.type "frame"),none,.plain,#[(some (.ref 13)),(some (.ref 3)),(some (.ref 3)),none,(some (.str "__main__" 164)),none,(some (.ref 0))]⟩
def o17:Obj:=kT 190 ["k"]
def o19:Obj:=kC "_wall" "_wall" (top 0)
def o20:Obj:=kD1 "_wall" "_wall" 187 1 1 15 191
def o21:Obj:=kF "_wall" "_wall" (top 0) m0 20
def o24:Obj:=kT 199 ["some","told","statement"]
def o26:Obj:=kC "keyed" "keyed" a8v
def o27:Obj:=kD1 "keyed" "keyed" 196 5 1 22 202
def o28:Obj:=kF "keyed" "keyed" a8v m1 27
def o31:Obj:=kC "all_among" "all_among" a6J
def o32:Obj:=kD2 "all_among" "all_among" 205 10 2 29 208
def o33:Obj:=kF "all_among" "all_among" a6J m1 32
def o36:Obj:=kC "any_among" "any_among" a6Y
def o37:Obj:=kD2 "any_among" "any_among" 211 12 2 34 214
def o38:Obj:=kF "any_among" "any_among" a6Y m1 37
def o41:Obj:=kT 222 ["statement"]
def o43:Obj:=kC "opposite" "opposite" a7q
def o44:Obj:=kD1 "opposite" "opposite" 219 15 1 39 223
def o45:Obj:=kF "opposite" "opposite" a7q m2 44
def o48:Obj:=kC "is_sure_set" "is_sure_set" a3X
def o49:Obj:=kD2 "is_sure_set" "is_sure_set" 228 18 2 46 231
def o50:Obj:=kF "is_sure_set" "is_sure_set" a3X m3 49
def o53:Obj:=kC "is_beaten" "is_beaten" a6R
def o54:Obj:=kD2 "is_beaten" "is_beaten" 240 30 3 51 243
def o55:Obj:=kF "is_beaten" "is_beaten" a6R m4 54
def o58:Obj:=kC "holds_by" "holds_by" a5a
def o59:Obj:=kD2 "holds_by" "holds_by" 246 32 5 56 249
def o60:Obj:=kF "holds_by" "holds_by" a5a m4 59
def o63:Obj:=kC "refused_by" "refused_by" a5q
def o64:Obj:=kD2 "refused_by" "refused_by" 252 39 5 61 255
def o65:Obj:=kF "refused_by" "refused_by" a5q m4 64
def o68:Obj:=kC "with_word" "with_word" a6L
def o69:Obj:=kD2 "with_word" "with_word" 260 47 2 66 263
def o70:Obj:=kF "with_word" "with_word" a6L m5 69
def o73:Obj:=kT 269 ["ground","sures","rows","claim","held","refused"]
def o75:Obj:=kC "follows" "follows" a8i
def o76:Obj:=kD1 "follows" "follows" 266 49 4 71 275
def o77:Obj:=kF "follows" "follows" a8i m5 76
def o80:Obj:=kC "lets_by" "lets_by" a6C
def o81:Obj:=kD2 "lets_by" "lets_by" 278 57 2 78 281
def o82:Obj:=kF "lets_by" "lets_by" a6C m5 81
noncomputable def o84:Obj:=⟨(.type "builtin_function_or_method"),none,(.fields #[(.builtin "type.__prepare__"),(.type "type")]),#[]⟩
def o85 (P:Params):Obj:=kQ [kE P "__module__" 293 (.str "mostwise.rules" 284),kE P "__qualname__" 295 (.str "Rule" 294),⟨Yk P "__firstlineno__",(.str "__firstlineno__" 297),(.int (64) 296)⟩,kE P "__init__" 307 (.ref 96),kE P "word" 314 (.ref 103),kE P "speaks" 321 (.ref 110),kE P "is_sure" 328 (.ref 117),kE P "letters" 335 (.ref 124),kE P "again" 344 (.ref 131),kE P "filled" 352 (.ref 138),kE P "row" 360 (.ref 145),kE P "__static_attributes__" 364 (.ref 146)] 12
def o87:Obj:=kL [(66,4,95),(71,4,102),(74,4,109),(77,4,116),(80,4,123),(83,4,130),(86,4,137),(89,4,144)]
noncomputable def o88:Obj:=⟨(.type "code"),none,(.fields #[(.str "Rule" 288),(.str "Rule" 289),(.str "/claim/cut.py" 290),(.int (64) 0),(.int (0) 0),(.int (0) 0),(.int (0) 0),(.int (0) 0),(.ref 86),(.bool false),(.int (181) 0),(.ref 87),.none,.none,.none,.none,(.int (291) 0),(.int (64) 0),(.str "/claim/cut.py" 292)]),#[]⟩
noncomputable def o89:Obj:=⟨(.type "frame"),none,.plain,#[(some (.ref 88)),(some (.ref 3)),(some (.ref 85)),none,(some (.str "mostwise.rules" 284)),none,(some (.ref 0))]⟩
def o92:Obj:=kT 301 ["self","label","head","body"]
def o94:Obj:=kC "__init__" "Rule.__init__" a7W
def o95:Obj:=kD1 "__init__" "Rule.__init__" 298 66 4 90 305
def o96:Obj:=kF "__init__" "Rule.__init__" a7W m6 95
def o99:Obj:=kT 311 ["self"]
def c4r:Obj:=kC "word" "Rule.word" (a0l (top 20) 1)
def c0d:Obj:=kD1 "word" "Rule.word" 308 71 1 97 312
def c2C:Obj:=kF "word" "Rule.word" (a0l (top 20) 1) m6 102
def c1f:Obj:=kT 318 ["self"]
def c3C:Obj:=kC "speaks" "Rule.speaks" a9p
def c1s:Obj:=kD1 "speaks" "Rule.speaks" 315 74 1 104 319
def c1M:Obj:=kF "speaks" "Rule.speaks" a9p m6 109
def c0S:Obj:=kT 325 ["self"]
def c2M:Obj:=kC "is_sure" "Rule.is_sure" a9g
def c0I:Obj:=kD1 "is_sure" "Rule.is_sure" 322 77 1 111 326
def c1w:Obj:=kF "is_sure" "Rule.is_sure" a9g m6 116
def b8X:Obj:=kT 332 ["self"]
def c3b:Obj:=kC "letters" "Rule.letters" (a0l (top 20) 4)
def b9c:Obj:=kD1 "letters" "Rule.letters" 329 80 1 118 333
def c2j:Obj:=kF "letters" "Rule.letters" (a0l (top 20) 4) m6 123
def c1q:Obj:=kT 339 ["self","head","body"]
def c4q:Obj:=kC "again" "Rule.again" (a0l (top 20) 5)
def c0y:Obj:=kD1 "again" "Rule.again" 336 83 3 125 342
def c3e:Obj:=kF "again" "Rule.again" (a0l (top 20) 5) m6 130
def c1p:Obj:=kT 348 ["self","given"]
def c4k:Obj:=kC "filled" "Rule.filled" (a0l (top 20) 6)
def b9W:Obj:=kD1 "filled" "Rule.filled" 345 86 2 132 350
def c2K:Obj:=kF "filled" "Rule.filled" (a0l (top 20) 6) m6 137
def b9N:Obj:=kT 356 ["self","words"]
def c2Q:Obj:=kC "row" "Rule.row" (a0l (top 20) 7)
def b8G:Obj:=kD1 "row" "Rule.row" 353 89 1 139 358
def c3v:Obj:=kF "row" "Rule.row" (a0l (top 20) 7) m6 144
def b9C:Obj:=kT 361 ["body","head","label"]
def c0a (P:Params):Obj:=kQ [kE P "__module__" 293 (.str "mostwise.rules" 284),⟨Yk P "__firstlineno__",(.str "__firstlineno__" 297),(.int (64) 296)⟩,kE P "__init__" 307 (.ref 96),kE P "word" 314 (.ref 103),kE P "speaks" 321 (.ref 110),kE P "is_sure" 328 (.ref 117),kE P "letters" 335 (.ref 124),kE P "again" 344 (.ref 131),kE P "filled" 352 (.ref 138),kE P "row" 360 (.ref 145),kE P "__static_attributes__" 364 (.ref 146),kE P "__dict__" 366 (.ref 149),kE P "__weakref__" 368 (.ref 150),kE P "__doc__" 369 .none] 4
noncomputable def b7W:Obj:=⟨(.type "type"),none,(.cls ⟨"Rule",[(.type "object")],[(.ref 148),(.type "object")],147,"Rule",true,[],[(.ref 197),(.ref 230),(.ref 256),(.ref 289)],false,none,false⟩),#[none,none,(some (.str "Rule" 286)),(some (.str "Rule" 294)),(some (.builtin "object.__new__")),(some (.bool true))]⟩
noncomputable def c1r:Obj:=⟨(.type "getset_descriptor"),none,(.fields #[(.str "__dict__" 365),(.ref 148),(.builtin "function.__dict__"),(.builtin "function.__dict__#set")]),#[]⟩
noncomputable def c1i:Obj:=⟨(.type "getset_descriptor"),none,(.fields #[(.str "__weakref__" 367),(.ref 148),(.builtin "ExceptionGroup.__weakref__"),.none]),#[]⟩
noncomputable def c2E:Obj:=⟨(.type "super"),none,(.fields #[(.ref 148),(.ref 148),(.ref 148)]),#[]⟩
noncomputable def c3p:Obj:=⟨(.type "builtin_function_or_method"),none,(.fields #[(.builtin "object.__init_subclass__"),(.ref 148)]),#[]⟩
noncomputable def b9S:Obj:=⟨(.type "tuple"),none,(.seq #[(.ref 148)] 0),#[]⟩
noncomputable def c3h:Obj:=⟨(.type "builtin_function_or_method"),none,(.fields #[(.builtin "type.__prepare__"),(.type "type")]),#[]⟩
def c4m (P:Params):Obj:=kQ [kE P "__module__" 379 (.str "mostwise.rules" 284),kE P "__qualname__" 381 (.str "Fact" 380),⟨Yk P "__firstlineno__",(.str "__firstlineno__" 383),(.int (94) 382)⟩,kE P "__init__" 391 (.ref 166),kE P "word" 398 (.ref 173),kE P "is_sure" 405 (.ref 180),kE P "again" 414 (.ref 187),kE P "row" 421 (.ref 194),kE P "__static_attributes__" 422 (.ref 195)] 9
def c3K:Obj:=kL [(96,4,165),(99,4,172),(102,4,179),(105,4,186),(108,4,193)]
noncomputable def c4g:Obj:=⟨(.type "code"),none,(.fields #[(.str "Fact" 374),(.str "Fact" 375),(.str "/claim/cut.py" 376),(.int (94) 0),(.int (0) 0),(.int (0) 0),(.int (0) 0),(.int (0) 0),(.ref 156),(.bool false),(.int (181) 0),(.ref 157),.none,.none,.none,.none,(.int (377) 0),(.int (94) 0),(.str "/claim/cut.py" 378)]),#[]⟩
noncomputable def c4n:Obj:=⟨(.type "frame"),none,.plain,#[(some (.ref 158)),(some (.ref 3)),(some (.ref 155)),none,(some (.str "mostwise.rules" 284)),none,(some (.ref 0))]⟩
def b9O:Obj:=kT 387 ["self","head"]
def c2n:Obj:=kC "__init__" "Fact.__init__" a7Q
def c0K:Obj:=kD1 "__init__" "Fact.__init__" 384 96 2 160 389
def b9K:Obj:=kF "__init__" "Fact.__init__" a7Q m6 165
def b8L:Obj:=kT 395 ["self"]
def c3W:Obj:=kC "word" "Fact.word" a9w
def c0Y:Obj:=kD1 "word" "Fact.word" 392 99 1 167 396
def b9U:Obj:=kF "word" "Fact.word" a9w m6 172
def b8F:Obj:=kT 402 ["self"]
def c3P:Obj:=kC "is_sure" "Fact.is_sure" a9f
def c1K:Obj:=kD1 "is_sure" "Fact.is_sure" 399 102 1 174 403
def b8I:Obj:=kF "is_sure" "Fact.is_sure" a9f m6 179
def b9w:Obj:=kT 409 ["self","head","body"]
def c3I:Obj:=kC "again" "Fact.again" (a0l (top 21) 3)
def c1e:Obj:=kD1 "again" "Fact.again" 406 105 3 181 412
def c3D:Obj:=kF "again" "Fact.again" (a0l (top 21) 3) m6 186
def b8Z:Obj:=kT 418 ["self"]
def c2q:Obj:=kC "row" "Fact.row" (a0l (top 21) 4)
def c0v:Obj:=kD1 "row" "Fact.row" 415 108 1 188 419
def c2r:Obj:=kF "row" "Fact.row" (a0l (top 21) 4) m6 193
def c0x (P:Params):Obj:=kQ [kE P "__module__" 379 (.str "mostwise.rules" 284),⟨Yk P "__firstlineno__",(.str "__firstlineno__" 383),(.int (94) 382)⟩,kE P "__init__" 391 (.ref 166),kE P "word" 398 (.ref 173),kE P "is_sure" 405 (.ref 180),kE P "again" 414 (.ref 187),kE P "row" 421 (.ref 194),kE P "__static_attributes__" 422 (.ref 195),kE P "__doc__" 423 .none] 2
noncomputable def b9r:Obj:=⟨(.type "type"),none,(.cls ⟨"Fact",[(.ref 148)],[(.ref 197),(.ref 148),(.type "object")],196,"Fact",true,[],[],false,none,false⟩),#[(some (.ref 153)),none,(some (.str "Fact" 372)),(some (.str "Fact" 380)),(some (.builtin "object.__new__")),(some (.bool true))]⟩
noncomputable def c3x:Obj:=⟨(.type "super"),none,(.fields #[(.ref 197),(.ref 197),(.ref 197)]),#[]⟩
noncomputable def c2f:Obj:=⟨(.type "builtin_function_or_method"),none,(.fields #[(.builtin "object.__init_subclass__"),(.ref 197)]),#[]⟩
noncomputable def c0s:Obj:=⟨(.type "tuple"),none,(.seq #[(.ref 148)] 0),#[]⟩
noncomputable def c2i:Obj:=⟨(.type "builtin_function_or_method"),none,(.fields #[(.builtin "type.__prepare__"),(.type "type")]),#[]⟩
def c2H (P:Params):Obj:=kQ [kE P "__module__" 433 (.str "mostwise.rules" 284),kE P "__qualname__" 435 (.str "Sure" 434),⟨Yk P "__firstlineno__",(.str "__firstlineno__" 437),(.int (110) 436)⟩,kE P "word" 444 (.ref 213),kE P "is_sure" 451 (.ref 220),kE P "again" 460 (.ref 227),kE P "__static_attributes__" 461 (.ref 228)] 7
def c3a:Obj:=kL [(112,4,212),(115,4,219),(118,4,226)]
noncomputable def c3l:Obj:=⟨(.type "code"),none,(.fields #[(.str "Sure" 428),(.str "Sure" 429),(.str "/claim/cut.py" 430),(.int (110) 0),(.int (0) 0),(.int (0) 0),(.int (0) 0),(.int (0) 0),(.ref 203),(.bool false),(.int (181) 0),(.ref 204),.none,.none,.none,.none,(.int (431) 0),(.int (110) 0),(.str "/claim/cut.py" 432)]),#[]⟩
noncomputable def c4w:Obj:=⟨(.type "frame"),none,.plain,#[(some (.ref 205)),(some (.ref 3)),(some (.ref 202)),none,(some (.str "mostwise.rules" 284)),none,(some (.ref 0))]⟩
def c1H:Obj:=kT 441 ["self"]
def c2D:Obj:=kC "word" "Sure.word" a7s
def c0B:Obj:=kD1 "word" "Sure.word" 438 112 1 207 442
def b9B:Obj:=kF "word" "Sure.word" a7s m6 212
def c1x:Obj:=kT 448 ["self"]
def c3R:Obj:=kC "is_sure" "Sure.is_sure" a8w
def c0W:Obj:=kD1 "is_sure" "Sure.is_sure" 445 115 1 214 449
def c0w:Obj:=kF "is_sure" "Sure.is_sure" a8w m6 219
def c0z:Obj:=kT 455 ["self","head","body"]
def c3E:Obj:=kC "again" "Sure.again" (a0l (top 22) 2)
def c0U:Obj:=kD1 "again" "Sure.again" 452 118 3 221 458
def c3V:Obj:=kF "again" "Sure.again" (a0l (top 22) 2) m6 226
def c1m (P:Params):Obj:=kQ [kE P "__module__" 433 (.str "mostwise.rules" 284),⟨Yk P "__firstlineno__",(.str "__firstlineno__" 437),(.int (110) 436)⟩,kE P "word" 444 (.ref 213),kE P "is_sure" 451 (.ref 220),kE P "again" 460 (.ref 227),kE P "__static_attributes__" 461 (.ref 228),kE P "__doc__" 462 .none] 2
noncomputable def c0j:Obj:=⟨(.type "type"),none,(.cls ⟨"Sure",[(.ref 148)],[(.ref 230),(.ref 148),(.type "object")],229,"Sure",true,[],[],false,none,false⟩),#[(some (.ref 200)),none,(some (.str "Sure" 426)),(some (.str "Sure" 434)),(some (.builtin "object.__new__")),(some (.bool true))]⟩
noncomputable def c3B:Obj:=⟨(.type "super"),none,(.fields #[(.ref 230),(.ref 230),(.ref 230)]),#[]⟩
noncomputable def c2N:Obj:=⟨(.type "builtin_function_or_method"),none,(.fields #[(.builtin "object.__init_subclass__"),(.ref 230)]),#[]⟩
noncomputable def b9Y:Obj:=⟨(.type "tuple"),none,(.seq #[(.ref 148)] 0),#[]⟩
noncomputable def c2V:Obj:=⟨(.type "builtin_function_or_method"),none,(.fields #[(.builtin "type.__prepare__"),(.type "type")]),#[]⟩
def c4x (P:Params):Obj:=kQ [kE P "__module__" 472 (.str "mostwise.rules" 284),kE P "__qualname__" 474 (.str "Most" 473),⟨Yk P "__firstlineno__",(.str "__firstlineno__" 476),(.int (120) 475)⟩,kE P "word" 483 (.ref 246),kE P "again" 492 (.ref 253),kE P "__static_attributes__" 493 (.ref 254)] 6
def c4u:Obj:=kL [(122,4,245),(125,4,252)]
noncomputable def c3A:Obj:=⟨(.type "code"),none,(.fields #[(.str "Most" 467),(.str "Most" 468),(.str "/claim/cut.py" 469),(.int (120) 0),(.int (0) 0),(.int (0) 0),(.int (0) 0),(.int (0) 0),(.ref 236),(.bool false),(.int (181) 0),(.ref 237),.none,.none,.none,.none,(.int (470) 0),(.int (120) 0),(.str "/claim/cut.py" 471)]),#[]⟩
noncomputable def c4p:Obj:=⟨(.type "frame"),none,.plain,#[(some (.ref 238)),(some (.ref 3)),(some (.ref 235)),none,(some (.str "mostwise.rules" 284)),none,(some (.ref 0))]⟩
def b9M:Obj:=kT 480 ["self"]
def c3r:Obj:=kC "word" "Most.word" a8C
def c0T:Obj:=kD1 "word" "Most.word" 477 122 1 240 481
def b8H:Obj:=kF "word" "Most.word" a8C m6 245
def c1N:Obj:=kT 487 ["self","head","body"]
def c3o:Obj:=kC "again" "Most.again" (a0l (top 23) 1)
def c0o:Obj:=kD1 "again" "Most.again" 484 125 3 247 490
def c4j:Obj:=kF "again" "Most.again" (a0l (top 23) 1) m6 252
def b8V (P:Params):Obj:=kQ [kE P "__module__" 472 (.str "mostwise.rules" 284),⟨Yk P "__firstlineno__",(.str "__firstlineno__" 476),(.int (120) 475)⟩,kE P "word" 483 (.ref 246),kE P "again" 492 (.ref 253),kE P "__static_attributes__" 493 (.ref 254),kE P "__doc__" 494 .none] 2
noncomputable def c0p:Obj:=⟨(.type "type"),none,(.cls ⟨"Most",[(.ref 148)],[(.ref 256),(.ref 148),(.type "object")],255,"Most",true,[],[],false,none,false⟩),#[(some (.ref 233)),none,(some (.str "Most" 465)),(some (.str "Most" 473)),(some (.builtin "object.__new__")),(some (.bool true))]⟩
noncomputable def c3F:Obj:=⟨(.type "super"),none,(.fields #[(.ref 256),(.ref 256),(.ref 256)]),#[]⟩
noncomputable def c2J:Obj:=⟨(.type "builtin_function_or_method"),none,(.fields #[(.builtin "object.__init_subclass__"),(.ref 256)]),#[]⟩
noncomputable def b9E:Obj:=⟨(.type "tuple"),none,(.seq #[(.ref 148)] 0),#[]⟩
noncomputable def c3q:Obj:=⟨(.type "builtin_function_or_method"),none,(.fields #[(.builtin "type.__prepare__"),(.type "type")]),#[]⟩
def c2l (P:Params):Obj:=kQ [kE P "__module__" 504 (.str "mostwise.rules" 284),kE P "__qualname__" 506 (.str "Block" 505),⟨Yk P "__firstlineno__",(.str "__firstlineno__" 508),(.int (127) 507)⟩,kE P "word" 515 (.ref 272),kE P "speaks" 522 (.ref 279),kE P "again" 531 (.ref 286),kE P "__static_attributes__" 532 (.ref 287)] 7
def c1Z:Obj:=kL [(129,4,271),(132,4,278),(135,4,285)]
noncomputable def c2O:Obj:=⟨(.type "code"),none,(.fields #[(.str "Block" 499),(.str "Block" 500),(.str "/claim/cut.py" 501),(.int (127) 0),(.int (0) 0),(.int (0) 0),(.int (0) 0),(.int (0) 0),(.ref 262),(.bool false),(.int (181) 0),(.ref 263),.none,.none,.none,.none,(.int (502) 0),(.int (127) 0),(.str "/claim/cut.py" 503)]),#[]⟩
noncomputable def c2Y:Obj:=⟨(.type "frame"),none,.plain,#[(some (.ref 264)),(some (.ref 3)),(some (.ref 261)),none,(some (.str "mostwise.rules" 284)),none,(some (.ref 0))]⟩
def c0f:Obj:=kT 512 ["self"]
def c3t:Obj:=kC "word" "Block.word" a8x
def b8v:Obj:=kD1 "word" "Block.word" 509 129 1 266 513
def b9D:Obj:=kF "word" "Block.word" a8x m6 271
def c0X:Obj:=kT 519 ["self"]
def c2R:Obj:=kC "speaks" "Block.speaks" a8p
def c0k:Obj:=kD1 "speaks" "Block.speaks" 516 132 1 273 520
def c1Y:Obj:=kF "speaks" "Block.speaks" a8p m6 278
def b9b:Obj:=kT 526 ["self","head","body"]
def c3S:Obj:=kC "again" "Block.again" (a0l (top 24) 2)
def b9G:Obj:=kD1 "again" "Block.again" 523 135 3 280 529
def c2w:Obj:=kF "again" "Block.again" (a0l (top 24) 2) m6 285
def b8P (P:Params):Obj:=kQ [kE P "__module__" 504 (.str "mostwise.rules" 284),⟨Yk P "__firstlineno__",(.str "__firstlineno__" 508),(.int (127) 507)⟩,kE P "word" 515 (.ref 272),kE P "speaks" 522 (.ref 279),kE P "again" 531 (.ref 286),kE P "__static_attributes__" 532 (.ref 287),kE P "__doc__" 533 .none] 2
noncomputable def c1u:Obj:=⟨(.type "type"),none,(.cls ⟨"Block",[(.ref 148)],[(.ref 289),(.ref 148),(.type "object")],288,"Block",true,[],[],false,none,false⟩),#[(some (.ref 259)),none,(some (.str "Block" 497)),(some (.str "Block" 505)),(some (.builtin "object.__new__")),(some (.bool true))]⟩
noncomputable def c2I:Obj:=⟨(.type "super"),none,(.fields #[(.ref 289),(.ref 289),(.ref 289)]),#[]⟩
noncomputable def c3d:Obj:=⟨(.type "builtin_function_or_method"),none,(.fields #[(.builtin "object.__init_subclass__"),(.ref 289)]),#[]⟩
noncomputable def c2T:Obj:=⟨(.type "builtin_function_or_method"),none,(.fields #[(.builtin "type.__prepare__"),(.type "type")]),#[]⟩
def c4f (P:Params):Obj:=kQ [kE P "__module__" 545 (.str "mostwise.ground" 536),kE P "__qualname__" 547 (.str "Ground" 546),⟨Yk P "__firstlineno__",(.str "__firstlineno__" 549),(.int (138) 548)⟩,kE P "__init__" 560 (.ref 305),kE P "rules" 567 (.ref 312),kE P "ruling" 575 (.ref 319),kE P "speaking" 581 (.ref 324),kE P "against" 589 (.ref 331),kE P "beats" 598 (.ref 338),kE P "statements" 608 (.ref 345),kE P "part" 616 (.ref 352),kE P "__static_attributes__" 620 (.ref 353)] 12
def c3s:Obj:=kL [(140,4,304),(149,4,311),(152,4,318),(155,4,323),(158,4,330),(161,4,337),(164,4,344),(172,4,351)]
noncomputable def c3g:Obj:=⟨(.type "code"),none,(.fields #[(.str "Ground" 540),(.str "Ground" 541),(.str "/claim/cut.py" 542),(.int (138) 0),(.int (0) 0),(.int (0) 0),(.int (0) 0),(.int (0) 0),(.ref 295),(.bool false),(.int (181) 0),(.ref 296),.none,.none,.none,.none,(.int (543) 0),(.int (138) 0),(.str "/claim/cut.py" 544)]),#[]⟩
noncomputable def c3z:Obj:=⟨(.type "frame"),none,.plain,#[(some (.ref 297)),(some (.ref 3)),(some (.ref 294)),none,(some (.str "mostwise.ground" 536)),none,(some (.ref 0))]⟩
def b9a:Obj:=kT 553 ["self","rules","pairs","rule","pair"]
def c2X:Obj:=kC "__init__" "Ground.__init__" a7m
def c0c:Obj:=kD1 "__init__" "Ground.__init__" 550 140 3 299 558
def c0E:Obj:=kF "__init__" "Ground.__init__" a7m m7 304
def b8C:Obj:=kT 564 ["self"]
def c3L:Obj:=kC "rules" "Ground.rules" a8K
def b8O:Obj:=kD1 "rules" "Ground.rules" 561 149 1 306 565
def b9P:Obj:=kF "rules" "Ground.rules" a8K m7 311
def c1z:Obj:=kT 571 ["self","statement"]
def c4y:Obj:=kC "ruling" "Ground.ruling" a9l
def b9T:Obj:=kD1 "ruling" "Ground.ruling" 568 152 2 313 573
def b9A:Obj:=kF "ruling" "Ground.ruling" a9l m7 318
def c3Y:Obj:=kC "speaking" "Ground.speaking" a6o
def c1C:Obj:=kD2 "speaking" "Ground.speaking" 576 155 2 320 579
def b9o:Obj:=kF "speaking" "Ground.speaking" a6o m7 323
def b9f:Obj:=kT 585 ["self","statement"]
def c2B:Obj:=kC "against" "Ground.against" a7i
def c0e:Obj:=kD1 "against" "Ground.against" 582 158 2 325 587
def c1T:Obj:=kF "against" "Ground.against" a7i m7 330
def b9e:Obj:=kT 593 ["self","one","other"]
def c4i:Obj:=kC "beats" "Ground.beats" a8B
def c0R:Obj:=kD1 "beats" "Ground.beats" 590 161 3 332 596
def c0C:Obj:=kF "beats" "Ground.beats" a8B m7 337
def b9V:Obj:=kT 602 ["self","told","rule","statement"]
def c3O:Obj:=kC "statements" "Ground.statements" (a0l (top 26) 6)
def b8Q:Obj:=kD1 "statements" "Ground.statements" 599 164 1 339 606
def c3u:Obj:=kF "statements" "Ground.statements" (a0l (top 26) 6) m7 344
def c1X:Obj:=kT 612 ["self","some"]
def c3Z:Obj:=kC "part" "Ground.part" (a0l (top 26) 7)
def c1b:Obj:=kD1 "part" "Ground.part" 609 172 2 346 614
def c4s:Obj:=kF "part" "Ground.part" (a0l (top 26) 7) m7 351
def c0A:Obj:=kT 617 ["by_head","in_order","pairs"]
def c1g (P:Params):Obj:=kQ [kE P "__module__" 545 (.str "mostwise.ground" 536),⟨Yk P "__firstlineno__",(.str "__firstlineno__" 549),(.int (138) 548)⟩,kE P "__init__" 560 (.ref 305),kE P "rules" 567 (.ref 312),kE P "ruling" 575 (.ref 319),kE P "speaking" 581 (.ref 324),kE P "against" 589 (.ref 331),kE P "beats" 598 (.ref 338),kE P "statements" 608 (.ref 345),kE P "part" 616 (.ref 352),kE P "__static_attributes__" 620 (.ref 353),kE P "__dict__" 622 (.ref 356),kE P "__weakref__" 624 (.ref 357),kE P "__doc__" 625 .none] 4
noncomputable def c1h:Obj:=⟨(.type "type"),none,(.cls ⟨"Ground",[(.type "object")],[(.ref 355),(.type "object")],354,"Ground",true,[],[],false,none,false⟩),#[none,none,(some (.str "Ground" 538)),(some (.str "Ground" 546)),(some (.builtin "object.__new__")),(some (.bool true))]⟩
noncomputable def c0i:Obj:=⟨(.type "getset_descriptor"),none,(.fields #[(.str "__dict__" 621),(.ref 355),(.builtin "function.__dict__"),(.builtin "function.__dict__#set")]),#[]⟩
noncomputable def c1y:Obj:=⟨(.type "getset_descriptor"),none,(.fields #[(.str "__weakref__" 623),(.ref 355),(.builtin "ExceptionGroup.__weakref__"),.none]),#[]⟩
noncomputable def c3k:Obj:=⟨(.type "super"),none,(.fields #[(.ref 355),(.ref 355),(.ref 355)]),#[]⟩
noncomputable def c2A:Obj:=⟨(.type "builtin_function_or_method"),none,(.fields #[(.builtin "object.__init_subclass__"),(.ref 355)]),#[]⟩
def b9h:Obj:=kT 633 ["_law_script","_law_k"]
def c2o:Obj:=kC "_law_cell_at" "_law_cell_at" a7u
def c1O:Obj:=kD1 "_law_cell_at" "_law_cell_at" 630 175 2 360 635
def c0n:Obj:=kF "_law_cell_at" "_law_cell_at" a7u m8 365
def b9I:Obj:=kT 641 ["_law_cell","_law_k","_law_number"]
def c4h:Obj:=kC "_law_mix" "_law_mix" a8M
def b9n:Obj:=kD1 "_law_mix" "_law_mix" 638 179 2 367 644
def c1l:Obj:=kF "_law_mix" "_law_mix" a8M m8 372
def c2a:Obj:=kC "_law_words" "_law_words" a6r
def c1S:Obj:=kD2 "_law_words" "_law_words" 647 184 2 374 650
def b8E:Obj:=kF "_law_words" "_law_words" a6r m8 377
def c0q:Obj:=kT 656 ["_law_text"]
def c3j:Obj:=kC "_law_opposed" "_law_opposed" a7Y
def b8Y:Obj:=kD1 "_law_opposed" "_law_opposed" 653 198 1 379 657
def b9R:Obj:=kF "_law_opposed" "_law_opposed" a7Y m8 384
def c1Q:Obj:=kT 663 ["_law_script","_law_names","_law_things","_law_some"]
def c2Z:Obj:=kC "_law_pool" "_law_pool" a9q
def c0t:Obj:=kD1 "_law_pool" "_law_pool" 660 202 1 386 667
def b8K:Obj:=kF "_law_pool" "_law_pool" a9q m8 391
def c0r:Obj:=kT 673 ["_law_pool_here","_law_number","_law_text"]
def c2W:Obj:=kC "_law_drawn" "_law_drawn" a7V
def c0Z:Obj:=kD1 "_law_drawn" "_law_drawn" 670 208 2 393 676
def b8A:Obj:=kF "_law_drawn" "_law_drawn" a7V m8 398
def c1U:Obj:=kT 682 ["_law_cell","_law_many","_law_size","_law_plain","_law_found","_law_rest","_law_j"]
def c3G:Obj:=kC "_law_numbers" "_law_numbers" a9h
def c1L:Obj:=kD1 "_law_numbers" "_law_numbers" 679 213 4 400 689
def b9Z:Obj:=kF "_law_numbers" "_law_numbers" a9h m8 405
def c2z:Obj:=kC "_law_rule" "_law_rule" a6S
def b9s:Obj:=kD2 "_law_rule" "_law_rule" 692 223 4 407 695
def c1n:Obj:=kF "_law_rule" "_law_rule" a6S m8 410
def c0u:Obj:=kT 701 ["_law_rules","_law_cell","_law_pairs_here","_law_k","_law_j","_law_way"]
def c2b:Obj:=kC "_law_pairs" "_law_pairs" a7E
def c0G:Obj:=kD1 "_law_pairs" "_law_pairs" 698 235 2 412 707
def b9F:Obj:=kF "_law_pairs" "_law_pairs" a7E m8 417
def b9u:Obj:=kT 713 ["_law_rules","_law_cell"]
def c2G:Obj:=kC "_law_turned" "_law_turned" a7C
def c0l:Obj:=kD1 "_law_turned" "_law_turned" 710 244 2 419 715
def c0m:Obj:=kF "_law_turned" "_law_turned" a7C m8 424
def c3X:Obj:=kC "_law_scene" "_law_scene" a6v
def b9i:Obj:=kD2 "_law_scene" "_law_scene" 718 248 2 426 721
def b8T:Obj:=kF "_law_scene" "_law_scene" a6v m8 429
def c0H:Obj:=kT 727 ["_law_rule_here"]
def c2u:Obj:=kC "_law_firm" "_law_firm" a8r
def c0g:Obj:=kD1 "_law_firm" "_law_firm" 724 258 1 431 728
def b8S:Obj:=kF "_law_firm" "_law_firm" a8r m8 436
def c1B:Obj:=kT 734 ["_law_rule_here","_law_held","_law_text"]
def c3T:Obj:=kC "_law_stands" "_law_stands" a9o
def c1v:Obj:=kD1 "_law_stands" "_law_stands" 731 260 2 438 737
def b8W:Obj:=kF "_law_stands" "_law_stands" a9o m8 443
def c1t:Obj:=kT 743 ["_law_rule_here","_law_refused","_law_text"]
def c2v:Obj:=kC "_law_falls" "_law_falls" a8u
def b8M:Obj:=kD1 "_law_falls" "_law_falls" 740 265 2 445 746
def c0J:Obj:=kF "_law_falls" "_law_falls" a8u m8 450
def c3U:Obj:=kC "_law_speaking" "_law_speaking" a6F
def b9z:Obj:=kD2 "_law_speaking" "_law_speaking" 749 270 2 452 752
def c0D:Obj:=kF "_law_speaking" "_law_speaking" a6F m8 455
def c2g:Obj:=kC "_law_against" "_law_against" a6x
def b9X:Obj:=kD2 "_law_against" "_law_against" 755 272 2 457 758
def c0Q:Obj:=kF "_law_against" "_law_against" a6x m8 460
def b9k:Obj:=kT 764 ["_law_scene_here","_law_rule_here","_law_others","_law_other"]
def c2h:Obj:=kC "_law_beaten" "_law_beaten" a7I
def c1D:Obj:=kD1 "_law_beaten" "_law_beaten" 761 274 3 462 768
def b9J:Obj:=kF "_law_beaten" "_law_beaten" a7I m8 467
def c3H:Obj:=kC "_law_may_hold" "_law_may_hold" a7e
def b9m:Obj:=kD2 "_law_may_hold" "_law_may_hold" 771 279 5 469 774
def b8R:Obj:=kF "_law_may_hold" "_law_may_hold" a7e m8 472
def c4e:Obj:=kC "_law_may_refuse" "_law_may_refuse" a6V
def b9j:Obj:=kD2 "_law_may_refuse" "_law_may_refuse" 777 289 5 474 780
def c0N:Obj:=kF "_law_may_refuse" "_law_may_refuse" a6V m8 477
def b8N:Obj:=kT 786 ["_law_scene_here","_law_found","_law_last","_law_rule_here"]
def c2k:Obj:=kC "_law_sures" "_law_sures" a7K
def b9t:Obj:=kD1 "_law_sures" "_law_sures" 783 299 1 479 790
def b9p:Obj:=kF "_law_sures" "_law_sures" a7K m8 484
def c0h:Obj:=kT 796 ["_law_scene_here","_law_sures_here","_law_held","_law_refused","_law_rows","_law_last","_law_text"]
def c3Q:Obj:=kC "_law_grown" "_law_grown" a8g
def b9y:Obj:=kD1 "_law_grown" "_law_grown" 793 308 2 486 803
def c1A:Obj:=kF "_law_grown" "_law_grown" a8g m8 491
def c3M:Obj:=kC "_law_sure_set" "_law_sure_set" a6B
def c0M:Obj:=kD2 "_law_sure_set" "_law_sure_set" 806 325 2 493 809
def c1I:Obj:=kF "_law_sure_set" "_law_sure_set" a6B m8 496
def b8w:Obj:=kT 815 ["_law_scene_here","_law_sures_here","_law_rows","_law_held","_law_refused","_law_word","_law_text"]
def c2S:Obj:=kC "_law_due" "_law_due" a8X
def b9v:Obj:=kD1 "_law_due" "_law_due" 812 333 3 498 822
def c1J:Obj:=kF "_law_due" "_law_due" a8X m8 503
def c1R:Obj:=kT 828 ["_law_some","_law_cell","_law_at","_law_other","_law_left"]
def c2d:Obj:=kC "_law_moved" "_law_moved" a7v
def b8U:Obj:=kD1 "_law_moved" "_law_moved" 825 348 2 505 833
def c0F:Obj:=kF "_law_moved" "_law_moved" a7v m8 510
def b8x:Obj:=kT 839 ["_law_scene_here","_law_sures_here","_law_rows","_law_cell","_law_way","_law_rest","_law_at","_law_claim","_law_word","_law_cut"]
def c3i:Obj:=kC "_law_otherwise" "_law_otherwise" a7U
def b9d:Obj:=kD1 "_law_otherwise" "_law_otherwise" 836 355 4 512 849
def b8t:Obj:=kF "_law_otherwise" "_law_otherwise" a7U m8 517
def b8J:Obj:=kT 855 ["_law_script","_law_scene_here","_law_ground","_law_sures_here","_law_rows","_law_cell","_law_some","_law_claims","_law_handed","_law_found","_law_word","_law_bad"]
def c4a:Obj:=kC "law" "law" a3l
def c1W:Obj:=kD1 "law" "law" 852 377 1 519 867
def c1c:Obj:=kF "law" "law" a3l m8 524
def p3 (P:Params):Obj:=kQ [kE P "__name__" 165 (.str "__main__" 164),kE P "__doc__" 166 .none,kE P "__package__" 167 .none,kE P "__loader__" 168 (.builtin "__main__.__loader__#opaque"),kE P "__spec__" 169 .none,kE P "__annotations__" 170 (.ref 6),kE P "__builtins__" 171 (.ref 4),kE P "__file__" 173 (.str "/claim/cut.py" 172),kE P "__cached__" 174 .none] 9
noncomputable def H0 (P:Params):Heap:=⟨⟨o0 P::o1 P::o2::p3 P::o4::o5::o6::kU::kN::o9::o10::[]⟩,{}⟩
noncomputable abbrev S0 (P:Params):List Obj:=o4::o5::o6::kU::kN::o9::o10::kU::[]
noncomputable abbrev S1 (P:Params):List Obj:=o13::o14::kU::kN::o17::kU::o19::o20::o21::kU::kN::o24::kU::o26::o27::o28::kU::kN::o31::o32::o33::kU::kN::o36::o37::o38::kU::kN::o41::kU::o43::o44::o45::kU::kN::o48::o49::o50::kU::kN::o53::o54::o55::kU::kN::o58::o59::o60::kU::kN::o63::o64::o65::kU::kN::o68::o69::o70::kU::kN::o73::kU::o75::o76::o77::kU::kN::o80::o81::o82::kU::o84::o85 P::kU::o87::o88::o89::kU::kN::o92::kU::o94::o95::o96::kU::kN::o99::kU::c4r::c0d::c2C::kU::kN::c1f::kU::c3C::c1s::c1M::kU::kN::c0S::kU::c2M::c0I::c1w::kU::kN::b8X::kU::c3b::b9c::c2j::kU::kN::c1q::kU::c4q::c0y::c3e::kU::kN::c1p::kU::c4k::b9W::c2K::kU::kN::b9N::kU::c2Q::b8G::c3v::b9C::c0a P::[]
noncomputable abbrev S2 (P:Params):List Obj:=c1r::c1i::c2E::c3p::b9S::c3h::c4m P::kU::c3K::c4g::c4n::kU::kN::b9O::kU::c2n::c0K::b9K::kU::kN::b8L::kU::c3W::c0Y::b9U::kU::kN::b8F::kU::c3P::c1K::b8I::kU::kN::b9w::kU::c3I::c1e::c3D::kU::kN::b8Z::kU::c2q::c0v::c2r::kU::c0x P::b9r::c3x::c2f::[]
noncomputable abbrev S3 (P:Params):List Obj:=c0s::c2i::c2H P::kU::c3a::c3l::c4w::kU::kN::c1H::kU::c2D::c0B::b9B::kU::kN::c1x::kU::c3R::c0W::c0w::kU::kN::c0z::kU::c3E::c0U::c3V::kU::c1m P::c0j::c3B::c2N::b9Y::c2V::c4x P::kU::c4u::c3A::c4p::kU::kN::b9M::kU::c3r::c0T::b8H::kU::kN::c1N::kU::c3o::c0o::c4j::kU::b8V P::c0p::c3F::c2J::b9E::c3q::c2l P::kU::c1Z::c2O::c2Y::kU::kN::c0f::kU::c3t::b8v::b9D::kU::kN::c0X::kU::c2R::c0k::c1Y::kU::kN::b9b::kU::c3S::b9G::c2w::kU::b8P P::c1u::c2I::c3d::kU::c2T::c4f P::kU::c3s::c3g::c3z::kU::kN::b9a::kU::c2X::c0c::c0E::kU::kN::b8C::kU::c3L::b8O::b9P::kU::kN::c1z::kU::c4y::b9T::b9A::kU::kN::c3Y::c1C::b9o::kU::kN::b9f::kU::c2B::c0e::c1T::kU::kN::b9e::kU::c4i::c0R::c0C::kU::kN::b9V::kU::c3O::b8Q::c3u::kU::kN::c1X::kU::c3Z::c1b::c4s::c0A::c1g P::c1h::c0i::c1y::c3k::c2A::[]
noncomputable abbrev S4 (P:Params):List Obj:=kU::kN::b9h::kU::c2o::c1O::c0n::kU::kN::b9I::kU::c4h::b9n::c1l::kU::kN::c2a::c1S::b8E::kU::kN::c0q::kU::c3j::b8Y::b9R::kU::kN::c1Q::kU::c2Z::c0t::b8K::kU::kN::c0r::kU::c2W::c0Z::b8A::kU::kN::c1U::kU::c3G::c1L::b9Z::kU::kN::c2z::b9s::c1n::kU::kN::c0u::kU::c2b::c0G::b9F::kU::kN::b9u::kU::c2G::c0l::c0m::kU::kN::c3X::b9i::b8T::kU::kN::c0H::kU::c2u::c0g::b8S::kU::kN::c1B::kU::c3T::c1v::b8W::kU::kN::c1t::kU::c2v::b8M::c0J::kU::kN::c3U::b9z::c0D::kU::kN::c2g::b9X::c0Q::kU::kN::b9k::kU::c2h::c1D::b9J::kU::kN::c3H::b9m::b8R::kU::kN::c4e::b9j::c0N::kU::kN::b8N::kU::c2k::b9t::b9p::kU::kN::c0h::kU::c3Q::b9y::c1A::kU::kN::c3M::c0M::c1I::kU::kN::b8w::kU::c2S::b9v::c1J::kU::kN::c1R::kU::c2d::b8U::c0F::kU::kN::b8x::kU::c3i::b9d::b8t::kU::kN::b8J::kU::c4a::c1W::c1c::[]
noncomputable def H1 (P:Params):Heap:=⟨⟨[o0 P,o1 P,o2,o3 P]++S0 P++[o12]++S1 P++[b7W]++S2 P++S3 P++S4 P⟩,{}⟩
noncomputable def a4T:Params→Qc:=fun P=>
(nat_lit 2,o2)::(nat_lit 3,o3 P)::(nat_lit 15,kU)::(nat_lit 17,o17)::(nat_lit 18,kU)::(nat_lit 20,o20)::(nat_lit 22,kU)::(nat_lit 24,o24)::(nat_lit 25,kU)::(nat_lit 27,o27)::(nat_lit 28,o28)::(nat_lit 29,kU)::(nat_lit 32,o32)::(nat_lit 33,o33)::(nat_lit 34,kU)::(nat_lit 37,o37)::(nat_lit 38,o38)::(nat_lit 39,kU)::(nat_lit 41,o41)::(nat_lit 42,kU)::(nat_lit 44,o44)::(nat_lit 45,o45)::(nat_lit 46,kU)::(nat_lit 49,o49)::(nat_lit 50,o50)::(nat_lit 51,kU)::(nat_lit 54,o54)::(nat_lit 55,o55)::(nat_lit 56,kU)::(nat_lit 59,o59)::(nat_lit 60,o60)::(nat_lit 61,kU)::(nat_lit 64,o64)::(nat_lit 65,o65)::(nat_lit 66,kU)::(nat_lit 69,o69)::(nat_lit 70,o70)::(nat_lit 71,kU)::(nat_lit 73,o73)::(nat_lit 74,kU)::(nat_lit 76,o76)::(nat_lit 77,o77)::(nat_lit 78,kU)::(nat_lit 81,o81)::(nat_lit 82,o82)::(nat_lit 90,kU)::(nat_lit 92,o92)::(nat_lit 93,kU)::(nat_lit 95,o95)::(nat_lit 96,o96)::(nat_lit 97,kU)::(nat_lit 99,o99)::(nat_lit 100,kU)::(nat_lit 102,c0d)::(nat_lit 104,kU)::(nat_lit 106,c1f)::(nat_lit 107,kU)::(nat_lit 109,c1s)::(nat_lit 110,c1M)::(nat_lit 111,kU)::(nat_lit 113,c0S)::(nat_lit 114,kU)::(nat_lit 116,c0I)::(nat_lit 117,c1w)::(nat_lit 118,kU)::(nat_lit 120,b8X)::(nat_lit 121,kU)::(nat_lit 123,b9c)::(nat_lit 125,kU)::(nat_lit 127,c1q)::(nat_lit 128,kU)::(nat_lit 130,c0y)::(nat_lit 132,kU)::(nat_lit 134,c1p)::(nat_lit 135,kU)::(nat_lit 137,b9W)::(nat_lit 139,kU)::(nat_lit 141,b9N)::(nat_lit 142,kU)::(nat_lit 144,b8G)::(nat_lit 146,b9C)::(nat_lit 147,c0a P)::(nat_lit 148,b7W)::(nat_lit 149,c1r)::(nat_lit 150,c1i)::(nat_lit 153,b9S)::(nat_lit 160,kU)::(nat_lit 162,b9O)::(nat_lit 163,kU)::(nat_lit 165,c0K)::(nat_lit 166,b9K)::(nat_lit 167,kU)::(nat_lit 169,b8L)::(nat_lit 170,kU)::(nat_lit 172,c0Y)::(nat_lit 173,b9U)::(nat_lit 174,kU)::(nat_lit 176,b8F)::(nat_lit 177,kU)::(nat_lit 179,c1K)::(nat_lit 180,b8I)::(nat_lit 181,kU)::(nat_lit 183,b9w)::(nat_lit 184,kU)::(nat_lit 186,c1e)::(nat_lit 188,kU)::(nat_lit 190,b8Z)::(nat_lit 191,kU)::(nat_lit 193,c0v)::(nat_lit 195,kU)::(nat_lit 196,c0x P)::(nat_lit 197,b9r)::(nat_lit 200,c0s)::(nat_lit 207,kU)::(nat_lit 209,c1H)::(nat_lit 210,kU)::(nat_lit 212,c0B)::(nat_lit 213,b9B)::(nat_lit 214,kU)::(nat_lit 216,c1x)::(nat_lit 217,kU)::(nat_lit 219,c0W)::(nat_lit 220,c0w)::(nat_lit 221,kU)::(nat_lit 223,c0z)::(nat_lit 224,kU)::(nat_lit 226,c0U)::(nat_lit 228,kU)::(nat_lit 229,c1m P)::(nat_lit 230,c0j)::(nat_lit 233,b9Y)::(nat_lit 240,kU)::(nat_lit 242,b9M)::(nat_lit 243,kU)::(nat_lit 245,c0T)::(nat_lit 246,b8H)::(nat_lit 247,kU)::(nat_lit 249,c1N)::(nat_lit 250,kU)::(nat_lit 252,c0o)::(nat_lit 254,kU)::(nat_lit 255,b8V P)::(nat_lit 256,c0p)::(nat_lit 259,b9E)::(nat_lit 266,kU)::(nat_lit 268,c0f)::(nat_lit 269,kU)::(nat_lit 271,b8v)::(nat_lit 272,b9D)::(nat_lit 273,kU)::(nat_lit 275,c0X)::(nat_lit 276,kU)::(nat_lit 278,c0k)::(nat_lit 279,c1Y)::(nat_lit 280,kU)::(nat_lit 282,b9b)::(nat_lit 283,kU)::(nat_lit 285,b9G)::(nat_lit 287,kU)::(nat_lit 288,b8P P)::(nat_lit 289,c1u)::(nat_lit 299,kU)::(nat_lit 301,b9a)::(nat_lit 302,kU)::(nat_lit 304,c0c)::(nat_lit 305,c0E)::(nat_lit 306,kU)::(nat_lit 308,b8C)::(nat_lit 309,kU)::(nat_lit 311,b8O)::(nat_lit 312,b9P)::(nat_lit 313,kU)::(nat_lit 315,c1z)::(nat_lit 316,kU)::(nat_lit 318,b9T)::(nat_lit 319,b9A)::(nat_lit 320,kU)::(nat_lit 323,c1C)::(nat_lit 324,b9o)::(nat_lit 325,kU)::(nat_lit 327,b9f)::(nat_lit 328,kU)::(nat_lit 330,c0e)::(nat_lit 331,c1T)::(nat_lit 332,kU)::(nat_lit 334,b9e)::(nat_lit 335,kU)::(nat_lit 337,c0R)::(nat_lit 338,c0C)::(nat_lit 339,kU)::(nat_lit 341,b9V)::(nat_lit 342,kU)::(nat_lit 344,b8Q)::(nat_lit 346,kU)::(nat_lit 348,c1X)::(nat_lit 349,kU)::(nat_lit 351,c1b)::(nat_lit 353,c0A)::(nat_lit 354,c1g P)::(nat_lit 355,c1h)::(nat_lit 356,c0i)::(nat_lit 357,c1y)::(nat_lit 360,kU)::(nat_lit 362,b9h)::(nat_lit 363,kU)::(nat_lit 365,c1O)::(nat_lit 366,c0n)::(nat_lit 367,kU)::(nat_lit 369,b9I)::(nat_lit 370,kU)::(nat_lit 372,b9n)::(nat_lit 373,c1l)::(nat_lit 374,kU)::(nat_lit 377,c1S)::(nat_lit 378,b8E)::(nat_lit 379,kU)::(nat_lit 381,c0q)::(nat_lit 382,kU)::(nat_lit 384,b8Y)::(nat_lit 385,b9R)::(nat_lit 386,kU)::(nat_lit 388,c1Q)::(nat_lit 389,kU)::(nat_lit 391,c0t)::(nat_lit 392,b8K)::(nat_lit 393,kU)::(nat_lit 395,c0r)::(nat_lit 396,kU)::(nat_lit 398,c0Z)::(nat_lit 399,b8A)::(nat_lit 400,kU)::(nat_lit 402,c1U)::(nat_lit 403,kU)::(nat_lit 405,c1L)::(nat_lit 406,b9Z)::(nat_lit 407,kU)::(nat_lit 410,b9s)::(nat_lit 411,c1n)::(nat_lit 412,kU)::(nat_lit 414,c0u)::(nat_lit 415,kU)::(nat_lit 417,c0G)::(nat_lit 418,b9F)::(nat_lit 419,kU)::(nat_lit 421,b9u)::(nat_lit 422,kU)::(nat_lit 424,c0l)::(nat_lit 425,c0m)::(nat_lit 426,kU)::(nat_lit 429,b9i)::(nat_lit 430,b8T)::(nat_lit 431,kU)::(nat_lit 433,c0H)::(nat_lit 434,kU)::(nat_lit 436,c0g)::(nat_lit 437,b8S)::(nat_lit 438,kU)::(nat_lit 440,c1B)::(nat_lit 441,kU)::(nat_lit 443,c1v)::(nat_lit 444,b8W)::(nat_lit 445,kU)::(nat_lit 447,c1t)::(nat_lit 448,kU)::(nat_lit 450,b8M)::(nat_lit 451,c0J)::(nat_lit 452,kU)::(nat_lit 455,b9z)::(nat_lit 456,c0D)::(nat_lit 457,kU)::(nat_lit 460,b9X)::(nat_lit 461,c0Q)::(nat_lit 462,kU)::(nat_lit 464,b9k)::(nat_lit 465,kU)::(nat_lit 467,c1D)::(nat_lit 468,b9J)::(nat_lit 469,kU)::(nat_lit 472,b9m)::(nat_lit 473,b8R)::(nat_lit 474,kU)::(nat_lit 477,b9j)::(nat_lit 478,c0N)::(nat_lit 479,kU)::(nat_lit 481,b8N)::(nat_lit 482,kU)::(nat_lit 484,b9t)::(nat_lit 485,b9p)::(nat_lit 486,kU)::(nat_lit 488,c0h)::(nat_lit 489,kU)::(nat_lit 491,b9y)::(nat_lit 492,c1A)::(nat_lit 493,kU)::(nat_lit 496,c0M)::(nat_lit 497,c1I)::(nat_lit 498,kU)::(nat_lit 500,b8w)::(nat_lit 501,kU)::(nat_lit 503,b9v)::(nat_lit 504,c1J)::(nat_lit 505,kU)::(nat_lit 507,c1R)::(nat_lit 508,kU)::(nat_lit 510,b8U)::(nat_lit 511,c0F)::(nat_lit 512,kU)::(nat_lit 514,b8x)::(nat_lit 515,kU)::(nat_lit 517,b9d)::(nat_lit 518,b8t)::(nat_lit 519,kU)::(nat_lit 521,b8J)::(nat_lit 522,kU)::(nat_lit 524,c1W)::(nat_lit 525,c1c)::[]
noncomputable abbrev a6p:List Addr:=[2,3,15,17,18,20,22,24,25,27,28,29,32,33,34,37,38,39,41,42,44,45,46,49,50,51,54,55,56,59,60,61,64,65,66,69,70,71,73,74,76,77,78,81,82,90,92,93,95,96,97,99,100,102,104,106,107,109,110,111,113,114,116,117,118,120,121,123,125,127,128,130,132,134,135,137,139,141,142,144,146,147,148,149,150,153,160,162,163,165,166,167,169,170,172,173,174,176,177,179,180,181,183,184,186,188,190,191,193,195,196,197,200,207,209,210,212,213,214,216,217,219,220,221,223,224,226,228,229,230,233,240,242,243,245,246,247,249,250,252,254,255,256,259,266,268,269,271,272,273,275,276,278,279,280,282,283,285,287,288,289,299,301,302,304,305,306,308,309,311,312,313,315,316,318,319,320,323,324,325,327,328,330,331,332,334,335,337,338,339,341,342,344,346,348,349,351,353,354,355,356,357,360,362,363,365,366,367,369,370,372,373,374,377,378,379,381,382,384,385,386,388,389,391,392,393,395,396,398,399,400,402,403,405,406,407,410,411,412,414,415,417,418,419,421,422,424,425,426,429,430,431,433,434,436,437,438,440,441,443,444,445,447,448,450,451,452,455,456,457,460,461,462,464,465,467,468,469,472,473,474,477,478,479,481,482,484,485,486,488,489,491,492,493,496,497,498,500,501,503,504,505,507,508,510,511,512,514,515,517,518,519,521,522,524,525]
theorem a9A:∀P,a6p=(a4T P).map (·.1):=fun _=>by kernel_rfl
noncomputable def b3d:Program:=PySem.W.view PySem.Challenge.pw_mostwise_k52_papers_let_by [0,2,3,4,6,8,10,11,12,13,14,16,17,18,20,21,22,23,24,26,28,29,30,31,32,33,34,35,36,37,38,39,40,41,42,43,44,45,46,47,48,49,50,51,52,53]
theorem b7m:∀w:World,(fencedOpening treeTable PySem.Challenge.pw_mostwise_k52_papers_let_by w 6872).map (fun s=>(s.heap,s.gens,s.drawn,s.toks))=some (H0 w.params,#[],{},181):=fun w=>by kernel_rfl
theorem a3H {tb:String→Option Builtin} {p:Program} {w:World} {n₀:Nat} {ann:Option Value} {env:Env} {q:Pos} {n N a l:Nat} {s s' r:Shared} {b:List Stmt} {c:Code} {pos p':Pos} (h:segRun tb p w n₀ ann 1 n s (piecesOf ((b.drop a).take l) env c pos [topFrame q])=some (.next,s',c,p'))
  (k:topRun tb p w n₀ ann N s' (restOf (b.drop (a+l)) env c p' [topFrame q])=some r):topRun tb p w n₀ ann (n+N) s (restOf (b.drop a) env c pos [topFrame q])=some r:=by
 have e:=piece_app h k
 rwa [←List.drop_drop,List.take_append_drop] at e
noncomputable def b5j (P:Params):Heap:=⟨⟨o0 P::o1 P::o2::p3 P::o4::o5::o6::kU::kN::o9::o10::kU::kN::o13::o14::[]⟩,{}⟩
noncomputable def a7J (P:Params):Heap:=⟨⟨o0 P::o1 P::o2::p3 P::o4::o5::o6::kU::kN::o9::o10::kU::kN::o13::o14::[]⟩,{}⟩
noncomputable def b6q:Env:={scope:=PySem.Challenge.pw_mostwise_k52_papers_let_by.main.scope,locals:=mainNs,globals:=mainNs,cells:=[],code:=(.ref 13),frame:=some 14}
noncomputable def a3W:Code:=.body (behindTheImports PySem.Challenge.pw_mostwise_k52_papers_let_by) b6q
noncomputable abbrev tFr:List Frame:=[topFrame ⟨0,0,0,0⟩]
noncomputable abbrev b7O (i:Nat) (q:Pos):Thread:=restOf ((behindTheImports PySem.Challenge.pw_mostwise_k52_papers_let_by).drop i) b6q a3W q tFr
theorem b8a:∀(w:World) (os:OsState),topGo treeTable PySem.Challenge.pw_mostwise_k52_papers_let_by w 11 (some (.ref 6)) 12 ⟨H0 w.params,#[],{},181,os⟩ (topStub PySem.Challenge.pw_mostwise_k52_papers_let_by)=some (⟨b5j w.params,#[],{},187,os⟩,⟨denote treeTable a3W,a3W,⟨0,0,0,0⟩,tFr⟩):=fun w os=>by kernel_rfl
theorem b2V:∀(w:World) (os:OsState),segRun treeTable PySem.Challenge.pw_mostwise_k52_papers_let_by w 11 (some (.ref 6)) 1 1 ⟨b5j w.params,#[],{},187,os⟩ (blockOf (behindTheImports PySem.Challenge.pw_mostwise_k52_papers_let_by) b6q a3W ⟨0,0,0,0⟩ tFr)=some (.next,⟨a7J w.params,#[],{},187,os⟩,a3W,⟨0,0,0,0⟩):=fun w os=>by kernel_rfl
def g13 (P:Params):Obj:=kQ [kE P "__name__" 165 (.str "mostwise.rules" 284),kE P "__doc__" 166 .none,kE P "__package__" 167 .none,kE P "__loader__" 168 (.builtin "__main__.__loader__#opaque"),kE P "__spec__" 169 .none,kE P "__annotations__" 170 (.ref 6),kE P "__builtins__" 171 (.ref 4),kE P "__file__" 173 (.str "/claim/cut.py" 172),kE P "__cached__" 174 .none,kE P "_wall" 193 (.ref 21),kE P "keyed" 204 (.ref 28),kE P "all_among" 210 (.ref 33),kE P "any_among" 216 (.ref 38),kE P "opposite" 225 (.ref 45),kE P "is_sure_set" 233 (.ref 50),kE P "HELD" 237 (.str "held" 236),kE P "REFUSED" 239 (.str "refused" 238),kE P "is_beaten" 245 (.ref 55),kE P "holds_by" 251 (.ref 60),kE P "refused_by" 257 (.ref 65),kE P "with_word" 265 (.ref 70),kE P "follows" 277 (.ref 77),kE P "lets_by" 283 (.ref 82),kE P "Rule" 371 (.ref 148),kE P "Fact" 425 (.ref 197)] 25
def c3n:Obj:=kL [(1,0,20),(5,0,27),(10,0,32),(12,0,37),(15,0,44),(18,0,49),(30,0,54),(32,0,59),(39,0,64),(47,0,69),(49,0,76),(57,0,81),(64,0,88),(94,0,158)]
noncomputable def b7K:Obj:=⟨(.type "type"),none,(.cls ⟨"Rule",[(.type "object")],[(.ref 148),(.type "object")],147,"Rule",true,[],[(.ref 197)],false,none,false⟩),#[none,none,(some (.str "Rule" 286)),(some (.str "Rule" 294)),(some (.builtin "object.__new__")),(some (.bool true))]⟩
noncomputable def c0b (P:Params):Heap:=⟨⟨[o0 P,o1 P,o2,g13 P]++S0 P++[c3n]++S1 P++[b7K]++S2 P⟩,{}⟩
theorem c4d:∀(w:World) (os:OsState),segRun treeTable PySem.Challenge.pw_mostwise_k52_papers_let_by w 11 (some (.ref 6)) 1 1221 ⟨a7J w.params,#[],{},187,os⟩ (piecesOf (((behindTheImports PySem.Challenge.pw_mostwise_k52_papers_let_by).drop 0).take 22) b6q a3W ⟨0,0,0,0⟩ tFr)=some (.next,⟨c0b w.params,#[],{},426,os⟩,a3W,⟨94,0,109,34⟩):=fun w os=>by kernel_rfl
def g23 (P:Params):Obj:=kQ [kE P "__name__" 165 (.str "mostwise.ground" 536),kE P "__doc__" 166 .none,kE P "__package__" 167 .none,kE P "__loader__" 168 (.builtin "__main__.__loader__#opaque"),kE P "__spec__" 169 .none,kE P "__annotations__" 170 (.ref 6),kE P "__builtins__" 171 (.ref 4),kE P "__file__" 173 (.str "/claim/cut.py" 172),kE P "__cached__" 174 .none,kE P "_wall" 193 (.ref 21),kE P "keyed" 204 (.ref 28),kE P "all_among" 210 (.ref 33),kE P "any_among" 216 (.ref 38),kE P "opposite" 225 (.ref 45),kE P "is_sure_set" 233 (.ref 50),kE P "HELD" 237 (.str "held" 236),kE P "REFUSED" 239 (.str "refused" 238),kE P "is_beaten" 245 (.ref 55),kE P "holds_by" 251 (.ref 60),kE P "refused_by" 257 (.ref 65),kE P "with_word" 265 (.ref 70),kE P "follows" 277 (.ref 77),kE P "lets_by" 283 (.ref 82),kE P "Rule" 371 (.ref 148),kE P "Fact" 425 (.ref 197),kE P "Sure" 464 (.ref 230),kE P "Most" 496 (.ref 256),kE P "Block" 535 (.ref 289),kE P "Ground" 627 (.ref 355)] 29
def c2s:Obj:=kL [(1,0,20),(5,0,27),(10,0,32),(12,0,37),(15,0,44),(18,0,49),(30,0,54),(32,0,59),(39,0,64),(47,0,69),(49,0,76),(57,0,81),(64,0,88),(94,0,158),(110,0,205),(120,0,238),(127,0,264),(138,0,297)]
noncomputable def b9H (P:Params):Heap:=⟨⟨[o0 P,o1 P,o2,g23 P]++S0 P++[c2s]++S1 P++[b7W]++S2 P++S3 P⟩,{}⟩
theorem c4v:∀(w:World) (os:OsState),segRun treeTable PySem.Challenge.pw_mostwise_k52_papers_let_by w 11 (some (.ref 6)) 1 1349 ⟨c0b w.params,#[],{},426,os⟩ (piecesOf (((behindTheImports PySem.Challenge.pw_mostwise_k52_papers_let_by).drop 22).take 5) b6q a3W ⟨94,0,109,34⟩ tFr)=some (.next,⟨b9H w.params,#[],{},628,os⟩,a3W,⟨138,0,173,16⟩):=fun w os=>by kernel_rfl
theorem b8o:∀(w:World) (os:OsState),topRun treeTable PySem.Challenge.pw_mostwise_k52_papers_let_by w 11 (some (.ref 6)) 808 ⟨b9H w.params,#[],{},628,os⟩ (b7O 27 ⟨138,0,173,16⟩)=some ⟨H1 w.params,#[],{},870,os⟩:=fun w os=>by kernel_rfl
theorem b8h:∀(w:World) (os:OsState),topRun treeTable PySem.Challenge.pw_mostwise_k52_papers_let_by w 11 (some (.ref 6)) 3391 ⟨H0 w.params,#[],{},181,os⟩ (topStub PySem.Challenge.pw_mostwise_k52_papers_let_by)=some ⟨H1 w.params,#[],{},870,os⟩:=fun w os=>go_top (n:=12) (b8a w os) (piece_block (n:=1) (b2V w os) (a3H (c4d w os) (a3H (c4v w os) (b8o w os))))
end
end K52
namespace L2
open PySem PySem.Spec PyProof.Rows
abbrev Key:=Sum Int Str
def a6u:Key→Value→Bool
 | .inl k,v=>Value.isInt k v
 | .inr x,v=>Value.isStrOf x v
def c2y (w:World):Key→Int
 | .inl k=>hashInt k
 | .inr x=>hashStr w x
theorem a0J:∀{k:Key} {v:Value},a6u k v=true→(∃i t,k=Sum.inl i∧v=Value.int i t)∨(∃x t,k=Sum.inr x∧v=Value.str x t)
 | .inl i,v,h=>by
  obtain ⟨t,e⟩:=Value.isInt_shape (k:=i) (v:=v) h
  exact .inl ⟨i,t,rfl,e⟩
 | .inr x,v,h=>by
  obtain ⟨t,e⟩:=Value.isStrOf_shape (x:=x) (v:=v) h
  exact .inr ⟨x,t,rfl,e⟩
theorem a8J (i:Int) (t:Tok):a6u (.inl i) (.int i t)=true:=by simp [a6u,Value.isInt]
theorem a8e (x:Str) (t:Tok):a6u (.inr x) (.str x t)=true:=by simp [a6u,Value.isStrOf]
theorem b7a (a b:Int):decide ((Sum.inl a:Key)=Sum.inl b)=(a == b):=by
 by_cases e:a=b
 ·subst e;simp
 ·have h:¬(Sum.inl a:Key)=Sum.inl b:=fun q=>e (Sum.inl.inj q)
  rw [decide_eq_false h]
  exact (beq_eq_false_iff_ne.mpr e).symm
theorem b6v (a b:Str):decide ((Sum.inr a:Key)=Sum.inr b)=decide (a=b):=by
 by_cases e:a=b
 ·subst e;simp
 ·have h:¬(Sum.inr a:Key)=Sum.inr b:=fun q=>e (Sum.inr.inj q)
  rw [decide_eq_false h,decide_eq_false e]
theorem b7d (a:Int) (b:Str):decide ((Sum.inl a:Key)=Sum.inr b)=false:=decide_eq_false (fun q=>nomatch q)
theorem b4C (a:Str) (b:Int):decide ((Sum.inr a:Key)=Sum.inl b)=false:=decide_eq_false (fun q=>nomatch q)
def a0N (prog:Program) (w:World):PySem.KeyKind prog w Key where
 is:=a6u
 hash:=c2y w
 inj:=fun v a b ha hb=>by
  rcases a0J ha with ⟨i,t,rfl,rfl⟩ | ⟨x,t,rfl,rfl⟩
  ·rcases a0J hb with ⟨j,u,rfl,e⟩ | ⟨y,u,rfl,e⟩
   ·injection e with e1 _;rw [e1]
   ·exact nomatch e
  ·rcases a0J hb with ⟨j,u,rfl,e⟩ | ⟨y,u,rfl,e⟩
   ·exact nomatch e
   ·injection e with e1 _;rw [e1]
 byValue:=fun k v h=>by
  rcases a0J h with ⟨i,t,rfl,rfl⟩ | ⟨x,t,rfl,rfl⟩<;>rfl
 pyHash:=fun hv h=>by
  rcases a0J hv with ⟨i,t,rfl,rfl⟩ | ⟨x,t,rfl,rfl⟩
  ·exact wpAny_pyHash_int h
  ·exact wpAny_pyHash_str h
 eqBool:=fun hu hv h=>by
  rcases a0J hu with ⟨i,t,rfl,rfl⟩ | ⟨x,t,rfl,rfl⟩
  ·rcases a0J hv with ⟨j,u,rfl,rfl⟩ | ⟨y,u,rfl,rfl⟩
   ·rw [b7a] at h;exact wpAny_eqBool_int h
   ·rw [b7d] at h;exact Yg.int_str i t y u _ _ _ _ h
  ·rcases a0J hv with ⟨j,u,rfl,rfl⟩ | ⟨y,u,rfl,rfl⟩
   ·rw [b4C] at h;exact Yg.str_int x t j u _ _ _ _ h
   ·rw [b6v] at h;exact wpAny_eqBool_str h
 «strs»:=fun k x t v h=>by
  rcases a0J h with ⟨i,u,rfl,e⟩ | ⟨y,u,rfl,e⟩
  ·exact nomatch e
  ·injection e with e1 _
   subst e1
   cases v<;>rfl
theorem a5c (prog:Program) (w:World) (i:Int) (t:Tok):(a0N prog w).is (.inl i) (.int i t)=true:=a8J i t
theorem a5e (prog:Program) (w:World) (x:Str) (t:Tok):(a0N prog w).is (.inr x) (.str x t)=true:=a8e x t
inductive V where
 | non | bl (b:Bool) | int (i:Int) | str (x:Str) | byt (b:Array UInt8) | flt (b:UInt64) | ref (a:Addr) | ty (n:String)
 deriving DecidableEq
def a0Q:V→Value→Prop
 | .non,u=>u=Value.none
 | .bl b,u=>u=Value.bool b
 | .int i,u=>∃t,u=Value.int i t
 | .str x,u=>∃t,u=Value.str x t
 | .byt b,u=>∃t,u=Value.bytes b t
 | .flt b,u=>∃t,u=Value.float b t
 | .ref a,u=>u=Value.ref a
 | .ty n,u=>u=Value.type n
abbrev a0G:List V→List Value→Prop:=Paired a0Q
theorem a0G.length {xs:List V} {us:List Value} (r:a0G xs us):xs.length=us.length:=Paired.length r
theorem a0G.get:∀{xs:List V} {us:List Value} {i:Nat} {x:V},a0G xs us→xs[i]?=some x→∃u,us[i]?=some u∧a0Q x u
 | _,_,_,_,.nil,e=>by simp at e
 | _,_,0,_,.cons r _,e=>by simp at e;subst e;exact ⟨_,rfl,r⟩
 | _,_,i+1,x,.cons _ t,e=>by
  obtain ⟨u,h1,h2⟩:=a0G.get (i:=i) (x:=x) t (by simpa using e)
  exact ⟨u,by simpa using h1,h2⟩
theorem a0G.set {x:V} {u:Value} (r:a0Q x u):∀{xs:List V} {us:List Value} (i:Nat),a0G xs us→a0G (xs.set i x) (us.set i u)
 | _,_,_,.nil=>.nil
 | _,_,0,.cons _ t=>.cons r t
 | _,_,i+1,.cons q t=>.cons q (a0G.set r i t)
theorem a0G.append:∀{xs ys:List V} {us ws:List Value},a0G xs us→a0G ys ws→a0G (xs++ys) (us++ws)
 | _,_,_,_,.nil,s=>s
 | _,_,_,_,.cons r t,s=>.cons r (a0G.append t s)
theorem a0G.take:∀{xs:List V} {us:List Value} (n:Nat),a0G xs us→a0G (xs.take n) (us.take n)
 | _,_,0,_=>.nil
 | _,_,_+1,.nil=>.nil
 | _,_,n+1,.cons r t=>.cons r (a0G.take n t)
theorem a0G.drop:∀{xs:List V} {us:List Value} (n:Nat),a0G xs us→a0G (xs.drop n) (us.drop n)
 | _,_,0,r=>r
 | _,_,_+1,.nil=>.nil
 | _,_,n+1,.cons _ t=>a0G.drop n t
def a3O:Option V→Option Value→Prop
 | some v,some u=>a0Q v u
 | none,none=>True
 | _,_=>False
def KV {κ:Type}:List (κ×V)→List (κ×Value)→Prop:=Paired fun (p:κ×V) (q:κ×Value)=>p.1=q.1∧a0Q p.2 q.2
def kV:Key→V
 | .inl i=>.int i
 | .inr x=>.str x
inductive HO where
 | lst (xs:List V)
 | tup (xs:List V)
 | dK (kvs:List (Key×V)) | dT (kvs:List (List Key×V))
 | set (S:Int→Bool) (n:Nat)
 | ins (C dx:Addr) (fs:List (Str×V))
 | own (x:Addr)
 | xd (fs:List (Str×V))
 | met (f x:Addr)
 | rng (lo hi:Int)
 | frz (o:Obj) (u:HO)
 | tbl (ps:Array Value)
 | ext (φ:Heap→Prop)
abbrev Hp:=Addr→Option HO
def upd (H:Hp) (a:Addr) (o:HO):Hp:=fun b=>if b=a then some o else H b
theorem a0g {H:Hp} {a:Addr} {o:HO}:upd H a o a=some o:=by unfold upd;rw [if_pos rfl]
theorem a0d {H:Hp} {a b:Addr} {o:HO} (h:b≠a):upd H a o b=H b:=by unfold upd;rw [if_neg h]
theorem b2w {H:Hp} {a:Addr} {o u:HO}:upd (upd H a o) a u=upd H a u:=by
 funext b;unfold upd;split<;>rfl
theorem a1O {H:Hp} {a b:Addr} {o u:HO} (h:H a=some o) (h':H b=some u) (d:o≠u):a≠b:=by
 intro e;subst e;rw [h] at h';exact d (Option.some.inj h')
theorem a0c {H:Hp} {a b:Addr} {o:HO} (h:H a=some o) (h':H b=none):a≠b:=by
 intro e;subst e;rw [h] at h';cases h'
section
variable (P:Program) (w:World)
def a1f (H:Hp) (h:Heap) (a:Addr):HO→Prop
 | .lst xs=>xs.length≤sizeLine∧∃(its:List Value) (n:Nat),a0G xs its∧h.get? a=some {cls:=.type "list",data:=.seq its.toArray n}
 | .tup xs=>xs.length≤sizeLine∧∃its:List Value,a0G xs its∧IsTup h a its.toArray
 | .dK kvs=>kvs.length≤sizeLine∧(a == sysModules)=false∧∃vs,KV kvs vs∧h.DictOf (a0N P w) a vs
 | .dT kvs=>kvs.length≤sizeLine∧(a == sysModules)=false∧∃xs:List (List Key×Addr×Value),
   Paired (fun (p:List Key×V) (q:List Key×Addr×Value)=>p.1=q.1∧H q.2.1=some (.tup (p.1.map kV))∧a0Q p.2 q.2.2) kvs xs∧
   ∃o es ep,h.get? a=some o∧o.ExactDict∧o.data=.dict es ep∧es.toList=xs.map (entryOfKey (tupleKind (a0N P w)))∧(xs.map (·.1)).Nodup
 | .set S n=>h.SetOf (intKind P w) a S n
 | .ins C dx fs=>H dx=some (.own a)∧fs.length≤1000∧dx≠a∧h.get? a=some (Zb C dx)∧
   ∃mA,h.Ns1 dx mA∧(∀f,a3O (fs.lookup f) (mA f))∧PySem.Within mA (fs.map (·.1))
 | .own _=>∃o,h.get? a=some o
 | .xd fs=>∃mA,h.Ns1 a mA∧∀f,a3O (fs.lookup f) (mA f)
 | .rng lo hi=>∃t u v,h.get? a=some {cls:=.type "range",data:=.fields #[.int lo t,.int hi u,.int 1 v]}
 | .frz o u=>h.get? a=some o∧a1f H h a u
 | .tbl ps=>h.get? a=some {cls:=.none,data:=.fields ps}
 | .met f x=>h.get? a=some (Ul (.ref f) (.ref x))
 | .ext φ=>φ h∧(∃o,h.get? a=some o)∧∀h1 h2:Heap,φ h1→(∀o,h1.get? a=some o→h2.get? a=some o)→φ h2
def HOk (H:Hp) (h:Heap):Prop:=∀a o,H a=some o→a1f P w H h a o
end
section
variable {P:Program} {w:World} {H H':Hp} {h h':Heap} {a:Addr} {o:HO}
theorem a1f.lt (x:a1f P w H h a o):a < h.objs.size:=by
 cases o with
 | lst xs=>obtain ⟨_,_,_,_,e⟩:=x;exact Qo e
 | tup xs=>obtain ⟨_,_,_,p⟩:=x;exact p.lt
 | dK kvs=>obtain ⟨_,_,_,_,o,_,_,e,_⟩:=x;exact Qo e
 | dT kvs=>obtain ⟨_,_,_,_,o,_,_,e,_⟩:=x;exact Qo e
 | set S n=>obtain ⟨o,_,_,_,e,_⟩:=x;exact Qo e
 | ins C dx fs=>obtain ⟨_,_,_,e,_⟩:=x;exact Qo e
 | own y=>obtain ⟨_,e⟩:=x;exact Qo e
 | xd fs=>obtain ⟨_,⟨_,_,_,e,_⟩,_⟩:=x;exact Qo e
 | rng lo hi=>obtain ⟨_,_,_,e⟩:=x;exact Qo e
 | frz ob u=>obtain ⟨e,_⟩:=x;exact Qo e
 | tbl ps=>exact Qo (show h.get? a=some _ from x)
 | met f y=>exact Qo (show h.get? a=some _ from x)
 | ext φ=>obtain ⟨_,⟨_,e⟩,_⟩:=x;exact Qo e
theorem Paired.mapP {α β:Type} {F G:α→β→Prop}:∀{l₁:List α} {l₂:List β},Paired F l₁ l₂→(∀a b,F a b→G a b)→Paired G l₁ l₂
 | _,_,.nil,_=>.nil
 | _,_,.cons r t,f=>.cons (f _ _ r) (Paired.mapP t f)
theorem a1f.stay (x:a1f P w H h a o) (k:∀b u,(b=a∨H b=some (.own a))→h.get? b=some u→h'.get? b=some u)
  (ho:∀b,H b=some (.own a)→H' b=some (.own a)) (ht:∀b xs,H b=some (.tup xs)→H' b=some (.tup xs)):a1f P w H' h' a o:=by
 induction o with
 | lst xs=>obtain ⟨z,its,n,r,e⟩:=x;exact ⟨z,its,n,r,k _ _ (.inl rfl) e⟩
 | tup xs=>obtain ⟨z,its,r,ob,e,c⟩:=x;exact ⟨z,its,r,ob,k _ _ (.inl rfl) e,c⟩
 | dK kvs=>obtain ⟨z,y,vs,r,ob,es,ep,e,c⟩:=x;exact ⟨z,y,vs,r,ob,es,ep,k _ _ (.inl rfl) e,c⟩
 | dT kvs=>
  obtain ⟨z,y,xs,r,ob,es,ep,e,c⟩:=x
  exact ⟨z,y,xs,Paired.mapP r fun p q z=>⟨z.1,ht _ _ z.2.1,z.2.2⟩,ob,es,ep,k _ _ (.inl rfl) e,c⟩
 | set S n=>obtain ⟨ob,es,ep,t,e,c⟩:=x;exact ⟨ob,es,ep,t,k _ _ (.inl rfl) e,c⟩
 | ins C dx fs=>
  obtain ⟨d,z,ne,e,mA,⟨od,es,ep,e2,c⟩,r⟩:=x
  exact ⟨ho _ d,z,ne,k _ _ (.inl rfl) e,mA,⟨od,es,ep,k _ _ (.inr d) e2,c⟩,r⟩
 | own y=>obtain ⟨ob,e⟩:=x;exact ⟨ob,k _ _ (.inl rfl) e⟩
 | xd fs=>obtain ⟨mA,⟨od,es,ep,e,c⟩,r⟩:=x;exact ⟨mA,⟨od,es,ep,k _ _ (.inl rfl) e,c⟩,r⟩
 | rng lo hi=>obtain ⟨t,u,v,e⟩:=x;exact ⟨t,u,v,k _ _ (.inl rfl) e⟩
 | frz ob u ih=>obtain ⟨e,q⟩:=x;exact ⟨k _ _ (.inl rfl) e,ih q⟩
 | tbl ps=>
  have e:h.get? a=some {cls:=.none,data:=.fields ps}:=x
  show h'.get? a=some {cls:=.none,data:=.fields ps}
  exact k a _ (.inl rfl) e
 | met f y=>
  have e:h.get? a=some (Ul (.ref f) (.ref y)):=x
  show h'.get? a=some (Ul (.ref f) (.ref y))
  exact k a _ (.inl rfl) e
 | ext φ=>obtain ⟨p,⟨o,e⟩,st⟩:=x;exact ⟨st _ _ p fun o q=>k _ _ (.inl rfl) q,⟨o,k _ _ (.inl rfl) e⟩,st⟩
theorem HOk.lt (x:HOk P w H h) (e:H a=some o):a < h.objs.size:=(x a o e).lt
theorem HOk.fresh (x:HOk P w H h) (e:h.objs.size≤a):H a=none:=by
 cases q:H a with
 | none=>rfl
 | some u=>exact absurd (Xj (x.lt q) e) (Jd _)
theorem HOk.kept (x:HOk P w H h) (k:∀b u,h.get? b=some u→h'.get? b=some u):HOk P w H h':=fun a o e=>
 (x a o e).stay (fun b u _ q=>k b u q) (fun _ q=>q) fun _ _ q=>q
theorem HOk.laid (x:HOk P w H h) (k:∀b u,h.get? b=some u→h'.get? b=some u) (hp:h.objs.size≤a) (new:a1f P w (upd H a o) h' a o):HOk P w (upd H a o) h':=fun b u e=>by
 have hn:=x.fresh hp
 by_cases hb:b=a
 ·subst hb;rw [a0g] at e;cases e;exact new
 ·rw [a0d hb] at e
  exact (x b u e).stay (fun c v _ q=>k c v q) (fun c q=>by rw [a0d (a0c q hn)];exact q) fun c xs q=>by rw [a0d (a0c q hn)];exact q
end
def Rd (H:Hp) (a:Addr) (u:HO):Prop:=H a=some u∨∃o,H a=some (.frz o u)
theorem Rd.ok {P:Program} {w:World} {H:Hp} {h:Heap} {a:Addr} {u:HO} (r:Rd H a u) (x:HOk P w H h):a1f P w H h a u:=by
 rcases r with r | ⟨o,r⟩
 ·exact x a u r
 ·obtain ⟨_,q⟩:=x a _ r
  exact q
def Mut:Option HO→Prop
 | some (.lst _)=>True
 | some (.dK _)=>True
 | some (.dT _)=>True
 | some (.set _ _)=>True
 | some (.ins _ _ _)=>True
 | some (.ext _)=>True
 | _=>False
section
variable {P:Program} {w:World} {H:Hp} {h h':Heap} {x e:Addr} {o':HO}
theorem HOk.write (ok:HOk P w H h) (mu:Mut (H x)) (he:e=x∨H e=some (.own x)) (k:∀b u,b≠e→h.get? b=some u→h'.get? b=some u) (heo:∃u,h'.get? e=some u)
  (new:a1f P w (upd H x o') h' x o'):HOk P w (upd H x o') h':=fun b u q=>by
 have nown:∀c y,H c=some (.own y)→c≠x:=fun c y r z=>by subst z;rw [r] at mu;exact mu
 have ntup:∀c xs,H c=some (.tup xs)→c≠x:=fun c xs r z=>by subst z;rw [r] at mu;exact mu
 by_cases hb:b=x
 ·subst hb;rw [a0g] at q;cases q;exact new
 ·rw [a0d hb] at q
  by_cases hbe:b=e
  ·have q':H b=some (.own x):=by
    rcases he with z | z
    ·exact absurd (hbe.trans z) hb
    ·rw [hbe];exact z
   rw [q] at q';cases q'
   obtain ⟨v,hv⟩:=heo
   exact ⟨v,by rw [hbe];exact hv⟩
  ·refine (ok b u q).stay (fun c v hc r=>k c v ?_ r) (fun c r=>by rw [a0d (nown c b r)];exact r) fun c xs r=>by rw [a0d (ntup c xs r)];exact r
   rcases hc with rfl | hc
   ·exact hbe
   ·rintro rfl
    rcases he with z | z
    ·exact nown c b hc z
    ·rw [hc] at z;cases z;exact hb rfl
end
structure Un (fs ex:List Addr) (H H':Hp) (h h':Heap):Prop where
 keep:∀b o,h.get? b=some o→H b=none→b∉fs→b∉ex→h'.get? b=some o
 slot:∀b o,h.get? b=some o→H b=none→b∈fs→b∉ex→∃sl,h'.get? b=some {o with slots:=sl}
 free:∀b o,h.get? b=some o→H b=none→b∉ex→H' b=none
 there:∀b o,h.get? b=some o→b∉ex→∃o',h'.get? b=some o'
 tups:∀b xs,H b=some (.tup xs)→H' b=some (.tup xs)
 frzs:∀b o u,H b=some (.frz o u)→H' b=some (.frz o u)
 tbls:∀b ps,H b=some (.tbl ps)→∃more,H' b=some (.tbl (ps++more))
section
variable {fs fs' ex ex':List Addr} {H H1 H2:Hp} {h h1 h2 h':Heap} {a x e:Addr} {o:HO}
theorem Un.any (u:Un fs ex H H1 h h1) {b:Addr} {ob:Obj} (q:h.get? b=some ob) (n:H b=none) (hx:b∉ex):∃sl,h1.get? b=some {ob with slots:=sl}:=by
 by_cases hb:b∈fs
 ·exact u.slot b ob q n hb hx
 ·exact ⟨ob.slots,u.keep b ob q n hb hx⟩
theorem Un.trans (a:Un fs ex H H1 h h1) (b:Un fs ex H1 H2 h1 h2):Un fs ex H H2 h h2 where
 keep:=fun c ob q n hc hx=>b.keep c ob (a.keep c ob q n hc hx) (a.free c ob q n hx) hc hx
 slot:=fun c ob q n hc hx=>by
  obtain ⟨sl,e1⟩:=a.slot c ob q n hc hx
  obtain ⟨sl',e2⟩:=b.slot c _ e1 (a.free c ob q n hx) hc hx
  exact ⟨sl',e2⟩
 free:=fun c ob q n hx=>by
  obtain ⟨o',e1⟩:=a.there c ob q hx
  exact b.free c o' e1 (a.free c ob q n hx) hx
 there:=fun c ob q hx=>by
  obtain ⟨o',e1⟩:=a.there c ob q hx
  exact b.there c o' e1 hx
 tups:=fun c xs q=>b.tups c xs (a.tups c xs q)
 frzs:=fun c ob xs q=>b.frzs c ob xs (a.frzs c ob xs q)
 tbls:=fun c ps q=>by
  obtain ⟨m1,e1⟩:=a.tbls c ps q
  obtain ⟨m2,e2⟩:=b.tbls c _ e1
  exact ⟨m1++m2,by rw [e2,Wh]⟩
theorem Un.kept (k:∀b u,h.get? b=some u→h'.get? b=some u):Un fs ex H H h h':=
 ⟨fun b ob q _ _ _=>k b ob q,fun b ob q _ _ _=>⟨ob.slots,k b ob q⟩,fun _ _ _ n _=>n,fun b ob q _=>⟨ob,k b ob q⟩,fun _ _ q=>q,fun _ _ _ q=>q,fun _ ps q=>⟨#[],by rw [q];simp⟩⟩
theorem Un.refl:Un fs ex H H h h:=Un.kept fun _ _ q=>q
theorem Un.laid (k:∀b u,h.get? b=some u→h'.get? b=some u) (hp:h.objs.size≤a) (hn:H a=none):Un fs ex H (upd H a o) h h' where
 keep:=fun b u q _ _ _=>k b u q
 slot:=fun b u q _ _ _=>⟨u.slots,k b u q⟩
 free:=fun b u q n _=>by rw [a0d (Qt (Xj (Qo q) hp))];exact n
 there:=fun b u q _=>⟨u,k b u q⟩
 tups:=fun b xs q=>by rw [a0d (a0c q hn)];exact q
 frzs:=fun b u xs q=>by rw [a0d (a0c q hn)];exact q
 tbls:=fun b ps q=>⟨#[],by rw [a0d (a0c q hn),q];simp⟩
theorem Un.write (mu:Mut (H x)) (he:e=x∨H e=some (.own x)) (k:∀b u,b≠e→h.get? b=some u→h'.get? b=some u) (heo:∃u,h'.get? e=some u):Un fs ex H (upd H x o) h h':=by
 have hx:∀b,H b=none→b≠x:=fun b n z=>by subst z;rw [n] at mu;exact mu
 have hb:∀b,H b=none→b≠e:=fun b n z=>by
  subst z
  rcases he with r | r
  ·exact hx b n r
  ·rw [n] at r;cases r
 have hm:∀b u,H b=some u→¬Mut (some u)→b≠x:=fun b u q nm z=>by subst z;rw [q] at mu;exact nm mu
 refine ⟨fun b u q n _ _=>k b u (hb b n) q,fun b u q n _ _=>⟨u.slots,k b u (hb b n) q⟩,fun b u q n _=>by rw [a0d (hx b n)];exact n,fun b u q _=>?_,
  fun b xs q=>by rw [a0d (hm b _ q fun z=>z)];exact q,fun b u xs q=>by rw [a0d (hm b _ q fun z=>z)];exact q,fun b ps q=>⟨#[],by rw [a0d (hm b _ q fun z=>z),q];simp⟩⟩
 by_cases hbe:b=e
 ·subst hbe;exact heo
 ·exact ⟨u,k b u hbe q⟩
end
def trk (h:Heap) (H:Hp):List Addr:=(Yi h.objs.size).filter fun a=>(H a).isSome
def b0K (h:Heap) (H:Hp):Heap:=PySem.W.hideAll h (trk h H)
theorem a7N (h:Heap) (H:Hp):(b0K h H).objs.size=h.objs.size:=PySem.W.hideAll_size _ _
theorem b0H {h:Heap} {H:Hp} {b:Addr} {o:Obj} (e:h.get? b=some o) (n:H b=none):(b0K h H).get? b=some o:=
 PySem.W.hideAll_get _ e fun hm=>by
  have q:(H b).isSome=true:=(Xn.mp hm).2
  rw [n] at q;simp at q
theorem b3b {h:Heap} {H:Hp} {b:Addr} {o:Obj} (e:(b0K h H).get? b=some o):h.get? b=some o∧H b=none:=by
 have e':h.get? b=some o:=PySem.W.of_hideAll (trk h H) e
 refine ⟨e',?_⟩
 cases q:H b with
 | none=>rfl
 | some x=>
  have hm:b∈trk h H:=Xn.mpr ⟨Vo.mpr (Qo e'),by simp [q]⟩
  have z:(b0K h H).get? b=none:=PySem.W.hideAll_none (trk h H) hm
  rw [z] at e;cases e
def b2h (g h:Heap) (L:Addr):List (Addr×Obj):=(Yi h.objs.size).filterMap fun a=>if a=L∨(g.get? a).isSome=true then none else (h.get? a).map fun o=>(a,o)
def a3n (g h:Heap) (L d:Addr):List (Addr×Obj):=(b2h g h L).filter fun p=>decide (p.1≠d)
structure Mod (K:Qc) (mg:Str→Option Value) (base:Heap):Prop where
 kin:K.In base
 glob:base.Ns mainGlobals mg
 blt:∃mb,base.Ns builtinsNs mb∧∀x:Str,x≠"__name__"→mb x=bootBuiltins x
 nolimit:base.NoLimit
structure Cx where
 prog:Program
 w:World
 K:Qc
 mg:Str→Option Value
 base:Heap
 A:Around
 N:List Str
 s₀:Shared
 H₀:Hp
 env:Env
 outer:List Env
 stack:List Env
 ex:List Addr
 fn:Str→Bool
 calm:Bool
 pn:List (Addr×Obj)
 xe:Value→Shared→Prop
def frs (l:List Env):List Addr:=l.filterMap (·.frame)
abbrev Cx.fs (X:Cx):List Addr:=frs X.outer
def Vis (sc:Scope) (x:Str):Prop:=sc.names.lookup x=some .local∨sc.names.lookup x=some .cell∨sc.names.lookup x=some .free
def Loc (sc:Scope) (x:Str):Prop:=sc.names.lookup x=some .local∨sc.names.lookup x=some .cell
def c2F (env:Env) (h:Heap) (m:Str→Option Value) (x:Str) (u:Value):Prop:=
 (env.kindOf x=some .local∧m x=some u)∨((env.kindOf x=some .cell∨env.kindOf x=some .free)∧∃c,env.cells.lookup x=some c∧h.IsCell c (some u))
structure Cx.Ok (X:Cx):Prop where
 mod:Mod X.K X.mg X.base
 kind:X.env.scope.kind=.function
 glob:X.env.globals=mainGlobals
 blt:X.env.builtins=builtinsNs
 above:X.s₀.heap.objs.size≤X.env.locals
 inj:∀x y c,X.env.cells.lookup x=some c→X.env.cells.lookup y=some c→x=y
 has:∀x,(X.env.kindOf x=some .cell∨X.env.kindOf x=some .free)→∃c,X.env.cells.lookup x=some c
 cab:∀x c,X.fn x=true→X.env.cells.lookup x=some c→X.s₀.heap.objs.size≤c
 hd:X.calm=true→X.A.handled=none
 frames:X.A.frames=some X.stack
 stk:X.stack=X.outer∨(X.stack=X.env::X.outer∧X.env.frame=some X.env.locals)
 exf:∀b∈X.ex,b≠X.env.locals∧∀x c,X.env.cells.lookup x=some c→c≠b
 bs:∀b o,X.base.get? b=some o→X.s₀.heap.get? b=some o∧X.H₀ b=none
 bsz:X.base.objs.size≤X.s₀.heap.objs.size
 noex:∀b o,X.base.get? b=some o→b∉X.ex
 exfs:∀b∈X.ex,b∉X.fs
 funs:X.s₀.heap.FunFrames X.base X.outer
 frf:∀b∈X.fs,X.H₀ b=none
structure Inv (X:Cx) (pins:List (Addr×Obj)) (σ:List (Option V)) (H:Hp) (s:Shared):Prop where
 ok:X.Ok
 os:s.os=X.s₀.os
 bare:AllBare s.gens
 base:Un X.fs X.ex X.H₀ H X.s₀.heap s.heap
 loc:∃m,s.heap.Ns X.env.locals m∧∀(i:Nat) (x:Str) (v:V),X.N[i]?=some x→σ[i]?=some (some v)→Vis X.env.scope x→∃u,a0Q v u∧c2F X.env s.heap m x u
 cell:∀x c,X.env.cells.lookup x=some c→∃v,s.heap.IsCell c v
 free:H X.env.locals=none
 freeC:∀x c,X.env.cells.lookup x=some c→H c=none
 pin:∀p∈X.pn++pins,s.heap.get? p.1=some p.2∧H p.1=none∧p.1≠X.env.locals∧p.1∉X.fs∧∀v,p.2.data≠.cell v
 hok:HOk X.prog X.w H s.heap
 len:σ.length=X.N.length
section
variable {X:Cx} {pins:List (Addr×Obj)} {σ:List (Option V)} {H H':Hp} {s:Shared} {h':Heap}
theorem Cx.Ok.nofr (ok:X.Ok) {b:Addr} {o:Obj} (e:X.base.get? b=some o):b∉X.fs:=fun hb=>by
 have:=(ok.funs.mem hb).1
 rw [e] at this;cases this
theorem Inv.bs (I:Inv X pins σ H s):∀b o,X.base.get? b=some o→s.heap.get? b=some o∧H b=none:=fun b o e=>
 ⟨I.base.keep b o (I.ok.bs b o e).1 (I.ok.bs b o e).2 (I.ok.nofr e) (I.ok.noex b o e),I.base.free b o (I.ok.bs b o e).1 (I.ok.bs b o e).2 (I.ok.noex b o e)⟩
theorem Inv.bk (I:Inv X pins σ H s):∀b o,X.base.get? b=some o→s.heap.get? b=some o:=fun b o e=>(I.bs b o e).1
theorem Inv.mod (I:Inv X pins σ H s):Mod X.K X.mg X.base:=I.ok.mod
theorem Inv.kIn (I:Inv X pins σ H s):X.K.In s.heap:=I.ok.mod.kin.keeps I.bk
theorem Inv.lt (I:Inv X pins σ H s):X.env.locals < s.heap.objs.size:=let ⟨_,hn,_⟩:=I.loc;hn.lt
theorem Inv.sz (I:Inv X pins σ H s):X.s₀.heap.objs.size≤s.heap.objs.size:=Qi I.ok.above (Wi I.lt)
theorem Inv.nofs (I:Inv X pins σ H s) {a:Addr} (h:s.heap.objs.size≤a):a∉X.fs:=fun hb=>by
 obtain ⟨_,o,ho,_⟩:=I.ok.funs.mem hb
 exact absurd (Xj (Qo ho) (Qi I.sz h)) (Jd _)
theorem Inv.cne (I:Inv X pins σ H s):∀x c,X.env.cells.lookup x=some c→c≠X.env.locals:=fun x c e z=>by
 obtain ⟨v,o,ho,hd⟩:=I.cell x c e
 obtain ⟨m,⟨o',es,ep,ho',hd',_⟩,_⟩:=I.loc
 rw [z,ho'] at ho;cases ho;rw [hd'] at hd;cases hd
theorem Inv.funs (I:Inv X pins σ H s):s.heap.FunFrames X.base X.outer:=by
 have all:∀(l:List Env),(∀b∈frs l,b∈X.fs)→X.s₀.heap.FunFrames X.base l→s.heap.FunFrames X.base l:=by
  intro l
  induction l with
  | nil=>intro _ _;trivial
  | cons env r ih=>
   intro hs hl
   obtain ⟨hk,⟨L,o,hf,hn,ho,hd⟩,hr⟩:=hl
   have hL:L∈X.fs:=hs L (by unfold frs;rw [Jz,hf];exact Qu)
   obtain ⟨sl,e⟩:=I.base.slot L o ho (I.ok.frf L hL) hL fun z=>I.ok.exfs L z hL
   exact ⟨hk,⟨L,_,hf,hn,e,hd⟩,ih (fun b hb=>hs b (by unfold frs;rw [Jz,hf];exact Qs _ hb)) hr⟩
 exact all X.outer (fun _ hb=>hb) I.ok.funs
theorem Inv.stack (I:Inv X pins σ H s):s.heap.FunFrames X.base X.stack:=by
 rcases I.ok.stk with e | ⟨e,hf⟩
 ·rw [e];exact I.funs
 ·rw [e]
  obtain ⟨m,hn,_⟩:=I.loc
  refine .cons (by rw [I.ok.kind];decide) hf hn ?_ I.funs
  exact Heap.get?_none_of_le (Qi I.ok.bsz I.ok.above)
theorem Inv.stkSub (I:Inv X pins σ H s):∀b∈frs X.stack,b∈X.env.locals::X.fs:=fun b hb=>by
 rcases I.ok.stk with e | ⟨e,hf⟩
 ·rw [e] at hb;exact Qs _ hb
 ·rw [e] at hb
  unfold frs at hb
  rw [Jz,hf] at hb
  exact hb
theorem Inv.stkFree (I:Inv X pins σ H s):∀b∈frs X.stack,H b=none:=fun b hb=>by
 rcases Qw.mp (I.stkSub b hb) with e | hb
 ·rw [e];exact I.free
 ·obtain ⟨_,o,ho,_⟩:=I.ok.funs.mem hb
  exact I.base.free b o ho (I.ok.frf b hb) fun z=>I.ok.exfs b z hb
theorem Inv.step {g':Array GenState} {t':Nat} {d':Drawn} {ch:List Addr} (I:Inv X pins σ H s)
  (hch:∀b∈ch,(b∈X.ex∨X.s₀.heap.objs.size≤b)∧b≠X.env.locals∧(∀x c,X.env.cells.lookup x=some c→c≠b)∧∀p∈X.pn++pins,p.1≠b)
  (keep:∀b o,b≠X.env.locals→b∉X.fs→b∉ch→s.heap.get? b=some o→H b=none→h'.get? b=some o)
  (slot:∀b o,b≠X.env.locals→b∈X.fs→b∉ch→s.heap.get? b=some o→H b=none→∃sl,h'.get? b=some {o with slots:=sl}) (free:∀b o,b∉ch→s.heap.get? b=some o→H b=none→H' b=none)
  (there:∀b o,b∉ch→s.heap.get? b=some o→∃o',h'.get? b=some o')
  (tups:∀b xs,H b=some (.tup xs)→H' b=some (.tup xs)) (frzs:∀b o u,H b=some (.frz o u)→H' b=some (.frz o u)) (tbls:∀b ps,H b=some (.tbl ps)→∃more,H' b=some (.tbl (ps++more)))
  (ns:∀m,s.heap.Ns X.env.locals m→h'.Ns X.env.locals m) (hok:HOk X.prog X.w H' h') (hg:AllBare g'):
  Inv X pins σ H' {s with heap:=h',gens:=g',drawn:=d',toks:=t'}:=by
 have neL:∀b o,X.s₀.heap.get? b=some o→b≠X.env.locals:=fun b o e=>Qt (Xj (Qo e) I.ok.above)
 have neC:∀b o,X.s₀.heap.get? b=some o→b∉X.ex→b∉ch:=fun b o e hx hb=>by
  rcases (hch b hb).1 with z | z
  ·exact hx z
  ·exact absurd (Xj (Qo e) z) (Jd _)
 have cellK:∀x c,X.env.cells.lookup x=some c→∀v,s.heap.IsCell c v→h'.IsCell c v:=fun x c e v ⟨o,ho,hd⟩=>by
  have nch:c∉ch:=fun z=>(hch c z).2.2.1 x c e rfl
  by_cases hc:c∈X.fs
  ·obtain ⟨sl,q⟩:=slot c o (I.cne x c e) hc nch ho (I.freeC x c e)
   exact ⟨_,q,hd⟩
  ·exact ⟨o,keep c o (I.cne x c e) hc nch ho (I.freeC x c e),hd⟩
 refine ⟨I.ok,I.os,hg,⟨fun b o e n hb hx=>?_,fun b o e n hb hx=>?_,fun b o e n hx=>?_,fun b o e hx=>?_,fun b xs e=>tups b xs (I.base.tups b xs e),fun b o xs e=>frzs b o xs (I.base.frzs b o xs e),fun b ps e=>?_⟩,?_,fun x c e=>?_,?_,fun x c e=>?_,fun p hp=>?_,hok,I.len⟩
 ·exact keep b o (neL b o e) hb (neC b o e hx) (I.base.keep b o e n hb hx) (I.base.free b o e n hx)
 ·obtain ⟨sl,e1⟩:=I.base.slot b o e n hb hx
  obtain ⟨sl',e2⟩:=slot b _ (neL b o e) hb (neC b o e hx) e1 (I.base.free b o e n hx)
  exact ⟨sl',e2⟩
 ·obtain ⟨o',e1⟩:=I.base.there b o e hx
  exact free b o' (neC b o e hx) e1 (I.base.free b o e n hx)
 ·obtain ⟨o',e1⟩:=I.base.there b o e hx
  exact there b o' (neC b o e hx) e1
 ·obtain ⟨m1,e1⟩:=I.base.tbls b ps e
  obtain ⟨m2,e2⟩:=tbls b _ e1
  exact ⟨m1++m2,by rw [e2,Wh]⟩
 ·obtain ⟨m,hn,hl⟩:=I.loc
  refine ⟨m,ns m hn,fun i x v e1 e2 e3=>?_⟩
  obtain ⟨u,r,l⟩:=hl i x v e1 e2 e3
  refine ⟨u,r,?_⟩
  rcases l with l | ⟨k,c,e,z⟩
  ·exact .inl l
  ·exact .inr ⟨k,c,e,cellK x c e _ z⟩
 ·obtain ⟨v,z⟩:=I.cell x c e
  exact ⟨v,cellK x c e v z⟩
 ·obtain ⟨m,⟨o,_,_,ho,_⟩,_⟩:=I.loc
  exact free _ o (fun z=>(hch _ z).2.1 rfl) ho I.free
 ·obtain ⟨v,o,ho,hd⟩:=I.cell x c e
  exact free c o (fun z=>(hch c z).2.2.1 x c e rfl) ho (I.freeC x c e)
 ·obtain ⟨e,n,ne,nf,d⟩:=I.pin p hp
  have nch:p.1∉ch:=fun z=>(hch p.1 z).2.2.2 p hp rfl
  exact ⟨keep p.1 p.2 ne nf nch e n,free p.1 p.2 nch e n,ne,nf,d⟩
theorem Inv.un {t':Nat} (I:Inv X pins σ H s) (u:Un X.fs [] H H' s.heap h') (hok:HOk X.prog X.w H' h'):Inv X pins σ H' {s with heap:=h',toks:=t'}:=by
 obtain ⟨m,⟨o,es,ep,ho,r⟩,_⟩:=id I.loc
 obtain ⟨sl,hL⟩:=u.any ho I.free (by simp)
 exact I.step (g':=s.gens) (d':=s.drawn) (ch:=[]) (fun _ z=>nomatch z) (fun b o _ hb _ e n=>u.keep b o e n hb (by simp)) (fun b o _ hb _ e n=>u.slot b o e n hb (by simp)) (fun b o _ e n=>u.free b o e n (by simp)) (fun b o _ e=>u.there b o e (by simp)) u.tups u.frzs u.tbls (fun m' hm=>by
  obtain ⟨o',es',ep',ho',r'⟩:=hm
  rw [ho] at ho';cases ho'
  exact ⟨_,es',ep',hL,r'⟩) hok I.bare
theorem Inv.call {g':Array GenState} {t':Nat} {d':Drawn} {ch:List Addr} (I:Inv X pins σ H s) (u:Un (frs X.stack) ch H H' s.heap h') (hok:HOk X.prog X.w H' h') (hg:AllBare g')
  (hch:∀b∈ch,(b∈X.ex∨X.s₀.heap.objs.size≤b)∧b≠X.env.locals∧(∀x c,X.env.cells.lookup x=some c→c≠b)∧∀p∈X.pn++pins,p.1≠b):
  Inv X pins σ H' {s with heap:=h',gens:=g',drawn:=d',toks:=t'}:=by
 obtain ⟨m,⟨o,es,ep,ho,r⟩,_⟩:=id I.loc
 obtain ⟨sl,hL⟩:=u.any ho I.free fun z=>(hch _ z).2.1 rfl
 exact I.step (ch:=ch) hch (fun b o hL hb hc e n=>u.keep b o e n (fun z=>(Qw.mp (I.stkSub b z)).elim hL hb) hc) (fun b o _ _ hc e n=>u.any e n hc) (fun b o hc e n=>u.free b o e n hc) (fun b o hc e=>u.there b o e hc) u.tups u.frzs u.tbls (fun m' hm=>by
  obtain ⟨o',es',ep',ho',r'⟩:=hm
  rw [ho] at ho';cases ho'
  exact ⟨_,es',ep',hL,r'⟩) hok hg
theorem Inv.turned {t':Nat} {it:Addr} (I:Inv X pins σ H s) (k:∀b o,b≠it→s.heap.get? b=some o→h'.get? b=some o) (hn:H it=none) (hL:it≠X.env.locals)
  (h1:it∈X.ex∨X.s₀.heap.objs.size≤it) (h2:∀x c,X.env.cells.lookup x=some c→c≠it) (h3:∀p∈X.pn++pins,p.1≠it):Inv X pins σ H {s with heap:=h',toks:=t'}:=by
 have nit:∀b u,H b=some u→b≠it:=fun b u e z=>by rw [z,hn] at e;cases e
 refine I.step (g':=s.gens) (d':=s.drawn) (ch:=[it]) (fun b hb=>?_) (fun b o _ _ hc e _=>k b o (fun z=>hc (by simp [z])) e) (fun b o _ _ hc e _=>⟨o.slots,k b o (fun z=>hc (by simp [z])) e⟩) (fun _ _ _ _ n=>n)
  (fun b o hc e=>⟨o,k b o (fun z=>hc (by simp [z])) e⟩) (fun _ _ e=>e) (fun _ _ _ e=>e) (fun b ps e=>⟨#[],by rw [e];simp⟩) (fun m hm=>?_) (fun b u e=>?_) I.bare
 ·have e:b=it:=by simpa using hb
  subst e
  exact ⟨h1,hL,h2,h3⟩
 ·obtain ⟨o,es,ep,ho,r⟩:=hm
  exact ⟨o,es,ep,k _ o (Ne.symm hL) ho,r⟩
 ·refine (I.hok b u e).stay (fun c v hc q=>k c v ?_ q) (fun _ q=>q) fun _ _ q=>q
  rcases hc with z | z
  ·rw [z];exact nit b u e
  ·exact nit c _ z
theorem Inv.tok (I:Inv X pins σ H s) (t:Nat):Inv X pins σ H {s with toks:=t}:=I.un (h':=s.heap) (t':=t) Un.refl I.hok
theorem Inv.kept {t':Nat} (I:Inv X pins σ H s) (k:∀b u,s.heap.get? b=some u→h'.get? b=some u):Inv X pins σ H {s with heap:=h',toks:=t'}:=I.un (Un.kept k) (I.hok.kept k)
theorem Inv.laid {a:Addr} {o:HO} {t':Nat} (I:Inv X pins σ H s) (k:∀b u,s.heap.get? b=some u→h'.get? b=some u) (hp:s.heap.objs.size≤a) (new:a1f X.prog X.w (upd H a o) h' a o):
  Inv X pins σ (upd H a o) {s with heap:=h',toks:=t'}:=I.un (Un.laid k hp (I.hok.fresh hp)) (I.hok.laid k hp new)
theorem Inv.write {x e:Addr} {o:HO} {t':Nat} (I:Inv X pins σ H s) (mu:Mut (H x)) (he:e=x∨H e=some (.own x)) (k:∀b u,b≠e→s.heap.get? b=some u→h'.get? b=some u) (heo:∃u,h'.get? e=some u)
  (new:a1f X.prog X.w (upd H x o) h' x o):Inv X pins σ (upd H x o) {s with heap:=h',toks:=t'}:=I.un (Un.write mu he k heo) (I.hok.write mu he k heo new)
theorem Inv.pins_of {pins':List (Addr×Obj)} (I:Inv X pins σ H s) (h:∀p∈pins',s.heap.get? p.1=some p.2∧H p.1=none∧p.1≠X.env.locals∧p.1∉X.fs∧∀v,p.2.data≠.cell v):Inv X pins' σ H s:=
 ⟨I.ok,I.os,I.bare,I.base,I.loc,I.cell,I.free,I.freeC,fun p hp=>(Xq.mp hp).elim (fun z=>I.pin p (Zc _ z)) (h p),I.hok,I.len⟩
theorem a6j {N:List Str} (hN:N.Nodup) {i j:Nat} {x:Str} (a:N[i]?=some x) (b:N[j]?=some x):i=j:=by
 obtain ⟨h1,e1⟩:=Qy.mp a
 obtain ⟨h2,e2⟩:=Qy.mp b
 exact (List.getElem_inj hN).mp (e1.trans e2.symm)
theorem a4S {M:Model} {A:Around} {E:Value→Shared→Prop} {i:Nat} {x:Str} {v:V} {u:Value} {Q:Unit→Shared→Prop} (I:Inv X pins σ H s) (hN:X.N.Nodup) (hi:X.N[i]?=some x) (hx:Loc X.env.scope x) (r:a0Q v u)
  (h:∀s',Inv X pins (σ.set i (some v)) H s'→(∃a,Us a s.heap s'.heap∧(a=X.env.locals∨X.env.cells.lookup x=some a))→Q () s') (hf:X.fn x=true∨X.env.scope.names.lookup x=some .local:=by first | exact .inl rfl | exact .inr rfl | assumption):wpAny M A (storeName X.env x u) Q E s:=by
 obtain ⟨m,hn,hl⟩:=id I.loc
 have hcls:(X.env.scope.kind == .class || (X.env.scope.kind == .module && X.env.locals != X.env.globals))=false:=by rw [I.ok.kind];rfl
 have hiσ:i < σ.length:=by rw [I.len];exact (Qy.mp hi).1
 have cne:=I.cne
 have tracked:∀{a:Addr} {h':Heap},(∃o,s.heap.get? a=some o∧H a=none)→Us a s.heap h'→HOk X.prog X.w H h':=fun {a h'} ha hs b ob e=>by
  obtain ⟨_,_,hfree⟩:=ha
  refine (I.hok b ob e).stay (fun c w' hc q=>(hs.2 c ?_).trans q) (fun _ q=>q) fun _ _ q=>q
  rintro rfl
  rcases hc with rfl | hc
  ·rw [hfree] at e;cases e
  ·rw [hfree] at hc;cases hc
 rcases hx with hk | hk
 ·refine wpAny_storeName_local hk hn (fun h' hn' hs=>?_) hcls
  obtain ⟨oL,_,_,hoL,_⟩:=id hn
  refine h _ ⟨I.ok,I.os,I.bare,⟨fun b o e n hb hx=>?_,fun b o e n hb hx=>?_,I.base.free,fun b o e hx=>?_,I.base.tups,I.base.frzs,I.base.tbls⟩,⟨_,hn',fun j y v' e1 e2 e3=>?_⟩,fun y c e=>?_,I.free,I.freeC,fun p hp=>?_,tracked ⟨oL,hoL,I.free⟩ hs,by simpa using I.len⟩ ⟨_,hs,.inl rfl⟩
  ·exact (hs.2 b (Qt (Xj (Qo e) I.ok.above))).trans (I.base.keep b o e n hb hx)
  ·obtain ⟨sl,e1⟩:=I.base.slot b o e n hb hx
   exact ⟨sl,(hs.2 b (Qt (Xj (Qo e) I.ok.above))).trans e1⟩
  ·obtain ⟨o',e1⟩:=I.base.there b o e hx
   exact ⟨o',(hs.2 b (Qt (Xj (Qo e) I.ok.above))).trans e1⟩
  ·by_cases hj:j=i
   ·subst hj
    rw [hi] at e1;cases e1
    rw [Vi hiσ] at e2
    cases e2
    exact ⟨u,r,.inl ⟨hk,by simp⟩⟩
   ·rw [Vu (Ne.symm hj)] at e2
    obtain ⟨u',r',q⟩:=hl j y v' e1 e2 e3
    refine ⟨u',r',?_⟩
    rcases q with ⟨k,e⟩ | ⟨k,c,e,z⟩
    ·refine .inl ⟨k,?_⟩
     have:y≠x:=fun e=>hj (a6j hN e1 (e ▸ hi))
     simp [this,e]
    ·exact .inr ⟨k,c,e,z.sameBut hs (cne y c e)⟩
  ·obtain ⟨w',z⟩:=I.cell y c e
   exact ⟨w',z.sameBut hs (cne y c e)⟩
  ·obtain ⟨e,n,ne,nf,d⟩:=I.pin p hp
   exact ⟨(hs.2 p.1 ne).trans e,n,ne,nf,d⟩
 ·have hfn:X.fn x=true:=by
   rcases hf with z | z
   ·exact z
   ·rw [z] at hk;cases hk
  obtain ⟨c,hc⟩:=I.ok.has x (.inl hk)
  obtain ⟨w',z⟩:=I.cell x c hc
  refine wpAny_storeName_cell I.ok.kind hk hc z (fun h' hc' hs=>?_)
  obtain ⟨oc,hoc,hocd⟩:=id z
  refine h {s with heap:=h'} ⟨I.ok,I.os,I.bare,⟨fun b o e n hb hx=>?_,fun b o e n hb hx=>?_,I.base.free,fun b o e hx=>?_,I.base.tups,I.base.frzs,I.base.tbls⟩,⟨m,hn.sameBut hs (Ne.symm (cne x c hc)),fun j y v' e1 e2 e3=>?_⟩,fun y c' e=>?_,I.free,I.freeC,fun p hp=>?_,tracked ⟨oc,hoc,I.freeC x c hc⟩ hs,by simpa using I.len⟩ ⟨c,hs,.inr hc⟩
  ·exact (hs.2 b (Qt (Xj (Qo e) (I.ok.cab x c hfn hc)))).trans (I.base.keep b o e n hb hx)
  ·obtain ⟨sl,e1⟩:=I.base.slot b o e n hb hx
   exact ⟨sl,(hs.2 b (Qt (Xj (Qo e) (I.ok.cab x c hfn hc)))).trans e1⟩
  ·obtain ⟨o',e1⟩:=I.base.there b o e hx
   exact ⟨o',(hs.2 b (Qt (Xj (Qo e) (I.ok.cab x c hfn hc)))).trans e1⟩
  ·by_cases hj:j=i
   ·subst hj
    rw [hi] at e1;cases e1
    rw [Vi hiσ] at e2
    cases e2
    exact ⟨u,r,.inr ⟨.inl hk,c,hc,hc'⟩⟩
   ·rw [Vu (Ne.symm hj)] at e2
    obtain ⟨u',r',q⟩:=hl j y v' e1 e2 e3
    refine ⟨u',r',?_⟩
    rcases q with q | ⟨k,c',e,z'⟩
    ·exact .inl q
    ·refine .inr ⟨k,c',e,z'.sameBut hs ?_⟩
     rintro rfl
     exact hj (a6j hN e1 (I.ok.inj _ _ _ e hc ▸ hi))
  ·by_cases hcc:c'=c
   ·subst hcc;exact ⟨_,hc'⟩
   ·obtain ⟨w2,z2⟩:=I.cell y c' e
    exact ⟨w2,z2.sameBut hs hcc⟩
  ·obtain ⟨e,n,ne,nf,d⟩:=I.pin p hp
   refine ⟨(hs.2 p.1 ?_).trans e,n,ne,nf,d⟩
   intro q
   rw [q,hoc] at e
   have q':oc=p.2:=Option.some.inj e
   exact d w' (by rw [←q'];exact hocd)
theorem a5s {M:Model} {A:Around} {E:Value→Shared→Prop} {i:Nat} {x:Str} {v:V} {u:Value} {Q:Unit→Shared→Prop} (I:Inv X pins σ H s) (hN:X.N.Nodup) (hi:X.N[i]?=some x) (hx:Loc X.env.scope x) (r:a0Q v u)
  (h:∀s',Inv X pins (σ.set i (some v)) H s'→Q () s') (hf:X.fn x=true∨X.env.scope.names.lookup x=some .local:=by first | exact .inl rfl | exact .inr rfl | assumption):wpAny M A (storeName X.env x u) Q E s:=
 a4S I hN hi hx r (fun s' I' _=>h s' I') hf
theorem Inv.call' {s':Shared} {ch:List Addr} (I:Inv X pins σ H s) (ho:s'.os=s.os) (u:Un (frs X.stack) ch H H' s.heap s'.heap) (hok:HOk X.prog X.w H' s'.heap) (hg:AllBare s'.gens)
  (hch:∀b∈ch,(b∈X.ex∨X.s₀.heap.objs.size≤b)∧b≠X.env.locals∧(∀x c,X.env.cells.lookup x=some c→c≠b)∧∀p∈X.pn++pins,p.1≠b):Inv X pins σ H' s':=by
 obtain ⟨h',g',d',t',o'⟩:=s'
 have e:o'=s.os:=ho
 subst e
 exact I.call (g':=g') (t':=t') (d':=d') u hok hg hch
end
abbrev XK:=Value→Option Addr→Hp→Prop
abbrev St:=List (Option V)
abbrev VK:=V→Hp→Prop
abbrev TE:=St→Hp→VK→Prop
abbrev TT:=St→Hp→(Bool→Hp→Prop)→Prop
abbrev TA:=St→Hp→(List V→Hp→Prop)→Prop
structure a8D where
 nx:St→Hp→Prop
 rt:VK
 bk:St→Hp→Prop:=fun _ _=>False
 ct:St→Hp→Prop:=fun _ _=>False
abbrev TS:=a8D→St→Hp→Prop
def EP (X:Cx) (pins:List (Addr×Obj)) (σ:St) (Q:VK) (u:Value) (s':Shared):Prop:=∃v H',Inv X pins σ H' s'∧a0Q v u∧Q v H'
def TP (X:Cx) (pins:List (Addr×Obj)) (σ:St) (Q:Bool→Hp→Prop) (b:Bool) (s':Shared):Prop:=∃H',Inv X pins σ H' s'∧Q b H'
def AP (X:Cx) (pins:List (Addr×Obj)) (σ:St) (Q:List V→Hp→Prop) (us:List Value) (s':Shared):Prop:=∃vs H',Inv X pins σ H' s'∧a0G vs us∧Q vs H'
def SP (X:Cx) (pins:List (Addr×Obj)) (D:a8D) (f:Flow) (s':Shared):Prop:=
 match f with
 | .next=>∃σ' H',Inv X pins σ' H' s'∧D.nx σ' H'
 | .brk=>∃σ' H',Inv X pins σ' H' s'∧D.bk σ' H'
 | .cont=>∃σ' H',Inv X pins σ' H' s'∧D.ct σ' H'
 | .ret u=>∃v σ' H',Inv X pins σ' H' s'∧a0Q v u∧D.rt v H'
def PE (X:Cx) (e:Expr) (t:TE):Prop:=
 ∀(pins:List (Addr×Obj)) (s:Shared) (σ:St) (H:Hp) (Q:VK),Inv X pins σ H s→t σ H Q→wpAny (model X.prog X.w) X.A (eval e X.env) (EP X pins σ Q) X.xe s
def PT (X:Cx) (e:Expr) (t:TT):Prop:=
 ∀(pins:List (Addr×Obj)) (s:Shared) (σ:St) (H:Hp) (Q:Bool→Hp→Prop),Inv X pins σ H s→t σ H Q→wpAny (model X.prog X.w) X.A (isTrue e X.env (eval e X.env)) (TP X pins σ Q) X.xe s
def PW (X:Cx) (e:Expr) (t:TT):Prop:=
 ∀(whole:Sem Value) (pins:List (Addr×Obj)) (s:Shared) (σ:St) (H:Hp) (Q:Bool→Hp→Prop),Inv X pins σ H s→t σ H Q→wpAny (model X.prog X.w) X.A (isTrue e X.env whole) (TP X pins σ Q) X.xe s
theorem PW.pt {X:Cx} {e:Expr} {t:TT} (h:PW X e t):PT X e t:=h _
def PA (X:Cx) (es:List Expr) (t:TA):Prop:=
 ∀(pos:Pos) (pins:List (Addr×Obj)) (s:Shared) (σ:St) (H:Hp) (Q:List V→Hp→Prop),Inv X pins σ H s→t σ H Q→wpAny (model X.prog X.w) X.A (spliced (backTo pos (starEach es X.env))) (AP X pins σ Q) X.xe s
def PS (X:Cx) (st:Stmt) (t:TS):Prop:=
 ∀(pins:List (Addr×Obj)) (s:Shared) (σ:St) (H:Hp) (D:a8D),Inv X pins σ H s→t D σ H→wpAny (model X.prog X.w) X.A (exec st X.env) (SP X pins D) X.xe s
def PSs (X:Cx) (st:List Stmt) (t:TS):Prop:=
 ∀(pins:List (Addr×Obj)) (s:Shared) (σ:St) (H:Hp) (D:a8D),Inv X pins σ H s→t D σ H→wpAny (model X.prog X.w) X.A (execs st X.env) (SP X pins D) X.xe s
theorem thn {α:Type} {t:Sem α} {Q Q':α→Shared→Prop} {M:Model} {A:Around} {E:Value→Shared→Prop} {s:Shared} (h:wpAny M A t Q E s) (hQ:∀a s,Q a s→Q' a s):wpAny M A t Q' E s:=wpAny_mono h hQ fun _ _ x=>x
section
variable {X:Cx}
theorem bin {a b:Expr} {ta tb:TE} (ha:PE X a ta) (hb:PE X b tb) {pins:List (Addr×Obj)} {s:Shared} {σ:St} {H:Hp} {R:V→V→Hp→Prop} (I:Inv X pins σ H s) (h:ta σ H fun x H1=>tb σ H1 fun y H2=>R x y H2)
  {α:Type} {Q:α→Shared→Prop} {f:Value→Value→Sem α}
  (hf:∀v u s2 x y H2,Inv X pins σ H2 s2→a0Q x v→a0Q y u→R x y H2→wpAny (model X.prog X.w) X.A (f v u) Q X.xe s2):
  wpAny (model X.prog X.w) X.A (eval a X.env) (fun v s₁=>wpAny (model X.prog X.w) X.A (eval b X.env) (fun u s₂=>wpAny (model X.prog X.w) X.A (f v u) Q X.xe s₂) X.xe s₁) X.xe s:=by
 refine thn (ha pins s σ H _ I h) fun v s1 ⟨x,H1,I1,r1,q1⟩=>?_
 refine thn (hb pins s1 σ H1 _ I1 q1) fun u s2 ⟨y,H2,I2,r2,q2⟩=>?_
 exact hf v u s2 x y H2 I2 r1 r2 q2
def a0q (i:Nat):TE:=fun σ H Q=>∃v,σ[i]?=some (some v)∧Q v H
def tC (v:V):TE:=fun _ H Q=>Q v H
theorem b7j {i:Nat} {x:Str} {pos:Pos} (hN:X.N[i]?=some x) (hv:Vis X.env.scope x) (hd:(x == ("__debug__":Str))=false:=by decide) (hcd:(x == ("__classdict__":Str))=false:=by decide):PE X (.Name x pos) (a0q i):=by
 intro pins s σ H Q I h
 obtain ⟨v,e,h⟩:=h
 obtain ⟨m,hn,hl⟩:=I.loc
 obtain ⟨u,r,l⟩:=hl i x v hN e hv
 have fin:EP X pins σ Q u s:=⟨v,H,I,r,h⟩
 rcases l with ⟨hk,hm⟩ | ⟨hk,c,hc,hcell⟩
 ·exact wpAny_Name (wpAny_loadName_local I.ok.kind hk hn hm fin) hd
 ·rcases hk with hk | hk
  ·exact wpAny_Name (wpAny_loadName_cell I.ok.kind hk hc hcell fin) hd
  ·exact wpAny_Name (wpAny_loadName_free I.ok.kind hk hc hcell fin hcd) hd
theorem b3P {i j pos}:PE X (.Constant (.int i) j pos) (tC (.int i)):=fun _ _ _ H _ I h=>wpAny_Constant_int ⟨.int i,H,I.tok _,⟨_,rfl⟩,h⟩
theorem b7P {b j pos}:PE X (.Constant (.bool b) j pos) (tC (.bl b)):=fun _ _ _ H _ I h=>Constant_bool ⟨.bl b,H,I,rfl,h⟩
theorem b5n {x j pos}:PE X (.Constant (.str x) j pos) (tC (.str x)):=fun _ _ _ H _ I h=>Calls.Constant_str ⟨.str x,H,I.tok _,⟨_,rfl⟩,h⟩
def Gl (X:Cx) (x:Str):Prop:=X.env.kindOf x=some .globalImplicit
theorem a5g {E:Value→Shared→Prop} {pins:List (Addr×Obj)} {s:Shared} {σ:St} {H:Hp} {x:Str} {u:Value} {pos:Pos} {Q:Value→Shared→Prop} (I:Inv X pins σ H s) (hg:Gl X x) (hm:X.mg x=some u) (h:Q u s)
  (hd:(x == ("__debug__":Str))=false:=by decide):wpAny (model X.prog X.w) X.A (eval (.Name x pos) X.env) Q E s:=
 Calls.Name_function_global I.ok.kind hg (Calls.loadGlobal_global (by rw [I.ok.glob];exact I.mod.glob.keeps I.bk) hm h) hd
theorem a2C {E:Value→Shared→Prop} {pins:List (Addr×Obj)} {s:Shared} {σ:St} {H:Hp} {x:Str} {u:Value} {pos:Pos} {Q:Value→Shared→Prop} (I:Inv X pins σ H s) (hg:Gl X x) (hm:X.mg x=none) (hv:bootBuiltins x=some u) (h:Q u s)
  (hn:x≠"__name__":=by decide) (hd:(x == ("__debug__":Str))=false:=by decide):wpAny (model X.prog X.w) X.A (eval (.Name x pos) X.env) Q E s:=by
 obtain ⟨mb,h1,h2⟩:=I.mod.blt
 exact Calls.Name_function_global I.ok.kind hg (Calls.loadGlobal_builtin (by rw [I.ok.glob];exact I.mod.glob.keeps I.bk) hm (by rw [I.ok.blt];exact h1.keeps I.bk) ((h2 x hn).trans hv) h) hd
theorem b2M {x:Str} {v:V} {u:Value} {pos:Pos} (hg:Gl X x) (hm:X.mg x=some u) (r:a0Q v u) (hd:(x == ("__debug__":Str))=false:=by decide):PE X (.Name x pos) (tC v):=
 fun _ _ _ H _ I h=>a5g I hg hm ⟨v,H,I,r,h⟩ hd
theorem b3A {x:Str} {v:V} {u:Value} {pos:Pos} (hg:Gl X x) (hm:X.mg x=none) (hv:bootBuiltins x=some u) (r:a0Q v u) (hn:x≠"__name__":=by decide) (hd:(x == ("__debug__":Str))=false:=by decide):PE X (.Name x pos) (tC v):=
 fun _ _ _ H _ I h=>a2C I hg hm hv ⟨v,H,I,r,h⟩ hn hd
variable {a b:Expr} {ta tb:TE} {pos:Pos}
def PC (X:Cx) (op:CmpOp) (a b:Expr) (t:TE):Prop:=
 ∀(pins:List (Addr×Obj)) (s:Shared) (σ:St) (H:Hp) (Q:VK),Inv X pins σ H s→t σ H Q→
  wpAny (model X.prog X.w) X.A (eval a X.env) (fun v s₁=>wpAny (model X.prog X.w) X.A (eval b X.env) (fun u s₂=>wpAny (model X.prog X.w) X.A (compareOp op v u) (EP X pins σ Q) X.xe s₂) X.xe s₁) X.xe s
theorem a6b (b:Expr) {op:CmpOp} (h:op≠.In) (h2:op≠.NotIn):behindInMarks op b=false:=by
 have e1:(op == CmpOp.In)=false:=by cases op<;>first | rfl | exact absurd rfl h
 have e2:(op == CmpOp.NotIn)=false:=by cases op<;>first | rfl | exact absurd rfl h2
 cases b<;>simp [behindInMarks,e1,e2]
def tB (t:TE):TT:=fun σ H Q=>t σ H fun x H1=>∃c,x=.bl c∧Q c H1
theorem b6P {op:CmpOp} {t:TE} (h:PC X op a b t) (h1:behindInMarks op b=false:=by first | exact a6b _ ‹dc› ‹dc› | rfl):PE X (.Compare a [op] [b] pos) t:=fun pins s σ H Q I hw=>wpAny_Compare1 (h pins s σ H Q I hw) h1
theorem b5h {op:CmpOp} {t:TE} (h:PC X op a b t) (h1:behindInMarks op b=false:=by first | exact a6b _ ‹dc› ‹dc› | rfl):PT X (.Compare a [op] [b] pos) (tB t):=by
 intro pins s σ H Q I hw
 refine wpAny_isTrue_Compare1 (thn (h pins s σ H _ I hw) fun v s1 h1=>thn h1 fun u s2 h2=>thn h2 fun c s3 ⟨x,H1,I1,r1,q1⟩=>?_) h1
 obtain ⟨d,rfl,q⟩:=q1
 cases r1
 exact wpAny_truthy_bool ⟨H1,I1,q⟩
theorem b5k {e:Expr} {t:TE} (h:PE X e t) (he:∀whole,isTrue e X.env whole=(do let v ←whole;standAt e.pos;holding [v] (truthy v)):=by intro _;rfl):PT X e (tB t):=by
 intro pins s σ H Q I hw
 refine isTrue_plain (thn (h pins s σ H _ I hw) fun v s1 ⟨x,H1,I1,r1,q1⟩=>?_) (he _)
 obtain ⟨d,rfl,q⟩:=q1
 cases r1
 exact wpAny_truthy_bool ⟨H1,I1,q⟩
variable {tA tB':TT} {a3n:List Expr}
def a9X (t u:TT):TT:=fun σ H Q=>t σ H fun c H1=>if c=true then u σ H1 Q else Q false H1
def tOr (t u:TT):TT:=fun σ H Q=>t σ H fun c H1=>if c=true then Q true H1 else u σ H1 Q
def a9B (t:TT):TT:=fun σ H Q=>t σ H fun c H1=>Q (!c) H1
theorem b3a (ha:PT X a tA):PW X (.BoolOp .And [a] pos) tA:=by
 intro wh pins s σ H Q I h
 refine isTrue_and (thn (ha pins s σ H Q I h) fun c s1 e=>?_)
 cases c with
 | true=>exact isTrue_and_nil e
 | false=>exact e
theorem b5e (ha:PT X a tA):PW X (.BoolOp .Or [a] pos) tA:=by
 intro wh pins s σ H Q I h
 refine isTrue_or (thn (ha pins s σ H Q I h) fun c s1 e=>?_)
 cases c with
 | false=>exact isTrue_or_nil e
 | true=>exact e
theorem b6J (ha:PT X a tA) (hb:PW X (.BoolOp .And (b::a3n) pos) tB'):PW X (.BoolOp .And (a::b::a3n) pos) (a9X tA tB'):=by
 intro wh pins s σ H Q I h
 refine isTrue_and (thn (ha pins s σ H _ I h) fun c s1 ⟨H1,I1,q1⟩=>?_)
 cases c with
 | true=>exact hb wh pins s1 σ H1 Q I1 q1
 | false=>exact ⟨H1,I1,q1⟩
theorem b7U (ha:PT X a tA) (hb:PW X (.BoolOp .Or (b::a3n) pos) tB'):PW X (.BoolOp .Or (a::b::a3n) pos) (tOr tA tB'):=by
 intro wh pins s σ H Q I h
 refine isTrue_or (thn (ha pins s σ H _ I h) fun c s1 ⟨H1,I1,q1⟩=>?_)
 cases c with
 | true=>exact ⟨H1,I1,q1⟩
 | false=>exact hb wh pins s1 σ H1 Q I1 q1
theorem b5w (ha:PT X a tA):PT X (.UnaryOp .Not a pos) (a9B tA):=by
 intro pins s σ H Q I h
 exact isTrue_not (ha pins s σ H (fun c H1=>Q (!c) H1) I h)
def b7q (ta tb:TE):TE:=fun σ H Q=>ta σ H fun x H1=>∃c,x=.bl c∧if c=true then tb σ H1 Q else Q (.bl false) H1
def c1j (ta tb:TE):TE:=fun σ H Q=>ta σ H fun x H1=>∃c,x=.bl c∧if c=true then Q (.bl true) H1 else tb σ H1 Q
def b4M (ta:TE):TE:=fun σ H Q=>ta σ H fun x H1=>∃c,x=.bl c∧Q (.bl (!c)) H1
theorem b6g {op} {t:TE} (h:PE X a t):PE X (.BoolOp op [a] pos) t:=fun pins s σ H Q I hw=>BoolOp_one (h pins s σ H Q I hw)
theorem b4i (ha:PE X a ta) (hb:PE X (.BoolOp .And (b::a3n) pos) tb):PE X (.BoolOp .And (a::b::a3n) pos) (b7q ta tb):=by
 intro pins s σ H Q I h
 refine BoolOp_and (thn (ha pins s σ H _ I h) fun v s1 ⟨x,H1,I1,r1,q1⟩=>?_)
 obtain ⟨c,rfl,q1⟩:=q1
 cases r1
 refine wpAny_truthy_bool ?_
 cases c with
 | true=>exact hb pins s1 σ H1 Q I1 q1
 | false=>exact ⟨.bl false,H1,I1,rfl,q1⟩
theorem b8d (ha:PE X a ta) (hb:PE X (.BoolOp .Or (b::a3n) pos) tb):PE X (.BoolOp .Or (a::b::a3n) pos) (c1j ta tb):=by
 intro pins s σ H Q I h
 refine BoolOp_or (thn (ha pins s σ H _ I h) fun v s1 ⟨x,H1,I1,r1,q1⟩=>?_)
 obtain ⟨c,rfl,q1⟩:=q1
 cases r1
 refine wpAny_truthy_bool ?_
 cases c with
 | false=>exact hb pins s1 σ H1 Q I1 q1
 | true=>exact ⟨.bl true,H1,I1,rfl,q1⟩
theorem b6I (ha:PE X a ta):PE X (.UnaryOp .Not a pos) (b4M ta):=by
 intro pins s σ H Q I h
 refine UnaryOp_ (thn (ha pins s σ H _ I h) fun v s1 ⟨x,H1,I1,r1,q1⟩=>?_)
 obtain ⟨c,rfl,q1⟩:=q1
 cases r1
 exact not_of (wpAny_truthy_bool ⟨.bl (!c),H1,I1,rfl,q1⟩)
def tIf (t:TT) (ta tb:TE):TE:=fun σ H Q=>t σ H fun c H1=>if c=true then ta σ H1 Q else tb σ H1 Q
theorem b0i {c:Expr} (hc:PT X c tA) (ha:PE X a ta) (hb:PE X b tb):PE X (.IfExp c a b pos) (tIf tA ta tb):=by
 intro pins s σ H Q I h
 refine wpAny_IfExp (thn (hc pins s σ H _ I h) fun d s1 ⟨H1,I1,q1⟩=>?_)
 cases d with
 | true=>exact ha pins s1 σ H1 Q I1 q1
 | false=>exact hb pins s1 σ H1 Q I1 q1
end
def SqL (K:Qc) (H:Hp) (a:Addr) (xs:List V):Prop:=
 Rd H a (.lst xs)∨
  ∃(o:Obj) (its:Array Value) (n:Nat),K.lookup a=some o∧o.cls=.type "list"∧o.dict=none∧o.data=.seq its n∧its.size≤sizeLine∧a0G xs its.toList
def SqT (K:Qc) (H:Hp) (a:Addr) (xs:List V):Prop:=
 Rd H a (.tup xs)∨
  ∃(o:Obj) (its:Array Value) (n:Nat),K.lookup a=some o∧o.cls=.type "tuple"∧o.data=.seq its n∧its.size≤sizeLine∧a0G xs its.toList
def c2t:Value→Option V
 | .none=>some .non
 | .bool b=>some (.bl b)
 | .int i _=>some (.int i)
 | .str x _=>some (.str x)
 | .bytes b _=>some (.byt b)
 | .float b _=>some (.flt b)
 | .ref a=>some (.ref a)
 | .type n=>some (.ty n)
 | _=>none
theorem a0Q.abs {x:V} {u:Value} (r:a0Q x u):c2t u=some x:=by
 cases x with
 | non=>cases r;rfl
 | bl _=>cases r;rfl
 | int _=>obtain ⟨t,rfl⟩:=r;rfl
 | str _=>obtain ⟨t,rfl⟩:=r;rfl
 | byt _=>obtain ⟨t,rfl⟩:=r;rfl
 | flt _=>obtain ⟨t,rfl⟩:=r;rfl
 | ref _=>cases r;rfl
 | ty _=>cases r;rfl
theorem a0Q.inj {x y:V} {u:Value} (r:a0Q x u) (q:a0Q y u):x=y:=Option.some.inj (r.abs.symm.trans q.abs)
theorem a0G.inj:∀{xs ys:List V} {us:List Value},a0G xs us→a0G ys us→xs=ys
 | _,_,_,.nil,.nil=>rfl
 | _,_,_,.cons r t,.cons r' t'=>by rw [r.inj r',a0G.inj t t']
section
variable {X:Cx} {pins:List (Addr×Obj)} {σ:St} {H:Hp} {s:Shared} {a:Addr} {xs ys:List V}
theorem SqL.of {K:Qc} (h:H a=some (.lst xs)):SqL K H a xs:=.inl (.inl h)
theorem SqT.of {K:Qc} (h:H a=some (.tup xs)):SqT K H a xs:=.inl (.inl h)
theorem Inv.list (I:Inv X pins σ H s) (h:SqL X.K H a xs):∃its:List Value,a0G xs its∧PlainL s.heap a its.toArray∧xs.length≤sizeLine:=by
 rcases h with h | ⟨o,its,n,hk,hc,hd,hs,hz,r⟩
 ·obtain ⟨z,its,n,r,e⟩:=h.ok I.hok
  exact ⟨its,r,⟨_,n,e,rfl,rfl,rfl⟩,z⟩
 ·refine ⟨its.toList,r,⟨o,n,I.kIn a o hk,hc,hd,by simpa using hs⟩,?_⟩
  have e:=r.length
  simp only [Zs] at e
  omega
theorem Inv.tuple (I:Inv X pins σ H s) (h:SqT X.K H a xs):∃its:List Value,a0G xs its∧IsTup s.heap a its.toArray∧xs.length≤sizeLine:=by
 rcases h with h | ⟨o,its,n,hk,hc,hs,hz,r⟩
 ·obtain ⟨z,its,r,p⟩:=h.ok I.hok
  exact ⟨its,r,p,z⟩
 ·refine ⟨its.toList,r,⟨o,I.kIn a o hk,hc,n,by simpa using hs⟩,?_⟩
  have e:=r.length
  simp only [Zs] at e
  omega
theorem Inv.list_inj (I:Inv X pins σ H s) (h:SqL X.K H a xs) (h':SqL X.K H a ys):xs=ys:=by
 obtain ⟨its,r,⟨o,n,e,_,_,d⟩,_⟩:=I.list h
 obtain ⟨its',r',⟨o',n',e',_,_,d'⟩,_⟩:=I.list h'
 rw [e] at e';cases e'
 rw [d] at d'
 injection d' with d1 _
 have:its=its':=by simpa using congrArg Array.toList d1
 subst this
 exact r.inj r'
theorem Inv.tuple_inj (I:Inv X pins σ H s) (h:SqT X.K H a xs) (h':SqT X.K H a ys):xs=ys:=by
 obtain ⟨its,r,⟨o,e,_,n,d⟩,_⟩:=I.tuple h
 obtain ⟨its',r',⟨o',e',_,n',d'⟩,_⟩:=I.tuple h'
 rw [e] at e';cases e'
 rw [d] at d'
 injection d' with d1 _
 have:its=its':=by simpa using congrArg Array.toList d1
 subst this
 exact r.inj r'
end
abbrev Cx.wish (X:Cx) (E:Value→Shared→Prop):Cx:={X with xe:=E}
abbrev Cx.nox (X:Cx):Cx:=X.wish fun _ _=>False
theorem Cx.Ok.wish {X:Cx} (ok:X.Ok) (E:Value→Shared→Prop):(X.wish E).Ok:=
 ⟨ok.mod,ok.kind,ok.glob,ok.blt,ok.above,ok.inj,ok.has,ok.cab,ok.hd,ok.frames,ok.stk,ok.exf,ok.bs,ok.bsz,ok.noex,ok.exfs,ok.funs,ok.frf⟩
theorem Cx.Ok.unwish {X:Cx} {E:Value→Shared→Prop} (ok:(X.wish E).Ok):X.Ok:=
 ⟨ok.mod,ok.kind,ok.glob,ok.blt,ok.above,ok.inj,ok.has,ok.cab,ok.hd,ok.frames,ok.stk,ok.exf,ok.bs,ok.bsz,ok.noex,ok.exfs,ok.funs,ok.frf⟩
section
variable {X:Cx} {pins:List (Addr×Obj)} {σ:St} {H:Hp} {s:Shared} {E:Value→Shared→Prop}
theorem Inv.wish (I:Inv X pins σ H s) (E:Value→Shared→Prop):Inv (X.wish E) pins σ H s:=⟨I.ok.wish E,I.os,I.bare,I.base,I.loc,I.cell,I.free,I.freeC,I.pin,I.hok,I.len⟩
theorem Inv.unwish (I:Inv (X.wish E) pins σ H s):Inv X pins σ H s:=⟨I.ok.unwish,I.os,I.bare,I.base,I.loc,I.cell,I.free,I.freeC,I.pin,I.hok,I.len⟩
theorem SP.unwish {D:a8D} {f:Flow} {s':Shared} (h:SP (X.wish E) pins D f s'):SP X pins D f s':=by
 cases f with
 | next=>obtain ⟨σ',H',I,q⟩:=h;exact ⟨σ',H',I.unwish,q⟩
 | brk=>obtain ⟨σ',H',I,q⟩:=h;exact ⟨σ',H',I.unwish,q⟩
 | cont=>obtain ⟨σ',H',I,q⟩:=h;exact ⟨σ',H',I.unwish,q⟩
 | ret u=>obtain ⟨v,σ',H',I,r,q⟩:=h;exact ⟨v,σ',H',I.unwish,r,q⟩
theorem PSs.nox {st:List Stmt} {t:TS} (h:PSs X.nox st t):PSs X st t:=fun pins s σ H D I hw=>
 wpAny_mono (h pins s σ H D (I.wish _) hw) (fun _ _ q=>q.unwish) fun _ _ z=>False.elim z
end
section
variable {X:Cx} {st:Stmt} {a3n:List Stmt} {t u:TS} {e:Expr} {te:TE} {pos:Pos}
def a0P:TS:=fun D σ H=>D.nx σ H
def a1p (t u:TS):TS:=fun D σ H=>t {D with nx:=u D} σ H
theorem b2o:PSs X [] a0P:=fun _ _ σ H _ I h=>wpAny_execs_nil ⟨σ,H,I,h⟩
theorem b0y (h1:PS X st t) (h2:PSs X a3n u):PSs X (st::a3n) (a1p t u):=by
 intro pins s σ H D I h
 refine wpAny_execs_cons (thn (h1 pins s σ H {D with nx:=u D} I h) fun f s1 q=>?_)
 cases f with
 | next=>
  obtain ⟨σ',H',I',q⟩:=q
  exact h2 pins s1 σ' H' D I' q
 | ret v=>exact q
 | brk=>exact q
 | cont=>exact q
theorem b3m (h1:PS X st t):PSs X [st] t:=by
 intro pins s σ H D I h
 refine wpAny_execs_cons (thn (h1 pins s σ H D I h) fun f s1 q=>?_)
 cases f with
 | next=>exact wpAny_execs_nil q
 | ret v=>exact q
 | brk=>exact q
 | cont=>exact q
def b6A:TS:=fun D σ H=>D.ct σ H
theorem a4Z:PS X (.Continue pos) b6A:=fun _ _ σ H _ I h=>wpAny_Continue ⟨σ,H,I,h⟩
theorem Inv.quiet {pins:List (Addr×Obj)} {σ:St} {H:Hp} {s:Shared} (I:Inv X pins σ H s):interactive X.env=false:=by simp [interactive,I.ok.kind]
def a3d (te:TE):TS:=fun D σ H=>te σ H fun _ H1=>D.nx σ H1
theorem b3z (he:PE X e te) (hs:swapsWith e none pos.line X.env=pure false:=by rfl):PS X (.Expr e pos) (a3d te):=by
 intro pins s σ H D I h
 exact wpAny_Expr_any (thn (he pins s σ H _ I h) fun v s1 ⟨x,H1,I1,r1,q1⟩=>⟨σ,H1,I1,q1⟩) I.quiet hs
def a0M (te:TE):TS:=fun D σ H=>te σ H D.rt
theorem b5m (he:PE X e te):PS X (.Return (some e) pos) (a0M te):=by
 intro pins s σ H D I h
 exact wpAny_Return_some (thn (he pins s σ H _ I h) fun v s1 ⟨x,H1,I1,r1,q1⟩=>⟨x,σ,H1,I1,r1,q1⟩)
def a1K (c:TT) (t u:TS):TS:=fun D σ H=>c σ H fun b H1=>if b=true then t D σ H1 else u D σ H1
theorem b7Q {c:Expr} {a b:List Stmt} {tc:TT} (hc:PT X c tc) (ha:PSs X a t) (hb:PSs X b u):PS X (.If c a b pos) (a1K tc t u):=by
 intro pins s σ H D I h
 refine wpAny_If (thn (hc pins s σ H _ I h) fun d s1 ⟨H1,I1,q1⟩=>?_)
 cases d with
 | true=>exact ha pins s1 σ H1 D I1 q1
 | false=>exact hb pins s1 σ H1 D I1 q1
end
abbrev TG:=V→St→Hp→(St→Hp→Prop)→Prop
abbrev TGs:=List V→St→Hp→(St→Hp→Prop)→Prop
def PG (X:Cx) (target:Expr) (t:TG):Prop:=
 ∀(pins:List (Addr×Obj)) (s:Shared) (σ:St) (H:Hp) (v:V) (u:Value) (Q:St→Hp→Prop),Inv X pins σ H s→a0Q v u→t v σ H Q→
  wpAny (model X.prog X.w) X.A (assign target X.env u) (fun _ s'=>∃σ' H',Inv X pins σ' H' s'∧Q σ' H') X.xe s
def PGs (X:Cx) (ts:List Expr) (t:TGs):Prop:=
 ∀(pins:List (Addr×Obj)) (s:Shared) (σ:St) (H:Hp) (vs:List V) (us:List Value) (Q:St→Hp→Prop),Inv X pins σ H s→a0G vs us→t vs σ H Q→
  wpAny (model X.prog X.w) X.A (assignInOrder ((assignEach ts X.env).map (·.2)) us) (fun _ s'=>∃σ' H',Inv X pins σ' H' s'∧Q σ' H') X.xe s
abbrev b8l:=V→V→V→Hp→(Hp→Prop)→Prop
def c1G (X:Cx) (t:b8l):Prop:=
 ∀(pins:List (Addr×Obj)) (s:Shared) (σ:St) (H:Hp) (o i v:V) (ov iv u:Value) (Q:Hp→Prop),Inv X pins σ H s→a0Q o ov→a0Q i iv→a0Q v u→t o i v H Q→
  wpAny (model X.prog X.w) X.A (setItem ov iv u) (fun _ s'=>∃H',Inv X pins σ H' s'∧Q H') X.xe s
section
variable {X:Cx} {pos:Pos}
def a0y (i:Nat):TG:=fun v σ H Q=>Q (σ.set i (some v)) H
theorem b2l {i:Nat} {x:Str} (hN:X.N.Nodup) (hi:X.N[i]?=some x) (hx:Loc X.env.scope x) (hf:X.fn x=true∨X.env.scope.names.lookup x=some .local:=by first | exact .inl rfl | exact .inr rfl | assumption):PG X (.Name x pos) (a0y i):=by
 intro pins s σ H v u Q I r h
 exact wpAny_assign_Name (a5s I hN hi hx r (fun s' I'=>⟨_,H,I',h⟩) hf)
def b7I:TGs:=fun vs σ H Q=>vs=[]∧Q σ H
def b0n (t:TG) (u:TGs):TGs:=fun vs σ H Q=>∃v r,vs=v::r∧t v σ H fun σ' H'=>u r σ' H' Q
theorem b3w:PGs X [] b7I:=by
 intro pins s σ H vs us Q I r h
 obtain ⟨e,h⟩:=h
 subst e
 cases r
 exact assignInOrder_nil ⟨σ,H,I,h⟩
theorem a9Z {e:Expr} {es:List Expr} {t:TG} {u:TGs} (h1:PG X e t) (h2:PGs X es u)
  (hs:(assignEach (e::es) X.env).map (·.2)=assign e X.env::(assignEach es X.env).map (·.2):=by rfl):PGs X (e::es) (b0n t u):=by
 intro pins s σ H vs us Q I r h
 obtain ⟨v,vr,e1,h⟩:=h
 subst e1
 cases r with
 | cons r rr=>
  rw [hs]
  refine assignInOrder_cons (thn (h1 pins s σ H _ _ _ I r h) fun _ s1 ⟨σ1,H1,I1,q1⟩=>?_)
  exact h2 pins s1 σ1 H1 _ _ Q I1 rr q1
def b7A (K:Qc) (n:Nat) (t:TGs):TG:=fun v σ H Q=>∃a xs,v=.ref a∧SqT K H a xs∧xs.length=n∧t xs σ H Q
theorem b0W {es:List Expr} {k:Nat} {t:TGs} {n:Nat} (hc:X.calm=true) (h:PGs X es t)
  (hn:(assignEach es X.env).length=n:=by rfl) (hst:(assignEach es X.env).findIdx? (·.1)=none:=by rfl):PG X (.Tuple es k pos) (b7A X.K n t):=by
 intro pins s σ H v u Q I r hw
 obtain ⟨a,xs,e1,hq,hl,hw⟩:=hw
 subst e1
 cases r
 obtain ⟨its,rv,ht,hz⟩:=I.tuple hq
 refine assign_Tuple_tuple (I.ok.hd hc) ht (by simp [hn,←hl,rv.length]) hst fun h' hx=>?_
 have I1:Inv X pins σ H {s with heap:=h'}:=I.kept (t':=s.toks) fun b o e=>hx b o (Qt (Qo e)) e
 exact h pins _ σ H xs _ Q I1 (by simpa using rv) hw
def b9l (to ti:TE) (t:b8l):TG:=fun v σ H Q=>to σ H fun o H1=>ti σ H1 fun i H2=>t o i v H2 fun H3=>Q σ H3
theorem b5t {o i:Expr} {to ti:TE} {t:b8l} (ho:PE X o to) (hi:PE X i ti) (hs:c1G X t)
  (ha:∀v,assign (.Subscript o i pos) X.env v=(do
   let ov ←holding [v] (eval o X.env)
   let iv ←holding [v,ov] (eval i X.env)
   standAt pos
   holding [v,ov,iv] (setItem ov iv v)
   release [v,ov,iv] []):=by intro _;rfl):PG X (.Subscript o i pos) (b9l to ti t):=by
 intro pins s σ H v u Q I r h
 rw [ha]
 refine wpAny_bind (wpAny_holding (thn (ho pins s σ H _ I h) fun ov s1 ⟨x,H1,I1,r1,q1⟩=>?_))
 refine wpAny_bind (wpAny_holding (thn (hi pins s1 σ H1 _ I1 q1) fun iv s2 ⟨y,H2,I2,r2,q2⟩=>?_))
 refine wpAny_bind (wpAny_standAt (wpAny_bind (wpAny_holding (thn (hs pins s2 σ H2 x y v ov iv u _ I2 r1 r2 r q2) fun _ s3 ⟨H3,I3,q3⟩=>?_))))
 exact wpAny_release ⟨σ,H3,I3,q3⟩
def a1W (te:TE) (g:TG):TS:=fun D σ H=>te σ H fun x H1=>g x σ H1 D.nx
theorem b5l {tg e:Expr} {te:TE} {g:TG} (he:PE X e te) (hg:PG X tg g) (hs:swapsWithSole [tg] e pos.line X.env=pure false:=by rfl) (hw:swappedStores [tg] e X.env=pure none:=by rfl)
  (h1:(assignEach [tg] X.env).map (·.2)=[assign tg X.env]:=by rfl):PS X (.Assign [tg] e pos) (a1W te g):=by
 intro pins s σ H D I h
 refine wpAny_Assign_stores (thn (he pins s σ H _ I h) fun v s1 ⟨x,H1,I1,r1,q1⟩=>?_) hs hw
 rw [h1]
 exact thn (hg pins s1 σ H1 x v _ I1 r1 q1) fun _ s2 q=>q
theorem b5o {i:Nat} {x:Str} {e:Expr} {te:TE} {pos':Pos} (hN:X.N.Nodup) (hi:X.N[i]?=some x) (hx:Loc X.env.scope x) (he:PE X e te) (hs:swapsWith e (some (.Name x pos')) pos.line X.env=pure false:=by rfl) (hf:X.fn x=true∨X.env.scope.names.lookup x=some .local:=by first | exact .inl rfl | exact .inr rfl | assumption):
  PS X (.Assign [.Name x pos'] e pos) (a1W te (a0y i)):=by
 intro pins s σ H D I h
 refine wpAny_Assign_Name (thn (he pins s σ H _ I h) fun v s1 ⟨y,H1,I1,r1,q1⟩=>?_) hs
 exact a5s I1 hN hi hx r1 (fun s2 I2=>⟨_,H1,I2,q1⟩) hf
end
section
variable {X:Cx} {pos:Pos}
def b0Q (c:TT) (tb:TS):TS:=fun D σ H=>∃W:Nat→St→Hp→Prop,(∃m,W m σ H)∧∀m σ H,W m σ H→
 c σ H fun b H1=>if b=true then ∃N:St→Hp→Prop,(∀σ' H',N σ' H'→∃m',m' < m∧W m' σ' H')∧tb {D with nx:=N,ct:=N,bk:=D.nx} σ H1 else D.nx σ H1
theorem b0F {c:Expr} {body:List Stmt} {tc:TT} {tb:TS} (hp:PassesOwn (model X.prog X.w) X.A X.env X.xe) (hc:PT X c tc) (hb:PSs X body tb):PS X (.While c body [] pos) (b0Q tc tb):=by
 intro pins s σ H D I h
 obtain ⟨W,⟨m0,w0⟩,turn⟩:=h
 refine wpAny_While (codeAny_whileLoop (fun n s'=>∃σ' H',Inv X pins σ' H' s'∧W n σ' H') ?_ m0 ⟨σ,H,I,w0⟩)
 rintro n s1 ⟨σ1,H1,I1,w1⟩
 refine wpAny_passesOwn hp (thn (hc pins s1 σ1 H1 _ I1 (turn n σ1 H1 w1)) fun b s2 ⟨H2,I2,q2⟩=>?_)
 cases b with
 | true=>
  obtain ⟨N,hN,q2⟩:=q2
  rw [if_pos rfl]
  refine wpAny_passesOwn hp (thn (hb pins s2 σ1 H2 _ I2 q2) fun f s3 q3=>?_)
  cases f with
  | next=>
   obtain ⟨σ3,H3,I3,n3⟩:=q3
   obtain ⟨m',hm,w3⟩:=hN σ3 H3 n3
   exact ⟨m',hm,σ3,H3,I3,w3⟩
  | cont=>
   obtain ⟨σ3,H3,I3,n3⟩:=q3
   obtain ⟨m',hm,w3⟩:=hN σ3 H3 n3
   exact ⟨m',hm,σ3,H3,I3,w3⟩
  | brk=>exact q3
  | ret v=>exact q3
 | false=>
  rw [if_neg Qn]
  exact wpAny_execs_nil ⟨σ1,H2,I2,q2⟩
end
structure It where
 go:Nat→Hp→Prop
 yld:Nat→Hp→V→Hp→Prop
 stop:Nat→Hp→Prop
def a6D (X:Cx) (pins:List (Addr×Obj)) (H:Hp) (b:Addr):Prop:=
 H b=none∧b≠X.env.locals∧b∉X.fs∧(b∈X.ex∨X.s₀.heap.objs.size≤b)∧(∀x c,X.env.cells.lookup x=some c→c≠b)∧∀p∈X.pn++pins,p.1≠b
theorem Inv.fpOk {X:Cx} {pins:List (Addr×Obj)} {σ:St} {H H':Hp} {s:Shared} {b:Addr} (I:Inv X pins σ H s) (hb:s.heap.objs.size≤b) (hn:H' b=none):a6D X pins H' b:=by
 refine ⟨hn,Wj (Xj I.lt hb),I.nofs hb,.inr (Qi I.sz hb),fun x c e z=>?_,fun p hp z=>?_⟩
 ·obtain ⟨v,q⟩:=I.cell x c e
  exact absurd (Xj q.lt (by rw [z];exact hb)) (Jd _)
 ·exact absurd (Xj (Qo (I.pin p hp).1) (by rw [z];exact hb)) (Jd _)
structure b3G (P:Program) (w:World) (K:Qc) (tg:Expr) (J:It) (fp:List Addr) (it:Addr) (tn:Nat→Heap→Prop):Prop where
 mem:it∈fp
 obj:∀i h,tn i h→∀b∈fp,∃o,h.get? b=some o∧∀v,o.data≠.cell v
 keep:∀i h h',tn i h→(∀b∈fp,∀o,h.get? b=some o→h'.get? b=some o)→tn i h'
 item:∀(X:Cx),X.prog=P→X.w=w→X.K=K→X.calm=true→∀(i:Nat) (pins:List (Addr×Obj)) (s:Shared) (σ:St) (H:Hp) (E:Value→Shared→Prop),Inv X pins σ H s→(∀b∈fp,a6D X pins H b)→tn i s.heap→J.go i H→
  wpAny (model P w) X.A (pyNext (.ref it)) (fun r s1=>∃u,r=some u∧
   wpAny (model P w) X.A (letOwnedTupleGo tg (.ref it) u) (fun _ s2=>∃x H',Inv X pins σ H' s2∧a0Q x u∧J.yld i H x H'∧tn (i+1) s2.heap∧∀b∈fp,H' b=none) E s1) E s
 done:∀(X:Cx),X.prog=P→X.w=w→X.K=K→X.calm=true→∀(i:Nat) (pins:List (Addr×Obj)) (s:Shared) (σ:St) (H:Hp) (E:Value→Shared→Prop),Inv X pins σ H s→(∀b∈fp,a6D X pins H b)→tn i s.heap→J.stop i H→
  wpAny (model P w) X.A (pyNext (.ref it)) (fun r s1=>r=none∧Inv X pins σ H s1) E s
 self:∀(A:Around) (i:Nat) (s:Shared) (Q:Value→Shared→Prop) (E:Value→Shared→Prop),tn i s.heap→Q (.ref it) s→wpAny (model P w) A (pyIter (.ref it)) Q E s
abbrev TI:=St→Hp→(It→Hp→Prop)→Prop
def PIE (X:Cx) (pins:List (Addr×Obj)) (σ:St) (tg:Expr) (R:It→Hp→Prop) (itv:Value) (s2:Shared):Prop:=
 ∃(it:Addr) (fp:List Addr) (tn:Nat→Heap→Prop) (J:It) (H':Hp),itv=.ref it∧Inv X pins σ H' s2∧b3G X.prog X.w X.K tg J fp it tn∧tn 0 s2.heap∧(∀b∈fp,a6D X pins H' b)∧R J H'
def PI (X:Cx) (tg iter:Expr) (wi:TI):Prop:=
 ∀(pins:List (Addr×Obj)) (s:Shared) (σ:St) (H:Hp) (R:It→Hp→Prop),Inv X pins σ H s→wi σ H R→
  wpAny (model X.prog X.w) X.A (eval iter X.env) (fun v s1=>wpAny (model X.prog X.w) X.A (pyIter v) (PIE X pins σ tg R) X.xe s1) X.xe s
theorem b3h {M:Model} {A:Around} {E:Value→Shared→Prop} {s:Shared} {tg:Expr} {it:Addr} {u:Value} {o:Obj} {n:String} {vs:Array Value} {Q:Unit→Shared→Prop} (ho:s.heap.get? it=some o) (hc:o.cls=.type n) (hd:o.data=.fields vs)
  (hn:["enumerate","zip","dict_itemiterator","dict_reverseitemiterator","odict_iterator","itertools.zip_longest","itertools.pairwise"].contains n=false) (hQ:Q () s):wpAny M A (letOwnedTupleGo tg (.ref it) u) Q E s:=by
 unfold letOwnedTupleGo
 cases tg<;>first
  | exact wpAny_pure hQ
  | (cases u<;>first
    | exact wpAny_pure hQ
    | (refine wpAny_bind (wpAny_load ho ?_);rw [hc,hd];show wpAny M A (if (["enumerate","zip","dict_itemiterator","dict_reverseitemiterator","odict_iterator","itertools.zip_longest","itertools.pairwise"].contains n && vs[0]? == some (rawInt _))=true then _ else _) Q E s;rw [if_neg (by intro h;rw [hn,Yy] at h;cases h)];exact wpAny_pure hQ))
def Itl (K:Qc) (a:Addr):It:=
 ⟨fun i H=>∃xs x,SqL K H a xs∧xs[i]?=some x,fun i H x H'=>H'=H∧∀xs,SqL K H a xs→xs[i]?=some x,fun i H=>∃xs,SqL K H a xs∧xs.length≤i⟩
def Itt (K:Qc) (a:Addr):It:=
 ⟨fun i H=>∃xs x,SqT K H a xs∧xs[i]?=some x,fun i H x H'=>H'=H∧∀xs,SqT K H a xs→xs[i]?=some x,fun i H=>∃xs,SqT K H a xs∧xs.length≤i⟩
def Itr (lo:Int) (n:Nat):It:=⟨fun i _=>i < n,fun i H x H'=>H'=H∧x=.int (lo+i),fun i _=>n≤i⟩
theorem a9v {P:Program} {w:World} {K:Qc} {tg:Expr} (a it:Addr):b3G P w K tg (Itl K a) [it] it (fun i h=>h.IsListIter it a i) where
 mem:=by simp
 obj:=fun i h st b hb=>by
  have e:b=it:=by simpa using hb
  subst e
  obtain ⟨o,e,c,d⟩:=st
  exact ⟨o,e,fun v z=>by rw [d] at z;cases z⟩
 keep:=fun i h h' st k=>st.at fun o e=>k it (by simp) o e
 item:=by
  intro X hP hw hK hc i pins s σ H E I hf st hg
  subst hP hw hK
  obtain ⟨xs,x,hq,hx⟩:=hg
  obtain ⟨its,rv,p,hz⟩:=I.list hq
  obtain ⟨u,hu,ru⟩:=rv.get hx
  obtain ⟨f0,f1,f2,f3,f4,f5⟩:=hf it (by simp)
  refine wpAny_pyNext_list_item st p.isList (x:=u) (by simpa using hu) fun h' st' sb=>?_
  have I1:Inv X pins σ H {s with heap:=h'}:=I.turned (t':=s.toks) (fun b o hb e=>(sb.2 b hb).trans e) f0 f1 f3 f4 f5
  obtain ⟨o,e,c,d⟩:=id st'
  exact ⟨u,rfl,b3h (s:={s with heap:=h'}) e c d ‹dc› ⟨x,H,I1,ru,⟨rfl,fun ys hy=>by rw [I.list_inj hy hq];exact hx⟩,st',fun b hb=>(hf b hb).1⟩⟩
 done:=by
  intro X hP hw hK hc i pins s σ H E I hf st hg
  subst hP hw hK
  obtain ⟨xs,hq,hx⟩:=hg
  obtain ⟨its,rv,p,hz⟩:=I.list hq
  obtain ⟨f0,f1,f2,f3,f4,f5⟩:=hf it (by simp)
  have hl:=rv.length
  exact wpAny_pyNext_list_end (I.ok.hd hc) st p.isList (by simp;omega) fun h' eb=>⟨rfl,I.turned (t':=s.toks) (fun b o hb e=>eb b o hb e) f0 f1 f3 f4 f5⟩
 self:=fun _ _ _ _ _ st h=>wpAny_pyIter_listiter st h
theorem a6P {P:Program} {w:World} {K:Qc} {tg:Expr} (a it:Addr):b3G P w K tg (Itt K a) [it] it (fun i h=>h.IsTupleIter it a i) where
 mem:=by simp
 obj:=fun i h st b hb=>by
  have e:b=it:=by simpa using hb
  subst e
  obtain ⟨o,e,c,d⟩:=st
  exact ⟨o,e,fun v z=>by rw [d] at z;cases z⟩
 keep:=fun i h h' st k=>st.at fun o e=>k it (by simp) o e
 item:=by
  intro X hP hw hK hc i pins s σ H E I hf st hg
  subst hP hw hK
  obtain ⟨xs,x,hq,hx⟩:=hg
  obtain ⟨its,rv,p,hz⟩:=I.tuple hq
  obtain ⟨u,hu,ru⟩:=rv.get hx
  obtain ⟨f0,f1,f2,f3,f4,f5⟩:=hf it (by simp)
  refine wpAny_pyNext_tuple_item st (show s.heap.IsTuple a its.toArray from p) (x:=u) (by simpa using hu) fun h' st' sb=>?_
  have I1:Inv X pins σ H {s with heap:=h'}:=I.turned (t':=s.toks) (fun b o hb e=>(sb.2 b hb).trans e) f0 f1 f3 f4 f5
  obtain ⟨o,e,c,d⟩:=id st'
  exact ⟨u,rfl,b3h (s:={s with heap:=h'}) e c d ‹dc› ⟨x,H,I1,ru,⟨rfl,fun ys hy=>by rw [I.tuple_inj hy hq];exact hx⟩,st',fun b hb=>(hf b hb).1⟩⟩
 done:=by
  intro X hP hw hK hc i pins s σ H E I hf st hg
  subst hP hw hK
  obtain ⟨xs,hq,hx⟩:=hg
  obtain ⟨its,rv,p,hz⟩:=I.tuple hq
  obtain ⟨f0,f1,f2,f3,f4,f5⟩:=hf it (by simp)
  have hl:=rv.length
  exact wpAny_pyNext_tuple_end (I.ok.hd hc) st (show s.heap.IsTuple a its.toArray from p) (by simp;omega) fun h' eb=>⟨rfl,I.turned (t':=s.toks) (fun b o hb e=>eb b o hb e) f0 f1 f3 f4 f5⟩
 self:=fun _ _ _ _ _ st h=>wpAny_pyIter_tupleiter st h
theorem a6l {P:Program} {w:World} {K:Qc} {tg:Expr} (it:Addr) (lo:Int) (n:Nat):b3G P w K tg (Itr lo n) [it] it (fun i h=>IsRangeIter h it (lo+(i:Nat) * 1) ((n:Int) - (i:Nat)) 1) where
 mem:=by simp
 obj:=fun i h st b hb=>by
  have e:b=it:=by simpa using hb
  subst e
  exact ⟨_,st,fun v z=>by
   have z':Data.fields _=Data.cell v:=z
   cases z'⟩
 keep:=fun i h h' st k=>k it (by simp) _ st
 item:=by
  intro X hP hw hK hc i pins s σ H E I hf st hg
  subst hP hw hK
  obtain ⟨f0,f1,f2,f3,f4,f5⟩:=hf it (by simp)
  have W:=Walks.range (prog:=X.prog) (w:=X.w) (I.ok.hd hc) it lo 1 n
  refine W.item i s _ _ hg st fun v h' tk hv st' kk=>?_
  obtain ⟨t,rfl⟩:=hv
  have I1:Inv X pins σ H {s with heap:=h',toks:=tk}:=I.turned (fun b o hb e=>kk b o (by simpa using hb) e) f0 f1 f3 f4 f5
  refine ⟨_,rfl,b3h (s:={s with heap:=h',toks:=tk}) (n:="range_iterator") st' rfl rfl ‹dc› ⟨.int (lo+i),H,I1,⟨t,?_⟩,⟨rfl,rfl⟩,st',fun b hb=>(hf b hb).1⟩⟩
  rw [Int.mul_one]
 done:=by
  intro X hP hw hK hc i pins s σ H E I hf st hg
  subst hP hw hK
  obtain ⟨f0,f1,f2,f3,f4,f5⟩:=hf it (by simp)
  exact wpAny_pyNext_range_end (I.ok.hd hc) st (by have:n≤i:=hg;omega) fun h' eb=>⟨rfl,I.turned (t':=s.toks) (fun b o hb e=>eb b o hb e) f0 f1 f3 f4 f5⟩
 self:=fun _ _ _ _ _ st h=>wpAny_pyIter_rangeiter st h
section
variable {X:Cx} {tg:Expr}
def a1j (K:Qc) (tl:TE):TI:=fun σ H R=>tl σ H fun x H1=>∃a,x=.ref a∧(∃xs,SqL K H1 a xs)∧R (Itl K a) H1
def b3K (K:Qc) (tl:TE):TI:=fun σ H R=>tl σ H fun x H1=>∃a,x=.ref a∧(∃xs,SqT K H1 a xs)∧R (Itt K a) H1
theorem b3y {l:Expr} {tl:TE} (hl:PE X l tl):PI X tg l (a1j X.K tl):=by
 intro pins s σ H R I h
 refine thn (hl pins s σ H _ I h) fun v s1 ⟨x,H1,I1,r1,q1⟩=>?_
 obtain ⟨a,e,⟨xs,hq⟩,q⟩:=q1
 subst e
 cases r1
 obtain ⟨its,rv,p,hz⟩:=I1.list hq
 refine wpAny_pyIter_list p.isList ?_
 refine ⟨s1.heap.objs.size,[s1.heap.objs.size],_,_,H1,rfl,I1.kept (t':=s1.toks) fun b o e=>Qm _ e,a9v a _,⟨_,Xf _ rfl,rfl,rfl⟩,fun b hb=>?_,q⟩
 have e:b=s1.heap.objs.size:=by simpa using hb
 subst e
 exact I1.fpOk (Qk _) (I1.hok.fresh (Qk _))
theorem b5K {l:Expr} {tl:TE} (hl:PE X l tl):PI X tg l (b3K X.K tl):=by
 intro pins s σ H R I h
 refine thn (hl pins s σ H _ I h) fun v s1 ⟨x,H1,I1,r1,q1⟩=>?_
 obtain ⟨a,e,⟨xs,hq⟩,q⟩:=q1
 subst e
 cases r1
 obtain ⟨its,rv,p,hz⟩:=I1.tuple hq
 refine wpAny_pyIter_tuple (show s1.heap.IsTuple a its.toArray from p) ?_
 refine ⟨s1.heap.objs.size,[s1.heap.objs.size],_,_,H1,rfl,I1.kept (t':=s1.toks) fun b o e=>Qm _ e,a6P a _,⟨_,Xf _ rfl,rfl,rfl⟩,fun b hb=>?_,q⟩
 have e:b=s1.heap.objs.size:=by simpa using hb
 subst e
 exact I1.fpOk (Qk _) (I1.hok.fresh (Qk _))
theorem a5J {pins:List (Addr×Obj)} {σ:St} {H:Hp} {s:Shared} {R:It→Hp→Prop} {E:Value→Shared→Prop} {lo hi:Int} {t u v:Tok} {tk:Nat} (I:Inv X pins σ H s) (h1:-(2 ^ 62)≤lo) (h2:lo < 2 ^ 62) (h3:-(2 ^ 62)≤hi) (h4:hi < 2 ^ 62)
  (q:R (Itr lo (hi - lo).toNat) H):wpAny (model X.prog X.w) X.A (pyIter (.ref s.heap.objs.size)) (PIE X pins σ tg R) E {s with heap:=s.heap.push {cls:=.type "range",data:=.fields #[.int lo t,.int hi u,.int 1 v]},toks:=tk}:=by
 refine wpAny_pyIter_range (IsRange.new ..) (small_one h1 h2 h3 h4) ?_
 have I1:Inv X pins σ H {s with heap:=s.heap.push {cls:=.type "range",data:=.fields #[.int lo t,.int hi u,.int 1 v]},toks:=tk}:=I.kept fun b o e=>Qm _ e
 refine ⟨(s.heap.push {cls:=.type "range",data:=.fields #[.int lo t,.int hi u,.int 1 v]}).objs.size,[(s.heap.push {cls:=.type "range",data:=.fields #[.int lo t,.int hi u,.int 1 v]}).objs.size],_,_,H,rfl,
  I1.kept (t':=tk) fun b o e=>Qm _ e,a6l _ lo (hi - lo).toNat,?_,fun b hb=>?_,q⟩
 ·have e1:lo+((0:Nat):Int) * 1=lo:=by simp
  have e2:(((hi - lo).toNat:Nat):Int) - ((0:Nat):Int)=Builtin.Range.rangeSize lo hi 1:=by rw [rangeSize_one];split<;>omega
  show IsRangeIter _ _ (lo+((0:Nat):Int) * 1) ((((hi - lo).toNat:Nat):Int) - ((0:Nat):Int)) 1
  rw [e1,e2]
  exact Xf _ rfl
 ·have e:b=(s.heap.push {cls:=.type "range",data:=.fields #[.int lo t,.int hi u,.int 1 v]}).objs.size:=by simpa using hb
  subst e
  exact I1.fpOk (Qk _) (I1.hok.fresh (Qk _))
def a8k (ta:TA):TI:=fun σ H R=>ta σ H fun vs H1=>∃j:Int,vs=[.int j]∧-(2 ^ 62)≤j∧j < 2 ^ 62∧R (Itr 0 j.toNat) H1
def b5b (ta:TA):TI:=fun σ H R=>ta σ H fun vs H1=>∃i j:Int,vs=[.int i,.int j]∧(-(2 ^ 62)≤i∧i < 2 ^ 62∧-(2 ^ 62)≤j∧j < 2 ^ 62)∧R (Itr i (j - i).toNat) H1
theorem a7H {a:Expr} {ta:TA} {p pos:Pos} (hg:Gl X "range") (hm:X.mg "range"=none) (ha:PA X [a] ta) (hs:starEach [a] X.env=[(false,eval a X.env)]:=by rfl):PI X tg (.Call (.Name "range" p) [a] [] pos) (a8k ta):=by
 intro pins s σ H R I h
 refine Call_ (a2C I hg hm boot_range (PyProof.Rows.callWith_type1 (thn (ha pos pins s σ H _ I h) fun us s1 ⟨vs,H1,I1,r1,q1⟩=>?_) hs rfl))
 obtain ⟨j,e,q1,q2,q⟩:=q1
 subst e
 cases r1 with
 | cons r rr=>
  cases rr
  obtain ⟨t,rfl⟩:=r
  exact call_range_1 (a5J I1 ‹om› ‹om› q1 q2 (by simpa using q))
theorem a8U {a b:Expr} {ta:TA} {p pos:Pos} (hg:Gl X "range") (hm:X.mg "range"=none) (ha:PA X [a,b] ta) (hs:starEach [a,b] X.env=[(false,eval a X.env),(false,eval b X.env)]:=by rfl) (hs2:starEach [b] X.env=[(false,eval b X.env)]:=by rfl):
  PI X tg (.Call (.Name "range" p) [a,b] [] pos) (b5b ta):=by
 intro pins s σ H R I h
 refine Call_ (a2C I hg hm boot_range (PyProof.Rows.callWith_type1 (thn (ha pos pins s σ H _ I h) fun us s1 ⟨vs,H1,I1,r1,q1⟩=>?_) (by rw [hs,hs2]) (by rw [hs2];rfl)))
 obtain ⟨i,j,e,⟨q1,q2,q3,q4⟩,q⟩:=q1
 subst e
 cases r1 with
 | cons r rr=>
  cases rr with
  | cons r' rr=>
   cases rr
   obtain ⟨t,rfl⟩:=r
   obtain ⟨t',rfl⟩:=r'
   exact call_range_2 (a5J I1 q1 q2 q3 q4 q)
def c0V (wi:TI) (g:TG) (tb:TS):TS:=fun D σ H=>wi σ H fun J H1=>∃W:Nat→Nat→St→Hp→Prop,(∃m,W 0 m σ H1)∧∀i m σ H,W i m σ H→
 (J.stop i H∧D.nx σ H)∨(J.go i H∧∃N:St→Hp→Prop,(∀σ' H',N σ' H'→∃m',m' < m∧W (i+1) m' σ' H')∧∀x H',J.yld i H x H'→g x σ H' fun σ2 H2=>tb {D with nx:=N,ct:=N,bk:=D.nx} σ2 H2)
def a4i (fp:List Addr) (h:Heap):List (Addr×Obj):=fp.filterMap fun b=>(h.get? b).map fun o=>(b,o)
theorem a1V {fp:List Addr} {h:Heap} {b:Addr} {o:Obj} (hb:b∈fp) (e:h.get? b=some o):(b,o)∈a4i fp h:=Wk.mpr ⟨b,hb,by rw [e];rfl⟩
theorem a8Y {fp:List Addr} {h:Heap} {p:Addr×Obj} (hp:p∈a4i fp h):p.1∈fp∧h.get? p.1=some p.2:=by
 obtain ⟨b,hb,e⟩:=Wk.mp hp
 cases q:h.get? b with
 | none=>rw [q] at e;cases e
 | some o=>
  rw [q] at e
  have e':(b,o)=p:=Option.some.inj e
  subst e'
  exact ⟨hb,q⟩
theorem Inv.pinned {pins:List (Addr×Obj)} {σ:St} {H:Hp} {s:Shared} {fp:List Addr} (I:Inv X pins σ H s) (hf:∀b∈fp,a6D X pins H b) (ho:∀b∈fp,∃o,s.heap.get? b=some o∧∀v,o.data≠.cell v):Inv X (pins++a4i fp s.heap) σ H s:=
 I.pins_of fun p hp=>(Xq.mp hp).elim (fun z=>I.pin p (Yc _ z)) fun z=>by
  obtain ⟨hb,e⟩:=a8Y z
  obtain ⟨f0,f1,f2,_⟩:=hf p.1 hb
  obtain ⟨o,e',d⟩:=ho p.1 hb
  rw [e] at e';cases e'
  exact ⟨e,f0,f1,f2,d⟩
theorem Inv.unpinned {pins pl:List (Addr×Obj)} {σ:St} {H:Hp} {s:Shared} (I:Inv X (pins++pl) σ H s):Inv X pins σ H s:=I.pins_of fun p hp=>I.pin p (Yc _ (Zc _ hp))
theorem b6T {iter:Expr} {body:List Stmt} {wi:TI} {g:TG} {tb:TS} {pos:Pos} (hp:PassesOwn (model X.prog X.w) X.A X.env X.xe) (hc:X.calm=true) (hi:PI X tg iter wi) (hg:PG X tg g) (hb:PSs X body tb)
  (hs:∀x,foldedSetIterable iter X.env x=pure x:=by intro _;rfl):PS X (.For tg iter body [] pos) (c0V wi g tb):=by
 intro pins s σ H D I h
 refine wpAny_For (thn (hi pins s σ H _ I h) fun v s1 h1=>thn h1 fun itv s2 h2=>?_) hs
 obtain ⟨it,fp,tn,J,H2,e,I2,T,st2,f2,W,⟨m0,w0⟩,turn⟩:=h2
 subst e
 have stat:∀{H':Hp},(∀b∈fp,H' b=none)→∀b∈fp,a6D X pins H' b:=fun hn b hb=>⟨hn b hb,(f2 b hb).2⟩
 refine codeAny_forLoop_any (fun n s'=>∃i σ' H',Inv X pins σ' H' s'∧tn i s'.heap∧(∀b∈fp,H' b=none)∧W i n σ' H') ?_ m0 ⟨0,σ,H2,I2,st2,fun b hb=>(f2 b hb).1,w0⟩
 rintro n s3 ⟨i,σ3,H3,I3,st3,fr3,w3⟩
 rcases turn i n σ3 H3 w3 with ⟨stop,qn⟩ | ⟨go,N,hN,step⟩
 ·refine wpAny_passesOwn hp (thn (T.done X rfl rfl rfl hc i pins s3 σ3 H3 X.xe I3 (stat fr3) st3 stop) fun r s4 ⟨hr,I4⟩=>?_)
  subst hr
  exact wpAny_execs_nil ⟨σ3,H3,I4,qn⟩
 ·refine wpAny_passesOwn hp (thn (T.item X rfl rfl rfl hc i pins s3 σ3 H3 X.xe I3 (stat fr3) st3 go) fun r s4 ⟨u,hr,h4⟩=>?_)
  subst hr
  refine wpAny_passesOwn hp (thn h4 fun _ s5 ⟨x,H5,I5,r5,y5,st5,fr5⟩=>?_)
  have I5':=I5.pinned (stat fr5) (T.obj _ _ st5)
  refine wpAny_passesOwn hp (thn (hg _ s5 σ3 H5 x u _ I5' r5 (step x H5 y5)) fun _ s6 ⟨σ6,H6,I6,q6⟩=>?_)
  refine wpAny_passesOwn hp (thn (hb _ s6 σ6 H6 _ I6 q6) fun f s7 q7=>?_)
  have again:∀{σ7:St} {H7:Hp},Inv X (pins++a4i fp s5.heap) σ7 H7 s7→N σ7 H7→∃m,m < n∧∃i σ' H',Inv X pins σ' H' s7∧tn i s7.heap∧(∀b∈fp,H' b=none)∧W i m σ' H':=fun {σ7 H7} I7 n7=>by
   obtain ⟨m',hm,w7⟩:=hN σ7 H7 n7
   refine ⟨m',hm,i+1,σ7,H7,I7.unpinned,T.keep _ _ _ st5 fun b hb o e=>(I7.pin (b,o) (Yc _ (Yc _ (a1V hb e)))).1,fun b hb=>?_,w7⟩
   obtain ⟨o,e,d⟩:=T.obj _ _ st5 b hb
   exact (I7.pin (b,o) (Yc _ (Yc _ (a1V hb e)))).2.1
  cases f with
  | next=>obtain ⟨σ7,H7,I7,n7⟩:=q7;exact again I7 n7
  | cont=>obtain ⟨σ7,H7,I7,n7⟩:=q7;exact again I7 n7
  | brk=>obtain ⟨σ7,H7,I7,q7⟩:=q7;exact ⟨σ7,H7,I7.unpinned,q7⟩
  | ret v=>obtain ⟨x7,σ7,H7,I7,r7,q7⟩:=q7;exact ⟨x7,σ7,H7,I7.unpinned,r7,q7⟩
end
theorem a0Z {K:Qc} {a:Addr} {xs:List V} {g:TG} {tb:TS} {D:a8D} {σ:St} {H:Hp} (Pv:Nat→St→Hp→Prop) (h0:Pv 0 σ H) (hl:∀i σ H,i≤xs.length→Pv i σ H→SqL K H a xs)
  (hs:∀i x σ H,xs[i]?=some x→Pv i σ H→g x σ H fun σ2 H2=>tb {D with nx:=Pv (i+1),ct:=Pv (i+1),bk:=D.nx} σ2 H2) (hd:∀σ H,Pv xs.length σ H→D.nx σ H):
  ∃W:Nat→Nat→St→Hp→Prop,(∃m,W 0 m σ H)∧∀i m σ H,W i m σ H→
   ((Itl K a).stop i H∧D.nx σ H)∨((Itl K a).go i H∧∃N:St→Hp→Prop,(∀σ' H',N σ' H'→∃m',m' < m∧W (i+1) m' σ' H')∧∀x H',(Itl K a).yld i H x H'→g x σ H' fun σ2 H2=>tb {D with nx:=N,ct:=N,bk:=D.nx} σ2 H2):=by
 refine ⟨fun i m σ H=>m=xs.length - i∧i≤xs.length∧Pv i σ H,⟨xs.length,by simp,Xi _,h0⟩,?_⟩
 rintro i m σ H ⟨rfl,hi,p⟩
 have q:=hl i σ H hi p
 by_cases hlt:i < xs.length
 ·refine .inr ⟨⟨xs,xs[i],q,by simp [hlt]⟩,Pv (i+1),fun σ' H' p'=>⟨xs.length - (i+1),by omega,rfl,hlt,p'⟩,fun x H' y=>?_⟩
  obtain ⟨e,y⟩:=y
  subst e
  exact hs i x σ _ (y xs q) p
 ·have e:i=xs.length:=by omega
  subst e
  exact .inl ⟨⟨xs,q,Qk _⟩,hd σ H p⟩
theorem a5n {K:Qc} {a:Addr} {xs:List V} {g:TG} {tb:TS} {D:a8D} {σ:St} {H:Hp} (Pv:Nat→St→Hp→Prop) (h0:Pv 0 σ H) (hl:∀i σ H,i≤xs.length→Pv i σ H→SqT K H a xs)
  (hs:∀i x σ H,xs[i]?=some x→Pv i σ H→g x σ H fun σ2 H2=>tb {D with nx:=Pv (i+1),ct:=Pv (i+1),bk:=D.nx} σ2 H2) (hd:∀σ H,Pv xs.length σ H→D.nx σ H):
  ∃W:Nat→Nat→St→Hp→Prop,(∃m,W 0 m σ H)∧∀i m σ H,W i m σ H→
   ((Itt K a).stop i H∧D.nx σ H)∨((Itt K a).go i H∧∃N:St→Hp→Prop,(∀σ' H',N σ' H'→∃m',m' < m∧W (i+1) m' σ' H')∧∀x H',(Itt K a).yld i H x H'→g x σ H' fun σ2 H2=>tb {D with nx:=N,ct:=N,bk:=D.nx} σ2 H2):=by
 refine ⟨fun i m σ H=>m=xs.length - i∧i≤xs.length∧Pv i σ H,⟨xs.length,by simp,Xi _,h0⟩,?_⟩
 rintro i m σ H ⟨rfl,hi,p⟩
 have q:=hl i σ H hi p
 by_cases hlt:i < xs.length
 ·refine .inr ⟨⟨xs,xs[i],q,by simp [hlt]⟩,Pv (i+1),fun σ' H' p'=>⟨xs.length - (i+1),by omega,rfl,hlt,p'⟩,fun x H' y=>?_⟩
  obtain ⟨e,y⟩:=y
  subst e
  exact hs i x σ _ (y xs q) p
 ·have e:i=xs.length:=by omega
  subst e
  exact .inl ⟨⟨xs,q,Qk _⟩,hd σ H p⟩
theorem a2g {lo:Int} {n:Nat} {g:TG} {tb:TS} {D:a8D} {σ:St} {H:Hp} (Pv:Nat→St→Hp→Prop) (h0:Pv 0 σ H)
  (hs:∀i σ H,i < n→Pv i σ H→g (.int (lo+i)) σ H fun σ2 H2=>tb {D with nx:=Pv (i+1),ct:=Pv (i+1),bk:=D.nx} σ2 H2) (hd:∀σ H,Pv n σ H→D.nx σ H):
  ∃W:Nat→Nat→St→Hp→Prop,(∃m,W 0 m σ H)∧∀i m σ H,W i m σ H→
   ((Itr lo n).stop i H∧D.nx σ H)∨((Itr lo n).go i H∧∃N:St→Hp→Prop,(∀σ' H',N σ' H'→∃m',m' < m∧W (i+1) m' σ' H')∧∀x H',(Itr lo n).yld i H x H'→g x σ H' fun σ2 H2=>tb {D with nx:=N,ct:=N,bk:=D.nx} σ2 H2):=by
 refine ⟨fun i m σ H=>m=n - i∧i≤n∧Pv i σ H,⟨n,by simp,Xi _,h0⟩,?_⟩
 rintro i m σ H ⟨rfl,hi,p⟩
 by_cases hlt:i < n
 ·refine .inr ⟨hlt,Pv (i+1),fun σ' H' p'=>⟨n - (i+1),by omega,rfl,hlt,p'⟩,fun x H' y=>?_⟩
  obtain ⟨e,y⟩:=y
  subst e y
  exact hs i σ _ hlt p
 ·have e:i=n:=by omega
  subst e
  exact .inl ⟨Qk _,hd σ H p⟩
abbrev R2:=V→V→Hp→VK→Prop
def OpR (X:Cx) (f:Value→Value→Sem Value) (r:R2):Prop:=
 ∀(pins:List (Addr×Obj)) (s:Shared) (σ:St) (H:Hp) (x y:V) (v u:Value) (Q:VK),Inv X pins σ H s→a0Q x v→a0Q y u→r x y H Q→
  wpAny (model X.prog X.w) X.A (f v u) (EP X pins σ Q) X.xe s
def UnR (X:Cx) (f:Value→Sem Value) (r:V→Hp→VK→Prop):Prop:=
 ∀(pins:List (Addr×Obj)) (s:Shared) (σ:St) (H:Hp) (x:V) (v:Value) (Q:VK),Inv X pins σ H s→a0Q x v→r x H Q→
  wpAny (model X.prog X.w) X.A (f v) (EP X pins σ Q) X.xe s
def a1q (X:Cx) (f:Value) (r:List V→Hp→VK→Prop):Prop:=
 ∀(pins:List (Addr×Obj)) (s:Shared) (σ:St) (H:Hp) (xs:List V) (us:List Value) (Q:VK),Inv X pins σ H s→a0G xs us→r xs H Q→
  wpAny (model X.prog X.w) X.A (call f us) (EP X pins σ Q) X.xe s
def tOp (r:R2) (ta tb:TE):TE:=fun σ H Q=>ta σ H fun x H1=>tb σ H1 fun y H2=>r x y H2 Q
def tUn (r:V→Hp→VK→Prop) (ta:TE):TE:=fun σ H Q=>ta σ H fun x H1=>r x H1 Q
def rI (C:Int→Int→Prop) (g:Int→Int→V):R2:=fun x y H Q=>∃i j,x=.int i∧y=.int j∧C i j∧Q (g i j) H
def rI0 (g:Int→Int→V):R2:=fun x y H Q=>∃i j,x=.int i∧y=.int j∧Q (g i j) H
def rU (g:Int→V):V→Hp→VK→Prop:=fun x H Q=>∃i,x=.int i∧Q (g i) H
section
variable {X:Cx} {a b c:Expr} {ta tb tc:TE} {pos:Pos}
theorem b7H (ha:PE X a ta) (hb:PE X b tb) {pins:List (Addr×Obj)} {s:Shared} {σ:St} {H:Hp} {R:V→V→Hp→Prop} (I:Inv X pins σ H s)
  (h:ta σ H fun x H1=>tb σ H1 fun y H2=>R x y H2) {Q:Value→Shared→Prop} {f:Value→Value→Sem Value}
  (hf:∀v u s2 x y H2,Inv X pins σ H2 s2→a0Q x v→a0Q y u→R x y H2→wpAny (model X.prog X.w) X.A (f v u) Q X.xe s2):
  wpAny (model X.prog X.w) X.A (eval a X.env) (fun v s₁=>wpAny (model X.prog X.w) X.A (eval b X.env) (fun u s₂=>wpAny (model X.prog X.w) X.A (f v u) Q X.xe s₂) X.xe s₁) X.xe s:=by
 refine thn (ha pins s σ H _ I h) fun v s1 ⟨x,H1,I1,r1,q1⟩=>?_
 refine thn (hb pins s1 σ H1 _ I1 q1) fun u s2 ⟨y,H2,I2,r2,q2⟩=>?_
 exact hf v u s2 x y H2 I2 r1 r2 q2
theorem b7G {op:Operator} {r:R2} (ho:OpR X (binaryOp op) r) (ha:PE X a ta) (hb:PE X b tb):PE X (.BinOp a op b pos) (tOp r ta tb):=by
 intro pins s σ H Q I h
 exact wpAny_BinOp (b7H ha hb I h fun v u s2 x y H2 I2 rx ry q=>ho pins s2 σ H2 x y v u Q I2 rx ry q)
theorem b7Z {op:UnaryOp} {r:V→Hp→VK→Prop} (ho:UnR X (unaryOp op) r) (ha:PE X a ta):PE X (.UnaryOp op a pos) (tUn r ta):=by
 intro pins s σ H Q I h
 exact UnaryOp_ (thn (ha pins s σ H _ I h) fun v s1 ⟨x,H1,I1,r1,q1⟩=>ho pins s1 σ H1 x v Q I1 r1 q1)
theorem opI {f:Value→Value→Sem Value} {C:Int→Int→Prop} {g:Int→Int→Int}
  (rule:∀(i j:Int) (t u:Tok) (s:Shared) (Q:Value→Shared→Prop) (E:Value→Shared→Prop),C i j→Q (.int (g i j) s.toks) {s with toks:=s.toks+1}→wpAny (model X.prog X.w) X.A (f (.int i t) (.int j u)) Q E s):
  OpR X f (rI C fun i j=>.int (g i j)):=by
 intro pins s σ H x y v u Q I rx ry h
 obtain ⟨i,j,rfl,rfl,hc,q⟩:=h
 obtain ⟨t,rfl⟩:=rx
 obtain ⟨t',rfl⟩:=ry
 exact rule i j t t' s _ _ hc ⟨.int (g i j),H,I.tok _,⟨_,rfl⟩,q⟩
theorem c3m {f:Value→Value→Sem Value} {g:Int→Int→Int}
  (rule:∀(i j:Int) (t u:Tok) (s:Shared) (Q:Value→Shared→Prop) (E:Value→Shared→Prop),Q (.int (g i j) s.toks) {s with toks:=s.toks+1}→wpAny (model X.prog X.w) X.A (f (.int i t) (.int j u)) Q E s):
  OpR X f (rI0 fun i j=>.int (g i j)):=by
 intro pins s σ H x y v u Q I rx ry h
 obtain ⟨i,j,rfl,rfl,q⟩:=h
 obtain ⟨t,rfl⟩:=rx
 obtain ⟨t',rfl⟩:=ry
 exact rule i j t t' s _ _ ⟨.int (g i j),H,I.tok _,⟨_,rfl⟩,q⟩
theorem c4c {f:Value→Value→Sem Value} {g:Int→Int→Bool}
  (rule:∀(i j:Int) (t u:Tok) (s:Shared) (Q:Value→Shared→Prop) (E:Value→Shared→Prop),Q (.bool (g i j)) s→wpAny (model X.prog X.w) X.A (f (.int i t) (.int j u)) Q E s):
  OpR X f (rI0 fun i j=>.bl (g i j)):=by
 intro pins s σ H x y v u Q I rx ry h
 obtain ⟨i,j,rfl,rfl,q⟩:=h
 obtain ⟨t,rfl⟩:=rx
 obtain ⟨t',rfl⟩:=ry
 exact rule i j t t' s _ _ ⟨.bl (g i j),H,I,rfl,q⟩
def a9H (i j:Int):Prop:=0 < j∧j < 1073741824
def b3D (i j:Int):Prop:=(-(2 ^ 64) < i∧i < 2 ^ 64)∨(-(2 ^ 64) < j∧j < 2 ^ 64)
theorem b3D.ok {i j:Int} (h:b3D i j):IntMulOk i j:=by
 rcases h with ⟨h1,h2⟩ | ⟨h1,h2⟩
 ·exact .of_left (intBits_le_64 h1 h2)
 ·exact .of_right (intBits_le_64 h1 h2)
theorem b4Y:OpR X (binaryOp .Add) (rI0 fun i j=>.int (i+j)):=c3m fun _ _ _ _ _ _ _ q=>add_int q
theorem a3s:OpR X (binaryOp .Mult) (rI b3D fun i j=>.int (i * j)):=opI fun _ _ _ _ _ _ _ hc q=>mul_int q hc.ok
theorem a1G:OpR X (binaryOp .FloorDiv) (rI a9H fun i j=>.int (i / j)):=opI fun i j _ _ _ _ _ hc q=>by
 have h1:(0:Int) < j:=hc.1
 have h2:j < 1073741824:=hc.2
 exact floordiv_int ‹om› (by rw [Int.fdiv_eq_ediv_of_nonneg i ‹om›];exact q) (.inl (PyProof.noPylong_small ‹om›))
theorem a0I:OpR X (binaryOp .Mod) (rI (fun _ j=>0 < j) fun i j=>.int (i % j)):=opI fun i j _ _ _ _ _ hc q=>by
 have h1:(0:Int) < j:=hc
 exact mod_int' ‹om› (by rw [Int.fmod_eq_emod_of_nonneg i ‹om›];exact q)
theorem unI {f:Value→Sem Value} {g:Int→Int}
  (rule:∀(i:Int) (t:Tok) (s:Shared) (Q:Value→Shared→Prop) (E:Value→Shared→Prop),Q (.int (g i) s.toks) {s with toks:=s.toks+1}→wpAny (model X.prog X.w) X.A (f (.int i t)) Q E s):
  UnR X f (rU fun i=>.int (g i)):=by
 intro pins s σ H x v Q I rx h
 obtain ⟨i,rfl,q⟩:=h
 obtain ⟨t,rfl⟩:=rx
 exact rule i t s _ _ ⟨.int (g i),H,I.tok _,⟨_,rfl⟩,q⟩
theorem b7r:UnR X (unaryOp .USub) (rU fun i=>.int (-i)):=unI fun _ _ _ _ _ q=>neg_int q
end
def b9x:V→V→Bool
 | .non,.non=>true | .non,.int _=>true | .int _,.non=>true | .non,.bl _=>true | .bl _,.non=>true | .non,.str _=>true | .str _,.non=>true
 | .int _,.int _=>true | .bl _,.bl _=>true | .str _,.str _=>true | .byt _,.byt _=>true
 | .int _,.str _=>true | .str _,.int _=>true | .bl _,.str _=>true | .str _,.bl _=>true
 | _,_=>false
def rEq:R2:=fun x y H Q=>b9x x y=true∧Q (.bl (decide (x=y))) H
def rNe:R2:=fun x y H Q=>b9x x y=true∧Q (.bl (!decide (x=y))) H
theorem a7j {i j:Int}:decide (V.int i=V.int j)=(i == j):=by
 rw [Yl]
 simp
theorem b0O {i j:Bool}:decide (V.bl i=V.bl j)=(i == j):=by
 rw [Yl]
 simp
theorem a9e {i j:Str}:decide (V.str i=V.str j)=(i == j):=by
 rw [Yl]
 simp
theorem a8F {i j:Array UInt8}:decide (V.byt i=V.byt j)=(i.toList == j.toList):=by
 rw [Yl]
 cases i
 cases j
 simp
section
variable {X:Cx} {a b c:Expr} {ta tb tc:TE} {pos:Pos}
theorem a0z {pins:List (Addr×Obj)} {σ:St} {H:Hp} {s:Shared} {Q:VK} {k k':Bool} (I:Inv X pins σ H s) (q:Q (.bl k) H) (e:k=k'):EP X pins σ Q (.bool k') s:=by
 subst e
 exact ⟨.bl k,H,I,rfl,q⟩
theorem b8f:OpR X (compareOp .Eq) rEq:=by
 intro pins s σ H x y v u Q I rx ry h
 obtain ⟨hs,q⟩:=h
 cases x with
 | non=>
  cases rx
  cases y with
  | non=>cases ry;exact PySem.EqNone.eq_none_none (a0z I q (by simp))
  | bl j=>cases ry;exact PySem.EqNone.eq_none_bool (a0z I q (by simp))
  | int j=>obtain ⟨t',rfl⟩:=ry;exact PySem.EqNone.eq_none_int (a0z I q (by simp))
  | str j=>obtain ⟨t',rfl⟩:=ry;exact PySem.EqNone.eq_none_str (a0z I q (by simp))
  | _=>exact absurd (show false=true from hs) Qn
 | bl i=>
  cases rx
  cases y with
  | non=>cases ry;exact PySem.EqNone.eq_bool_none (a0z I q (by simp))
  | bl j=>cases ry;exact eq_bool (a0z I q b0O)
  | str j=>obtain ⟨t',rfl⟩:=ry;exact PySem.EqMixed.eq_bool_str (a0z I q (by simp))
  | _=>exact absurd (show false=true from hs) Qn
 | int i=>
  obtain ⟨t,rfl⟩:=rx
  cases y with
  | non=>cases ry;exact PySem.EqNone.eq_int_none (a0z I q (by simp))
  | int j=>obtain ⟨t',rfl⟩:=ry;exact eq_int (a0z I q a7j)
  | str j=>obtain ⟨t',rfl⟩:=ry;exact PySem.EqMixed.eq_int_str (a0z I q (by simp))
  | _=>exact absurd (show false=true from hs) Qn
 | str i=>
  obtain ⟨t,rfl⟩:=rx
  cases y with
  | non=>cases ry;exact PySem.EqNone.eq_str_none (a0z I q (by simp))
  | bl j=>cases ry;exact PySem.EqMixed.eq_str_bool (a0z I q (by simp))
  | int j=>obtain ⟨t',rfl⟩:=ry;exact PySem.EqMixed.eq_str_int (a0z I q (by simp))
  | str j=>obtain ⟨t',rfl⟩:=ry;exact eq_str (a0z I q a9e)
  | _=>exact absurd (show false=true from hs) Qn
 | byt i=>
  obtain ⟨t,rfl⟩:=rx
  cases y with
  | byt j=>obtain ⟨t',rfl⟩:=ry;exact PySem.W.eq_bytes (a0z I q a8F)
  | _=>exact absurd (show false=true from hs) Qn
 | _=>cases y<;>exact absurd (show false=true from hs) Qn
theorem b8j:OpR X (compareOp .NotEq) rNe:=by
 intro pins s σ H x y v u Q I rx ry h
 obtain ⟨hs,q⟩:=h
 cases x with
 | non=>
  cases rx
  cases y with
  | non=>cases ry;exact PySem.EqNone.ne_none_none (a0z I q (by simp))
  | bl j=>cases ry;exact PySem.EqNone.ne_none_bool (a0z I q (by simp))
  | int j=>obtain ⟨t',rfl⟩:=ry;exact PySem.EqNone.ne_none_int (a0z I q (by simp))
  | str j=>obtain ⟨t',rfl⟩:=ry;exact PySem.EqNone.ne_none_str (a0z I q (by simp))
  | _=>exact absurd (show false=true from hs) Qn
 | bl i=>
  cases rx
  cases y with
  | non=>cases ry;exact PySem.EqNone.ne_bool_none (a0z I q (by simp))
  | bl j=>cases ry;exact ne_bool (a0z I q (congrArg not b0O))
  | str j=>obtain ⟨t',rfl⟩:=ry;exact PySem.EqMixed.ne_bool_str (a0z I q (by simp))
  | _=>exact absurd (show false=true from hs) Qn
 | int i=>
  obtain ⟨t,rfl⟩:=rx
  cases y with
  | non=>cases ry;exact PySem.EqNone.ne_int_none (a0z I q (by simp))
  | int j=>obtain ⟨t',rfl⟩:=ry;exact ne_int (a0z I q (congrArg not a7j))
  | str j=>obtain ⟨t',rfl⟩:=ry;exact PySem.EqMixed.ne_int_str (a0z I q (by simp))
  | _=>exact absurd (show false=true from hs) Qn
 | str i=>
  obtain ⟨t,rfl⟩:=rx
  cases y with
  | non=>cases ry;exact PySem.EqNone.ne_str_none (a0z I q (by simp))
  | bl j=>cases ry;exact PySem.EqMixed.ne_str_bool (a0z I q (by simp))
  | int j=>obtain ⟨t',rfl⟩:=ry;exact PySem.EqMixed.ne_str_int (a0z I q (by simp))
  | str j=>obtain ⟨t',rfl⟩:=ry;exact ne_str (a0z I q (congrArg not a9e))
  | _=>exact absurd (show false=true from hs) Qn
 | byt i=>
  obtain ⟨t,rfl⟩:=rx
  cases y with
  | byt j=>obtain ⟨t',rfl⟩:=ry;exact PySem.W.ne_bytes (a0z I q (congrArg not a8F))
  | _=>exact absurd (show false=true from hs) Qn
 | _=>cases y<;>exact absurd (show false=true from hs) Qn
theorem b7L:OpR X (compareOp .Lt) (rI0 fun i j=>.bl (decide (i < j))):=c4c fun _ _ _ _ _ _ _ q=>lt_int q
theorem a8c:OpR X (compareOp .Lt) (fun x y H Q=>∃i j,x=.str i∧y=.str j∧Q (.bl (decide (i.cps.toList < j.cps.toList))) H):=by
 intro pins s σ H x y v u Q I rx ry h
 obtain ⟨i,j,rfl,rfl,q⟩:=h
 obtain ⟨t,rfl⟩:=rx
 obtain ⟨t',rfl⟩:=ry
 exact lt_str (a0z I q rfl)
theorem a7t:OpR X (compareOp .In) (fun x y H Q=>∃i j,x=.str i∧y=.str j∧Q (.bl (!(Builtin.Str.occurrences j i 0 j.length 1).isEmpty)) H):=by
 intro pins s σ H x y v u Q I rx ry h
 obtain ⟨i,j,rfl,rfl,q⟩:=h
 obtain ⟨t,rfl⟩:=rx
 obtain ⟨t',rfl⟩:=ry
 exact in_str (a0z I q rfl)
theorem a4y:OpR X (compareOp .NotIn) (fun x y H Q=>∃i j,x=.str i∧y=.str j∧Q (.bl (!(!(Builtin.Str.occurrences j i 0 j.length 1).isEmpty))) H):=by
 intro pins s σ H x y v u Q I rx ry h
 obtain ⟨i,j,rfl,rfl,q⟩:=h
 obtain ⟨t,rfl⟩:=rx
 obtain ⟨t',rfl⟩:=ry
 exact notIn_str (a0z I q rfl)
theorem OpR.or {f:Value→Value→Sem Value} {r r':R2} (h:OpR X f r) (h':OpR X f r'):OpR X f (fun x y H Q=>r x y H Q∨r' x y H Q):=by
 intro pins s σ H x y v u Q I rx ry q
 rcases q with q | q
 ·exact h pins s σ H x y v u Q I rx ry q
 ·exact h' pins s σ H x y v u Q I rx ry q
theorem a0n (b:Expr) {op:CmpOp} (h:op≠.In:=by decide) (h2:op≠.NotIn:=by decide):behindInMarks op b=false:=by
 have e1:(op == CmpOp.In)=false:=by cases op<;>first | rfl | exact absurd rfl h
 have e2:(op == CmpOp.NotIn)=false:=by cases op<;>first | rfl | exact absurd rfl h2
 cases b<;>simp [behindInMarks,e1,e2]
theorem b2q {op:CmpOp} {r:R2} (ho:OpR X (compareOp op) r) (ha:PE X a ta) (hb:PE X b tb) (hm:behindInMarks op b=false):PE X (.Compare a [op] [b] pos) (tOp r ta tb):=by
 intro pins s σ H Q I h
 exact wpAny_Compare1 (b7H ha hb I h fun v u s2 x y H2 I2 rx ry q=>ho pins s2 σ H2 x y v u Q I2 rx ry q) hm
def a0O (t:TE):TT:=fun σ H Q=>t σ H fun x H'=>∃k,x=.bl k∧Q k H'
theorem b2b {op:CmpOp} {r:R2} (ho:OpR X (compareOp op) r) (ha:PE X a ta) (hb:PE X b tb) (hm:behindInMarks op b=false):PT X (.Compare a [op] [b] pos) (a0O (tOp r ta tb)):=by
 intro pins s σ H Q I h
 refine wpAny_isTrue_Compare1 (thn (ha pins s σ H _ I h) fun v s1 ⟨x,H1,I1,r1,q1⟩=>thn (hb pins s1 σ H1 _ I1 q1) fun u s2 ⟨y,H2,I2,r2,q2⟩=>
  thn (ho pins s2 σ H2 x y v u _ I2 r1 r2 q2) fun c s3 ⟨z,H3,I3,r3,k,e,q3⟩=>?_) hm
 subst e
 cases r3
 exact wpAny_truthy_bool ⟨H3,I3,q3⟩
theorem a4o:(sizeLine:Nat) < 2 ^ 63:=by rw [sizeLine_eq];decide
theorem a6O:OpR X (binaryOp .Add) (fun x y H Q=>∃i j,x=.str i∧y=.str j∧i.length+j.length≤sizeLine∧Q (.str (i++j)) H):=by
 intro pins s σ H x y v u Q I rx ry h
 obtain ⟨i,j,rfl,rfl,hz,q⟩:=h
 obtain ⟨t,rfl⟩:=rx
 obtain ⟨t',rfl⟩:=ry
 exact add_str (fun t' tk=>⟨.str (i++j),H,I.tok _,⟨_,rfl⟩,q⟩) hz
theorem a2d {x:V} {us:List Value} (r:a0G [x] us):∃u,us=[u]∧a0Q x u:=by
 cases r with
 | cons r1 r2=>cases r2;exact ⟨_,rfl,r1⟩
theorem b8i {x y:V} {us:List Value} (r:a0G [x,y] us):∃u w',us=[u,w']∧a0Q x u∧a0Q y w':=by
 cases r with
 | cons r1 r2=>
  cases r2 with
  | cons r3 r4=>cases r4;exact ⟨_,_,rfl,r1,r3⟩
theorem a9r:a1q X (.type "int") (fun xs H Q=>(∃i,xs=[.int i]∧Q (.int i) H)∨∃k,xs=[.bl k]∧Q (.int (if k then 1 else 0)) H):=by
 intro pins s σ H xs us Q I r h
 rcases h with ⟨i,rfl,q⟩ | ⟨k,rfl,q⟩
 ·obtain ⟨u,rfl,t,rfl⟩:=a2d r
  exact call_int_int ⟨.int i,H,I,⟨_,rfl⟩,q⟩
 ·obtain ⟨u,rfl,r1⟩:=a2d r
  cases r1
  exact call_int_bool ⟨.int (if k then 1 else 0),H,I.tok _,⟨_,rfl⟩,q⟩
theorem a4s:a1q X (.type "str") (fun xs H Q=>∃i,xs=[.int i]∧i.natAbs.log2 < 1920∧Q (.str (toString i)) H):=by
 intro pins s σ H xs us Q I r h
 obtain ⟨i,rfl,hz,q⟩:=h
 obtain ⟨u,rfl,t,rfl⟩:=a2d r
 exact PySem.P.str_of_int hz ⟨.str _,H,I.tok _,⟨_,rfl⟩,q⟩
def b8z (K:Qc) (x:V) (H:Hp) (n:Nat):Prop:=
 match x with
 | .str y=>y.length≤sizeLine∧n=y.length
 | .byt y=>y.size≤sizeLine∧n=y.size
 | .ref p=>(∃xs,SqL K H p xs∧n=xs.length)∨∃xs,SqT K H p xs∧n=xs.length
 | _=>False
theorem b0N:a1q X (.builtin "len") (fun xs H Q=>∃x n,xs=[x]∧b8z X.K x H n∧Q (.int n) H):=by
 intro pins s σ H xs us Q I r h
 obtain ⟨x,n,rfl,e,q⟩:=h
 obtain ⟨u,rfl,rx⟩:=a2d r
 have hl:=a4o
 have hs:sizeLine=16777216:=sizeLine_eq
 cases x with
 | str y=>
  obtain ⟨t,rfl⟩:=rx
  obtain ⟨hy,e'⟩:y.length≤sizeLine∧n=y.length:=e
  subst e'
  exact len_str ‹om› ⟨.int _,H,I.tok _,⟨_,rfl⟩,q⟩
 | byt y=>
  obtain ⟨t,rfl⟩:=rx
  obtain ⟨hy,e'⟩:y.size≤sizeLine∧n=y.size:=e
  subst e'
  exact PySem.W.len_bytes ‹om› ⟨.int _,H,I.tok _,⟨_,rfl⟩,q⟩
 | ref p=>
  cases rx
  have e':(∃xs,SqL X.K H p xs∧n=xs.length)∨∃xs,SqT X.K H p xs∧n=xs.length:=e
  rcases e' with ⟨xs,hx,e'⟩ | ⟨xs,hx,e'⟩
  ·subst e'
   obtain ⟨its,r',pl,hz⟩:=I.list hx
   have hlen:=r'.length
   exact Calls.call_len_list pl.isList (by simp only [Ql];omega) ⟨.int xs.length,H,I.tok _,⟨_,by simp only [Ql];rw [hlen]⟩,q⟩
  ·subst e'
   obtain ⟨its,r',pl,hz⟩:=I.tuple hx
   have hlen:=r'.length
   exact len_tuple pl (by simp only [Ql];omega) ⟨.int xs.length,H,I.tok _,⟨_,by simp only [Ql];rw [hlen]⟩,q⟩
 | _=>exact (show False from e).elim
end
structure b2B (h:Heap) (x dx C:Addr) (mA:Str→Option Value):Prop where
 obj:h.get? x=some (Zb C dx)
 ns:h.Ns1 dx mA
 ne:dx≠x
theorem a9k {h:Heap} {dx:Addr} {mA:Str→Option Value} (n:h.Ns1 dx mA):∃od,h.get? dx=some od∧∀name,Uc name od=some (mA name):=by
 obtain ⟨o,es,ep,ho,hd,hk,_,hm⟩:=n
 refine ⟨o,ho,fun name=>?_⟩
 have e:=hm name
 unfold nsFind findBy at e
 rw [←Array.find?_toList] at e
 unfold Uc
 rw [hd]
 dsimp only
 split
 ·rename_i y q
  rw [q] at e
  exact congrArg some e
 ·rename_i q
  rw [q] at e
  have a:es.toList.any (·.refKey)=false:=by
   rw [List.any_eq_false]
   intro y hy
   obtain ⟨z,t,hkey⟩:=hk y (Array.mem_toList_iff.mp hy)
   simp [DictEntry.refKey,hkey]
  have a':¬es.toList.any (·.refKey)=true:=by rw [a];exact Qn
  rw [if_neg a']
  exact congrArg some e
theorem b2B.look {h:Heap} {x dx C:Addr} {mA:Str→Option Value} (I:b2B h x dx C mA):∃od,PySem.W.InstAt h x (Zb C dx) C (some od)∧∀name,Uc name od=some (mA name):=
 let ⟨od,ho,hl⟩:=a9k I.ns
 ⟨od,⟨I.obj,rfl,rfl,ho⟩,hl⟩
section
variable {prog:Program} {w:World} {A:Around} {E:Value→Shared→Prop} {s:Shared} {K:Qc} {x dx C f:Addr} {mA:Str→Option Value} {name:Str} {v:Value}
theorem b2f {expr:Bool} {Q:Value→Shared→Prop} (X:K.In s.heap) (I:b2B s.heap x dx C mA) (hg:Jq K C name=true) (hh:Um K C=true)
  (ha:Yn K (.ref C) name=some none) (hv:mA name=some v) (hv':Wt v=true) (h:Q v {s with toks:=s.toks+1}):
  wpAny (model prog w) A (getAttr (.ref x) name expr) Q E s:=by
 obtain ⟨od,J,hl⟩:=I.look
 exact PySem.W.get_value X J (Ua hg).1 (PySem.W.findObj_own hh ha rfl (by rw [hl,hv])) hv' h
theorem a9W {pl:Sem Bool} {Q:Value×List Value→Shared→Prop} (X:K.In s.heap) (I:b2B s.heap x dx C mA) (hg:Jq K C name=true)
  (hf:Yn K (.ref C) name=some (some (.ref f))) (ht:Wl K (.ref f)=true) (hv:mA name=none) (h:Q (.ref f,[.ref x]) s):
  wpAny (model prog w) A (getMethod (.ref x) name pl) Q E s:=by
 obtain ⟨od,J,hl⟩:=I.look
 exact PySem.W.method_fn X J (Ua hg).1 (Ua hg).2 hf (beq_iff_eq.mp ht) (by show (Uc name od).map (·.isSome)=some false;rw [hl,hv];rfl) h
theorem b2r {ns:List Str} {Q:Unit→Shared→Prop} (X:K.In s.heap) (I:b2B s.heap x dx C mA)
  (hs:Yn K (.ref C) "__setattr__"=some (some (.builtin "object.__setattr__"))) (hp:Wp K C=true) (ht:Vf K C name=some none) (hh:Um K C=true)
  (hw:PySem.Within mA ns) (hsz:ns.length≤sizeLine)
  (h:∀h',b2B h' x dx C (fun y=>if y=name then some v else mA y)→Us dx s.heap h'→Q () {s with heap:=h',toks:=s.toks+2}):
  wpAny (model prog w) A (setAttr (.ref x) name v) Q E s:=by
 obtain ⟨od,J,hl⟩:=I.look
 refine PySem.W.set_plain X J hs (PySem.W.osa_open (s:={s with toks:=s.toks+1}) (r:=none) X J hp ht fun b=>?_)
 obtain ⟨cd,hc,hd'⟩:=PySem.W.any_some hh
 have hx:s.heap.get? x=some ⟨.ref C,some dx,.plain,#[]⟩:=I.obj
 refine wpAny_bind (wpAny_pure (wpAny_bind (wpAny_bind (wpAny_loadPart hx (wpAny_bind (PySem.W.Looks.here (s:={s with toks:=s.toks+1}) (PySem.W.looks_clsIn X hc) ?_))))))
 rw [hd']
 refine wpAny_pure (a:=some dx) (wpAny_bind (wpAny_pure (wpAny_bind ?_)))
 refine wpAny_nsSet1 (s:={s with toks:=s.toks+1}) I.ns fun h' hn2 hs2=>?_
 obtain ⟨oD,esD,epD,hoD,hdD,hcD⟩:=hn2.count (PySem.Within.cons name v hw)
 refine wpAny_bind (wpAny_lookBehind hoD (by rw [hdD];exact pastItsLine_dict (Qi hcD (by rw [Qj];omega))) ?_)
 exact wpAny_pure (h _ ⟨(hs2.2 _ (Ne.symm I.ne)).trans I.obj,hn2,I.ne⟩ hs2)
theorem b0q {R:Result→Shared→Prop} {vs:List Value} {kw:List (Str×Value)} (X:K.In s.heap) (hm:Ww K C=true)
  (hi:Yn K (.ref C) "__init__"=some (some (.ref f))) (hf:Vp K (.ref f)=some (.type "function"))
  (h:codeAny (model prog w) (A.under (.builtin "type.__call__" ⟨.ref C::vs,kw⟩)) (.call (.ref f) ⟨.ref (s.heap.objs.size+1)::vs,kw⟩) (PySem.W.InitBack (s.heap.objs.size+1) R)
   {s with heap:=(s.heap.push Ys).push (Zb C s.heap.objs.size)}):
  codeAny (model prog w) A (.call (.ref C) ⟨vs,kw⟩) R s:=by
 obtain ⟨hh,g,d,t,os⟩:=s
 exact PySem.W.make_core (PySem.W.makes_of X hm) (PySem.W.looks_findIn X hi) (fun self=>PySem.W.bind_fn X self hf) (.inl rfl) h
end
def a1s (f:Str) (v:V):List (Str×V)→List (Str×V)
 | []=>[(f,v)]
 | (g,x)::r=>if g=f then (g,v)::r else (g,x)::a1s f v r
theorem a0i (f g:Str) (v:V):∀fs:List (Str×V),(a1s f v fs).lookup g=if g=f then some v else fs.lookup g
 | []=>by
  show Zm g [(f,v)]=_
  by_cases h:g=f
  ·have hb:(g == f)=true:=beq_iff_eq.mpr h
   simp only [Zm,hb,if_pos h]
  ·have hb:(g == f)=false:=beq_eq_false_iff_ne.mpr h
   simp only [Zm,hb,if_neg h]
 | (k,x)::r=>by
  have ih:=a0i f g v r
  rw [show a1s f v ((k,x)::r)=(if k=f then (k,v)::r else (k,x)::a1s f v r) from rfl]
  by_cases hk:k=f
  ·rw [if_pos hk]
   by_cases h:g=k
   ·have hb:(g == k)=true:=beq_iff_eq.mpr h
    simp only [Zm,hb,if_pos (h.trans hk)]
   ·have hb:(g == k)=false:=beq_eq_false_iff_ne.mpr h
    simp only [Zm,hb,if_neg (fun e:g=f=>h (e.trans hk.symm))]
  ·rw [if_neg hk]
   by_cases h:g=k
   ·have hb:(g == k)=true:=beq_iff_eq.mpr h
    simp only [Zm,hb,if_neg (fun e:g=f=>hk (h.symm.trans e))]
   ·have hb:(g == k)=false:=beq_eq_false_iff_ne.mpr h
    simp only [Zm,hb]
    exact ih
theorem a3i (f:Str) (v:V):∀fs:List (Str×V),f∈(a1s f v fs).map (·.1)∧∀g,g∈fs.map (·.1)→g∈(a1s f v fs).map (·.1)
 | []=>⟨by simp [a1s],fun g h=>by simp at h⟩
 | (k,x)::r=>by
  obtain ⟨i1,i2⟩:=a3i f v r
  rw [show a1s f v ((k,x)::r)=(if k=f then (k,v)::r else (k,x)::a1s f v r) from rfl]
  by_cases hk:k=f
  ·rw [if_pos hk]
   subst hk
   exact ⟨by simp,fun g h=>by simpa using h⟩
  ·rw [if_neg hk]
   refine ⟨?_,fun g h=>?_⟩
   ·rw [Xp]
    exact Qs _ i1
   ·rw [Xp] at h ⊢
    rcases Qw.mp h with e | e
    ·exact Qw.mpr (.inl e)
    ·exact Qs _ (i2 g e)
theorem a2S (f:Str) (v:V):∀fs:List (Str×V),(a1s f v fs).length≤fs.length+1
 | []=>by simp [a1s]
 | (k,x)::r=>by
  have ih:=a2S f v r
  rw [show a1s f v ((k,x)::r)=(if k=f then (k,v)::r else (k,x)::a1s f v r) from rfl]
  by_cases hk:k=f
  ·rw [if_pos hk,Qj,Qj];omega
  ·rw [if_neg hk,Qj,Qj];omega
theorem a3O.some_of {v:V} {o:Option Value} (r:a3O (some v) o):∃u,o=some u∧a0Q v u:=by
 cases o with
 | none=>exact (show False from r).elim
 | some u=>exact ⟨u,rfl,r⟩
theorem a3O.none_of {o:Option Value} (r:a3O none o):o=none:=by
 cases o with
 | none=>rfl
 | some u=>exact (show False from r).elim
theorem a7R {v:V} {u:Value} (r:a0Q v u):Wt u=true:=by
 cases v with
 | non=>cases (show u=Value.none from r);rfl
 | bl b=>cases (show u=Value.bool b from r);rfl
 | int i=>obtain ⟨t,e⟩:=(show ∃t,u=Value.int i t from r);cases e;rfl
 | str x=>obtain ⟨t,e⟩:=(show ∃t,u=Value.str x t from r);cases e;rfl
 | byt b=>obtain ⟨t,e⟩:=(show ∃t,u=Value.bytes b t from r);cases e;rfl
 | flt b=>obtain ⟨t,e⟩:=(show ∃t,u=Value.float b t from r);cases e;rfl
 | ref a=>cases (show u=Value.ref a from r);rfl
 | ty n=>cases (show u=Value.type n from r);rfl
section
variable {P:Program} {w:World} {H H':Hp} {h h':Heap} {a C dx:Addr} {fs fs':List (Str×V)}
theorem a3U (hok:HOk P w H h) (e:H a=some (.ins C dx fs)):∃mA,b2B h a dx C mA∧(∀f,a3O (fs.lookup f) (mA f))∧PySem.Within mA (fs.map (·.1))∧fs.length≤1000∧H dx=some (.own a):=by
 obtain ⟨d,z,ne,ob,mA,n,r,q⟩:=(show a1f P w H h a (.ins C dx fs) from hok a _ e)
 exact ⟨mA,⟨ob,n,ne⟩,r,q,z,d⟩
end
structure Cls (K:Qc) (C:Addr):Prop where
 pg:Jq K C Str.empty=true
 hd:Um K C=true
 po:Wp K C=true
 sa:Yn K (.ref C) "__setattr__"=some (some (.builtin "object.__setattr__"))
theorem Cls.get {K:Qc} {C:Addr} (c:Cls K C) (f:Str):Jq K C f=true:=c.pg
def a0H (K:Qc) (C:Addr) (f:Str):Prop:=Yn K (.ref C) f=some none
theorem a0H.taker {K:Qc} {C:Addr} {f:Str} (n:a0H K C f):Vf K C f=some none:=by
 unfold Vf
 rw [show Yn K (.ref C) f=some none from n]
 rfl
structure a3q (K:Qc) (C:Addr) (m:Str) (f:Addr):Prop where
 at_:Yn K (.ref C) m=some (some (.ref f))
 fn:Wl K (.ref f)=true
 kp:Zn K (.ref f)=true
section
variable {X:Cx} {pins:List (Addr×Obj)} {σ:St} {H:Hp} {s:Shared} {a C dx:Addr} {fs:List (Str×V)} {f:Str} {v:V} {A:Around} {E:Value→Shared→Prop}
theorem a6K {b:Bool} {Q:Value→Shared→Prop} (I:Inv X pins σ H s) (e:H a=some (.ins C dx fs)) (c:Cls X.K C) (n:a0H X.K C f) (l:fs.lookup f=some v)
  (h:∀u s',Inv X pins σ H s'→a0Q v u→Q u s'):wpAny (model X.prog X.w) A (getAttr (.ref a) f b) Q E s:=by
 obtain ⟨mA,O,r,_,_,_⟩:=a3U I.hok e
 obtain ⟨u,hu,ru⟩:=a3O.some_of (v:=v) (o:=mA f) (by rw [←l];exact r f)
 exact b2f I.kIn O (c.get f) c.hd n hu (a7R ru) (h u _ (I.tok _) ru)
theorem a3z {m:Str} {g:Addr} {pl:Sem Bool} {Q:Value×List Value→Shared→Prop} (I:Inv X pins σ H s) (e:H a=some (.ins C dx fs)) (c:Cls X.K C) (k:a3q X.K C m g) (l:fs.lookup m=none)
  (h:Q (.ref g,[.ref a]) s):wpAny (model X.prog X.w) A (getMethod (.ref a) m pl) Q E s:=by
 obtain ⟨mA,O,r,_,_,_⟩:=a3U I.hok e
 have hn:mA m=none:=a3O.none_of (by rw [←l];exact r m)
 exact a9W I.kIn O (c.get m) k.at_ k.fn hn h
theorem a7d {y:V} {u:Value} {Q:Unit→Shared→Prop} (I:Inv X pins σ H s) (e:H a=some (.ins C dx fs)) (c:Cls X.K C) (n:a0H X.K C f) (hl:fs.length < 1000) (ry:a0Q y u)
  (h:∀s',Inv X pins σ (upd H a (.ins C dx (a1s f y fs))) s'→Q () s'):wpAny (model X.prog X.w) A (setAttr (.ref a) f u) Q E s:=by
 obtain ⟨mA,O,r,wi,_,ho⟩:=a3U I.hok e
 have hz:(fs.map (·.1)).length≤sizeLine:=by rw [Qd,sizeLine_eq];omega
 refine b2r I.kIn O c.sa c.po n.taker c.hd wi hz fun h' O' sb=>h _ ?_
 have hd:∃o,h'.get? dx=some o:=let ⟨o,_,_,e',_⟩:=O'.ns;⟨o,e'⟩
 refine I.write (x:=a) (e:=dx) (by rw [e];exact True.intro) (.inr ho) (fun b q hb z=>(sb.2 b hb).trans z) hd ?_
 refine ⟨by rw [a0d O.ne];exact ho,?_,O.ne,O'.obj,_,O'.ns,fun g=>?_,fun g hg=>?_⟩
 ·have:=a2S f y fs;omega
 ·show a3O ((a1s f y fs).lookup g) (if g=f then some u else mA g)
  rw [a0i]
  by_cases q:g=f
  ·rw [if_pos q,if_pos q];exact ry
  ·rw [if_neg q,if_neg q];exact r g
 ·by_cases q:g=f
  ·rw [q];exact (a3i f y fs).1
  ·refine (a3i f y fs).2 g (wi g fun z=>hg ?_)
   show (if g=f then some u else mA g)=none
   rw [if_neg q];exact z
theorem Inv.made (I:Inv X pins σ H s):Inv X pins σ (upd (upd H s.heap.objs.size (.own (s.heap.objs.size+1))) (s.heap.objs.size+1) (.ins C s.heap.objs.size []))
  {s with heap:=(s.heap.push Ys).push (Zb C s.heap.objs.size)}:=by
 have e1:(s.heap.push Ys).get? s.heap.objs.size=some Ys:=Xf s.heap rfl
 have e2:((s.heap.push Ys).push (Zb C s.heap.objs.size)).get? (s.heap.objs.size+1)=some (Zb C s.heap.objs.size):=by
  have:=Xf (s.heap.push Ys) (o:=Zb C s.heap.objs.size) rfl
  rwa [Ud] at this
 have e3:(s.heap.push Ys).Ns s.heap.objs.size (fun _=>none):=⟨Ys,#[],_,e1,rfl,(fun e he=>absurd he (by simp)),fun _=>rfl⟩
 have I1:=I.laid (a:=s.heap.objs.size) (o:=.own (s.heap.objs.size+1)) (h':=s.heap.push Ys) (t':=s.toks) (fun b u q=>Qm _ q) (Qk _) ⟨_,e1⟩
 refine I1.laid (a:=s.heap.objs.size+1) (o:=.ins C s.heap.objs.size []) (t':=s.toks) (fun b u q=>Qm _ q) (Ut (Ud _ _)) ?_
 have ne:s.heap.objs.size≠s.heap.objs.size+1:=Qt (Uu _)
 refine ⟨by rw [a0d ne,a0g],Xi _,ne,e2,fun _=>none,(Heap.Ns1.of_empty e3).at fun o q=>Qm _ q,fun _=>True.intro,fun y hy=>absurd rfl hy⟩
theorem b2G {prog:Program} {w:World} {env:Env} {e:Expr} {f:Str} {pos:Pos} {s:Shared} {Q:Value→Shared→Prop} (hb:attributeBase e f env (eval e env)=eval e env)
  (h:wpAny (model prog w) A (eval e env) (fun o s₁=>wpAny (model prog w) A (getAttr o f true) Q E s₁) E s):wpAny (model prog w) A (eval (.Attribute e f pos) env) Q E s:=
 Attribute_any_ h (by rw [arm_eval_Attribute,hb])
end
def a2Q (K:Qc) (ta:TE) (f:Str):TE:=fun σ H Q=>ta σ H fun x H1=>∃a C dx fs v,x=.ref a∧H1 a=some (.ins C dx fs)∧Cls K C∧a0H K C f∧fs.lookup f=some v∧Q v H1
def b7D (K:Qc) (ta tv:TE) (f:Str):TS:=fun D σ H=>tv σ H fun y H1=>ta σ H1 fun x H2=>∃a C dx fs,x=.ref a∧H2 a=some (.ins C dx fs)∧Cls K C∧a0H K C f∧fs.length < 1000∧
 D.nx σ (upd H2 a (.ins C dx (a1s f y fs)))
section
variable {X:Cx} {o e value:Expr} {f:Str} {pos pos' tpos:Pos} {ta tv:TE}
theorem b1f (he:PE X e ta) (hb:attributeBase e f X.env (eval e X.env)=eval e X.env):PE X (.Attribute e f pos) (a2Q X.K ta f):=by
 intro pins s σ H Q I h
 refine b2G hb (thn (he pins s σ H _ I h) fun u s1 ⟨x,H1,I1,rx,a,C,dx,fs,v,ex,ea,c,n,l,q⟩=>?_)
 subst ex
 obtain rfl:u=Value.ref a:=rx
 exact a6K I1 ea c n l fun u' s2 I2 ru=>⟨v,H1,I2,ru,q⟩
theorem b5c (ha:PE X o ta) (hv:PE X value tv) (hs:swapsWith value (some (.Attribute o f pos')) pos.line X.env=pure false):PS X (.Assign [.Attribute o f pos'] value pos) (b7D X.K ta tv f):=by
 intro pins s σ H D I h
 refine plainObj_wpAny_Assign_Attribute (thn (hv pins s σ H _ I h) fun u s1 ⟨y,H1,I1,ry,q⟩=>thn (ha pins s1 σ H1 _ I1 q) fun ov s2 ⟨x,H2,I2,rx,a,C,dx,fs,ex,ea,c,n,l,q2⟩=>?_) hs
 subst ex
 obtain rfl:ov=Value.ref a:=rx
 exact a7d I2 ea c n l ry fun s3 I3=>⟨σ,_,I3,q2⟩
end
section
variable {X:Cx} {pins:List (Addr×Obj)} {σ:St} {H:Hp} {s:Shared} {A:Around} {E:Value→Shared→Prop} {Q:Value→Shared→Prop} {c:Value} {b:Bool}
inductive a6W (K:Qc) (H:Hp):V→Value→Prop where
 | non:a6W K H .non (.type "NoneType")
 | bl (x:Bool):a6W K H (.bl x) (.type "bool")
 | int (i:Int):a6W K H (.int i) (.type "int")
 | str (x:Str):a6W K H (.str x) (.type "str")
 | flt (x:UInt64):a6W K H (.flt x) (.type "float")
 | lst {a:Addr} {xs:List V} (e:H a=some (.lst xs)):a6W K H (.ref a) (.type "list")
 | frz {a:Addr} {o:Obj} {xs:List V} (e:H a=some (.frz o (.lst xs))):a6W K H (.ref a) (.type "list")
 | tup {a:Addr} {xs:List V} (e:H a=some (.tup xs)):a6W K H (.ref a) (.type "tuple")
 | dK {a:Addr} {kvs:List (Key×V)} (e:H a=some (.dK kvs)):a6W K H (.ref a) (.type "dict")
 | dT {a:Addr} {kvs:List (List Key×V)} (e:H a=some (.dT kvs)):a6W K H (.ref a) (.type "dict")
 | ins {a C dx:Addr} {fs:List (Str×V)} (e:H a=some (.ins C dx fs)) (cl:Cls K C) (ha:Yn K (.ref C) "__class__"=some (some (.builtin "object.__class__")))
   (hn:Uo K (.builtin "object.__class__") "__get__"=some (some (.builtin "getset_descriptor.__get__"))) (htk:Wx K (.builtin "object.__class__")=some true)
   (hm:PySem.W.mroIn K C (.type "object")=some true):a6W K H (.ref a) (.ref C)
theorem a8V {x:V} {u t:Value} (I:Inv X pins σ H s) (rx:a0Q x u) (ty:a6W X.K H x t) (e:Yd X.K t c=some b) (h:∀tk,Q (.bool b) {s with toks:=tk}):
  wpAny (model X.prog X.w) A (call (.builtin "isinstance") [u,c]) Q E s:=by
 cases ty with
 | non=>cases (show u=Value.none from rx);exact Yp PySem.W.kitx_none I.kIn True.intro e (fun z=>nomatch z) h
 | bl y=>cases (show u=Value.bool y from rx);exact Yp PySem.W.kitx_bool I.kIn True.intro e (fun z=>nomatch z) h
 | int i=>obtain ⟨t,q⟩:=(show ∃t,u=Value.int i t from rx);cases q;exact Yp PySem.W.kitx_int I.kIn True.intro e (fun z=>nomatch z) h
 | str y=>obtain ⟨t,q⟩:=(show ∃t,u=Value.str y t from rx);cases q;exact Yp PySem.W.kitx_str I.kIn True.intro e (fun z=>nomatch z) h
 | flt y=>obtain ⟨t,q⟩:=(show ∃t,u=Value.float y t from rx);cases q;exact Yp PySem.W.kitx_float I.kIn True.intro e (fun z=>nomatch z) h
 | @lst a xs ea=>
  cases (show u=Value.ref a from rx)
  obtain ⟨_,_,n,_,h1⟩:=(show a1f X.prog X.w H s.heap a (.lst xs) from I.hok a _ ea)
  exact Yp Wq I.kIn ⟨_,h1,rfl⟩ e (fun z=>nomatch z) h
 | @frz a ob xs ea=>
  cases (show u=Value.ref a from rx)
  obtain ⟨_,_,_,n,_,h1⟩:=(show a1f X.prog X.w H s.heap a (.frz ob (.lst xs)) from I.hok a _ ea)
  exact Yp Wq I.kIn ⟨_,h1,rfl⟩ e (fun z=>nomatch z) h
 | @tup a xs ea=>
  cases (show u=Value.ref a from rx)
  obtain ⟨_,_,_,p⟩:=(show a1f X.prog X.w H s.heap a (.tup xs) from I.hok a _ ea)
  obtain ⟨o,h1,h2,_⟩:=p
  exact Yp PySem.W.kitx_tuple I.kIn ⟨o,h1,h2⟩ e (fun z=>nomatch z) h
 | @dK a kvs ea=>
  cases (show u=Value.ref a from rx)
  obtain ⟨_,_,vs,_,p⟩:=(show a1f X.prog X.w H s.heap a (.dK kvs) from I.hok a _ ea)
  obtain ⟨o,es,ep,h1,h2,_⟩:=p
  exact Yp Wr I.kIn ⟨o,h1,h2.1⟩ e (fun z=>nomatch z) h
 | @dT a kvs ea=>
  cases (show u=Value.ref a from rx)
  obtain ⟨_,_,xs,_,o,es,ep,h1,h2,_⟩:=(show a1f X.prog X.w H s.heap a (.dT kvs) from I.hok a _ ea)
  exact Yp Wr I.kIn ⟨o,h1,h2.1⟩ e (fun z=>nomatch z) h
 | @ins a C dx fs ea cl ha hn htk hm=>
  cases (show u=Value.ref a from rx)
  obtain ⟨mA,O,_⟩:=a3U I.hok ea
  obtain ⟨od,J,_⟩:=O.look
  exact Yp (PySem.W.kitx_own (cl.get _) cl.hd ha hn htk hm) I.kIn J e (fun z=>nomatch z) h
end
structure a2t (k:Nat) (A:Around):Prop where
 hd:A.handled=none
 dp:A.depth+3 * k+5 < recursionLimit
 un:A.units+16 * k+200 < cLine
theorem a2t.mono {j k:Nat} {A:Around} (r:a2t k A) (h:j≤k):a2t j A:=⟨r.hd,by have:=r.dp;omega,by have:=r.un;omega⟩
theorem a2t.deeper {k:Nat} {A:Around} (r:a2t (k+1) A) (env:Env):a2t k (A.deeper env):=
 ⟨r.hd,by have:=r.dp;show A.depth+1+3 * k+5 < _;omega,by have:=r.un;show A.units+3+16 * k+200 < _;omega⟩
theorem a6X {A:Around} {C:Addr} {us:List Value} {kw:List (Str×Value)}:(A.under (.builtin "type.__call__" ⟨.ref C::us,kw⟩)).depth=A.depth+1:=by
 first | rfl | simp [Around.under,Code.weight,Code.isCreation,Code.isGuard,Code.isCaller,Code.frames,Code.isFrame,guardIds]
theorem a6A {A:Around} {C:Addr} {us:List Value} {kw:List (Str×Value)}:(A.under (.builtin "type.__call__" ⟨.ref C::us,kw⟩)).units=A.units+1:=by
 first | rfl | simp [Around.under,Code.cUnits,Code.frames,Code.isFrame]
theorem a2t.make {k:Nat} {A:Around} (r:a2t (k+1) A) (C:Addr) (us:List Value) (kw:List (Str×Value)):a2t k (A.under (.builtin "type.__call__" ⟨.ref C::us,kw⟩)):=
 ⟨r.hd,by have:=r.dp;rw [a6X];omega,by have:=r.un;rw [a6A];omega⟩
theorem a2t.depth {k:Nat} {A:Around} (r:a2t k A):A.depth < recursionLimit:=by have:=r.dp;omega
theorem a2t.units {k:Nat} {A:Around} (r:a2t k A):A.units+64 < cLine:=by have:=r.un;omega
def a0B:TA:=fun _ H Q=>Q [] H
def a0k (ta:TE) (tr:TA):TA:=fun σ H Q=>ta σ H fun x H1=>tr σ H1 fun xs H2=>Q (x::xs) H2
section
variable {X:Cx} {e:Expr} {es:List Expr} {te:TE} {t:TA} {pos:Pos}
theorem b5I:PA X [] a0B:=fun _ _ _ _ H Q I h=>Calls.spliced_nil ⟨[],H,I,.nil,h⟩
theorem b2n (ha:PE X e te) (hr:PA X es t) (hs:starEach (e::es) X.env=(false,eval e X.env)::starEach es X.env:=by rfl):PA X (e::es) (a0k te t):=by
 intro pos pins s σ H Q I h
 rw [hs]
 show wpAny _ _ (spliced ((false,eval e X.env)::backTo pos (starEach es X.env))) _ _ s
 refine Calls.spliced_cons (thn (ha pins s σ H _ I h) fun u s1 ⟨x,H1,I1,r1,q1⟩=>?_)
 exact thn (hr pos pins s1 σ H1 _ I1 q1) fun us s2 ⟨xs,H2,I2,r2,q2⟩=>⟨x::xs,H2,I2,.cons r1 r2,q2⟩
def a6c (t:TA):TE:=fun σ H Q=>t σ H fun xs H1=>xs.length≤sizeLine∧∀p,H1 p=none→Q (.ref p) (upd H1 p (.tup xs))
def a2H (t:TA):TE:=fun σ H Q=>t σ H fun xs H1=>xs.length≤sizeLine∧∀p,H1 p=none→Q (.ref p) (upd H1 p (.lst xs))
theorem b6F {x1} (h:PA X es t):PE X (.Tuple es x1 pos) (a6c t):=by
 intro pins s σ H Q I hq
 refine wpAny_Tuple_spliced (thn (h pos pins s σ H _ I hq) fun us s1 ⟨xs,H1,I1,r,z,q⟩=>⟨by rw [←r.length];exact z,?_⟩)
 have hf:H1 s1.heap.objs.size=none:=I1.hok.fresh (Qk _)
 refine ⟨.ref s1.heap.objs.size,upd H1 s1.heap.objs.size (.tup xs),I1.laid (t':=s1.toks) (fun b u e=>Qm _ e) (Qk _) ?_,rfl,q _ hf⟩
 exact ⟨z,us,r,⟨_,Xf _ rfl,rfl,_,rfl⟩⟩
theorem b5S (h:PA X es t):PE X (.List es pos) (a2H t):=by
 intro pins s σ H Q I hq
 refine wpAny_List_spliced (thn (h pos pins s σ H _ I hq) fun us s1 ⟨xs,H1,I1,r,z,q⟩=>⟨by rw [←r.length];exact z,?_⟩)
 have hf:H1 s1.heap.objs.size=none:=I1.hok.fresh (Qk _)
 refine ⟨.ref s1.heap.objs.size,upd H1 s1.heap.objs.size (.lst xs),I1.laid (t':=s1.toks) (fun b u e=>Qm _ e) (Qk _) ?_,rfl,q _ hf⟩
 exact ⟨z,us,0,r,Xf _ rfl⟩
end
abbrev Sp:=List V→Hp→VK→XK→Prop
abbrev CXT:=List Env→Hp→Shared→XK→Value→Shared→Prop
structure b3k (P:Program) (w:World) (K:Qc) (mg:Str→Option Value) (base:Heap) (A:Around) (outer:List Env) (s:Shared) (H:Hp):Prop where
 frames:A.frames=some outer
 mod:Mod K mg base
 bs:∀b o,base.get? b=some o→s.heap.get? b=some o∧H b=none
 bsz:base.objs.size≤s.heap.objs.size
 funs:s.heap.FunFrames base outer
 frf:∀b∈frs outer,H b=none
 hok:HOk P w H s.heap
 bare:AllBare s.gens
def CE (outer:List Env) (P:Program) (w:World) (H:Hp) (s:Shared) (Q:VK) (u:Value) (s':Shared):Prop:=
 ∃v H',s'.os=s.os∧AllBare s'.gens∧Un (frs outer) [] H H' s.heap s'.heap∧HOk P w H' s'.heap∧a0Q v u∧Q v H'
def CR (CX:CXT) (outer:List Env) (P:Program) (w:World) (H:Hp) (s:Shared) (Q:VK) (E:XK) (r:Result) (s':Shared):Prop:=
 match r with
 | .ok (.ret u)=>CE outer P w H s Q u s'
 | .ok _=>False
 | .error e=>CX outer H s E e s'
structure a0T (P:Program) (w:World) (K:Qc) (mg:Str→Option Value) (base:Heap) (CX:CXT) (k:Nat) (f:Addr) (fd:FuncData) (ps:List Str) (sp:Sp):Prop where
 len:∀vs H Q E,sp vs H Q E→vs.length=ps.length
 run:∀(A:Around) (outer:List Env) (s:Shared) (H:Hp) (args:Args) (us:List Value) (vs:List V) (Q:VK) (E:XK),a2t k A→b3k P w K mg base A outer s H→BindsTo s fd args (ps.zip us)→a0G vs us→sp vs H Q E→
  codeAny (model P w) A (.call (.ref f) args) (CR CX outer P w H s Q E) s
theorem b3k.make {P:Program} {w:World} {K:Qc} {mg:Str→Option Value} {base:Heap} {A:Around} {outer:List Env} {s:Shared} {H:Hp} (e:b3k P w K mg base A outer s H) (C:Addr) (us:List Value) (kw:List (Str×Value)):
  b3k P w K mg base (A.under (.builtin "type.__call__" ⟨.ref C::us,kw⟩)) outer s H:=⟨by first | exact e.frames | (simpa [Around.under,Code.envs,Code.isFrame,pushEnvs] using e.frames),e.mod,e.bs,e.bsz,e.funs,e.frf,e.hok,e.bare⟩
section
variable {X:Cx} {pins:List (Addr×Obj)} {σ:St} {H:Hp} {s s':Shared}
theorem Inv.env0 (I:Inv X pins σ H s):b3k X.prog X.w X.K X.mg X.base X.A X.stack s H:=
 ⟨I.ok.frames,I.ok.mod,I.bs,Qi I.ok.bsz I.sz,I.stack,I.stkFree,I.hok,I.bare⟩
theorem Inv.after {Q:VK} {u:Value} (I:Inv X pins σ H s) (h:CE X.stack X.prog X.w H s Q u s'):EP X pins σ Q u s':=by
 obtain ⟨v,H',os,bare,un,hok,r,q⟩:=h
 obtain ⟨hh,g,d,t,os'⟩:=s'
 obtain rfl:os'=s.os:=os
 exact ⟨v,H',I.call (h':=hh) (g':=g) (d':=d) (t':=t) (ch:=[]) un hok bare (fun b z=>absurd z (by simp)),r,q⟩
end
def a0A (sp:Sp) (dvs:List V) (E:XK) (t:TA):TE:=fun σ H Q=>t σ H fun vs H1=>sp (vs++dvs) H1 Q E
def a2n (C:Addr) (m:Str) (sp:Sp) (dvs:List V) (E:XK) (ta:TE) (t:TA):TE:=fun σ H Q=>ta σ H fun x H1=>∃a dx fs,x=.ref a∧H1 a=some (.ins C dx fs)∧fs.lookup m=none∧
 t σ H1 fun vs H2=>sp (x::(vs++dvs)) H2 Q E
def b0w (C:Addr) (sp:Sp) (dvs:List V) (E:XK) (t:TA):TE:=fun σ H Q=>t σ H fun vs H1=>∀x dx,H1 x=none→H1 dx=none→dx≠x→
 sp (.ref x::(vs++dvs)) (upd (upd H1 dx (.own x)) x (.ins C dx [])) (fun v H2=>v=.non∧Q (.ref x) H2) E
def a0p (K:Qc) (fd:FuncData) (ps:List Str) (ds:List Value):Prop:=
 ∀(s:Shared) (us:List Value),K.In s.heap→(us++ds).length=ps.length→BindsTo s fd ⟨us,[]⟩ (ps.zip (us++ds))
theorem a0p.all {K:Qc} {fd:FuncData} {ps:List Str} (h:∀us:List Value,us.length=ps.length→bindArgs fd ⟨us,[]⟩=pure (ps.zip us)):a0p K fd ps []:=fun s us _ hl=>by
 rw [Qf] at hl ⊢
 exact .of_eq (h us hl)
def a2y (CX:CXT) (X:Cx) (E:XK):Prop:=∀(pins:List (Addr×Obj)) (σ:St) (H:Hp) (s:Shared) (e:Value) (s':Shared),Inv X pins σ H s→CX X.stack H s E e s'→X.xe e s'
section
variable {X:Cx} {CX:CXT} {k:Nat} {f C:Addr} {fd:FuncData} {ps:List Str} {sp:Sp} {dvs:List V} {ds:List Value} {E:XK} {x m:Str} {p pos apos:Pos} {e o:Expr} {es:List Expr} {ta:TE} {t:TA}
theorem a6h {pins:List (Addr×Obj)} {σ:St} {H:Hp} {s:Shared} {Q:VK} {us:List Value} {vs:List V} (F:a0T X.prog X.w X.K X.mg X.base CX k f fd ps sp) (hr:a2t k X.A) (hb:a0p X.K fd ps ds) (hd:a0G dvs ds) (hx:a2y CX X E)
  (I:Inv X pins σ H s) (r:a0G vs us) (h:sp (vs++dvs) H Q E):wpAny (model X.prog X.w) X.A (call (.ref f) us) (EP X pins σ Q) X.xe s:=by
 have r2:a0G (vs++dvs) (us++ds):=r.append hd
 have hl:(us++ds).length=ps.length:=by rw [←r2.length];exact F.len _ _ _ _ h
 refine wpAny_call (codeAny_mono (F.run X.A X.stack s H ⟨us,[]⟩ (us++ds) (vs++dvs) Q E hr I.env0 (hb s us I.kIn hl) r2 h) fun r s' hq=>?_)
 cases r with
 | error e=>exact hx pins σ H s e s' I hq
 | ok fl=>
  cases fl with
  | ret u=>exact I.after hq
  | next=>exact False.elim hq
  | brk=>exact False.elim hq
  | cont=>exact False.elim hq
theorem b3q (F:a0T X.prog X.w X.K X.mg X.base CX k f fd ps sp) (hr:a2t k X.A) (hg:Gl X x) (hm:X.mg x=some (.ref f)) (hk:Zn X.K (.ref f)=true) (hb:a0p X.K fd ps ds) (hd:a0G dvs ds) (hx:a2y CX X E)
  (ha:PA X (e::es) t) (hdb:(x == ("__debug__":Str))=false:=by decide) (he:starEach (e::es) X.env=(false,eval e X.env)::starEach es X.env:=by rfl) (hpl:(backTo pos (starEach es X.env)).any (·.1)=false:=by rfl):
  PE X (.Call (.Name x p) (e::es) [] pos) (a0A sp dvs E t):=by
 intro pins s σ H Q I h
 refine wpAny_Call_Name_kw (a5g I hg hm ?_ hdb)
 refine Jg (h₀:=X.base) I.ok.mod.kin hk (thn (ha pos pins s σ H _ I h) fun us s1 ⟨vs,H1,I1,r,q⟩=>⟨I1.kIn,?_⟩) he hpl
 exact a6h F hr hb hd hx I1 r q
theorem b3t {pl:Sem Bool} (he:PE X o ta) (c:Cls X.K C) (hm:a3q X.K C m f) (F:a0T X.prog X.w X.K X.mg X.base CX k f fd ps sp) (hr:a2t k X.A) (hb:a0p X.K fd ps ds) (hd:a0G dvs ds) (hx:a2y CX X E) (ha:PA X (e::es) t)
  (hst:starEach (e::es) X.env=(false,eval e X.env)::starEach es X.env:=by rfl) (hpl:(backTo pos (starEach es X.env)).any (·.1)=false:=by rfl)
  (ht:eval (.Call (.Attribute o m apos) (e::es) [] pos) X.env=(do
   let ov ←eval o X.env
   standAt apos.atName
   let (f,first) ←holding [ov] (getMethod ov m pl)
   callWith pos f first (backTo pos (starEach (e::es) X.env)) (backToKw pos (keywordEach [] X.env))):=by rfl):
  PE X (.Call (.Attribute o m apos) (e::es) [] pos) (a2n C m sp dvs E ta t):=by
 intro pins s σ H Q I h
 refine Js (pl:=pl) (thn (he pins s σ H _ I h) fun u s1 ⟨x,H1,I1,rx,a,dx,fs,ex,ea,l,q⟩=>?_) ht
 subst ex
 obtain rfl:u=Value.ref a:=rx
 refine a3z I1 ea c hm l ?_
 refine Jg (first:=[.ref a]) (h₀:=X.base) I.ok.mod.kin hm.kp (thn (ha pos pins s1 σ H1 _ I1 q) fun us s2 ⟨vs,H2,I2,r,q2⟩=>⟨I2.kIn,?_⟩) hst hpl
 exact a6h (us:=.ref a::us) (vs:=.ref a::vs) F hr hb hd hx I2 (.cons rfl r) q2
theorem a9P {pl:Sem Bool} (he:PE X o ta) (c:Cls X.K C) (hm:a3q X.K C m f) (F:a0T X.prog X.w X.K X.mg X.base CX k f fd ps sp) (hr:a2t k X.A) (hb:a0p X.K fd ps ds) (hd:a0G dvs ds) (hx:a2y CX X E)
  (ht:eval (.Call (.Attribute o m apos) [] [] pos) X.env=(do
   let ov ←eval o X.env
   standAt apos.atName
   let (f,first) ←holding [ov] (getMethod ov m pl)
   callWith pos f first (backTo pos (starEach [] X.env)) (backToKw pos (keywordEach [] X.env))):=by rfl):
  PE X (.Call (.Attribute o m apos) [] [] pos) (a2n C m sp dvs E ta a0B):=by
 intro pins s σ H Q I h
 refine Js (pl:=pl) (thn (he pins s σ H _ I h) fun u s1 ⟨x,H1,I1,rx,a,dx,fs,ex,ea,l,q⟩=>?_) ht
 subst ex
 obtain rfl:u=Value.ref a:=rx
 refine a3z I1 ea c hm l ?_
 exact PySem.W.callWith_K0 (first:=[.ref a]) I1.kIn hm.kp (a6h (us:=[.ref a]) (vs:=[.ref a]) F hr hb hd hx I1 (.cons rfl .nil) q)
structure Mk (K:Qc) (C f:Addr):Prop where
 makes:Ww K C=true
 init:Yn K (.ref C) "__init__"=some (some (.ref f))
 fn:Wl K (.ref f)=true
 kp:Zn K (.ref C)=true
theorem b0E {pins:List (Addr×Obj)} {σ:St} {H:Hp} {s:Shared} {Q:VK} {us:List Value} {vs:List V} (M:Mk X.K C f) (F:a0T X.prog X.w X.K X.mg X.base CX k f fd ps sp) (hr:a2t (k+1) X.A) (hb:a0p X.K fd ps ds) (hd:a0G dvs ds)
  (hx:a2y CX X E) (I:Inv X pins σ H s) (r:a0G vs us)
  (h:∀x dx,H x=none→H dx=none→dx≠x→sp (.ref x::(vs++dvs)) (upd (upd H dx (.own x)) x (.ins C dx [])) (fun v H2=>v=.non∧Q (.ref x) H2) E):
  wpAny (model X.prog X.w) X.A (call (.ref C) us) (EP X pins σ Q) X.xe s:=by
 have hq:=h (s.heap.objs.size+1) s.heap.objs.size (I.hok.fresh (Zf _)) (I.hok.fresh (Qk _)) (Qt (Uu _))
 have I2:=Inv.made (C:=C) I
 have r2:a0G (V.ref (s.heap.objs.size+1)::(vs++dvs)) (Value.ref (s.heap.objs.size+1)::(us++ds)):=.cons rfl (r.append hd)
 have hl:(Value.ref (s.heap.objs.size+1)::us++ds).length=ps.length:=by
  have e:=r2.length
  rw [F.len _ _ _ _ hq] at e
  exact e.symm
 refine wpAny_call (b0q (f:=f) I.kIn M.makes M.init (beq_iff_eq.mp M.fn) (codeAny_mono (F.run _ X.stack _ _ ⟨Value.ref (s.heap.objs.size+1)::us,[]⟩ (Value.ref (s.heap.objs.size+1)::(us++ds)) _ _ E (hr.make C us [])
  (I2.env0.make C us []) (hb _ (Value.ref (s.heap.objs.size+1)::us) I2.kIn hl) r2 hq) fun r s' hq'=>?_))
 cases r with
 | error e=>exact hx pins σ _ _ e s' I2 hq'
 | ok fl=>
  cases fl with
  | ret u=>
   obtain ⟨v,H',I3,rv,ev,q3⟩:=I2.after hq'
   subst ev
   exact ⟨rv,⟨V.ref (s.heap.objs.size+1),H',I3,rfl,q3⟩⟩
  | next=>exact False.elim hq'
  | brk=>exact False.elim hq'
  | cont=>exact False.elim hq'
theorem b2K (M:Mk X.K C f) (F:a0T X.prog X.w X.K X.mg X.base CX k f fd ps sp) (hr:a2t (k+1) X.A) (hg:Gl X x) (hm:X.mg x=some (.ref C)) (hb:a0p X.K fd ps ds) (hd:a0G dvs ds) (hx:a2y CX X E)
  (ha:PA X (e::es) t) (hdb:(x == ("__debug__":Str))=false:=by decide) (he:starEach (e::es) X.env=(false,eval e X.env)::starEach es X.env:=by rfl) (hpl:(backTo pos (starEach es X.env)).any (·.1)=false:=by rfl):
  PE X (.Call (.Name x p) (e::es) [] pos) (b0w C sp dvs E t):=by
 intro pins s σ H Q I h
 refine wpAny_Call_Name_kw (a5g I hg hm ?_ hdb)
 refine Jg (h₀:=X.base) I.ok.mod.kin M.kp (thn (ha pos pins s σ H _ I h) fun us s1 ⟨vs,H1,I1,r,q⟩=>⟨I1.kIn,?_⟩) he hpl
 exact b0E M F hr hb hd hx I1 r q
end
structure a0e (N P:List Str) (sc:Scope):Prop where
 kind:sc.kind=.function
 co:sc.isCoroutine=false
 gen:sc.isGenerator=false
 nd:N.Nodup
 pre:N.take P.length=P
 par:∀x∈P,sc.names.lookup x=some .local∨sc.names.lookup x=some .cell
 nofree:∀y∈sc.names,y.2≠.free
theorem a4M {kindOf:Str→Option NameKind} {x:Str}:∀{binds:List (Str×Value)} {m:Str→Option Value},(∀v,(x,v)∉binds)→bindL kindOf binds m x=m x
 | [],_,_=>rfl
 | (n,v)::r,m,h=>by
  unfold bindL
  rw [a4M fun w hw=>h w (Qs _ hw)]
  split
  ·have:x≠n:=by rintro rfl;exact h v Qu
   simp [this]
  ·rfl
theorem a4l {kindOf:Str→Option NameKind} {x:Str}:∀{binds:List (Str×Value)} {m:Str→Option Value},(∀v,(x,v)∉binds)→bindC kindOf binds m x=m x
 | [],_,_=>rfl
 | (n,v)::r,m,h=>by
  unfold bindC
  rw [a4l fun w hw=>h w (Qs _ hw)]
  split
  ·rfl
  ·have:x≠n:=by rintro rfl;exact h v Qu
   simp [this]
theorem a4z {kindOf:Str→Option NameKind} {x:Str} {v:Value}:∀{P:List Str} {vs:List Value} {i:Nat} {m:Str→Option Value},P.Nodup→P[i]?=some x→vs[i]?=some v→kindOf x=some .local→
  bindL kindOf (P.zip vs) m x=some v
 | [],_,_,_,_,h,_,_=>by simp at h
 | _::_,[],_,_,_,_,h,_=>by simp at h
 | p::P,w::vs,0,m,nd,h1,h2,hk=>by
  simp at h1 h2;subst h1;subst h2
  show bindL kindOf ((p,w)::P.zip vs) m p=_
  unfold bindL
  rw [a4M fun v hv=>(Zi.mp nd).1 (Vg hv).1,if_pos hk]
  simp
 | p::P,w::vs,i+1,m,nd,h1,h2,hk=>by
  show bindL kindOf ((p,w)::P.zip vs) m x=_
  unfold bindL
  exact a4z (i:=i) (Zi.mp nd).2 (by simpa using h1) (by simpa using h2) hk
theorem a4F {kindOf:Str→Option NameKind} {x:Str} {v:Value}:∀{P:List Str} {vs:List Value} {i:Nat} {m:Str→Option Value},P.Nodup→P[i]?=some x→vs[i]?=some v→kindOf x≠some .local→
  bindC kindOf (P.zip vs) m x=some v
 | [],_,_,_,_,h,_,_=>by simp at h
 | _::_,[],_,_,_,_,h,_=>by simp at h
 | p::P,w::vs,0,m,nd,h1,h2,hk=>by
  simp at h1 h2;subst h1;subst h2
  show bindC kindOf ((p,w)::P.zip vs) m p=_
  unfold bindC
  rw [a4l fun v hv=>(Zi.mp nd).1 (Vg hv).1,if_neg hk]
  simp
 | p::P,w::vs,i+1,m,nd,h1,h2,hk=>by
  show bindC kindOf ((p,w)::P.zip vs) m x=_
  unfold bindC
  exact a4F (i:=i) (Zi.mp nd).2 (by simpa using h1) (by simpa using h2) hk
def a0r (N:List Str) (vs:List V):St:=vs.map some++Xd (N.length - vs.length) none
def b3F (CX:CXT) (P:Program) (w:World) (K:Qc) (mg:Str→Option Value) (base:Heap) (N:List Str) (qual:Str) (scope:Scope) (f:Addr) (cd:Value) (A:Around) (outer:List Env) (s:Shared) (H:Hp) (E:XK):Cx where
 prog:=P
 w:=w
 K:=K
 mg:=mg
 base:=base
 A:=A.deeper (envOfC qual scope s.heap.objs.size f cd)
 N:=N
 s₀:=s
 H₀:=H
 env:=envOfC qual scope s.heap.objs.size f cd
 outer:=outer
 stack:=envOfC qual scope s.heap.objs.size f cd::outer
 ex:=[]
 calm:=true
 fn:=fun _=>true
 pn:=[]
 xe:=fun e s'=>wpAny (model P w) (A.deeper (envOfC qual scope s.heap.objs.size f cd)) (leaving (envOfC qual scope s.heap.objs.size f cd) e) (fun _ s''=>CX outer H s E e s'') (fun e' s''=>CX outer H s E e' s'') s'
theorem a5G {sc:Scope} {n:Nat} {x:Str} (h:sc.names.lookup x=some .cell):∃c,(cellsFrom n sc.names []).lookup x=some c:=by
 have q:=Vj sc.names n [] (.inl h)
 exact Uv.mp q
theorem a8n {CX:CXT} {P:Program} {w:World} {K:Qc} {mg:Str→Option Value} {base:Heap} {N ps:List Str} {qual:Str} {scope:Scope} {f:Addr} {cd:Value} {A:Around} {outer:List Env} {s s1:Shared} {H:Hp} {E:XK} {us:List Value} {vs:List V}
  (S:a0e N ps scope) (hd:A.handled=none) (e0:b3k P w K mg base A outer s H) (hl:vs.length=ps.length) (r:a0G vs us)
  (x:InCallC s s.heap.objs.size (bindL (envOfC qual scope s.heap.objs.size f cd).kindOf (ps.zip us) fun _=>none) (cellsFrom (s.heap.objs.size+1) scope.names []) (bindC (envOfC qual scope s.heap.objs.size f cd).kindOf (ps.zip us) fun _=>none) s1):
  Inv (b3F CX P w K mg base N qual scope f cd A outer s H E) [] (a0r N vs) H s1:=by
 have hpl:ps.length≤N.length:=by have:=congrArg Za S.pre;rw [Xu] at this;omega
 obtain ⟨h1,tk,rfl,hk⟩:=x.done
 have noA:∀b:Addr,b∉(b3F CX P w K mg base N qual scope f cd A outer s H E).ex:=fun b z=>absurd (show b∈([]:List Addr) from z) (by simp)
 refine ⟨⟨e0.mod,S.kind,rfl,rfl,Qk _,fun y z c h1 h2=>?_,fun y hy=>?_,fun y c _ h=>?_,fun _=>hd,Around.frames_deeper e0.frames,.inr ⟨rfl,rfl⟩,fun b z=>absurd z (noA b),e0.bs,e0.bsz,fun b _ _=>noA b,fun b z=>absurd z (noA b),e0.funs,e0.frf⟩,
  rfl,e0.bare,Un.kept hk,⟨_,x.toInCall.ns,fun i y v h1 h2 h3=>?_⟩,fun y c h=>⟨_,x.cell y c h⟩,e0.hok.fresh (Qk _),fun y c h=>?_,fun p hp=>absurd (show p∈([]:List (Addr×Obj)) from hp) (by simp),e0.hok.kept hk,?_⟩
 ·exact name_of_addr x.apart (PySem.mem_of_lookup h1) (PySem.mem_of_lookup h2)
 ·have hy:scope.names.lookup y=some .cell∨scope.names.lookup y=some .free:=hy
  rcases hy with hy | hy
  ·exact a5G hy
  ·exact absurd rfl (S.nofree _ (PySem.mem_of_lookup hy))
 ·exact Wi (x.above y c (PySem.mem_of_lookup h))
 ·have hi:i < vs.length:=by
   unfold a0r at h2
   by_cases hi:i < vs.length
   ·exact hi
   ·rw [Ye (by simpa using hi)] at h2
    rw [Vb] at h2
    split at h2<;>cases h2
  have ha:vs[i]?=some v:=by
   unfold a0r at h2
   rw [Yh (by simpa using hi),Qz] at h2
   cases e:vs[i]? with
   | none=>rw [e] at h2;cases h2
   | some a=>rw [e] at h2;cases h2;rfl
  obtain ⟨u,hu,rv⟩:=r.get ha
  have hp:ps[i]?=some y:=by
   rw [←S.pre,List.getElem?_take_of_lt ‹om›];exact h1
  have ndP:ps.Nodup:=by rw [←S.pre];exact S.nd.sublist (List.take_sublist _ _)
  refine ⟨u,rv,?_⟩
  rcases S.par y (Zl hp) with k | k
  ·exact .inl ⟨k,a4z ndP hp hu k⟩
  ·obtain ⟨c,e⟩:=a5G (n:=s.heap.objs.size+1) k
   refine .inr ⟨.inl k,c,e,?_⟩
   have q:=x.cell y c e
   rw [a4F ndP hp hu (by show scope.names.lookup y≠_;rw [k];decide)] at q
   exact q
 ·exact e0.hok.fresh (Wi (x.above y c (PySem.mem_of_lookup h)))
 ·unfold a0r
  show _=N.length
  rw [Xl,Qd,Zj]
  omega
theorem b7Y {CX:CXT} {P:Program} {w:World} {K:Qc} {mg:Str→Option Value} {base:Heap} {k:Nat} {f:Addr} {name qual:Str} {params:Arguments} {body:List Stmt} {scope:Scope} {dV kV doc pm cdv ct oc:Value} {an od:Option Addr}
  {osl:Array (Option Value)} {N ps:List Str} {sp:Sp} (lk:K.lookup f=some ⟨oc,od,.func (Jh name qual params body scope dV kV doc pm an cdv ct),osl⟩) (hcd:Ue K cdv qual=true) (S:a0e N ps scope)
  (len:∀vs H Q E,sp vs H Q E→vs.length=ps.length)
  (hbody:∀(A:Around) (outer:List Env) (s:Shared) (H:Hp) (vs:List V) (Q:VK) (E:XK),a2t k (A.deeper (envOfC qual scope s.heap.objs.size f cdv))→sp vs H Q E→
   ∃t,PSs (b3F CX P w K mg base N qual scope f cdv A outer s H E) body t∧t {nx:=fun _ H'=>Q .non H',rt:=Q} (a0r N vs) H):
  a0T P w K mg base CX (k+1) f (Jh name qual params body scope dV kV doc pm an cdv ct) ps sp:=by
 refine ⟨len,fun A outer s H args us vs Q E hr e0 hb r hsp=>?_⟩
 have hl:=len _ _ _ _ hsp
 have KX:K.In s.heap:=e0.mod.kin.keeps fun b o e=>(e0.bs b o e).1
 have lim:s.heap.NoLimit:=e0.mod.nolimit.keeps fun b o e=>(e0.bs b o e).1
 have hkind:∀y∈ps.zip us,scope.names.lookup y.1=some .local∨(scope.names.lookup y.1=some .cell∧((cellsFrom (s.heap.objs.size+1) scope.names []).lookup y.1).isSome=true):=fun ⟨n,v⟩ hy=>by
  rcases S.par n (Vg hy).1 with q | q
  ·exact .inl q
  ·exact .inr ⟨q,Vj _ _ _ (.inl q)⟩
 refine codeAny_call_function hr.depth (KX _ _ lk) rfl S.co S.gen rfl (PySem.W.codeRec_of KX hcd) (hb _ _ _ _ ?_)
 refine wpAny_newFunctionEnv_cells S.kind hkind fun env he s1 x=>?_
 subst he
 refine ⟨lim.keeps x.toInCall.keep,codeAny_func ?_⟩
 obtain ⟨t,ht,hq⟩:=hbody A outer s H vs Q E (hr.deeper _) hsp
 have I:Inv (b3F CX P w K mg base N qual scope f cdv A outer s H E) [] (a0r N vs) H s1:=a8n S hr.hd e0 hl r x
 refine wpAny_mono (ht [] s1 (a0r N vs) H _ I hq) (fun fl s' hs=>?_) fun e s' hs=>hs
 have fin:∀{σ':St} {H':Hp} {v:V} {u:Value},Inv (b3F CX P w K mg base N qual scope f cdv A outer s H E) [] σ' H' s'→a0Q v u→Q v H'→CE outer P w H s Q u s':=
  fun {σ' H' v u} J rv q=>⟨v,H',J.os,J.bare,J.base,J.hok,rv,q⟩
 cases fl with
 | ret u=>
  obtain ⟨v,σ',H',J,rv,q⟩:=hs
  exact fin J rv q
 | next=>
  obtain ⟨σ',H',J,q⟩:=hs
  exact fin (v:=V.non) (u:=Value.none) J rfl q
 | brk=>
  obtain ⟨_,_,_,q⟩:=hs
  exact False.elim q
 | cont=>
  obtain ⟨_,_,_,q⟩:=hs
  exact False.elim q
section
variable {X:Cx} {x:Str} {p pos:Pos} {e:Expr} {es:List Expr} {t:TA} {id T:String} {r:List V→Hp→VK→Prop}
def tCB (r:List V→Hp→VK→Prop) (t:TA):TE:=fun σ H Q=>t σ H fun vs H1=>r vs H1 Q
theorem a9I (hc:a1q X (.builtin id) r) (hg:Gl X x) (hm:X.mg x=none) (hv:bootBuiltins x=some (.builtin id)) (ha:PA X (e::es) t) (hn:x≠"__name__":=by decide) (hdb:(x == ("__debug__":Str))=false:=by decide)
  (he:starEach (e::es) X.env=(false,eval e X.env)::starEach es X.env:=by rfl) (hpl:(backTo pos (starEach es X.env)).any (·.1)=false:=by rfl):PE X (.Call (.Name x p) (e::es) [] pos) (tCB r t):=by
 intro pins s σ H Q I h
 refine wpAny_Call_Name_kw (a2C I hg hm hv ?_ hn hdb)
 exact PyProof.Rows.callWith_builtin1 (thn (ha pos pins s σ H _ I h) fun us s1 ⟨vs,H1,I1,r1,q1⟩=>hc pins s1 σ H1 vs us Q I1 r1 q1) he hpl
theorem a8a (hc:a1q X (.type T) r) (hg:Gl X x) (hm:X.mg x=none) (hv:bootBuiltins x=some (.type T)) (ha:PA X (e::es) t) (hn:x≠"__name__":=by decide) (hdb:(x == ("__debug__":Str))=false:=by decide)
  (he:starEach (e::es) X.env=(false,eval e X.env)::starEach es X.env:=by rfl) (hpl:(backTo pos (starEach es X.env)).any (·.1)=false:=by rfl):PE X (.Call (.Name x p) (e::es) [] pos) (tCB r t):=by
 intro pins s σ H Q I h
 refine wpAny_Call_Name_kw (a2C I hg hm hv ?_ hn hdb)
 exact PyProof.Rows.callWith_type1 (thn (ha pos pins s σ H _ I h) fun us s1 ⟨vs,H1,I1,r1,q1⟩=>hc pins s1 σ H1 vs us Q I1 r1 q1) he hpl
end
end L2
namespace HT
open PySem PyProof.Rows
section
variable {prog:Program} {w:World} {A:Around} {E:Value→Shared→Prop} {s:Shared}
theorem cat_tup {t b:Addr} {vs ws:List Value} {Q:Value→Shared→Prop} (ht:IsTup s.heap t vs.toArray) (hb:IsTup s.heap b ws.toArray) (hv:vs≠[])
  (h1:ws=[]→Q (.ref t) s) (h2:ws≠[]→Q (.ref s.heap.objs.size) {s with heap:=s.heap.push {cls:=.type "tuple",data:=.seq (vs++ws).toArray}})
  (hsz:vs.length+ws.length≤sizeLine):wpAny (model prog w) A (binaryOp .Add (.ref t) (.ref b)) Q E s:=by
 obtain ⟨⟨cls,dd,data,sl⟩,ho,hc,n,hd⟩:=id ht
 obtain ⟨⟨cls2,dd2,data2,sl2⟩,ho2,hc2,n2,hd2⟩:=id hb
 simp only at hc hd hc2 hd2
 subst hc hd hc2 hd2
 have e:vs.toArray++ws.toArray=(vs++ws).toArray:=by simp
 by_cases hw:ws=[]
 ·exact concat_meets ⟨_,ho,rfl⟩ ⟨_,ho2,rfl⟩ noFill_tuple_add seq_tuple_add Vk Vc (Uw _ _)
   (tuple_addW1 t b vs.toArray ws.toArray n n2 dd dd2 sl sl2 (by simpa using hv) (by simp [hw])) ⟨ho,ho2,h1 hw⟩
 ·refine concat_meets ⟨_,ho,rfl⟩ ⟨_,ho2,rfl⟩ noFill_tuple_add seq_tuple_add Vk Vc (Uw _ _)
   (tuple_addW2 t b vs.toArray ws.toArray n n2 dd dd2 sl sl2 (by simpa using hv) (by simpa using hw) (by rw [Ql,Ql];exact hsz)) ⟨ho,ho2,?_⟩
  rw [e]
  exact h2 hw
def sIx (n d:Nat):Option Int→Nat
 | none=>d
 | some v=>if v < 0 then (v+(n:Int)).toNat else min v.toNat n
theorem sIx_nat (n d k:Nat):sIx n d (some (k:Int))=min k n:=by
 show (if (k:Int) < 0 then ((k:Int)+(n:Int)).toNat else min (k:Int).toNat n)=min k n
 rw [if_neg ‹om›,Int.toNat_natCast]
theorem b7y (n d:Nat) (hd:d≤n) (o:Option Int):sIx n d o≤n:=by
 cases o with
 | none=>exact hd
 | some v=>
  show (if v < 0 then (v+(n:Int)).toNat else min v.toNat n)≤n
  by_cases hv:v < 0
  ·rw [if_pos hv];omega
  ·rw [if_neg hv];exact Nat.min_le_right _ _
theorem a9y (v:Int) (n d:Nat):(if v < 0 then max (v+(n:Int)) 0 else min v (n:Int))=((sIx n d (some v):Nat):Int):=by
 show (if v < 0 then max (v+(n:Int)) 0 else min v (n:Int))=(((if v < 0 then (v+(n:Int)).toNat else min v.toNat n):Nat):Int)
 by_cases hv:v < 0
 ·simp only [if_pos hv];omega
 ·simp only [if_neg hv];omega
theorem a7b (lo hi:Option Int) (n:Nat):Builtin.Slice.sliceAdjust lo hi 1 (n:Int)=(((sIx n 0 lo:Nat):Int),((sIx n n hi:Nat):Int)):=by
 have h1:¬((1:Int) < 0):=by omega
 unfold Builtin.Slice.sliceAdjust
 simp only [h1,if_false]
 refine Prod.ext ?_ ?_
 ·cases lo with
  | none=>rfl
  | some v=>exact a9y v n 0
 ·cases hi with
  | none=>rfl
  | some v=>exact a9y v n n
theorem a6N (i j:Nat):Builtin.Slice.slicePlaces (i:Int) (j:Int) 1=j - i:=by
 unfold Builtin.Slice.slicePlaces
 have h1:(1:Int) > 0:=by omega
 simp only [h1,if_true,Int.ediv_one]
 split<;>omega
theorem a3D {v:Value} {o:Option Int} {Q:Option Int→Shared→Prop} (p:IsPart v o) (h:Q o s):wpAny (model prog w) A (Builtin.Slice.slicePartIndex v) Q E s:=by
 cases p with
 | none=>exact slicePart_none h
 | int i t=>exact slicePart_int h
theorem a2F {sl:Addr} {vl vu:Value} {lo hi:Option Int} {n:Nat} {Q:Int×Int×Nat→Shared→Prop} (hs:s.heap.IsSliceOf sl vl vu .none) (pl:IsPart vl lo) (pu:IsPart vu hi)
  (h:Q (((sIx n 0 lo:Nat):Int),1,sIx n n hi - sIx n 0 lo) s):wpAny (model prog w) A (Builtin.Slice.sliceApplied (.ref sl) (pure (n:Int))) Q E s:=by
 obtain ⟨os,hos,hcs,hds⟩:=id hs
 unfold Builtin.Slice.sliceApplied Builtin.Slice.sliceFields
 refine wpAny_bind (wpAny_bind (wpAny_field hos hds (x:=vl) rfl (wpAny_bind (wpAny_field hos hds (x:=vu) rfl (wpAny_bind (wpAny_field hos hds (x:=.none) rfl (wpAny_pure ?_)))))))
 refine wpAny_bind (slicePart_none ?_)
 show wpAny _ _ (if ((1:Int) == 0)=true then _ else _) _ _ s
 rw [if_neg ‹dc›]
 refine wpAny_bind (a3D pl (wpAny_bind (a3D pu (wpAny_bind (wpAny_pure ?_)))))
 show wpAny _ _ (match Builtin.Slice.sliceAdjust lo hi 1 (n:Int) with | (lo,hi)=>pure (lo,(1:Int),Builtin.Slice.slicePlaces lo hi 1)) _ _ s
 rw [a7b lo hi n]
 show wpAny _ _ (pure (((sIx n 0 lo:Nat):Int),(1:Int),Builtin.Slice.slicePlaces ((sIx n 0 lo:Nat):Int) ((sIx n n hi:Nat):Int) 1)) _ _ s
 rw [a6N]
 exact wpAny_pure h
theorem b0d (xs:Array Value) (i k:Nat):((Yi k).filterMap fun (m:Nat)=>xs[((i:Int)+(m:Int) * 1).toNat]?).toArray=((xs.toList.drop i).take k).toArray:=by
 have e:(fun (m:Nat)=>xs[((i:Int)+(m:Int) * 1).toNat]?)=fun m=>xs[i+m]?:=by
  funext m
  have:((i:Int)+(m:Int) * 1).toNat=i+m:=by omega
  rw [this]
 rw [e]
 have:=pick_run xs i k
 rw [List.filterMap_map] at this
 have e2:((fun x=>xs[x]?)∘fun x=>i+x)=fun m=>xs[i+m]?:=rfl
 rw [e2] at this
 rw [this]
theorem getItem_tuple_cut {t sl:Addr} {items:Array Value} {vl vu:Value} {lo hi:Option Int} {Q:Value→Shared→Prop} (ht:IsTup s.heap t items) (hs:s.heap.IsSliceOf sl vl vu .none) (pl:IsPart vl lo) (pu:IsPart vu hi)
  (hw:¬(sIx items.size 0 lo=0∧sIx items.size items.size hi=items.size))
  (h:Q (.ref s.heap.objs.size) {s with heap:=s.heap.push {cls:=.type "tuple",data:=.seq ((items.toList.drop (sIx items.size 0 lo)).take (sIx items.size items.size hi - sIx items.size 0 lo)).toArray}})
  (hsz:items.size≤sizeLine):wpAny (model prog w) A (getItem (.ref t) (.ref sl)) Q E s:=by
 have htake:sizeOk (.seq ((items.toList.drop (sIx items.size 0 lo)).take (sIx items.size items.size hi - sIx items.size 0 lo)).toArray):=by
  show ((items.toList.drop (sIx items.size 0 lo)).take (sIx items.size items.size hi - sIx items.size 0 lo)).toArray.size≤sizeLine
  rw [Ql,Xu,Jr,Zs]
  omega
 have hj:sIx items.size items.size hi≤items.size:=b7y _ _ (Qk _) hi
 obtain ⟨os,hos,hcs,hds⟩:=id hs
 have hTs:s.TypeIs (.ref sl) "slice":=⟨os,hos,hcs⟩
 unfold getItem
 try with_reducible refine wpAny_holding ?_
 first | refine wpAny_bind (wpAny_pure ?_) | skip
 refine wpAny_bind (wpAny_sequenceKey ht.typeIs ‹dc› ?_)
 refine wpAny_bind (wpAny_callSpecial?_slot (name:=Xr "__getitem__") ht.typeIs PyProof.Rows.slot_tuple_getitem
  (wpAny_call_entry PyProof.Rows.slot_tuple_getitem ht.typeIs entry_tuple_getitem ?_ (args_tuple_getitem _ _)))
 show wpAny _ _ (Builtin.Tuple.tupleItemsOf (.ref t) >>= _) _ _ s
 refine wpAny_bind (tupleItemsOf_ ht ?_)
 refine wpAny_bind (wpAny_typeOf hTs ?_)
 rw [if_pos ‹dc›]
 refine wpAny_bind (a2F hs pl pu ?_)
 have hno:¬((((sIx items.size 0 lo:Nat):Int) == 0 && (1:Int) == 1 && (sIx items.size items.size hi - sIx items.size 0 lo) == items.size)=true):=by
  intro q
  rw [Qp,Qp] at q
  have q1:((sIx items.size 0 lo:Nat):Int)=0:=eq_of_beq q.1.1
  have q2:sIx items.size items.size hi - sIx items.size 0 lo=items.size:=eq_of_beq q.2
  exact hw ⟨by omega,by omega⟩
 show wpAny _ _ (if (((sIx items.size 0 lo:Nat):Int) == 0 && (1:Int) == 1 && (sIx items.size items.size hi - sIx items.size 0 lo) == items.size)=true then _ else _) _ _ s
 rw [if_neg hno,b0d]
 first
  | exact wpAny_bind (m:=Builtin.Tuple.tupleExact _) (wpAny_newObj_type (wpAny_pure ⟨_,rfl,wpAny_pure h⟩) htake)
  | exact wpAny_bind (m:=Builtin.Tuple.tupleExact _) (wpAny_newObj_type (wpAny_bind (wpAny_pure (wpAny_pure ⟨_,rfl,wpAny_pure h⟩))) htake)
  | exact wpAny_bind (wpAny_bind (m:=Builtin.Tuple.tupleExact _) (wpAny_newObj_type (wpAny_pure (wpAny_pure ⟨_,rfl,wpAny_pure h⟩)) htake))
  | exact wpAny_bind (wpAny_bind (m:=Builtin.Tuple.tupleExact _) (wpAny_newObj_type (wpAny_pure ⟨_,rfl,wpAny_pure h⟩) htake))
end
end HT
namespace L2
open PySem PySem.Spec PyProof.Rows
abbrev TO:=St→Hp→(Option Int→Hp→Prop)→Prop
def PO (X:Cx) (e:Option Expr) (t:TO):Prop:=
 ∀(pins:List (Addr×Obj)) (s:Shared) (σ:St) (H:Hp) (Q:Option Int→Hp→Prop),Inv X pins σ H s→t σ H Q→
  wpAny (model X.prog X.w) X.A (evalPart e X.env) (fun u s'=>∃o H',Inv X pins σ H' s'∧IsPart u o∧Q o H') X.xe s
def a1r:TO:=fun _ H Q=>Q none H
def a2e (t:TE):TO:=fun σ H Q=>t σ H fun x H1=>∃i,x=.int i∧Q (some i) H1
section
variable {X:Cx} {e:Expr} {te:TE} {lo hi:Option Expr} {tl th:TO} {pos p2:Pos}
theorem b3i:PO X none a1r:=by
 intro pins s σ H Q I h
 rw [evalPart_none]
 exact wpAny_pure ⟨none,H,I,.none,h⟩
theorem b1T (h:PE X e te):PO X (some e) (a2e te):=by
 intro pins s σ H Q I hw
 rw [evalPart_some]
 refine thn (h pins s σ H _ I hw) fun u s1 ⟨x,H1,I1,r1,q1⟩=>?_
 obtain ⟨i,rfl,q⟩:=q1
 obtain ⟨t,rfl⟩:=r1
 exact ⟨some i,H1,I1,.int i t,q⟩
def SlR (X:Cx) (r:V→Option Int→Option Int→Hp→VK→Prop):Prop:=
 ∀(pins:List (Addr×Obj)) (s:Shared) (σ:St) (H:Hp) (x:V) (v vl vu:Value) (lo hi:Option Int) (sl:Addr) (Q:VK),Inv X pins σ H s→a0Q x v→s.heap.IsSliceOf sl vl vu .none→IsPart vl lo→IsPart vu hi→r x lo hi H Q→
  ∃T id,typeLookup (.type T) "__getitem__"=pure (some (.builtin id))∧s.TypeIs v T∧wpAny (model X.prog X.w) X.A (getItem v (.ref sl)) (EP X pins σ Q) X.xe s
theorem SlR.or {r r':V→Option Int→Option Int→Hp→VK→Prop} (h:SlR X r) (h':SlR X r'):SlR X (fun x lo hi H Q=>r x lo hi H Q∨r' x lo hi H Q):=by
 intro pins s σ H x v vl vu lo hi sl Q I rx hs pl pu q
 rcases q with q | q
 ·exact h pins s σ H x v vl vu lo hi sl Q I rx hs pl pu q
 ·exact h' pins s σ H x v vl vu lo hi sl Q I rx hs pl pu q
def tSl (r:V→Option Int→Option Int→Hp→VK→Prop) (te:TE) (tl th:TO):TE:=fun σ H Q=>te σ H fun x H1=>tl σ H1 fun l H2=>th σ H2 fun u H3=>r x l u H3 Q
theorem b0B {r:V→Option Int→Option Int→Hp→VK→Prop} (hr:SlR X r) (he:PE X e te) (hl:PO X lo tl) (hu:PO X hi th):PE X (.Subscript e (.Slice lo hi none p2) pos) (tSl r te tl th):=by
 intro pins s σ H Q I h
 refine Subscript_ (thn (he pins s σ H _ I h) fun v s1 ⟨x,H1,I1,r1,q1⟩=>?_)
 refine wpAny_Slice (thn (hl pins s1 σ H1 _ I1 q1) fun vl s2 ⟨l,H2,I2,pl,q2⟩=>thn (hu pins s2 σ H2 _ I2 q2) fun vu s3 ⟨u,H3,I3,pu,q3⟩=>?_)
 rw [evalPart_none]
 refine wpAny_pure ?_
 have I4:Inv X pins σ H3 {s3 with heap:=s3.heap.push {cls:=.type "slice",data:=.fields #[vl,vu,.none]}}:=I3.kept (t':=s3.toks) fun b ob q=>Qm _ q
 obtain ⟨T,id,hT,ht,hg⟩:=hr pins {s3 with heap:=s3.heap.push {cls:=.type "slice",data:=.fields #[vl,vu,.none]}} σ H3 x v vl vu l u s3.heap.objs.size Q I4 r1 (Heap.IsSliceOf.new ..) pl pu q3
 show wpAny (model X.prog X.w) X.A (subscriptTail e (.Slice lo hi none p2) v (.ref s3.heap.objs.size)) (EP X pins σ Q) X.xe {s3 with heap:=s3.heap.push {cls:=.type "slice",data:=.fields #[vl,vu,.none]}}
 exact tail_any (ops:=[.ref s3.heap.objs.size,v]) ht hT hg (by with_unfolding_all rfl)
def a3c (xs:List V) (lo hi:Option Int):List V:=(xs.drop (HT.sIx xs.length 0 lo)).take (HT.sIx xs.length xs.length hi - HT.sIx xs.length 0 lo)
theorem a2b (xs:List V) (lo hi:Option Int):(a3c xs lo hi).length≤xs.length:=by
 unfold a3c
 rw [Xu,Jr]
 omega
def c1d (K:Qc):V→Option Int→Option Int→Hp→VK→Prop:=fun x lo hi H Q=>∃a xs,x=.ref a∧SqT K H a xs∧
 ¬(HT.sIx xs.length 0 lo=0∧HT.sIx xs.length xs.length hi=xs.length)∧∀p,H p=none→Q (.ref p) (upd H p (.tup (a3c xs lo hi)))
theorem b5U:SlR X (c1d X.K):=by
 intro pins s σ H x v vl vu lo hi sl Q I rx hs pl pu h
 obtain ⟨a,xs,rfl,hx,hw,q⟩:=h
 cases rx
 obtain ⟨its,r,ht,hz⟩:=I.tuple hx
 have hlen:its.toArray.size=xs.length:=by rw [Ql];exact r.length.symm
 refine ⟨"tuple",_,PyProof.Rows.slot_tuple_getitem.lookup,ht.typeIs,?_⟩
 refine HT.getItem_tuple_cut ht hs pl pu (by rw [hlen];exact hw) ?_ (by rw [hlen];exact hz)
 rw [hlen]
 refine ⟨.ref s.heap.objs.size,_,I.laid (t':=s.toks) (o:=.tup (a3c xs lo hi)) (fun b ob q=>Qm _ q) (Qk _) ?_,rfl,q _ (I.hok.fresh (Qk _))⟩
 exact ⟨Qi (a2b xs lo hi) hz,_,(r.drop (HT.sIx xs.length 0 lo)).take (HT.sIx xs.length xs.length hi - HT.sIx xs.length 0 lo),IsTup.new _ _⟩
def b5d (K:Qc):R2:=fun x y H Q=>∃a b xs ys,x=.ref a∧y=.ref b∧SqT K H a xs∧SqT K H b ys∧xs≠[]∧xs.length+ys.length≤sizeLine∧
 (ys=[]→Q (.ref a) H)∧(ys≠[]→∀p,H p=none→Q (.ref p) (upd H p (.tup (xs++ys))))
theorem a0G.nil_iff {xs:List V} {us:List Value} (r:a0G xs us):us=[]↔xs=[]:=by
 cases r with
 | nil=>simp
 | cons _ _=>simp
theorem b3o:OpR X (binaryOp .Add) (b5d X.K):=by
 intro pins s σ H x y v u Q I rx ry h
 obtain ⟨a,b,xs,ys,rfl,rfl,ha,hb,hx,hz,q1,q2⟩:=h
 cases rx
 cases ry
 obtain ⟨its,r1,p1,_⟩:=I.tuple ha
 obtain ⟨its2,r2,p2,_⟩:=I.tuple hb
 refine HT.cat_tup p1 p2 (fun z=>hx (r1.nil_iff.mp z)) (fun z=>⟨.ref a,H,I,rfl,q1 (r2.nil_iff.mp z)⟩) (fun z=>?_) (by rw [←r1.length,←r2.length];exact hz)
 refine ⟨.ref s.heap.objs.size,_,I.laid (t':=s.toks) (o:=.tup (xs++ys)) (fun b ob q=>Qm _ q) (Qk _) ?_,rfl,q2 (fun w=>z (r2.nil_iff.mpr w)) _ (I.hok.fresh (Qk _))⟩
 exact ⟨by rw [Xl];exact hz,_,r1.append r2,IsTup.new _ _⟩
end
def ixN (n:Nat) (i:Int):Option Nat:=if 0≤i then (if i < n then some i.toNat else none) else if -(n:Int)≤i then some (i+n).toNat else none
def atI {α:Type} (xs:List α) (i:Int):Option α:=(ixN xs.length i).bind fun j=>xs[j]?
theorem a9z {n:Nat} {i:Int} {j:Nat} (h:ixN n i=some j):seqIndex? i n=some j∧j < n∧-(n:Int)≤i∧i < n:=by
 unfold ixN at h
 by_cases h0:0≤i
 ·rw [if_pos h0] at h
  by_cases h1:i < n
  ·rw [if_pos h1] at h
   have e:i.toNat=j:=Option.some.inj h
   exact ⟨by rw [seqIndex_of h0 h1,e],by omega,by omega,h1⟩
  ·rw [if_neg h1] at h;cases h
 ·rw [if_neg h0] at h
  by_cases h1:-(n:Int)≤i
  ·rw [if_pos h1] at h
   have e:(i+n).toNat=j:=Option.some.inj h
   exact ⟨by rw [seqIndex_neg ‹om› h1,e],by omega,h1,by omega⟩
  ·rw [if_neg h1] at h;cases h
theorem a5b {α:Type} {xs:List α} {i:Int} {v:α} (h:atI xs i=some v):∃j,seqIndex? i xs.length=some j∧xs[j]?=some v∧j < xs.length∧-(xs.length:Int)≤i∧i < xs.length:=by
 unfold atI at h
 cases e:ixN xs.length i with
 | none=>rw [e] at h;cases h
 | some j=>
  rw [e] at h
  obtain ⟨h1,h2,h3,h4⟩:=a9z e
  exact ⟨j,h1,h,h2,h3,h4⟩
def b2W (b:Expr):Prop:=∀o i,subscripted b false o i=operate [o,i] (getItem o i)
def IxR (X:Cx) (r:R2):Prop:=
 ∀(value slice:Expr) (pins:List (Addr×Obj)) (s:Shared) (σ:St) (H:Hp) (x y:V) (v u:Value) (Q:VK),Inv X pins σ H s→a0Q x v→a0Q y u→r x y H Q→
  subscripted slice false v u=operate [v,u] (getItem v u)→wpAny (model X.prog X.w) X.A (subscriptTail value slice v u) (EP X pins σ Q) X.xe s
def MtR (X:Cx) (id:String) (r:V→List V→Hp→VK→Prop):Prop:=
 ∀(pins:List (Addr×Obj)) (s:Shared) (σ:St) (H:Hp) (x:V) (xs:List V) (v:Value) (us:List Value) (Q:VK),Inv X pins σ H s→a0Q x v→a0G xs us→r x xs H Q→
  wpAny (model X.prog X.w) X.A (call (.builtin id) (v::us)) (EP X pins σ Q) X.xe s
section
variable {X:Cx} {a b:Expr} {ta tb:TE} {pos:Pos}
theorem IxR.or {r r':R2} (h:IxR X r) (h':IxR X r'):IxR X (fun x y H Q=>r x y H Q∨r' x y H Q):=by
 intro value slice pins s σ H x y v u Q I rx ry q hs
 rcases q with q | q
 ·exact h value slice pins s σ H x y v u Q I rx ry q hs
 ·exact h' value slice pins s σ H x y v u Q I rx ry q hs
theorem b7F {r:R2} (hr:IxR X r) (ha:PE X a ta) (hb:PE X b tb) (hs:b2W b):PE X (.Subscript a b pos) (tOp r ta tb):=by
 intro pins s σ H Q I h
 exact Subscript_ (b7H ha hb I h fun v u s2 x y H2 I2 rx ry q=>hr a b pins s2 σ H2 x y v u Q I2 rx ry q (hs _ _))
def b8u (K:Qc):R2:=fun x y H Q=>∃p xs i v,x=.ref p∧y=.int i∧SqL K H p xs∧atI xs i=some v∧Q v H
def b8B (K:Qc):R2:=fun x y H Q=>∃p xs i v,x=.ref p∧y=.int i∧SqT K H p xs∧atI xs i=some v∧Q v H
def c1o:R2:=fun x y H Q=>∃z i c,x=.str z∧y=.int i∧z.length≤sizeLine∧atI z.cps.toList i=some c∧Q (.str ⟨#[c]⟩) H
theorem b1V:IxR X (b8u X.K):=by
 intro value slice pins s σ H x y v u Q I rx ry h hs
 obtain ⟨p,xs,i,z,rfl,rfl,hq,he,q⟩:=h
 cases rx
 obtain ⟨t,rfl⟩:=ry
 obtain ⟨its,r,pl,hz⟩:=I.list hq
 obtain ⟨j,h1,h2,h3,h4,h5⟩:=a5b he
 obtain ⟨w,ew,rw'⟩:=r.get h2
 have hl:=r.length
 have hn:=a4o
 have fin:EP X pins σ Q w s:=⟨z,H,I,rw',q⟩
 by_cases h0:0≤i
 ·have hj:i.toNat=j:=by
   rw [seqIndex_of h0 h5] at h1
   exact Option.some.inj h1
  exact item_listR pl.isList h0 ‹om› (by rw [hj];simpa using ew) fin hs
 ·have hj:(i+(its.toArray.size:Int)).toNat=j:=by
   rw [seqIndex_neg ‹om› h4] at h1
   rw [Ql,←hl]
   exact Option.some.inj h1
  exact subscriptTail_builtinR (x:=w) pl.isList.typeIs slot_list_getitem.lookup
   (wpAny_getItem_list_neg (Q:=fun r s'=>r=w∧EP X pins σ Q r s') pl.isList ‹om› (by rw [Ql]<;>omega) ‹om› (by rw [hj];simpa using ew) ⟨rfl,fin⟩) hs
theorem b4I:IxR X (b8B X.K):=by
 intro value slice pins s σ H x y v u Q I rx ry h hs
 obtain ⟨p,xs,i,z,rfl,rfl,hq,he,q⟩:=h
 cases rx
 obtain ⟨t,rfl⟩:=ry
 obtain ⟨its,r,pl,hz⟩:=I.tuple hq
 obtain ⟨j,h1,h2,h3,h4,h5⟩:=a5b he
 obtain ⟨w,ew,rw'⟩:=r.get h2
 have hl:=r.length
 have hn:=a4o
 have fin:EP X pins σ Q w s:=⟨z,H,I,rw',q⟩
 exact subscriptTail_builtinR (x:=w) pl.typeIs slot_tuple_getitem.lookup
  (getItem_tuple (j:=j) (Q:=fun r s'=>r=w∧EP X pins σ Q r s') pl ‹om› ‹om› (by rw [Ql,←hl];exact h1) (by simpa using ew) ⟨rfl,fin⟩) hs
theorem b7i:IxR X c1o:=by
 intro value slice pins s σ H x y v u Q I rx ry h hs
 obtain ⟨z,i,c,rfl,rfl,hz,he,q⟩:=h
 obtain ⟨t,rfl⟩:=rx
 obtain ⟨t',rfl⟩:=ry
 obtain ⟨j,h1,h2,h3,h4,h5⟩:=a5b he
 have hl:z.cps.toList.length=z.length:=by simp [Str.length]
 rw [hl] at h1 h4 h5
 have hn:=a4o
 exact tail_any (typeIs_str s z t) slot_str_getitem.lookup (getItem_str (c:=c) (by
  have e1:decide (i < -(2 ^ 63:Int))=false:=decide_eq_false ‹om›
  have e2:decide (i≥2 ^ 63)=false:=decide_eq_false ‹om›
  rw [e1,e2,Bool.or_false]) (by rw [h1];simpa using h2) ⟨.str ⟨#[c]⟩,H,I.tok _,⟨_,rfl⟩,q⟩) hs
def rIx (K:Qc):R2:=fun x y H Q=>b8u K x y H Q∨b8B K x y H Q∨c1o x y H Q
theorem a0j:IxR X (rIx X.K):=b1V.or (b4I.or b7i)
theorem a6Q (its:List Value) (n j:Nat) (u:Value):Obj.mapSeq (·.setIfInBounds j u) {cls:=.type "list",data:=.seq its.toArray n}={cls:=.type "list",data:=.seq (its.set j u).toArray n}:=by
 simp [Obj.mapSeq]
theorem Inv.lst {pins:List (Addr×Obj)} {σ:St} {H:Hp} {s:Shared} {p:Addr} {xs:List V} (I:Inv X pins σ H s) (h:H p=some (.lst xs)):
  ∃(its:List Value) (n:Nat),a0G xs its∧s.heap.get? p=some {cls:=.type "list",data:=.seq its.toArray n}∧xs.length≤sizeLine:=by
 obtain ⟨z,its,n,r,e⟩:=I.hok p _ h
 exact ⟨its,n,r,e,z⟩
theorem Inv.lstUpd {pins:List (Addr×Obj)} {σ:St} {H:Hp} {s:Shared} {p:Addr} {xs ys:List V} {its its':List Value} {n n':Nat} {f:Obj→Obj} (I:Inv X pins σ H s) (h:H p=some (.lst xs))
  (ho:s.heap.get? p=some {cls:=.type "list",data:=.seq its.toArray n}) (hf:f {cls:=.type "list",data:=.seq its.toArray n}={cls:=.type "list",data:=.seq its'.toArray n'}) (r:a0G ys its') (hz:ys.length≤sizeLine) (t:Nat):
  Inv X pins σ (upd H p (.lst ys)) {s with heap:=s.heap.update p f,toks:=t}:=by
 have e:(s.heap.update p f).get? p=some {cls:=.type "list",data:=.seq its'.toArray n'}:=by
  rw [Vq f ho (by rw [hf]<;>rfl),hf]
 refine I.write (x:=p) (e:=p) (by rw [h];trivial) (.inl rfl) (fun b u hb q=>(Jm _ _ (Ne.symm hb)).trans q) ⟨_,e⟩ ?_
 exact ⟨hz,its',n',r,e⟩
def b4A:V→V→V→Hp→(Hp→Prop)→Prop:=fun o i v H Q=>∃p xs k j,o=.ref p∧i=.int k∧H p=some (.lst xs)∧ixN xs.length k=some j∧Q (upd H p (.lst (xs.set j v)))
theorem b0A:c1G X b4A:=by
 intro pins s σ H o i v ov iv u Q I ro ri rv h
 obtain ⟨p,xs,k,j,rfl,rfl,hp,hj,q⟩:=h
 cases ro
 obtain ⟨t,rfl⟩:=ri
 obtain ⟨its,n,r,ho,hz⟩:=I.lst hp
 obtain ⟨h1,h2,h3,h4⟩:=a9z hj
 have hl:=r.length
 have hn:=a4o
 have I':Inv X pins σ (upd H p (.lst (xs.set j v))) {s with heap:=s.heap.update p (Obj.mapSeq (·.setIfInBounds j u))}:=
  I.lstUpd hp ho (a6Q its n j u) (r.set rv j) (by rw [List.length_set];exact hz) s.toks
 by_cases h0:0≤k
 ·have hk:k.toNat=j:=by
   rw [seqIndex_of h0 h4] at h1
   exact Option.some.inj h1
  exact PySem.W.ki_setAt ho h0 ‹om› (by rw [Ql,←hl];exact h4) (by rw [hk];exact ⟨_,I',q⟩)
 ·have hk:(k+(its.toArray.size:Int)).toNat=j:=by
   rw [seqIndex_neg ‹om› h3] at h1
   rw [Ql,←hl]
   exact Option.some.inj h1
  exact PySem.W.ki_setBack ho ‹om› (by rw [Ql,←hl];exact h3) ‹om› (by rw [hk];exact ⟨_,I',q⟩)
theorem a4H (lo hi:Option Int) (n:Nat):(sliceBounds lo hi none n).1=((HT.sIx n 0 lo:Nat):Int)∧(sliceBounds lo hi none n).2.1=((HT.sIx n n hi:Nat):Int)∧(sliceBounds lo hi none n).2.2=1:=by
 refine ⟨?_,?_,rfl⟩
 ·cases lo with
  | none=>simp [sliceBounds,HT.sIx]
  | some i=>
   simp only [sliceBounds,HT.sIx,Wu,show (1:Int) > 0 by decide,if_true]
   by_cases h:i < 0
   ·simp only [h,if_true]<;>omega
   ·simp only [h,if_false]<;>omega
 ·cases hi with
  | none=>simp [sliceBounds,HT.sIx]
  | some i=>
   simp only [sliceBounds,HT.sIx,Wu,show (1:Int) > 0 by decide,if_true]
   by_cases h:i < 0
   ·simp only [h,if_true]<;>omega
   ·simp only [h,if_false]<;>omega
theorem a3J (its:List Value) (lo hi:Option Int):slicePick its.toArray lo hi none=((its.drop (HT.sIx its.length 0 lo)).take (HT.sIx its.length its.length hi - HT.sIx its.length 0 lo)).toArray:=by
 obtain ⟨h1,h2,h3⟩:=a4H lo hi its.toArray.size
 unfold slicePick
 rw [h1,h2,h3]
 simp only [sliceRange_one,pick_run,Ql]<;>rfl
def c0P (K:Qc):V→Option Int→Option Int→Hp→VK→Prop:=fun x lo hi H Q=>∃a xs,x=.ref a∧SqL K H a xs∧∀p,H p=none→Q (.ref p) (upd H p (.lst (a3c xs lo hi)))
theorem b2Q:SlR X (c0P X.K):=by
 intro pins s σ H x v vl vu lo hi sl Q I rx hs pl pu h
 obtain ⟨a,xs,rfl,hx,q⟩:=h
 cases rx
 obtain ⟨its,r,ht,hz⟩:=I.list hx
 have hlen:=r.length
 refine ⟨"list",_,slot_list_getitem.lookup,ht.isList.typeIs,?_⟩
 refine wpAny_getItem_list_slice ht.isList hs pl pu .none (by simp) ?_ (by rw [Ql]<;>omega)
 rw [a3J,←hlen]
 refine ⟨.ref s.heap.objs.size,_,I.laid (t':=s.toks) (o:=.lst (a3c xs lo hi)) (fun b ob q=>Qm _ q) (Qk _) ?_,rfl,q _ (I.hok.fresh (Qk _))⟩
 exact ⟨Qi (a2b xs lo hi) hz,_,0,(r.drop (HT.sIx xs.length 0 lo)).take (HT.sIx xs.length xs.length hi - HT.sIx xs.length 0 lo),Xf _ rfl⟩
def a3R:V→Bool
 | .non=>true
 | .bl _=>true
 | .int _=>true
 | .str _=>true
 | _=>false
def eqV:V→V→Bool
 | .non,.non=>true
 | .bl a,.bl b=>a == b
 | .bl a,.int b=>(if a then 1 else 0) == b
 | .int a,.bl b=>a == (if b then 1 else 0)
 | .int a,.int b=>a == b
 | .str a,.str b=>a == b
 | _,_=>false
theorem b6r {A:Around} {s:Shared} {y x:V} {u v:Value} (ry:a0Q y u) (rx:a0Q x v) (fy:a3R y=true) (fx:a3R x=true):Yg A s u v (eqV y x):=by
 cases y with
 | non=>
  cases ry
  cases x with
  | non=>cases rx;exact Yg.same _
  | bl b=>cases rx;exact Yg.none_bool b
  | int b=>obtain ⟨t,rfl⟩:=rx;exact Yg.none_int b t
  | str b=>obtain ⟨t,rfl⟩:=rx;exact Yg.none_str b t
  | _=>exact absurd (show false=true from fx) Qn
 | bl a=>
  cases ry
  cases x with
  | non=>cases rx;exact Yg.bool_none a
  | bl b=>cases rx;exact Yg.bool_bool a b
  | int b=>obtain ⟨t,rfl⟩:=rx;exact Yg.bool_int a b t
  | str b=>obtain ⟨t,rfl⟩:=rx;exact Yg.bool_str a b t
  | _=>exact absurd (show false=true from fx) Qn
 | int a=>
  obtain ⟨t',rfl⟩:=ry
  cases x with
  | non=>cases rx;exact Yg.int_none a t'
  | bl b=>cases rx;exact Yg.int_bool a t' b
  | int b=>obtain ⟨t,rfl⟩:=rx;exact Yg.int_int a t' b t
  | str b=>obtain ⟨t,rfl⟩:=rx;exact Yg.int_str a t' b t
  | _=>exact absurd (show false=true from fx) Qn
 | str a=>
  obtain ⟨t',rfl⟩:=ry
  cases x with
  | non=>cases rx;exact Yg.str_none a t'
  | bl b=>cases rx;exact Yg.str_bool a t' b
  | int b=>obtain ⟨t,rfl⟩:=rx;exact Yg.str_int a t' b t
  | str b=>obtain ⟨t,rfl⟩:=rx;exact Yg.str_str a t' b t
  | _=>exact absurd (show false=true from fx) Qn
 | _=>exact absurd (show false=true from fy) Qn
def eqU (x:V) (u:Value):Bool:=match u with
 | .none=>eqV .non x
 | .bool b=>eqV (.bl b) x
 | .int i _=>eqV (.int i) x
 | .str z _=>eqV (.str z) x
 | _=>false
theorem b1s {x y:V} {u:Value} (r:a0Q y u) (f:a3R y=true):eqU x u=eqV y x:=by
 cases y with
 | non=>cases r;rfl
 | bl b=>cases r;rfl
 | int i=>obtain ⟨t,rfl⟩:=r;rfl
 | str z=>obtain ⟨t,rfl⟩:=r;rfl
 | _=>exact absurd (show false=true from f) Qn
theorem a2W {x:V}:∀{xs:List V} {us:List Value},a0G xs us→xs.all a3R=true→us.any (eqU x)=xs.any fun y=>eqV y x
 | _,_,.nil,_=>rfl
 | y::xs,u::us,.cons r t,f=>by
  rw [Vz,Qp] at f
  rw [Jo,Jo,b1s r f.1,a2W t f.2]
theorem a2h {A:Around} {s:Shared} {x:V} {v:Value} (rx:a0Q x v) (fx:a3R x=true):∀{xs:List V} {us:List Value},a0G xs us→xs.all a3R=true→∀u∈us,Yg A s u v (eqU x u)
 | _,_,.nil,_=>fun u hu=>by cases hu
 | y::xs,u::us,.cons r t,f=>fun u' hu=>by
  rw [Vz,Qp] at f
  rcases Qw.mp hu with rfl | hu
  ·rw [b1s r f.1];exact b6r r rx f.1 fx
  ·exact a2h rx fx t f.2 u' hu
def inV (x:V) (xs:List V):Bool:=xs.any fun y=>eqV y x
def rIn (K:Qc) (neg:Bool):R2:=fun x y H Q=>∃p xs,y=.ref p∧(SqL K H p xs∨SqT K H p xs)∧a3R x=true∧xs.all a3R=true∧Q (.bl (if neg then !inV x xs else inV x xs)) H
theorem a7y:OpR X (compareOp .In) (rIn X.K false):=by
 intro pins s σ H x y v u Q I rx ry h
 obtain ⟨p,xs,rfl,hq,fx,fs,q⟩:=h
 cases ry
 rcases hq with hq | hq
 ·obtain ⟨its,r,pl,hz⟩:=I.list hq
  refine SeqAt.in_listAt (eqU x) pl.isList (fun w hw=>a2h rx fx r fs w (by simpa using hw)) ⟨.bl _,H,I,rfl,?_⟩
  rw [show its.toArray.any (eqU x)=its.any (eqU x) by simp,a2W r fs]
  exact q
 ·obtain ⟨its,r,pl,hz⟩:=I.tuple hq
  refine SeqAt.in_tupleAt (eqU x) pl (fun w hw=>a2h rx fx r fs w (by simpa using hw)) ⟨.bl _,H,I,rfl,?_⟩
  rw [show its.toArray.any (eqU x)=its.any (eqU x) by simp,a2W r fs]
  exact q
theorem a4R:OpR X (compareOp .NotIn) (rIn X.K true):=by
 intro pins s σ H x y v u Q I rx ry h
 obtain ⟨p,xs,rfl,hq,fx,fs,q⟩:=h
 cases ry
 rcases hq with hq | hq
 ·obtain ⟨its,r,pl,hz⟩:=I.list hq
  refine SeqAt.notIn_listAt (eqU x) pl.isList (fun w hw=>a2h rx fx r fs w (by simpa using hw)) ⟨.bl _,H,I,rfl,?_⟩
  rw [show its.toArray.any (eqU x)=its.any (eqU x) by simp,a2W r fs]
  exact q
 ·obtain ⟨its,r,pl,hz⟩:=I.tuple hq
  refine SeqAt.notIn_tupleAt (eqU x) pl (fun w hw=>a2h rx fx r fs w (by simpa using hw)) ⟨.bl _,H,I,rfl,?_⟩
  rw [show its.toArray.any (eqU x)=its.any (eqU x) by simp,a2W r fs]
  exact q
theorem a1q.or {f:Value} {r r':List V→Hp→VK→Prop} (h:a1q X f r) (h':a1q X f r'):a1q X f (fun xs H Q=>r xs H Q∨r' xs H Q):=by
 intro pins s σ H xs us Q I rs q
 rcases q with q | q
 ·exact h pins s σ H xs us Q I rs q
 ·exact h' pins s σ H xs us Q I rs q
theorem a4n:a1q X (.type "list") (fun xs H Q=>∃p ys,xs=[.ref p]∧(SqL X.K H p ys∨SqT X.K H p ys)∧∀l,H l=none→Q (.ref l) (upd H l (.lst ys))):=by
 intro pins s σ H xs us Q I r h
 obtain ⟨p,ys,rfl,hq,q⟩:=h
 obtain ⟨u,rfl,rx⟩:=a2d r
 cases rx
 have fin:∀(its:List Value),a0G ys its→ys.length≤sizeLine→∀(h':Heap) (c':Nat),(∀b o',s.heap.get? b=some o'→h'.get? b=some o')→
   h'.get? s.heap.objs.size=some {cls:=.type "list",dict:=none,data:=.seq its.toArray c',slots:=#[]}→EP X pins σ Q (.ref s.heap.objs.size) {s with heap:=h'}:=fun its r' hz h' c' kp e=>
  ⟨.ref s.heap.objs.size,_,I.laid (t':=s.toks) kp (Qk _) (show a1f X.prog X.w _ h' _ (.lst ys) from ⟨hz,its,c',r',e⟩),rfl,q _ (I.hok.fresh (Qk _))⟩
 rcases hq with hq | hq
 ·obtain ⟨its,r',pl,hz⟩:=I.list hq
  have hlen:=r'.length
  obtain ⟨o,ho,hc,n,hd⟩:=pl.isList
  exact call_list_seq p (.inl rfl) ho hc hd (fun h' c' kp e=>fin its r' hz h' c' kp e) (by simp only [Ql]<;>omega)
 ·obtain ⟨its,r',pl,hz⟩:=I.tuple hq
  have hlen:=r'.length
  obtain ⟨o,ho,hc,n,hd⟩:=pl
  exact call_list_seq p (.inr rfl) ho hc hd (fun h' c' kp e=>fin its r' hz h' c' kp e) (by simp only [Ql]<;>omega)
theorem a3V:a1q X (.type "tuple") (fun xs H Q=>∃p ys,xs=[.ref p]∧((SqL X.K H p ys∧∀l,H l=none→Q (.ref l) (upd H l (.tup ys)))∨(SqT X.K H p ys∧Q (.ref p) H))):=by
 intro pins s σ H xs us Q I r h
 obtain ⟨p,ys,rfl,h⟩:=h
 obtain ⟨u,rfl,rx⟩:=a2d r
 cases rx
 rcases h with ⟨hq,q⟩ | ⟨hq,q⟩
 ·obtain ⟨its,r',pl,hz⟩:=I.list hq
  have hlen:=r'.length
  refine call_tuple_list pl.isList (fun h' kp=>?_) (by simp only [Ql]<;>omega)
  have I1:Inv X pins σ H {s with heap:=h'}:=I.kept (t':=s.toks) kp
  have I2:Inv X pins σ (upd H h'.objs.size (.tup ys)) {s with heap:=h'.push {cls:=.type "tuple",data:=.seq its.toArray}}:=
   I1.laid (t':=s.toks) (fun b o e=>Qm _ e) (Qk _) (show a1f X.prog X.w _ _ _ (.tup ys) from ⟨hz,its,r',IsTup.new _ _⟩)
  exact ⟨.ref h'.objs.size,_,I2,rfl,q _ (I1.hok.fresh (Qk _))⟩
 ·obtain ⟨its,r',pl,hz⟩:=I.tuple hq
  exact call_tuple_same pl ⟨.ref p,H,I,rfl,q⟩
def tyV (K:Qc) (T:String) (x:V) (H:Hp):Prop:=match x with
 | .str _=>T="str"
 | .int _=>T="int"
 | .ref p=>(T="list"∧∃xs,SqL K H p xs)∨(T="tuple"∧∃o,K.lookup p=some o∧o.cls=.type "tuple"∧o.dict=none)∨
   (T="dict"∧((∃kvs,H p=some (.dK kvs))∨∃kvs,H p=some (.dT kvs)))∨(T="set"∧∃S n,H p=some (.set S n))
 | _=>False
theorem b4w {pins:List (Addr×Obj)} {σ:St} {H:Hp} {s:Shared} {T:String} {x:V} {v:Value} (I:Inv X pins σ H s) (r:a0Q x v) (ty:tyV X.K T x H):
  s.TypeIs v T∧∀a,v=.ref a→∃ob,s.heap.get? a=some ob∧ob.dict=none:=by
 cases x with
 | str z=>
  obtain ⟨t,rfl⟩:=r
  cases (show T="str" from ty)
  exact ⟨typeIs_str s z t,fun _ e=>nomatch e⟩
 | int i=>
  obtain ⟨t,rfl⟩:=r
  cases (show T="int" from ty)
  exact ⟨typeIs_int s i t,fun _ e=>nomatch e⟩
 | ref p=>
  cases r
  rcases ty with ⟨rfl,xs,hq⟩ | ⟨rfl,o,hk,hc,hd⟩ | ⟨rfl,hk⟩ | ⟨rfl,S,n,hk⟩
  ·obtain ⟨its,_,pl,_⟩:=I.list hq
   refine ⟨pl.isList.typeIs,fun a e=>?_⟩
   cases e
   obtain ⟨o,n,e,c,hd,_⟩:=pl
   exact ⟨o,e,hd⟩
  ·refine ⟨⟨o,I.kIn p o hk,hc⟩,fun a e=>?_⟩
   cases e
   exact ⟨o,I.kIn _ o hk,hd⟩
  ·have z:∃o,s.heap.get? p=some o∧o.ExactDict:=by
    rcases hk with ⟨kvs,hk⟩ | ⟨kvs,hk⟩
    ·obtain ⟨_,_,_,_,o,_,_,e,ex,_⟩:=I.hok p _ hk
     exact ⟨o,e,ex⟩
    ·obtain ⟨_,_,_,_,o,_,_,e,ex,_⟩:=I.hok p _ hk
     exact ⟨o,e,ex⟩
   obtain ⟨o,e,ex⟩:=z
   refine ⟨⟨o,e,ex.1⟩,fun a e2=>?_⟩
   cases e2
   exact ⟨o,e,ex.2.1⟩
  ·obtain ⟨o,_,_,_,e,ex,_⟩:=I.hok p _ hk
   refine ⟨⟨o,e,ex.1⟩,fun a e2=>?_⟩
   cases e2
   exact ⟨o,e,ex.2.1⟩
 | _=>exact False.elim ty
def tBM (K:Qc) (T:String) (r:V→List V→Hp→VK→Prop) (to:TE) (t:TA):TE:=fun σ H Q=>to σ H fun x H1=>tyV K T x H1∧t σ H1 fun xs H2=>r x xs H2 Q
variable {o e:Expr} {es:List Expr} {to:TE} {t:TA} {name:Str} {apos cpos:Pos} {T id:String} {r:V→List V→Hp→VK→Prop}
theorem b8s (pa:PlainAttrs T) (slot:Slot T name id) (hty:typeOf (.builtin id)=pure (.type "method_descriptor")) (hm:MtR X id r) (ho:PE X o to) (ha:PA X (e::es) t)
  (hbase:attributeBase o name X.env (eval o X.env)=eval o X.env:=by rfl)
  (hfew:((backTo cpos (starEach (e::es) X.env)).all (fun x=>!x.1) && (backToKw cpos (keywordEach [] X.env)).all (fun x=>x.1.isSome)
   && decide ((e::es).length+([]:List Keyword).length+(if ([]:List Keyword).isEmpty then 0 else 1) < 30))=true:=by rfl)
  (hline:(apos.endLine == cpos.line)=true:=by rfl) (hs:starEach (e::es) X.env=(false,eval e X.env)::starEach es X.env:=by rfl) (hplain:(backTo cpos (starEach es X.env)).any (·.1)=false:=by rfl):
  PE X (.Call (.Attribute o name apos) (e::es) [] cpos) (tBM X.K T r to t):=by
 intro pins s σ H Q I h
 refine wpAny_Call_method_late hbase hfew hline rfl (thn (ho pins s σ H _ I h) fun v s1 ⟨x,H1,I1,r1,ty,q1⟩=>?_)
 obtain ⟨h1,h2⟩:=b4w I1 r1 ty
 refine ⟨T,id,pa,slot,hty,h1,h2,?_⟩
 have hA:=ha cpos pins s1 σ H1 _ I1 q1
 rw [hs] at hA ⊢
 refine Calls.callWith_builtin (by show (false || (backTo cpos (starEach es X.env)).any (·.1))=false;rw [hplain]<;>rfl) (Calls.evalArgs_plain ?_)
 exact thn hA fun us s2 ⟨vs,H2,I2,r2,q2⟩=>hm pins s2 σ H2 x vs v us Q I2 r1 r2 q2
end
def MtM (X:Cx) (id:String) (r:V→List V→Hp→VK→Prop):Prop:=
 ∀(pins:List (Addr×Obj)) (s:Shared) (σ:St) (H:Hp) (x:V) (xs:List V) (v:Value) (us:List Value) (Q:VK),Inv X pins σ H s→a0Q x v→a0G xs us→r x xs H Q→
  wpAny (model X.prog X.w) X.A (call (.builtin id) (v::us)) (EP X pins σ Q) X.xe s
theorem a0G.one:∀{x:V} {us:List Value},a0G [x] us→∃u,us=[u]∧a0Q x u
 | _,_,.cons r .nil=>⟨_,rfl,r⟩
theorem a0G.reverse {xs:List V} {us:List Value} (h:a0G xs us):a0G xs.reverse us.reverse:=by
 induction h with
 | nil=>exact .nil
 | cons r t ih=>rw [List.reverse_cons,List.reverse_cons];exact a0G.append ih (.cons r .nil)
theorem a0G.rep {xs:List V} {us:List Value} (h:a0G xs us):∀k:Nat,a0G (Xd k xs).flatten (Xd k us).flatten
 | 0=>.nil
 | k+1=>by
  rw [Zt,Zt,Jk,Jk]
  exact a0G.append h (a0G.rep h k)
theorem a4w (its:List Value):∀(k:Nat) (acc:List Value),
  Wy (fun x1 x2=>x1++x2) acc.toArray (Xd k its.toArray)=(acc++(Xd k its).flatten).toArray
 | 0,acc=>by simp
 | k+1,acc=>by
  have e:acc.toArray++its.toArray=(acc++its).toArray:=by simp
  have e2:(acc++its)++(Xd k its).flatten=acc++(Xd (k+1) its).flatten:=by
   rw [Zt,Jk,Yt]
  rw [←e2,←a4w its k (acc++its),←e,Zt,List.foldl_cons]
section
variable {X:Cx} {pins:List (Addr×Obj)} {σ:St} {H:Hp} {s:Shared} {l b:Addr} {xs ys zs:List V}
theorem Inv.lset {its its':List Value} {n:Nat} {f:Array Value→Array Value} {t':Nat} (I:Inv X pins σ H s) (hH:H l=some (.lst xs))
  (e:s.heap.get? l=some {cls:=.type "list",data:=.seq its.toArray n}) (hf:f its.toArray=its'.toArray) (hv:a0G ys its') (hz:ys.length≤sizeLine):
  Inv X pins σ (upd H l (.lst ys)) {s with heap:=s.heap.update l (Obj.mapSeq f),toks:=t'}:=by
 have q:=PySem.IsL.update e f
 rw [hf] at q
 refine I.write (x:=l) (e:=l) (by rw [hH];exact trivial) (.inl rfl) (fun b' u hb hu=>(Jm s.heap (Obj.mapSeq f) (Ne.symm hb)).trans hu) ⟨_,q⟩ ?_
 exact ⟨hz,its',_,hv,q⟩
theorem Inv.lnew {its:List Value} {t':Nat} (I:Inv X pins σ H s) (hv:a0G ys its) (hz:ys.length≤sizeLine):
  Inv X pins σ (upd H s.heap.objs.size (.lst ys)) {s with heap:=s.heap.push {cls:=.type "list",data:=.seq its.toArray},toks:=t'}:=
 I.laid (fun _ _ q=>Qm _ q) (Qk _) ⟨hz,its,0,hv,Xf _ rfl⟩
theorem Inv.fresh (I:Inv X pins σ H s):H s.heap.objs.size=none:=I.hok.fresh (Qk _)
theorem Inv.lstM (I:Inv X pins σ H s) (hH:H l=some (.lst xs)):xs.length≤sizeLine∧∃(its:List Value) (n:Nat),a0G xs its∧xs.length=its.length∧s.heap.get? l=some {cls:=.type "list",data:=.seq its.toArray n}:=by
 obtain ⟨z,its,n,r,e⟩:=I.hok l _ hH
 exact ⟨z,its,n,r,r.length,e⟩
theorem a5w {n:Nat} (h:n≤sizeLine):Builtin.List.listTooLong n=false:=by
 unfold Builtin.List.listTooLong
 exact decide_eq_false ‹om›
end
section
variable {X:Cx}
def b1X:V→List V→Hp→VK→Prop:=fun x vs H Q=>∃l xs y,x=.ref l∧vs=[y]∧H l=some (.lst xs)∧xs.length < sizeLine∧Q .non (upd H l (.lst (xs++[y])))
theorem a0C:MtM X "list.append" b1X:=by
 intro pins s σ H x vs v us Q I rx rv h
 obtain ⟨l,xs,y,rfl,rfl,hH,hz,q⟩:=h
 cases rx
 obtain ⟨u,rfl,ru⟩:=rv.one
 obtain ⟨z,its,n,r,hl,e⟩:=I.lstM hH
 refine call_meets F.slot_list_append ⟨_,e,rfl⟩ F.entry_list_append (F.args_list_append_2 _ _) (PySem.list_append l its.toArray n u (by rw [Ql];omega)) ⟨e,?_⟩
 refine ⟨.non,_,I.lset (its':=its++[u]) hH e (by simp) (r.append (.cons ru .nil)) ?_,rfl,q⟩
 rw [Xl,Jt]
 omega
def b3s:V→List V→Hp→VK→Prop:=fun x vs H Q=>∃l b xs zs,x=.ref l∧vs=[.ref b]∧H l=some (.lst xs)∧H b=some (.lst zs)∧xs.length+zs.length≤sizeLine∧Q .non (upd H l (.lst (xs++zs)))
theorem a7T:MtM X "list.extend" b3s:=by
 intro pins s σ H x vs v us Q I rx rv h
 obtain ⟨l,b,xs,zs,rfl,rfl,hH,hB,hz,q⟩:=h
 cases rx
 obtain ⟨u,rfl,ru⟩:=rv.one
 cases ru
 obtain ⟨z,its,n,r,hl,e⟩:=I.lstM hH
 obtain ⟨z2,its2,n2,r2,hl2,e2⟩:=I.lstM hB
 have hsz:its.toArray.size+its2.toArray.size≤sizeLine:=by rw [Ql,Ql];omega
 have hlong:¬(!its.toArray.isEmpty && Builtin.List.listTooLong (its.toArray.size+its2.toArray.size))=true:=by
  rw [a5w hsz,Vr]
  exact Qn
 refine call_meets F.slot_list_extend ⟨_,e,rfl⟩ F.entry_list_extend (F.args_list_extend_2 _ _)
  (AutoSeq1.list_extend_list_list_0 l its.toArray n b its2.toArray n2 hlong (by rw [Ql];omega) ‹om›) ⟨e,e2,?_⟩
 refine ⟨.non,_,I.lset (its':=its++its2) hH e (by simp) (r.append r2) ?_,rfl,q⟩
 rw [Xl]
 omega
def b9L:R2:=fun x y H Q=>∃l b xs zs,x=.ref l∧y=.ref b∧H l=some (.lst xs)∧H b=some (.lst zs)∧xs.length+zs.length≤sizeLine∧∀p,H p=none→Q (.ref p) (upd H p (.lst (xs++zs)))
theorem b6E:OpR X (binaryOp .Add) b9L:=by
 intro pins s σ H x y v u Q I rx ry h
 obtain ⟨l,b,xs,zs,rfl,rfl,hH,hB,hz,q⟩:=h
 cases rx
 cases ry
 obtain ⟨z,its,n,r,hl,e⟩:=I.lstM hH
 obtain ⟨z2,its2,n2,r2,hl2,e2⟩:=I.lstM hB
 refine PySem.P.add_list e e2 ?_ (by rw [Ql,Ql];omega)
 have ea:its.toArray++its2.toArray=(its++its2).toArray:=by simp
 rw [ea]
 exact ⟨.ref _,_,I.lnew (t':=s.toks) (r.append r2) (by rw [Xl];omega),rfl,q _ I.fresh⟩
def c2U:R2:=fun x y H Q=>∃l k xs,x=.ref l∧y=.int k∧H l=some (.lst xs)∧-(2 ^ 63)≤k∧k < 2 ^ 63∧xs.length * k.toNat≤sizeLine∧
 ∀p,H p=none→Q (.ref p) (upd H p (.lst (Xd k.toNat xs).flatten))
theorem b2d {α:Type} (xs:List α) (k:Nat):(Xd k xs).flatten.length=k * xs.length:=by
 induction k with
 | zero=>simp
 | succ k ih=>rw [Zt,Jk,Xl,ih,Nat.succ_mul,Nat.add_comm]
theorem b4F:OpR X (binaryOp .Mult) c2U:=by
 intro pins s σ H x y v u Q I rx ry h
 obtain ⟨l,k,xs,rfl,rfl,hH,h1,h2,hz,q⟩:=h
 cases rx
 obtain ⟨t,rfl⟩:=ry
 obtain ⟨z,its,n,r,hl,e⟩:=I.lstM hH
 have hlen:its.toArray.size * k.toNat≤sizeLine:=by rw [Ql,←hl];exact hz
 have hcap:¬its.toArray.size * k.toNat > (2 ^ 63 - 1) / 8:=by
  have:(sizeLine:Nat)≤(2 ^ 63 - 1) / 8:=by decide
  omega
 have hfit:¬(!Builtin.List.listFitsIndex k)=true:=by
  rw [fitsIndex_both h1 h2]
  exact Qn
 have hlong:¬Builtin.List.listTooLong (its.toArray.size * k.toNat)=true:=by
  rw [a5w hlen]
  exact Qn
 have hnew:Wy (fun x1 x2=>x1++x2) #[] (Xd (if its.toArray.isEmpty=true then 0 else k.toNat) its.toArray)=(Xd k.toNat its).flatten.toArray:=by
  have f0:∀m:Nat,Wy (fun x1 x2=>x1++x2) #[] (Xd m its.toArray)=(Xd m its).flatten.toArray:=fun m=>by
   have:=a4w its m []
   rw [Zy] at this
   exact this
  rw [f0]
  cases its with
  | nil=>simp
  | cons a r'=>rw [if_neg (by simp)]
 refine wpAny_binaryOp_repeat_ref (T:="list") (U:="int") ‹dc› ⟨_,e,rfl⟩ (fun s'=>typeIs_int s' k t) noFill_list_mul F.fills_int_mul F.slot_int_rmul repeat_list F.slot_int_index.lookup
  (call_meets F.slot_int_rmul (typeIs_int s k t) F.entry_int_rmul (F.args_int_rmul_2 _ _) (int___rmul___int_list k t l its.toArray n)
   ⟨e,rfl,⟨_,e,rfl⟩,call_meets F.slot_list_mul ⟨_,e,rfl⟩ F.entry_list_mul (F.args_list_mul_2 _ _) (AutoListH.list___mul___list_int_3 l its.toArray n k t hfit hcap hlong) ⟨e,?_⟩⟩)
 rw [hnew]
 exact ⟨.ref _,_,I.lnew (t':=s.toks) (r.rep k.toNat) (by rw [b2d,Nat.mul_comm];exact hz),rfl,q _ I.fresh⟩
end
section
variable {prog:Program} {w:World} {A:Around} {E:Value→Shared→Prop} {s:Shared}
set_option maxRecDepth 100000 in
end
section
variable {κ:Type} [DecidableEq κ]
def a1I (kvs:List (κ×V)) (k:κ):Option V:=(kvs.find? fun kv=>decide (kv.1=k)).map (·.2)
def a3m (kvs:List (κ×V)) (k:κ) (v:V):List (κ×V):=
 if (kvs.any fun kv=>decide (kv.1=k))=true then kvs.map (fun kv=>if kv.1=k then (kv.1,v) else kv) else kvs++[(k,v)]
def b3T (kvs:List (κ×V)) (k:κ):List (κ×V):=kvs.filter fun kv=>decide (kv.1≠k)
theorem a0X {p:κ×V} {r:List (κ×V)} {k:κ} (e:p.1=k):a1I (p::r) k=some p.2:=by simp [a1I,Zz,e]
theorem a1a {p:κ×V} {r:List (κ×V)} {k:κ} (e:¬p.1=k):a1I (p::r) k=a1I r k:=by simp [a1I,Zz,e]
theorem a2f (k:κ):∀kvs:List (κ×V),(kvs.any fun kv=>decide (kv.1=k))=(a1I kvs k).isSome
 | []=>rfl
 | p::r=>by
  rw [Jo]
  by_cases e:p.1=k
  ·simp only [a0X e,decide_eq_true e,Bool.true_or,Option.isSome_some]
  ·rw [a1a e,decide_eq_false e,Bool.false_or];exact a2f k r
theorem a5K (k j:κ) (y:V):∀kvs:List (κ×V),a1I (kvs.map fun kv=>if kv.1=k then (kv.1,y) else kv) j=(a1I kvs j).map fun x=>if j=k then y else x
 | []=>rfl
 | p::r=>by
  have ih:=a5K k j y r
  rw [Xp]
  by_cases h:p.1=k
  ·rw [if_pos h]
   by_cases e:p.1=j
   ·rw [a0X (p:=(p.1,y)) e,a0X e,Jf,if_pos (e.symm.trans h)]
   ·rw [a1a (p:=(p.1,y)) e,a1a e,ih]
  ·rw [if_neg h]
   by_cases e:p.1=j
   ·rw [a0X (p:=p) e,a0X e,Jf,if_neg (fun z=>h (e.trans z))]
   ·rw [a1a (p:=p) e,a1a e,ih]
theorem a4L (k j:κ) (y:V):∀kvs:List (κ×V),a1I kvs k=none→a1I (kvs++[(k,y)]) j=if j=k then some y else a1I kvs j
 | [],_=>by
  by_cases e:k=j
  ·rw [if_pos e.symm];exact a0X (p:=(k,y)) e
  ·rw [if_neg (fun z=>e z.symm)];exact a1a (p:=(k,y)) e
 | p::r,hn=>by
  rw [List.cons_append]
  have hk:¬p.1=k:=fun z=>by rw [a0X z] at hn;cases hn
  rw [a1a hk] at hn
  have ih:=a4L k j y r hn
  by_cases e:p.1=j
  ·rw [a0X e,a0X e,if_neg (fun z=>hk (e.trans z))]
  ·rw [a1a e,a1a e,ih]
theorem a2L (kvs:List (κ×V)) (k j:κ) (y:V):a1I (a3m kvs k y) j=if j=k then some y else a1I kvs j:=by
 unfold a3m
 by_cases a:(kvs.any fun kv=>decide (kv.1=k))=true
 ·rw [if_pos a,a5K]
  rw [a2f] at a
  by_cases e:j=k
  ·obtain ⟨x,hx⟩:=Uv.mp a
   rw [if_pos e,e,hx,Jf,if_pos rfl]
  ·rw [if_neg e]
   cases a1I kvs j with
   | none=>rfl
   | some x=>rw [Jf,if_neg e]
 ·rw [if_neg a]
  refine a4L k j y kvs ?_
  rw [a2f] at a
  cases q:a1I kvs k with
  | none=>rfl
  | some x=>rw [q] at a;exact (a rfl).elim
theorem a1m (kvs:List (κ×V)) (k:κ) (v:V):(a3m kvs k v).length≤kvs.length+1:=by
 unfold a3m
 split
 ·rw [Qd];omega
 ·rw [Xl,Qj,Qr];omega
theorem a3O.isSome_eq {o:Option V} {u:Option Value} (r:a3O o u):o.isSome=u.isSome:=by
 cases o with
 | none=>cases u with
  | none=>rfl
  | some _=>exact (show False from r).elim
 | some _=>cases u with
  | none=>exact (show False from r).elim
  | some _=>rfl
theorem a3O.getD {o:Option V} {u:Option Value} {d:V} {d':Value} (r:a3O o u) (rd:a0Q d d'):a0Q (o.getD d) (u.getD d'):=by
 cases o with
 | none=>cases u with
  | none=>exact rd
  | some _=>exact (show False from r).elim
 | some _=>cases u with
  | none=>exact (show False from r).elim
  | some _=>exact r
theorem KV.val {kvs:List (κ×V)} {vs:List (κ×Value)} (r:KV kvs vs) (k:κ):a3O (a1I kvs k) (valueAt vs k):=by
 unfold KV at r
 induction r with
 | nil=>exact True.intro
 | @cons p q ps qs h t ih=>
  obtain ⟨h1,h2⟩:=h
  by_cases e:p.1=k
  ·have e':q.1=k:=h1.symm.trans e
   have b:valueAt (q::qs) k=some q.2:=by simp [valueAt,Zz,e']
   rw [a0X e,b];exact h2
  ·have e':¬q.1=k:=fun z=>e (h1.trans z)
   have b:valueAt (q::qs) k=valueAt qs k:=by simp [valueAt,Zz,e']
   rw [a1a e,b];exact ih
theorem KV.any {kvs:List (κ×V)} {vs:List (κ×Value)} (r:KV kvs vs) (k:κ):(kvs.any fun kv=>decide (kv.1=k))=vs.any fun kv=>decide (kv.1=k):=by
 unfold KV at r
 induction r with
 | nil=>rfl
 | cons h t ih=>rw [Jo,Jo,ih,h.1]
theorem KV.repl {kvs:List (κ×V)} {vs:List (κ×Value)} (r:KV kvs vs) (k:κ) {y:V} {u:Value} (ry:a0Q y u):
  KV (kvs.map fun kv=>if kv.1=k then (kv.1,y) else kv) (vs.map fun kv=>if kv.1=k then (kv.1,u) else kv):=by
 unfold KV at r ⊢
 induction r with
 | nil=>exact .nil
 | @cons p q ps qs h t ih=>
  rw [Xp,Xp]
  refine .cons ?_ ih
  obtain ⟨h1,h2⟩:=h
  by_cases e:p.1=k
  ·rw [if_pos e,if_pos (h1.symm.trans e)];exact ⟨h1,ry⟩
  ·rw [if_neg e,if_neg (fun z=>e (h1.trans z))];exact ⟨h1,h2⟩
theorem KV.put {kvs:List (κ×V)} {vs:List (κ×Value)} (r:KV kvs vs) (k:κ) {y:V} {u:Value} (ry:a0Q y u):KV (a3m kvs k y) (stored vs k u):=by
 unfold a3m stored
 rw [r.any k]
 by_cases e:(vs.any fun kv=>decide (kv.1=k))=true
 ·rw [if_pos e,if_pos e];exact r.repl k ry
 ·rw [if_neg e,if_neg e];exact Paired.snoc r ⟨rfl,ry⟩
theorem KV.drop {kvs:List (κ×V)} {vs:List (κ×Value)} (r:KV kvs vs) (k:κ):KV (b3T kvs k) (without vs k):=by
 unfold KV at r ⊢
 unfold b3T without
 induction r with
 | nil=>exact .nil
 | @cons p q ps qs h t ih=>
  obtain ⟨h1,h2⟩:=h
  rw [Zo,Zo]
  by_cases e:p.1=k
  ·have a:¬decide (p.1≠k)=true:=by simp [e]
   have b:¬decide (q.1≠k)=true:=by simp [h1.symm.trans e]
   rw [if_neg a,if_neg b];exact ih
  ·have e':¬q.1=k:=fun z=>e (h1.trans z)
   have a:decide (p.1≠k)=true:=by simp [e]
   have b:decide (q.1≠k)=true:=by simp [e']
   rw [if_pos a,if_pos b];exact .cons ⟨h1,h2⟩ ih
theorem KV.length {kvs:List (κ×V)} {vs:List (κ×Value)} (r:KV kvs vs):kvs.length=vs.length:=Paired.length r
end
theorem a7A {P:Program} {w:World} {k:Key} {u:Value} (r:a0Q (kV k) u):(a0N P w).is k u=true:=by
 cases k with
 | inl i=>obtain ⟨t,e⟩:=(show ∃t,u=Value.int i t from r);subst e;exact a5c P w i t
 | inr x=>obtain ⟨t,e⟩:=(show ∃t,u=Value.str x t from r);subst e;exact a5e P w x t
theorem a4K {P:Program} {w:World}:∀{ks:List Key} {us:List Value},a0G (ks.map kV) us→ItemsAre (a0N P w) ks us
 | [],_,r=>by rw [Ux] at r;cases r;exact .nil
 | k::ks,_,r=>by
  rw [Xp] at r
  cases r with
  | cons h t=>exact .cons (a7A h) (a4K t)
abbrev KT (H:Hp):List (List Key×V)→List (List Key×Addr×Value)→Prop:=Paired fun p q=>p.1=q.1∧H q.2.1=some (.tup (p.1.map kV))∧a0Q p.2 q.2.2
theorem KT.val {H:Hp} {kvs:List (List Key×V)} {xs:List (List Key×Addr×Value)} (r:KT H kvs xs) (k:List Key):a3O (a1I kvs k) ((atKey xs k).map (·.2)):=by
 induction r with
 | nil=>exact True.intro
 | @cons p q ps qs h t ih=>
  obtain ⟨h1,_,h2⟩:=h
  by_cases e:p.1=k
  ·have e':q.1=k:=h1.symm.trans e
   have b:atKey (q::qs) k=some q.2:=by simp [atKey,Zz,e']
   rw [a0X e,b];exact h2
  ·have e':¬q.1=k:=fun z=>e (h1.trans z)
   have b:atKey (q::qs) k=atKey qs k:=by simp [atKey,Zz,e']
   rw [a1a e,b];exact ih
theorem KT.repl {H:Hp} {kvs:List (List Key×V)} {xs:List (List Key×Addr×Value)} (r:KT H kvs xs) (k:List Key) {y:V} {u:Value} (ry:a0Q y u):
  KT H (kvs.map fun kv=>if kv.1=k then (kv.1,y) else kv) (xs.map (putAt k u)):=by
 induction r with
 | nil=>exact .nil
 | @cons p q ps qs h t ih=>
  rw [Xp,Xp]
  refine .cons ?_ ih
  obtain ⟨h1,h2,h3⟩:=h
  unfold putAt
  by_cases e:p.1=k
  ·rw [if_pos e,if_pos (h1.symm.trans e)];exact ⟨h1,h2,ry⟩
  ·rw [if_neg e,if_neg (fun z=>e (h1.trans z))];exact ⟨h1,h2,h3⟩
theorem KT.put {H:Hp} {kvs:List (List Key×V)} {xs:List (List Key×Addr×Value)} (r:KT H kvs xs) (k:List Key) {b:Addr} {y:V} {u:Value} (hb:H b=some (.tup (k.map kV))) (ry:a0Q y u):
  KT H (a3m kvs k y) (storedH xs k b u):=by
 have e:(kvs.any fun kv=>decide (kv.1=k))=(atKey xs k).isSome:=by
  rw [a2f,(r.val k).isSome_eq,Ws]
 unfold a3m storedH
 rw [e]
 by_cases q:(atKey xs k).isSome=true
 ·rw [if_pos q,if_pos q];exact r.repl k ry
 ·rw [if_neg q,if_neg q];exact Paired.snoc r ⟨rfl,hb,ry⟩
theorem KT.keeps {H H':Hp} {kvs:List (List Key×V)} {xs:List (List Key×Addr×Value)} (r:KT H kvs xs) (ht:∀b ys,H b=some (.tup ys)→H' b=some (.tup ys)):KT H' kvs xs:=
 Paired.mapP r fun _ _ z=>⟨z.1,ht _ _ z.2.1,z.2.2⟩
section
variable {P:Program} {w:World} {H:Hp} {h:Heap} {a:Addr}
theorem b5L {u:HO} (ok:HOk P w H h) (e:Rd H a u):a1f P w H h a u:=e.ok ok
theorem a6U {kvs:List (Key×V)} (ok:HOk P w H h) (e:Rd H a (.dK kvs)):kvs.length≤sizeLine∧(a == sysModules)=false∧∃vs,KV kvs vs∧h.DictOf (a0N P w) a vs:=
 show a1f P w H h a (.dK kvs) from b5L ok e
theorem b4d {kvs:List (Key×V)} (ok:HOk P w H h) (e:H a=some (.dK kvs)):kvs.length≤sizeLine∧(a == sysModules)=false∧∃vs,KV kvs vs∧h.DictOf (a0N P w) a vs:=a6U ok (.inl e)
theorem a6f {ks:List Key} (ok:HOk P w H h) (e:H a=some (.tup (ks.map kV))):(tupleKind (a0N P w)).is h ks a:=by
 obtain ⟨_,its,r,o,h1,h2,n,h3⟩:=(show a1f P w H h a (.tup (ks.map kV)) from ok a _ e)
 exact ⟨o,its.toArray,n,h1,h2,h3,by simpa using a4K r⟩
theorem b0j {kvs:List (List Key×V)} (ok:HOk P w H h) (e:Rd H a (.dT kvs)):kvs.length≤sizeLine∧(a == sysModules)=false∧
  ∃xs,KT H kvs xs∧h.DictOfH (tupleKind (a0N P w)) a xs:=by
 obtain ⟨z,y,xs,r,o,es,ep,h1,h2,h3,h4,h5⟩:=(show a1f P w H h a (.dT kvs) from b5L ok e)
 refine ⟨z,y,xs,r,o,es,ep,h1,h2,h3,h4,fun x hx=>?_,h5⟩
 have all:∀{l:List (List Key×V)} {m:List (List Key×Addr×Value)},KT H l m→∀x∈m,(tupleKind (a0N P w)).is h x.1 x.2.1:=by
  intro l m q
  induction q with
  | nil=>intro x hx;exact nomatch hx
  | @cons p q ps qs hq t ih=>
   intro x hx
   rcases Qw.mp hx with e | hx
   ·subst e
    exact a6f ok (by rw [←hq.1];exact hq.2.1)
   ·exact ih x hx
 exact all r x hx
theorem b8b {kvs:List (List Key×V)} (ok:HOk P w H h) (e:H a=some (.dT kvs)):kvs.length≤sizeLine∧(a == sysModules)=false∧
  ∃xs,KT H kvs xs∧h.DictOfH (tupleKind (a0N P w)) a xs:=b0j ok (.inl e)
end
def a5H (H:Hp) (a:Addr) (y:V) (r:Option V):Prop:=
 (∃kvs k,Rd H a (.dK kvs)∧y=kV k∧r=a1I kvs k)∨∃kvs k b,Rd H a (.dT kvs)∧y=.ref b∧H b=some (.tup (k.map kV))∧r=a1I kvs k
def a9C (H:Hp) (a:Addr) (y v:V) (H':Hp):Prop:=
 (∃kvs k,H a=some (.dK kvs)∧y=kV k∧kvs.length < sizeLine∧H'=upd H a (.dK (a3m kvs k v)))∨
 ∃kvs k b,H a=some (.dT kvs)∧y=.ref b∧H b=some (.tup (k.map kV))∧kvs.length < sizeLine∧H'=upd H a (.dT (a3m kvs k v))
theorem a5H.k {H:Hp} {a:Addr} {kvs:List (Key×V)} {k:Key} (e:H a=some (.dK kvs)):a5H H a (kV k) (a1I kvs k):=.inl ⟨kvs,k,.inl e,rfl,rfl⟩
theorem a5H.t {H:Hp} {a b:Addr} {kvs:List (List Key×V)} {k:List Key} (e:H a=some (.dT kvs)) (eb:H b=some (.tup (k.map kV))):a5H H a (.ref b) (a1I kvs k):=.inr ⟨kvs,k,b,.inl e,rfl,eb,rfl⟩
theorem a9C.k {H:Hp} {a:Addr} {kvs:List (Key×V)} {k:Key} {v:V} (e:H a=some (.dK kvs)) (hl:kvs.length < sizeLine):a9C H a (kV k) v (upd H a (.dK (a3m kvs k v))):=.inl ⟨kvs,k,e,rfl,hl,rfl⟩
theorem a9C.t {H:Hp} {a b:Addr} {kvs:List (List Key×V)} {k:List Key} {v:V} (e:H a=some (.dT kvs)) (eb:H b=some (.tup (k.map kV))) (hl:kvs.length < sizeLine):
  a9C H a (.ref b) v (upd H a (.dT (a3m kvs k v))):=.inr ⟨kvs,k,b,e,rfl,eb,hl,rfl⟩
section
variable {X:Cx} {pins:List (Addr×Obj)} {σ:St} {H:Hp} {s:Shared} {a:Addr} {y v:V} {u r:Value} {o:Option V} {A:Around} {E:Value→Shared→Prop}
theorem Inv.big (I:Inv X pins σ H s):sysModules < s.heap.objs.size:=by
 have h:mainGlobals < s.heap.objs.size:=(I.mod.glob.keeps I.bk).lt
 exact Nat.lt_trans ‹dc› h
theorem c2m {Q:Value→Shared→Prop} (hu:A.units+1 < cLine) (I:Inv X pins σ H s) (g:a5H H a y o) (ry:a0Q y u) (h:∀s',Inv X pins σ H s'→Q (.bool o.isSome) s'):
  wpAny (model X.prog X.w) A (compareOp .In u (.ref a)) Q E s:=by
 rcases g with ⟨kvs,k,e,ey,l⟩ | ⟨kvs,k,b,e,ey,eb,l⟩
 ·subst ey
  obtain ⟨z,hd,vs,rel,dd⟩:=a6U I.hok e
  refine wpAny_in_of (a7A ry) hd dd.mapOf ?_
  rw [←(rel.val k).isSome_eq,←l]
  exact h _ (I.tok _)
 ·subst ey
  cases (show u=Value.ref b from ry)
  obtain ⟨z,hd,xs,rel,dd⟩:=b0j I.hok e
  refine wpAny_in_heap (tupleKind_room_in1 hu) (a6f I.hok eb) hd dd ?_
  have q:=(rel.val k).isSome_eq
  rw [Ws] at q
  rw [←q,←l]
  exact h _ (I.tok _)
theorem a5h {h':Heap} {t':Nat} {ob:HO} (I:Inv X pins σ H s) (mu:Mut (H a)) (hs:Us a s.heap h') (he:∃q,h'.get? a=some q) (new:a1f X.prog X.w (upd H a ob) h' a ob):
  Inv X pins σ (upd H a ob) {s with heap:=h',toks:=t'}:=
 I.write (x:=a) (e:=a) mu (.inl rfl) (fun b q hb z=>(hs.2 b hb).trans z) he new
theorem b1H {P:Program} {w:World} {H':Hp} {h':Heap} {kvs:List (Key×V)} {vs:List (Key×Value)} (z:kvs.length≤sizeLine) (hd:(a == sysModules)=false) (rel:KV kvs vs) (dd:h'.DictOf (a0N P w) a vs):
  a1f P w H' h' a (.dK kvs):=⟨z,hd,vs,rel,dd⟩
theorem a8d {H':Hp} {Q:Unit→Shared→Prop} (hu:A.units+1 < cLine) (I:Inv X pins σ H s) (g:a9C H a y v H') (ry:a0Q y u) (rv:a0Q v r) (h:∀s',Inv X pins σ H' s'→Q () s'):
  wpAny (model X.prog X.w) A (setItem (.ref a) u r) Q E s:=by
 rcases g with ⟨kvs,k,e,ey,l,eH⟩ | ⟨kvs,k,b,e,ey,eb,l,eH⟩
 ·subst ey eH
  obtain ⟨z,hd,vs,rel,dd⟩:=b4d I.hok e
  have hz:vs.length≤sizeLine:=by rw [←rel.length];exact z
  have hl:(a3m kvs k v).length≤sizeLine:=by have:=a1m kvs k v;omega
  refine wpAny_setItem_pairs (hsz:=hz) (a7A ry) dd fun h' dd' hs=>h _ ?_
  have he:∃q,h'.get? a=some q:=let ⟨q,_,_,hq,_⟩:=dd';⟨q,hq⟩
  exact a5h I (by rw [e];exact True.intro) hs he (b1H hl hd (rel.put k rv) dd')
 ·subst ey eH
  cases (show u=Value.ref b from ry)
  obtain ⟨z,hd,xs,rel,dd⟩:=b8b I.hok e
  have hz:xs.length≤sizeLine:=by rw [←Paired.length rel];exact z
  have hl:(a3m kvs k v).length≤sizeLine:=by have:=a1m kvs k v;omega
  refine wpAny_setItem_heap (hsz:=hz) (tupleKind_room_in1 hu) (a6f I.hok eb) dd fun h' dd' hs=>h _ ?_
  obtain ⟨q,es,ep,hq,h2,h3,h4,_,h5⟩:=dd'
  refine a5h I (by rw [e];exact True.intro) hs ⟨q,hq⟩ ⟨hl,hd,_,(rel.put k eb rv).keeps fun c ys ec=>?_,q,es,ep,hq,h2,h3,h4,h5⟩
  rw [a0d (a1O ec e (fun z=>nomatch z))]
  exact ec
end
section
variable {X:Cx} {pins:List (Addr×Obj)} {σ:St} {H:Hp} {s:Shared} {a:Addr} {kvs:List (Key×V)} {k:Key} {u:Value} {A:Around} {E:Value→Shared→Prop}
theorem b7T {Q:Value→Shared→Prop} (I:Inv X pins σ H s) (e:Rd H a (.dK kvs)) (h:∀t s',Inv X pins σ H s'→Q (.int kvs.length t) s'):wpAny (model X.prog X.w) A (call (.builtin "len") [.ref a]) Q E s:=by
 obtain ⟨z,hd,vs,rel,dd⟩:=a6U I.hok e
 refine call_len_dict hd dd (by rw [←rel.length];rw [sizeLine_eq] at z;omega) ?_
 rw [←rel.length]
 exact h _ _ (I.tok _)
end
def b3J (ty td:TE):TE:=fun σ H Q=>ty σ H fun y H1=>td σ H1 fun x H2=>∃a o,x=.ref a∧a5H H2 a y o∧Q (.bl o.isSome) H2
def a9Y (td ty tv:TE):TS:=fun D σ H=>tv σ H fun v H1=>td σ H1 fun x H2=>ty σ H2 fun y H3=>∃a H4,x=.ref a∧a9C H3 a y v H4∧D.nx σ H4
section
variable {X:Cx} {o i e value:Expr} {pos pos' tpos:Pos} {td ty tv:TE}
theorem a2j (hu:X.A.units+1 < cLine) (hi:PE X i ty) (ho:PE X o td):PC X .In i o (b3J ty td):=by
 intro pins s σ H Q I h
 refine thn (hi pins s σ H _ I h) fun iv s1 ⟨y,H1,I1,ry,q1⟩=>thn (ho pins s1 σ H1 _ I1 q1) fun u s2 ⟨x,H2,I2,rx,a,ov,ex,g,q2⟩=>?_
 subst ex
 obtain rfl:u=Value.ref a:=rx
 exact c2m hu I2 g ry fun s3 I3=>⟨.bl ov.isSome,H2,I3,rfl,q2⟩
theorem b2I (hu:X.A.units+1 < cLine) (ho:PE X o td) (hi:PE X i ty) (hv:PE X value tv) (hs:swapsWith value (some (.Subscript o i pos')) pos.line X.env=pure false):
  PS X (.Assign [.Subscript o i pos'] value pos) (a9Y td ty tv):=by
 intro pins s σ H D I h
 refine wpAny_Assign_Subscript (thn (hv pins s σ H _ I h) fun r s1 ⟨v,H1,I1,rv,q1⟩=>thn (ho pins s1 σ H1 _ I1 q1) fun u s2 ⟨x,H2,I2,rx,q2⟩=>thn (hi pins s2 σ H2 _ I2 q2) fun iv s3 ⟨y,H3,I3,ry,a,H4,ex,g,q3⟩=>?_) hs
 subst ex
 obtain rfl:u=Value.ref a:=rx
 exact a8d hu I3 g ry rv fun s4 I4=>⟨σ,H4,I4,q3⟩
end
theorem b0l {P:Program} {w:World} {H:Hp} (h:Heap) (hb:sysModules < h.objs.size):a1f P w H (h.push {cls:=.type "dict",data:=.dict #[]}) h.objs.size (.dK []):=
 ⟨Xi _,beq_eq_false_iff_ne.mpr (Ne.symm (Qt hb)),[],.nil,Heap.DictOf.new h⟩
theorem a9L {P:Program} {w:World} {H:Hp} (h:Heap) (hb:sysModules < h.objs.size):a1f P w H (h.push {cls:=.type "dict",data:=.dict #[]}) h.objs.size (.dT []):=
 ⟨Xi _,beq_eq_false_iff_ne.mpr (Ne.symm (Qt hb)),[],.nil,_,#[],0,Xf _ rfl,⟨rfl,rfl,rfl⟩,rfl,rfl,Uf⟩
def a6g:TE:=fun _ H Q=>∀p,H p=none→Q (.ref p) (upd H p (.dK []))
def b6m:TE:=fun _ H Q=>∀p,H p=none→Q (.ref p) (upd H p (.dT []))
section
variable {X:Cx} {pos:Pos}
theorem b0z:PE X (.Dict [] [] pos) a6g:=fun pins s σ H Q I h=>
 wpAny_Dict_empty ⟨.ref s.heap.objs.size,_,I.laid (a:=s.heap.objs.size) (o:=.dK []) (t':=s.toks) (fun _ _ q=>Qm _ q) (Qk _) (b0l s.heap I.big),rfl,h _ (I.hok.fresh (Qk _))⟩
theorem b0s:PE X (.Dict [] [] pos) b6m:=fun pins s σ H Q I h=>
 wpAny_Dict_empty ⟨.ref s.heap.objs.size,_,I.laid (a:=s.heap.objs.size) (o:=.dT []) (t':=s.toks) (fun _ _ q=>Qm _ q) (Qk _) (a9L s.heap I.big),rfl,h _ (I.hok.fresh (Qk _))⟩
end
structure M2 (X:Cx) (o:Expr) (m:Str) (apos:Pos) (e f:Expr) (cpos:Pos):Prop where
 base:attributeBase o m X.env (eval o X.env)=eval o X.env
 few:((backTo cpos (starEach [e,f] X.env)).all (fun x=>!x.1) && (backToKw cpos (keywordEach [] X.env)).all (fun x=>x.1.isSome)
  && decide (([e,f]:List Expr).length+([]:List Keyword).length+(if ([]:List Keyword).isEmpty then 0 else 1) < 30))=true
 line:(apos.endLine == cpos.line)=true
 trees:backTo cpos (starEach [e,f] X.env)=[(false,eval e X.env),(false,eval f X.env)]
def IsD (H:Hp) (a:Addr):Prop:=(∃kvs,Rd H a (.dK kvs))∨∃kvs,Rd H a (.dT kvs)
theorem b0T {X:Cx} {pins:List (Addr×Obj)} {σ:St} {H:Hp} {s:Shared} {a:Addr} (I:Inv X pins σ H s) (d:IsD H a):
  s.TypeIs (.ref a) "dict"∧(∀b,Value.ref a=.ref b→∃ob,s.heap.get? b=some ob∧ob.dict=none)∧(a == sysModules)=false:=by
 rcases d with ⟨kvs,e⟩ | ⟨kvs,e⟩
 ·obtain ⟨_,hd,vs,_,dd⟩:=a6U I.hok e
  refine ⟨dd.typeIs,fun b q=>?_,hd⟩
  cases q
  obtain ⟨ob,_,_,h1,h2,_⟩:=dd
  exact ⟨ob,h1,h2.2.1⟩
 ·obtain ⟨_,hd,xs,_,dd⟩:=b0j I.hok e
  refine ⟨dd.typeIs,fun b q=>?_,hd⟩
  cases q
  obtain ⟨ob,_,_,h1,h2,_⟩:=dd
  exact ⟨ob,h1,h2.2.1⟩
section
variable {X:Cx} {pins:List (Addr×Obj)} {σ:St} {H:Hp} {s:Shared} {a:Addr} {y d:V} {u r:Value} {o:Option V} {A:Around} {E:Value→Shared→Prop}
theorem b4V {Q:Value→Shared→Prop} (hu:A.units+1 < cLine) (I:Inv X pins σ H s) (g:a5H H a y o) (ry:a0Q y u) (rd:a0Q d r) (h:∀w' s',Inv X pins σ H s'→a0Q (o.getD d) w'→Q w' s'):
  wpAny (model X.prog X.w) A (call (.builtin "dict.get") [.ref a,u,r]) Q E s:=by
 rcases g with ⟨kvs,k,e,ey,l⟩ | ⟨kvs,k,b,e,ey,eb,l⟩
 ·subst ey
  obtain ⟨z,hd,vs,rel,dd⟩:=a6U I.hok e
  refine call_meetsIn Ju dd.typeIs Vl (Vd _ _ _) (meets_dict_get_default (a0N X.prog X.w) a (a7A ry) hd r) ⟨_,dd.mapOf,h _ _ (I.tok _) ?_⟩
  rw [l]
  exact (rel.val k).getD rd
 ·subst ey
  cases (show u=Value.ref b from ry)
  obtain ⟨z,hd,xs,rel,dd⟩:=b0j I.hok e
  refine call_meetsIn Ju dd.typeIs Vl (Vd _ _ _) (meetsH_dict_get_default (tupleKind (a0N X.prog X.w)) a b hd r) ⟨tupleKind_room_in1 hu,k,xs,a6f I.hok eb,dd,h _ _ (I.tok _) ?_⟩
  rw [l]
  exact (rel.val k).getD rd
end
def b0U (td ty tx:TE):TE:=fun σ H Q=>td σ H fun x H1=>∃a,x=.ref a∧IsD H1 a∧ty σ H1 fun y H2=>tx σ H2 fun z H3=>∃o,a5H H3 a y o∧Q (o.getD z) H3
section
variable {X:Cx} {o e f:Expr} {apos cpos:Pos} {td ty tx:TE}
theorem a9M (hu:X.A.units+1 < cLine) (ho:PE X o td) (he:PE X e ty) (hf:PE X f tx) (m:M2 X o "get" apos e f cpos):PE X (.Call (.Attribute o "get" apos) [e,f] [] cpos) (b0U td ty tx):=by
 intro pins s σ H Q I h
 refine wpAny_Call_method m.base m.few m.line Ve Ju PySem.F.type_dict_get (thn (ho pins s σ H _ I h) fun u s1 ⟨x,H1,I1,rx,a,ex,d,q1⟩=>?_)
 subst ex
 obtain rfl:u=Value.ref a:=rx
 obtain ⟨t1,t2,_⟩:=b0T I1 d
 refine ⟨t1,t2,?_⟩
 rw [m.trees]
 refine Calls.callWith_builtin rfl (Calls.evalArgs_plain (Calls.spliced_cons (thn (he pins s1 σ H1 _ I1 q1) fun iv s2 ⟨y,H2,I2,ry,q2⟩=>
  Calls.spliced_cons (thn (hf pins s2 σ H2 _ I2 q2) fun fv s3 ⟨z,H3,I3,rz,ov,g,q3⟩=>Calls.spliced_nil ?_))))
 exact b4V hu I3 g ry rz fun w' s4 I4 rw'=>⟨_,H3,I4,rw',q3⟩
end
end L2
namespace Att
open PySem PySem.W PySem.Calls PyProof.Rows
theorem a2N {P:Params} {h:Heap}:∀(ns:List Int) (vs:List Value),WellAll P h vs (ns.map WData.int)→IntsAre vs ns:=by
 intro ns
 induction ns with
 | nil=>
  intro vs w
  rw [Ux] at w
  cases w
  exact .nil
 | cons n ns ih=>
  intro vs w
  rw [Xp] at w
  cases w with
  | cons a b=>
   cases a
   exact .cons _ _ (ih _ b)
theorem a8h {l:OpenLaw} {n:Nat} (hn:l.most=some n) {P:Params} {h:Heap} {args:List WData} {vals:List Value}
  (hpre:l.row.toRowW.claim.pre args=true) (hwl:WellAll P h vals args):
  ∃a vs ns,vals=[Value.ref a]∧args=[WData.list (ns.map WData.int)]∧h.get? a=some {cls:=.type "list",data:=.seq vs.toArray}∧IntsAre vs ns∧ns.length≤n:=by
 have hsh:WShape.hasAll [] args [.list .int]=true:=(pre_splitW hpre).1
 have hc:l.pre.holds [] {args:=args}=true:=(pre_splitW hpre).2
 obtain ⟨d,r,rfl,h1,h2⟩:=hasAllW_cons hsh
 obtain rfl:=hasAllW_nil h2
 obtain ⟨xs,rfl,h3⟩:=hasW_list h1
 obtain ⟨ns,rfl⟩:=items_int h3
 have hlen:ns.length≤n:=by
  unfold OpenLaw.pre at hc
  have h4:(WTm.not (.lt (.lit (.int (n:Int))) (.len (.arg 0)))).holds [] {args:=[.list (ns.map .int)]}=true:=by
   have h4:=(holds_andW hc).1
   rw [hn] at h4
   exact h4
  have h5:=condW_of h4 (w_not (w_lt w_lit (w_len_list (w_arg rfl))))
  rw [Qd] at h5
  refine Nat.le_of_not_lt fun q=>?_
  have q':(n:Int) < ((ns.length:Nat):Int):=by omega
  first
   | (rw [decide_eq_true q'] at h5;exact absurd h5 ‹dc›)
   | (simp at h5;omega)
 cases hwl with
 | cons w1 w2=>
  cases w2
  cases w1 with
  | list ho hall=>exact ⟨_,_,ns,rfl,rfl,ho,a2N ns _ hall,hlen⟩
theorem a7r (l:OpenLaw) (args:List WData):l.row.toRowW.claim.post args (.bool true) args=true:=
 postW_of (r:=l.row.toRowW) (X:=(true == true))
  (show WShape.has [] (.bool true) .bool=true by first | rfl | decide | simp [WShape.has,WShape.arms,WShape.armsAll])
  (show (WTm.eq .res (.lit (.bool true))).value [] {args:=args,res:=some (.bool true),after:=args}=some (.bool (true == true)) from w_eq_bool (w_res rfl) w_lit) rfl
theorem attach_call {l:OpenLaw} {n:Nat} {q:Program} {loose:List Str} {XP:(Str→Option Value)→Heap→Prop} {YP:World→Heap→Prop} {d:DefRec}
  (hn:l.most=some n) (hdf:d.params.defaults=[])
  (call:∀(w:World) (s₀ s₁:Shared) (mg mb:Str→Option Value) (fa:Addr) (o:Obj) (pm cd doc:Value) (a:Addr) (vs:List Value) (ns:List Int),
   Ground q loose [] XP w s₀ mg mb s₁.heap→YP w s₁.heap→
   s₁.heap.get? fa=some o→o.data=.func (docDef d.name d.params d.body d.scope pm cd doc)→s₁.heap.CodeRec cd d.name→mg d.name=some (.ref fa)→
   s₁.heap.get? a=some {cls:=.type "list",data:=.seq vs.toArray}→IntsAre vs ns→ns.length≤n→s₁.gens=#[]→
   codeAny (model l.prog w) callerA (.call (.ref fa) ⟨[.ref a],[]⟩) (fun r s'=>r=.ok (.ret (.bool true))∧OldK s₁.heap s'.heap∧s'.os=s₁.os∧AllBare s'.gens) s₁):
  WalkO q loose XP YP l.row.toRowW d [] (fun f vs=>PySem.call f vs):=by
 intro w s₀ s₁ mg mb G Y fa o pm cd doc dV kV ho hd hcd hD hmg hg args vals as hpre hlay hrd hwl hlo
 obtain rfl:dV=.none:=Dflts.none hD hdf
 obtain rfl:kV=.none:=Dflts.noKw hD
 obtain ⟨a,vs,ns,rfl,rfl,hobj,hints,hlen⟩:=a8h hn hpre hwl
 refine enter_call (codeAny_mono (call w s₀ s₁ mg mb fa o pm cd doc a vs ns G Y ho (fd_plain hd) hcd hmg hobj hints hlen hg) fun r s' hq=>?_)
 obtain ⟨rfl,h2,h3,h4⟩:=hq
 exact ⟨.inl ⟨.bool true,.bool true,[],rfl,fun _=>rfl,.bool true,a7r l _,fun _=>⟨List.Pairwise.nil,fun _ hm=>(nomatch hm)⟩⟩,h2,h3,h4⟩
end Att
namespace L2
open PySem PySem.Spec PyProof.Rows
theorem a4Q:∀{vs:List Value} {ns:List Int},IntsAre vs ns→a0G (ns.map V.int) vs
 | _,_,.nil=>.nil
 | _,_,.cons n t h=>.cons ⟨t,rfl⟩ (a4Q h)
def b7v (H:Hp):Prop:=∀b,H b=none∨∃o xs,H b=some (.frz o (.lst xs))
theorem b0G {P:Program} {w:World} {K:Qc} {mg mb:Str→Option Value} {CX:CXT} {k:Nat} {fa a:Addr} {fd:FuncData} {x:Str} {sp:Sp} {s₁:Shared} {vs:List Value} {ns:List Int}
  (KX:K.In s₁.heap) (hns:s₁.heap.Ns mainGlobals mg) (hb:s₁.heap.Ns builtinsNs mb) (hbb:∀x:Str,x≠"__name__"→mb x=bootBuiltins x) (hlim:s₁.heap.NoLimit) (hg:s₁.gens=#[])
  (ha:s₁.heap.get? a=some {cls:=.type "list",data:=.seq vs.toArray}) (hi:IntsAre vs ns) (hl:ns.length≤sizeLine) (hr:a2t k callerA)
  (F:∀base:Heap,K.In base→base.Ns mainGlobals mg→a0T P w K mg base CX k fa fd [x] sp) (hbind:∀(s:Shared) (u:Value),BindsTo s fd ⟨[u],[]⟩ [(x,u)])
  (hsp:∀H:Hp,b7v H→SqL K H a (ns.map V.int)→sp [.ref a] H (fun v _=>v=.bl true) fun _ _ _=>False)
  (hCX:∀H e s',CX [] H s₁ (fun _ _ _=>False) e s'→False):
  codeAny (model P w) callerA (.call (.ref fa) ⟨[.ref a],[]⟩) (fun r s'=>r=.ok (.ret (.bool true))∧OldK s₁.heap s'.heap∧s'.os=s₁.os∧AllBare s'.gens) s₁:=by
 have rv:=a4Q hi
 have lenV:=hi.length
 have core:∀H:Hp,b7v H→SqL K H a (ns.map V.int)→HOk P w H s₁.heap→(∀b,H b≠none→b=a)→(H a≠none→K.lookup a=none)→
   codeAny (model P w) callerA (.call (.ref fa) ⟨[.ref a],[]⟩) (fun r s'=>r=.ok (.ret (.bool true))∧OldK s₁.heap s'.heap∧s'.os=s₁.os∧AllBare s'.gens) s₁:=by
  intro H hO hS hok hA hK
  have base_of:∀{b:Addr} {o:Obj},s₁.heap.get? b=some o→H b=none→(b0K s₁.heap H).get? b=some o:=fun e n=>b0H e n
  have noA:∀{b:Addr} {o:Obj} {es:Array DictEntry} {ep:Nat},s₁.heap.get? b=some o→o.data=.dict es ep→H b=none:=fun {b o es ep} e d=>by
   cases q:H b with
   | none=>rfl
   | some u=>
    have e':b=a:=hA b (by rw [q];simp)
    subst e'
    rw [ha] at e;cases e
    have d':Data.seq vs.toArray _=Data.dict es ep:=d
    cases d'
  have nsK:∀{b:Addr} {m:Str→Option Value},s₁.heap.Ns b m→(b0K s₁.heap H).Ns b m:=fun {b m} ⟨o,es,ep,e,d,r⟩=>⟨o,es,ep,base_of e (noA e d),d,r⟩
  have hKb:K.In (b0K s₁.heap H):=fun b o e=>base_of (KX b o e) (by
   cases q:H b with
   | none=>rfl
   | some u=>
    have e':b=a:=hA b (by rw [q];simp)
    subst e'
    rw [hK (by rw [q];simp)] at e;cases e)
  have hM:Mod K mg (b0K s₁.heap H):=⟨hKb,nsK hns,⟨mb,nsK hb,hbb⟩,let ⟨mc,h1,h2⟩:=hlim;⟨mc,nsK h1,h2⟩⟩
  have e0:b3k P w K mg (b0K s₁.heap H) callerA [] s₁ H:=⟨rfl,hM,fun b o e=>b3b e,Ut (a7N _ _),trivial,fun b hb=>absurd (show b∈([]:List Addr) from hb) (by simp),hok,.of_eq hg⟩
  refine codeAny_mono ((F _ hKb (nsK hns)).run callerA [] s₁ H ⟨[.ref a],[]⟩ [.ref a] [.ref a] _ _ hr e0 (hbind s₁ (.ref a)) (.cons rfl .nil) (hsp H hO hS)) fun r s' h=>?_
  cases r with
  | error e=>exact (hCX H e s' h).elim
  | ok fl=>
   cases fl with
   | next=>exact False.elim h
   | brk=>exact False.elim h
   | cont=>exact False.elim h
   | ret u=>
    obtain ⟨v,H',os,bare,un,hok',r',q⟩:=h
    have q':v=.bl true:=q
    subst q'
    obtain rfl:u=Value.bool true:=r'
    refine ⟨rfl,OldK.of_keep fun b o e=>?_,os,bare⟩
    cases q:H b with
    | none=>exact un.keep b o e q (by intro z;exact absurd (show b∈([]:List Addr) from z) (by simp)) (by simp)
    | some u=>
     rcases hO b with z | ⟨ob,xs,z⟩
     ·rw [q] at z;cases z
     ·have z2:=un.frzs b ob _ z
      obtain ⟨e1,_⟩:=hok b _ z
      obtain ⟨e2,_⟩:=hok' b _ z2
      rw [e] at e1;cases e1
      exact e2
 cases hk:K.lookup a with
 | some o=>
  have e:=KX a o hk
  rw [ha] at e
  cases e
  refine core (fun _=>none) (fun _=>.inl rfl) (.inr ⟨_,vs.toArray,_,hk,rfl,rfl,rfl,by rw [Ql,lenV];exact hl,by simpa using rv⟩) (fun b u z=>by have z':(none:Option HO)=some u:=z;cases z') (fun b z=>absurd rfl z) fun z=>absurd rfl z
 | none=>
  refine core (fun b=>if b=a then some (.frz {cls:=.type "list",data:=.seq vs.toArray} (.lst (ns.map V.int))) else none) (fun b=>?_) (.inl (.inr ⟨{cls:=.type "list",data:=.seq vs.toArray},if_pos rfl⟩)) (fun b u z=>?_) (fun b z=>?_) fun _=>hk
  ·by_cases hb:b=a
   ·exact .inr ⟨_,_,if_pos hb⟩
   ·exact .inl (if_neg hb)
  ·by_cases hb:b=a
   ·have z':=(if_pos hb).symm.trans z
    cases z'
    subst hb
    exact ⟨ha,by rw [Qd];exact hl,vs,_,rv,ha⟩
   ·have z':=(if_neg hb).symm.trans z
    cases z'
  ·by_cases hb:b=a
   ·exact hb
   ·exact absurd (if_neg hb) z
abbrev KOf {K:Qc} {h:Heap} (_:K.In h):Qc:=K
theorem b3g {l:Wz} {n k:Nat} {q:Program} {loose:List Str} {XP:(Str→Option Value)→Heap→Prop} {YP:World→Heap→Prop} {d:DefRec} {K:Params→Qc} {CX:World→CXT} {sp:World→Sp} {x:Str}
  (hn:l.most=some n) (hn2:n≤sizeLine) (hdf:d.params.defaults=[]) (hr:a2t k callerA)
  (hY:∀(w:World) (h:Heap),YP w h→(K w.params).In h)
  (F:∀(w:World) (mg:Str→Option Value) (fa:Addr) (h:Heap),(K w.params).In h→h.Ns mainGlobals mg→mg d.name=some (.ref fa)→
   ∃fd:FuncData,(∀(s:Shared) (u:Value),BindsTo s fd ⟨[u],[]⟩ [(x,u)])∧
    ∀base:Heap,(K w.params).In base→base.Ns mainGlobals mg→a0T l.prog w (K w.params) mg base (CX w) k fa fd [x] (sp w))
  (hsp:∀(w:World) (H:Hp) (a:Addr) (ns:List Int),ns.length≤n→b7v H→SqL (K w.params) H a (ns.map V.int)→sp w [.ref a] H (fun v _=>v=.bl true) fun _ _ _=>False)
  (hCX:∀(w:World) (H:Hp) (s:Shared) (e:Value) (s':Shared),CX w [] H s (fun _ _ _=>False) e s'→False):
  PySem.W.WalkO q loose XP YP l.row.toRowW d [] (fun f vs=>PySem.call f vs):=by
 refine Att.attach_call hn hdf fun w s₀ s₁ mg mb fa o pm cd doc a vs ns G Y ho hd hcd hmg hobj hints hlen hg=>?_
 have KX:=hY w _ Y
 obtain ⟨fd,hb,hF⟩:=F w mg fa _ KX G.T.g hmg
 exact b0G KX G.T.g G.T.b G.T.builtins G.T.nolimit hg hobj hints (Qi hlen hn2) hr hF hb (fun H hO hS=>hsp w H a ns hlen hO hS) fun H e s'=>hCX w H s₁ e s'
theorem b0o {l:Wz} {n k:Nat} {q:Program} {loose:List Str} {XP:(Str→Option Value)→Heap→Prop} {YP:World→Heap→Prop} {d:DefRec} {K:Params→Qc} {CX:CXT} {sp:Qc→Sp} {x:Str}
  (hn:l.most=some n) (hn2:n≤sizeLine) (hdf:d.params.defaults=[]) (hr:a2t k callerA)
  (hY:∀(w:World) (h:Heap),YP w h→(K w.params).In h)
  (F:∀(w:World) (mg:Str→Option Value) (fa:Addr) (h:Heap),(K w.params).In h→h.Ns mainGlobals mg→mg d.name=some (.ref fa)→
   ∃fd:FuncData,(∀(s:Shared) (u:Value),BindsTo s fd ⟨[u],[]⟩ [(x,u)])∧
    ∀base:Heap,(K w.params).In base→base.Ns mainGlobals mg→a0T l.prog w (K w.params) mg base CX k fa fd [x] (sp (K w.params)))
  (hsp:∀(K:Qc) (H:Hp) (a:Addr) (ns:List Int),ns.length≤n→b7v H→SqL K H a (ns.map V.int)→sp K [.ref a] H (fun v _=>v=.bl true) fun _ _ _=>False)
  (hCX:∀(H:Hp) (s:Shared) (e:Value) (s':Shared),CX [] H s (fun _ _ _=>False) e s'→False):
  PySem.W.WalkO q loose XP YP l.row.toRowW d [] (fun f vs=>PySem.call f vs):=
 b3g (K:=K) (CX:=fun _=>CX) (sp:=fun w=>sp (K w.params)) hn hn2 hdf hr hY F (fun w H a ns h1 h2 h3=>hsp (K w.params) H a ns h1 h2 h3) fun _ H s e s'=>hCX H s e s'












abbrev CX0:CXT:=fun _ _ _ _ _ _=>False
abbrev E0:XK:=fun _ _ _=>False
theorem a8R {X:Cx}:a2y CX0 X E0:=fun _ _ _ _ _ _ _ h=>h.elim
structure Fun (K:Qc) (x qual:Str) (st:Stmt) (f:Addr) (fd:FuncData):Prop where
 ex:∃(oc:Value) (od:Option Addr) (kV doc pm:Value) (an:Option Addr) (cdv ct:Value) (osl:Array (Option Value)),
  fd=Jh x qual (a2V st) (a2u st) (a0a st) .none kV doc pm an cdv ct∧K.lookup f=some ⟨oc,od,.func fd,osl⟩∧Ue K cdv qual=true
 kp:Zn K (.ref f)=true
section
variable {P:Program} {w:World} {K:Qc} {mg:Str→Option Value} {base:Heap}
theorem Fun.ok {x qual:Str} {st:Stmt} {f:Addr} {fd:FuncData} {N ps:List Str} {k:Nat} {sp:Sp} (F:Fun K x qual st f fd) (S:a0e N ps (a0a st)) (len:∀vs H Q E,sp vs H Q E→vs.length=ps.length)
  (hbody:∀(cdv:Value) (A:Around) (outer:List Env) (s:Shared) (H:Hp) (vs:List V) (Q:VK) (E:XK),a2t k (A.deeper (envOfC qual (a0a st) s.heap.objs.size f cdv))→sp vs H Q E→
   ∃t,PSs (b3F CX0 P w K mg base N qual (a0a st) f cdv A outer s H E).nox (a2u st) t∧t {nx:=fun _ H'=>Q .non H',rt:=Q} (a0r N vs) H):a0T P w K mg base CX0 (k+1) f fd ps sp:=by
 obtain ⟨oc,od,kV,doc,pm,an,cdv,ct,osl,rfl,lk,hcd⟩:=F.ex
 refine b7Y lk hcd S len fun A outer s H vs Q E hr hsp=>?_
 obtain ⟨t,h,q⟩:=hbody cdv A outer s H vs Q E hr hsp
 exact ⟨t,h.nox,q⟩
theorem b5u {x qual:Str} {st:Stmt} {f:Addr} {oc:Value} {od an:Option Addr} {osl:Array (Option Value)} {kV doc pm cdv ct:Value} (l:K.lookup f=some ⟨oc,od,.func (Jh x qual (a2V st) (a2u st) (a0a st) .none kV doc pm an cdv ct),osl⟩)
  (c:Ue K cdv qual=true) (k:Zn K (.ref f)=true):Fun K x qual st f (Jh x qual (a2V st) (a2u st) (a0a st) .none kV doc pm an cdv ct):=⟨⟨oc,od,kV,doc,pm,an,cdv,ct,osl,rfl,l,c⟩,k⟩
end
theorem a3k {A:Around} {k:Nat} (hr:a2t k A):A.units+1 < cLine:=Xm (Nat.add_le_add_left (by decide:1≤64) _) hr.units
section
variable {X:Cx}
theorem pv (i:Nat) {x:Str} {pos:Pos} (hN:X.N[i]?=some x:=by rfl) (hv:Vis X.env.scope x:=by first | exact Or.inl rfl | exact Or.inr (Or.inl rfl) | exact Or.inr (Or.inr rfl)) (hd:(x == ("__debug__":Str))=false:=by decide)
  (hcd:(x == ("__classdict__":Str))=false:=by decide):PE X (.Name x pos) (a0q i):=b7j hN hv hd hcd
end
theorem a0V {c A B:Prop} [Decidable c] (h1:c→A) (h2:¬c→B):if c then A else B:=by
 by_cases h:c
 ·rw [if_pos h]
  exact h1 h
 ·rw [if_neg h]
  exact h2 h
def a0h (H H':Hp):Prop:=∀b o,H b=some o→H' b=some o
theorem a0h.refl (H:Hp):a0h H H:=fun _ _ h=>h
theorem a0h.trans {H H1 H2:Hp} (a:a0h H H1) (b:a0h H1 H2):a0h H H2:=fun c o h=>b c o (a c o h)
theorem a0h.free {H H':Hp} (e:a0h H H') {l:Addr} (h:H' l=Option.none):H l=Option.none:=by
 cases q:H l with
 | none=>rfl
 | some o=>
  rw [e l o q] at h
  cases h
theorem a0h.seq {K:Qc} {H H':Hp} {a:Addr} {xs:List V} (e:a0h H H') (h:SqL K H a xs):SqL K H' a xs:=by
 rcases h with (h | ⟨o,h⟩) | h
 ·exact .inl (.inl (e _ _ h))
 ·exact .inl (.inr ⟨o,e _ _ h⟩)
 ·exact .inr h
section
variable {X:Cx}
theorem a8W:a1q X (.builtin "len") (fun xs H Q=>∃a kvs,xs=[V.ref a]∧H a=some (.dK kvs)∧Q (.int kvs.length) H):=by
 intro pins s σ H xs us Q I r h
 obtain ⟨a,kvs,rfl,ha,q⟩:=h
 obtain ⟨u,rfl,ru⟩:=a2d r
 cases ru
 exact b7T I (.inl ha) fun t s' I'=>⟨.int kvs.length,H,I',⟨t,rfl⟩,q⟩
end
end L2
namespace Tx
open PySem PySem.Builtin PySem.Builtin.Str PySem.StrLaws PyProof.Rows
abbrev mk (l:List Nat):Str:=⟨l.toArray⟩
theorem b6p (x:Str):mk x.cps.toList=x:=by obtain ⟨⟨l⟩⟩:=x;rfl
theorem a1Y (l:List Nat):(mk l).length=l.length:=by show l.toArray.size=_;simp
theorem b1I (a b:List Nat):mk a++mk b=mk (a++b):=by
 show (⟨a.toArray++b.toArray⟩:Str)=_
 simp
theorem a7P (l:List Nat) (c i:Nat):subAt (mk l) (mk [c]) i=decide (l[i]?=some c):=by
 rw [subAt_eq]
 show ((l.drop i).take 1 == [c])=_
 cases e:l[i]? with
 | none=>
  have:l.drop i=[]:=List.drop_eq_nil_of_le (by simpa using e)
  rw [this];simp
 | some d=>
  have hi:=(Qy.mp e)
  obtain ⟨h1,h2⟩:=hi
  rw [Ur h1,h2]
  show (d == c && true)=decide (some d=some c)
  by_cases z:d=c
  ·subst z;simp
  ·simp [z]
theorem b7g (l:List Nat) (i j:Nat):strSub (mk l) i j=mk ((l.drop i).take (j - i)):=by
 rw [←b6p (strSub (mk l) i j),strSub_toList]
theorem a7c (c:Nat) (l:List Nat):Jc (mk l) (mk [c])=decide (l[0]?=some c):=by
 unfold Jc
 rw [a7P,a1Y,a1Y]
 cases l with
 | nil=>rfl
 | cons d r=>simp
end Tx
namespace L2
open PySem PySem.Spec PyProof.Rows
abbrev NoE:Value→Shared→Prop:=fun _ _=>False
section
variable {prog:Program} {w:World} {A:Around} {R:Result→Shared→Prop} {s:Shared}
theorem a4E {elt target iter:Expr} {ifs:List Expr} {scope:Scope} {pos:Pos} {it acc:Value} {env:Env} (I:Nat→Shared→Prop)
  (turn:∀n s,I n s→wpAny (model prog w) A (pyNext it) (fun r s₁=>match r with
   | none=>R (.ok .next) s₁
   | some v=>wpAny (model prog w) A (letOwnedTupleGo target it v) (fun _ s₂=>wpAny (model prog w) A (assign target env v) (fun _ s₃=>
     wpAny (model prog w) A (forIn ifs true fun c r=>if r=true then do let ok ←isTrue c env (eval c env);pure (ForInStep.yield ok) else pure (ForInStep.yield r)) (fun ok s₄=>
      if ok=true then wpAny (model prog w) A (eval elt env) (fun x s₅=>wpAny (model prog w) A (call (.builtin "list.append") [acc,x]) (fun _ s₆=>∃m,m < n∧I m s₆) NoE s₅) NoE s₄
      else ∃m,m < n∧I m s₄) NoE s₃) NoE s₂) NoE s₁) NoE s)
  (n:Nat) (h:I n s):codeAny (model prog w) A (.compLoop (.ListComp elt [⟨target,iter,ifs,0⟩] scope pos) 0 it acc env) R s:=by
 refine codeAny_loop rfl I (fun n s hI=>?_) n h
 show wpAny _ A ((compTurn (.ListComp elt [⟨target,iter,ifs,0⟩] scope pos) 0 it acc env).onRaise (fun x=>do noteFrame x env;theTreesLotGoes x)) _ _ s
 refine wpAny_noted ?_
 rw [compTurn_list]
 refine wpAny_noRaise ?_
 refine wpAny_bind (wpAny_standAt (wpAny_bind (wpAny_mono (turn n s hI) (fun r s₁ h₁=>?_) fun _ _ h'=>h')))
 cases r with
 | none=>exact wpAny_pure h₁
 | some v=>
  refine wpAny_bind (wpAny_mono h₁ (fun _ s₂ h₂=>wpAny_bind (wpAny_mono h₂ (fun _ s₃ h₃=>wpAny_bind (wpAny_mono h₃ (fun ok s₄ h₄=>?_) fun _ _ h'=>h')) fun _ _ h'=>h')) fun _ _ h'=>h')
  cases ok with
  | false=>exact wpAny_pure ⟨rfl,h₄⟩
  | true=>exact wpAny_bind (wpAny_bind (wpAny_mono h₄ (fun x s₅ h₅=>wpAny_bind (wpAny_mono h₅ (fun _ s₆ h₆=>wpAny_pure (wpAny_pure ⟨rfl,h₆⟩)) fun _ _ h'=>h')) fun _ _ h'=>h'))
end
def a2E (env:Env):List (Str×NameKind)→List (Str×Addr)→List (Str×Addr)
 | [],cs=>cs
 | (n,k)::r,cs=>a2E env r (if (k == NameKind.free)=true then (n,(env.cells.lookup n).getD 0)::cs else cs)
theorem a1R {scope:Scope} {env:Env} (h:∀y∈scope.names,y.2=NameKind.free→∃c,env.cells.lookup y.1=some c):closureFor scope env=pure (a2E env scope.names []):=by
 have all:∀(l:List (Str×NameKind)) (cs:List (Str×Addr)),(∀y∈l,y.2=NameKind.free→∃c,env.cells.lookup y.1=some c)→
   (forIn l cs fun (x:Str×NameKind) (cs:List (Str×Addr))=>(if (x.2 == NameKind.free)=true then do let a ←cellOf env x.1;pure (ForInStep.yield ((x.1,a)::cs)) else pure (ForInStep.yield cs):Sem (ForInStep (List (Str×Addr)))))=pure (a2E env l cs):=by
  intro l
  induction l with
  | nil=>intro cs _;rfl
  | cons y l ih=>
   intro cs hy
   obtain ⟨n,k⟩:=y
   rw [List.forIn_cons]
   by_cases hk:(k == NameKind.free)=true
   ·obtain ⟨c,hc⟩:=hy (n,k) Qu (by simpa using hk)
    have e1:cellOf env n=pure c:=by unfold cellOf;rw [hc]
    have e2:a2E env ((n,k)::l) cs=a2E env l ((n,c)::cs):=by
     show a2E env l (if (k == NameKind.free)=true then (n,(env.cells.lookup n).getD 0)::cs else cs)=_
     rw [if_pos hk,hc];rfl
    rw [e2,←ih ((n,c)::cs) fun z hz=>hy z (Qs _ hz)]
    simp only [hk,if_true,e1,pure_bind]
   ·have e2:a2E env ((n,k)::l) cs=a2E env l cs:=by
     show a2E env l (if (k == NameKind.free)=true then (n,(env.cells.lookup n).getD 0)::cs else cs)=_
     rw [if_neg hk]
    rw [e2,←ih cs fun z hz=>hy z (Qs _ hz)]
    have hk':(k == NameKind.free)=false:=by simpa using hk
    simp only [hk',Ja,if_false,pure_bind]
 have e:=all scope.names [] h
 unfold closureFor
 first
  | (rw [show (pure (a2E env scope.names []):Sem (List (Str×Addr)))=(pure (a2E env scope.names []) >>= fun cs=>pure cs) from rfl,←e];rfl)
  | (simp only [bind_pure];exact e)
  | (simpa using e)
theorem a4I {env:Env} {x:Str} {c:Addr}:∀{l:List (Str×NameKind)} {cs:List (Str×Addr)},(∀y∈l,y.2=NameKind.free→∃c,env.cells.lookup y.1=some c)→
  (∀y d,cs.lookup y=some d→env.cells.lookup y=some d)→(a2E env l cs).lookup x=some c→env.cells.lookup x=some c
 | [],_,_,hc,h=>hc x c h
 | (n,k)::r,cs,hy,hc,h=>by
  refine a4I (l:=r) (cs:=if (k == NameKind.free)=true then (n,(env.cells.lookup n).getD 0)::cs else cs) (fun z hz=>hy z (Qs _ hz)) (fun y d q=>?_) h
  by_cases hk:(k == NameKind.free)=true
  ·rw [if_pos hk] at q
   obtain ⟨c',hc'⟩:=hy (n,k) Qu (by simpa using hk)
   rw [hc',Ym] at q
   by_cases e:(y == n)=true
   ·rw [e] at q
    have e':y=n:=by simpa using e
    rw [e',hc'];exact q
   ·have e':(y == n)=false:=by simpa using e
    rw [e'] at q
    exact hc y d q
  ·rw [if_neg hk] at q
   exact hc y d q
theorem a3Q {env:Env} {x:Str}:∀{l:List (Str×NameKind)} {cs:List (Str×Addr)},((x,NameKind.free)∈l∨∃c,cs.lookup x=some c)→∃c,(a2E env l cs).lookup x=some c
 | [],_,h=>by
  rcases h with h | h
  ·cases h
  ·exact h
 | (n,k)::r,cs,h=>by
  refine a3Q (l:=r) (cs:=if (k == NameKind.free)=true then (n,(env.cells.lookup n).getD 0)::cs else cs) ?_
  rcases h with h | ⟨c,h⟩
  ·rcases Qw.mp h with e | e
   ·cases e
    refine .inr ?_
    rw [if_pos (by rfl),Ym,beq_self_eq_true]
    exact ⟨_,rfl⟩
   ·exact .inl e
  ·refine .inr ?_
   by_cases hk:(k == NameKind.free)=true
   ·rw [if_pos hk,Ym]
    by_cases e:(x == n)=true
    ·rw [e];exact ⟨_,rfl⟩
    ·have e':(x == n)=false:=by simpa using e
     rw [e'];exact ⟨c,h⟩
   ·rw [if_neg hk];exact ⟨c,h⟩
theorem a1y {env:Env}:∀{names:List (Str×NameKind)} {x:Str},names.lookup x=some .free→
  (names.map fun (n,k)=>if (k == NameKind.free && env.scope.kind == .function && env.kindOf n == some .cell) then (n,NameKind.cell) else (n,k)).lookup x=some .cell∨
  (names.map fun (n,k)=>if (k == NameKind.free && env.scope.kind == .function && env.kindOf n == some .cell) then (n,NameKind.cell) else (n,k)).lookup x=some .free
 | [],_,h=>by simp at h
 | (n,k)::r,x,h=>by
  have ih:=@a1y env r x
  rw [Xp]
  show Zm x ((if (k == NameKind.free && env.scope.kind == .function && env.kindOf n == some .cell)=true then (n,NameKind.cell) else (n,k))::_)=_∨Zm x ((if (k == NameKind.free && env.scope.kind == .function && env.kindOf n == some .cell)=true then (n,NameKind.cell) else (n,k))::_)=_
  cases hx:x == n with
  | true=>
   simp only [Ym,hx] at h
   cases h
   by_cases hc:(NameKind.free == NameKind.free && env.scope.kind == .function && env.kindOf n == some .cell)=true
   ·rw [if_pos hc];exact .inl (by simp only [Ym,hx])
   ·rw [if_neg hc];exact .inr (by simp only [Ym,hx])
  | false=>
   simp only [Ym,hx] at h
   by_cases hc:(k == NameKind.free && env.scope.kind == .function && env.kindOf n == some .cell)=true
   ·rw [if_pos hc];simp only [Ym,hx];exact ih h
   ·rw [if_neg hc];simp only [Ym,hx];exact ih h
theorem a3v {env:Env}:∀{names:List (Str×NameKind)} {x:Str},(∀y∈names,y.2≠NameKind.cell)→
  ((names.map fun (n,k)=>if (k == NameKind.free && env.scope.kind == .function && env.kindOf n == some .cell) then (n,NameKind.cell) else (n,k)).lookup x=some .cell∨
  (names.map fun (n,k)=>if (k == NameKind.free && env.scope.kind == .function && env.kindOf n == some .cell) then (n,NameKind.cell) else (n,k)).lookup x=some .free)→(x,NameKind.free)∈names
 | [],_,_,h=>by rcases h with h | h<;>simp at h
 | (n,k)::r,x,hn,h=>by
  have ih:=@a3v env r x fun y hy=>hn y (Qs _ hy)
  have hk:=hn (n,k) Qu
  rw [Xp] at h
  by_cases hc:(k == NameKind.free && env.scope.kind == .function && env.kindOf n == some .cell)=true
  ·have hk1:k=NameKind.free:=by
    rw [Qp,Qp] at hc
    simpa using hc.1.1
   simp only [hc,if_true,Ym] at h
   cases hx:x == n with
   | true=>have e:x=n:=(by simpa using hx);rw [e,hk1];exact Qu
   | false=>rw [hx] at h;exact Qs _ (ih h)
  ·have hc':(k == NameKind.free && env.scope.kind == .function && env.kindOf n == some .cell)=false:=by simpa using hc
   simp only [hc',Ja,if_false,Ym] at h
   cases hx:x == n with
   | true=>
    rw [hx] at h
    have e:x=n:=by simpa using hx
    rcases h with h | h
    ·exact absurd (Option.some.inj h) hk
    ·rw [e,Option.some.inj h];exact Qu
   | false=>rw [hx] at h;exact Qs _ (ih h)
def a1i (X:Cx) (Nc:List Str) (scope:Scope) (cl:List (Str×Addr)) (C:Addr) (s:Shared) (H:Hp) (ex:List Addr):Cx where
 prog:=X.prog
 w:=X.w
 K:=X.K
 mg:=X.mg
 base:=X.base
 A:=X.A
 N:=Nc
 s₀:=s
 H₀:=H
 env:=compEnvC scope cl C X.env
 outer:=X.stack
 stack:=X.stack
 ex:=ex
 fn:=fun _=>false
 calm:=X.calm
 pn:=[]
 xe:=NoE
def a2c (js:List (Option Nat)) (σ:St):St:=js.map fun o=>match o with
 | none=>none
 | some j=>(σ[j]?).getD none
structure a5S (X:Cx) (Nc:List Str) (js:List (Option Nat)) (scope:Scope):Prop where
 kind:scope.kind=.function
 nocell:∀y∈scope.names,y.2≠NameKind.cell
 names:∀y∈scope.names,y.2=NameKind.local→scope.names.lookup y.1=some NameKind.local
 free:∀y∈scope.names,y.2=NameKind.free→X.env.kindOf y.1=some NameKind.cell∨X.env.kindOf y.1=some NameKind.free
 len:js.length=Nc.length
 map:∀(i:Nat) (y:Str) (j:Nat),Nc[i]?=some y→js[i]?=some (some j)→X.N[j]?=some y∧scope.names.lookup y=some NameKind.free
def b6Y (sc:Scope) (N Nc:List Str) (js:List (Option Nat)) (scope:Scope):Bool:=
 scope.kind == .function && scope.names.all (fun y=>y.2 != NameKind.cell) && scope.names.all (fun y=>y.2 != NameKind.local || scope.names.lookup y.1 == some NameKind.local) &&
 scope.names.all (fun y=>y.2 != NameKind.free || sc.names.lookup y.1 == some NameKind.cell || sc.names.lookup y.1 == some NameKind.free) && js.length == Nc.length &&
 (Nc.zip js).all (fun p=>match p.2 with | none=>true | some j=>N[j]? == some p.1 && scope.names.lookup p.1 == some NameKind.free)
theorem a8L {X:Cx} {sc:Scope} {N Nc:List Str} {js:List (Option Nat)} {scope:Scope} (hsc:X.env.scope=sc) (hN:X.N=N) (h:b6Y sc N Nc js scope=true):a5S X Nc js scope:=by
 unfold b6Y at h
 rw [Qp,Qp,Qp,Qp,Qp] at h
 obtain ⟨⟨⟨⟨⟨h1,h2⟩,h3⟩,h4⟩,h5⟩,h6⟩:=h
 rw [Ze] at h2 h3 h4 h6
 have h5':js.length=Nc.length:=by simpa using h5
 refine ⟨by simpa using h1,fun y hy=>by simpa using h2 y hy,fun y hy e=>?_,fun y hy e=>?_,h5',fun i y j e1 e2=>?_⟩
 ·have q:=h3 y hy
  rw [e] at q
  simpa using q
 ·have q:=h4 y hy
  rw [e] at q
  show X.env.scope.names.lookup y.1=_∨X.env.scope.names.lookup y.1=_
  rw [hsc]
  simpa using q
 ·have hm:(y,some j)∈Nc.zip js:=by
   refine Zl (i:=i) ?_
   rw [List.getElem?_zip_eq_some]
   exact ⟨e1,e2⟩
  have q:=h6 _ hm
  simp only [Qp,beq_iff_eq] at q
  rw [hN]
  exact q
def PTs (X:Cx) (ifs:List Expr) (t:TT):Prop:=
 ∀(pins:List (Addr×Obj)) (s:Shared) (σ:St) (H:Hp) (Q:Bool→Hp→Prop),Inv X pins σ H s→t σ H Q→
  wpAny (model X.prog X.w) X.A (forIn ifs true fun c r=>if r=true then do let ok ←isTrue c X.env (eval c X.env);pure (ForInStep.yield ok) else pure (ForInStep.yield r)) (TP X pins σ Q) X.xe s
def b4e:TT:=fun _ H Q=>Q true H
theorem b2u {X:Cx}:PTs X [] b4e:=fun pins s σ H Q I h=>wpAny_tests_nil ⟨H,I,h⟩
theorem b2J {X:Cx} {c:Expr} {t:TT} (hc:PT X c t):PTs X [c] t:=fun pins s σ H Q I h=>wpAny_tests_one (hc pins s σ H Q I h)
def b2P (js:List (Option Nat)) (wi:TI) (g:TG) (tt:TT) (te:TE):TE:=fun σ H Q=>wi σ H fun J H1=>∀D,H1 D=none→∃W:Nat→Nat→St→Hp→List V→Prop,(∃m,W 0 m (a2c js σ) (upd H1 D (.lst [])) [])∧
 ∀i m σ' H' ys,W i m σ' H' ys→H' D=some (.lst ys)∧((J.stop i H'∧Q (.ref D) H')∨(J.go i H'∧ys.length < sizeLine∧∀x H2,J.yld i H' x H2→g x σ' H2 fun σ2 H3=>tt σ2 H3 fun b H4=>
  if b=true then te σ2 H4 fun v H5=>H5 D=some (.lst ys)∧∃m',m' < m∧W (i+1) m' σ2 (upd H5 D (.lst (ys++[v]))) (ys++[v]) else ∃m',m' < m∧W (i+1) m' σ2 H4 ys))
section
variable {X:Cx} {elt target iter:Expr} {ifs:List Expr} {scope:Scope} {pos:Pos} {Nc:List Str} {js:List (Option Nat)} {wi:TI} {g:TG} {tt:TT} {te:TE}
theorem a3r {pins:List (Addr×Obj)} {σ:St} {H2:Hp} {s₂:Shared} {E:Value→Shared→Prop} {it:Addr} {fp:List Addr} {tn:Nat→Heap→Prop} {J:It} {Q:VK} {RR:Value→Addr→Result→Shared→Prop} (ok:a5S X Nc js scope) (hc:X.calm=true)
  (hg:∀C cl s H ex,PG (a1i X Nc scope cl C s H ex) target g) (ht:∀C cl s H ex,PTs (a1i X Nc scope cl C s H ex) ifs tt) (he:∀C cl s H ex,PE (a1i X Nc scope cl C s H ex) elt te)
  (I2:Inv X pins σ H2 s₂) (T:b3G X.prog X.w X.K target J fp it tn) (st2:tn 0 s₂.heap) (f2:∀b∈fp,a6D X pins H2 b)
  (h:∀D,H2 D=none→∃W:Nat→Nat→St→Hp→List V→Prop,(∃m,W 0 m (a2c js σ) (upd H2 D (.lst [])) [])∧
   ∀i m σ' H' ys,W i m σ' H' ys→H' D=some (.lst ys)∧((J.stop i H'∧Q (.ref D) H')∨(J.go i H'∧ys.length < sizeLine∧∀x H2,J.yld i H' x H2→g x σ' H2 fun σ2 H3=>tt σ2 H3 fun b H4=>
    if b=true then te σ2 H4 fun v H5=>H5 D=some (.lst ys)∧∃m',m' < m∧W (i+1) m' σ2 (upd H5 D (.lst (ys++[v]))) (ys++[v]) else ∃m',m' < m∧W (i+1) m' σ2 H4 ys)))
  (hRR:∀(D C:Addr) (s':Shared) (H':Hp) (m:Str→Option Value),Inv X pins σ H' s'→s'.heap.Ns C m→a6D X pins H' C→Q (.ref D) H'→RR (.ref D) C (.ok .next) s'):
  wpAny (model X.prog X.w) X.A (newList []) (fun acc s₃=>wpAny (model X.prog X.w) X.A (newFunctionEnv scope X.env.globals (a2E X.env scope.names []) [] X.env.qual none .none (some X.env)) (fun cenv s₄=>
   codeAny (model X.prog X.w) X.A (.compStart (.ListComp elt [⟨target,iter,ifs,0⟩] scope pos) 0 (.ref it) acc {cenv with scope:=relabel scope X.env}) (RR acc cenv.locals) s₄) E s₃) E s₂:=by
 have hfr:∀y∈scope.names,y.2=NameKind.free→∃c,X.env.cells.lookup y.1=some c:=fun y hy e=>I2.ok.has y.1 (ok.free y hy e)
 refine wpAny_newObj_type (wpAny_newFunctionEnv ok.nocell (by intro y hy;simp at hy) (fun h₁ hns₁ hsb₁=>?_) ok.kind)
 dsimp only at hns₁ hsb₁ ⊢
 generalize hHL:s₂.heap.push {cls:=.type "list",dict:=none,data:=.seq ([]:List Value).toArray}=HL at hns₁ hsb₁ ⊢
 have hC:HL.objs.size=s₂.heap.objs.size+1:=by rw [←hHL,Ud]
 have hCle:s₂.heap.objs.size≤HL.objs.size:=by rw [hC];exact Zf _
 have hDC:s₂.heap.objs.size≠HL.objs.size:=by rw [hC];exact Qt (Uu _)
 have old:∀b o,s₂.heap.get? b=some o→h₁.get? b=some o:=fun b o e=>hsb₁.extBut b o (Qt (Xj (Qo e) hCle)) (Qm _ (hHL ▸ Qm _ e))
 have hacc:h₁.get? s₂.heap.objs.size=some {cls:=.type "list",dict:=none,data:=.seq ([]:List Value).toArray}:=hsb₁.extBut _ _ hDC (Qm _ (hHL ▸ Xf _ rfl))
 have hD0:H2 s₂.heap.objs.size=none:=I2.hok.fresh (Qk _)
 have hC0:H2 HL.objs.size=none:=I2.hok.fresh hCle
 obtain ⟨W,⟨m0,w0⟩,turn⟩:=h _ hD0
 have hlook:∀x c,(a2E X.env scope.names []).lookup x=some c→X.env.cells.lookup x=some c:=fun x c e=>a4I hfr (fun y d q=>by simp at q) e
 have hlt:∀b∈fp,b < s₂.heap.objs.size:=fun b hb=>let ⟨o,e,_⟩:=T.obj 0 _ st2 b hb;Qo e
 have okc:(a1i X Nc scope (a2E X.env scope.names []) HL.objs.size s₂ H2 fp).Ok:=by
  refine ⟨I2.ok.mod,by show scope.kind=_;exact ok.kind,I2.ok.glob,I2.ok.blt,hCle,fun x y c e1 e2=>I2.ok.inj x y c (hlook x c e1) (hlook y c e2),fun x hx=>?_,fun x c z _=>absurd z Qn,I2.ok.hd,I2.ok.frames,.inl rfl,fun b hb=>⟨?_,fun x c e=>(f2 b hb).2.2.2.2.1 x c (hlook x c e)⟩,
   I2.bs,Qi I2.ok.bsz I2.sz,fun b o e hb=>?_,fun b hb z=>?_,I2.stack,I2.stkFree⟩
  ·exact a3Q (.inl (a3v ok.nocell hx))
  ·exact Qt (Xj (hlt b hb) hCle)
  ·rcases (f2 b hb).2.2.2.1 with z | z
   ·exact I2.ok.noex b o e z
   ·exact absurd (Xj (Qo e) (Qi I2.ok.bsz z)) (Jd _)
  ·rcases Qw.mp (I2.stkSub b z) with e | e
   ·exact (f2 b hb).2.1 e
   ·exact (f2 b hb).2.2.1 e
 have fpc:∀{H':Hp},(∀b∈fp,H' b=none)→∀b∈fp,a6D (a1i X Nc scope (a2E X.env scope.names []) HL.objs.size s₂ H2 fp) [] H' b:=fun {H'} hn b hb=>
  ⟨hn b hb,(okc.exf b hb).1,okc.exfs b hb,.inl hb,(okc.exf b hb).2,fun p hp=>absurd (show p∈([]:List (Addr×Obj)) from hp) (by simp)⟩
 have Ic:Inv (a1i X Nc scope (a2E X.env scope.names []) HL.objs.size s₂ H2 fp) [] (a2c js σ) (upd H2 s₂.heap.objs.size (.lst [])) {s₂ with heap:=h₁,toks:=s₂.toks+([]:List (Str×Value)).length}:=by
  refine ⟨okc,rfl,I2.bare,Un.laid old (Qk _) hD0,⟨_,hns₁,fun i x v e1 e2 e3=>?_⟩,fun x c e=>?_,?_,fun x c e=>?_,fun p hp=>absurd (show p∈([]:List (Addr×Obj)) from hp) (by simp),?_,?_⟩
  ·have e1':Nc[i]?=some x:=e1
   unfold a2c at e2
   rw [Qz] at e2
   cases ej:js[i]? with
   | none=>rw [ej] at e2;simp at e2
   | some oj=>
    rw [ej] at e2
    cases oj with
    | none=>simp at e2
    | some j=>
     have e2':(σ[j]?).getD none=some v:=by simpa using e2
     have e2'':σ[j]?=some (some v):=by
      cases q:σ[j]? with
      | none=>rw [q] at e2';simp at e2'
      | some z=>rw [q] at e2';simp at e2';rw [e2']
     obtain ⟨hN,hF⟩:=ok.map i x j e1' ej
     have hmem:(x,NameKind.free)∈scope.names:=PySem.mem_of_lookup hF
     have hkX:=ok.free _ hmem rfl
     obtain ⟨m,hn,hl⟩:=I2.loc
     have hvis:Vis X.env.scope x:=by
      rcases hkX with z | z
      ·exact .inr (.inl z)
      ·exact .inr (.inr z)
     obtain ⟨u,ru,lk⟩:=hl j x v hN e2'' hvis
     refine ⟨u,ru,.inr ?_⟩
     rcases lk with ⟨k1,_⟩ | ⟨_,c,ec,ic⟩
     ·have k1':X.env.kindOf x=some NameKind.local:=k1
      rcases hkX with z | z
      ·rw [z] at k1';cases k1'
      ·rw [z] at k1';cases k1'
     ·obtain ⟨c',hc'⟩:=a3Q (env:=X.env) (l:=scope.names) (cs:=[]) (x:=x) (.inl hmem)
      have e':=hlook x c' hc'
      rw [ec] at e'
      cases e'
      exact ⟨a1y hF,c,hc',ic.keeps old⟩
  ·obtain ⟨v,q⟩:=I2.cell x c (hlook x c e)
   exact ⟨v,q.keeps old⟩
  ·show upd H2 s₂.heap.objs.size (.lst []) HL.objs.size=none
   rw [a0d (Ne.symm hDC)];exact hC0
  ·obtain ⟨v,q⟩:=I2.cell x c (hlook x c e)
   rw [a0d (Qt q.lt)]
   exact I2.freeC x c (hlook x c e)
  ·exact I2.hok.laid old (Qk _) ⟨Xi _,[],_,.nil,hacc⟩
  ·show (a2c js σ).length=Nc.length
   unfold a2c
   rw [Qd];exact ok.len
 have back:∀{σ':St} {H':Hp} {s':Shared},Inv (a1i X Nc scope (a2E X.env scope.names []) HL.objs.size s₂ H2 fp) [] σ' H' s'→Inv X pins σ H' s':=fun {σ' H' s'} I4=>
  I2.call' (ch:=fp) I4.os I4.base I4.hok I4.bare fun b hb=>⟨(f2 b hb).2.2.2.1,(f2 b hb).2.1,(f2 b hb).2.2.2.2.1,(f2 b hb).2.2.2.2.2⟩
 have st1:tn 0 h₁:=T.keep 0 _ _ st2 fun b _ o e=>old b o e
 have loop:∀s₃:Shared,s₃={s₂ with heap:=h₁,toks:=s₂.toks+([]:List (Str×Value)).length}→
   codeAny (model X.prog X.w) X.A (.compLoop (.ListComp elt [⟨target,iter,ifs,0⟩] scope pos) 0 (.ref it) (.ref s₂.heap.objs.size) (compEnvC scope (a2E X.env scope.names []) HL.objs.size X.env))
    (RR (.ref s₂.heap.objs.size) HL.objs.size) s₃:=by
  rintro s₃ rfl
  refine a4E (fun n s'=>∃i σ' H' ys,Inv (a1i X Nc scope (a2E X.env scope.names []) HL.objs.size s₂ H2 fp) [] σ' H' s'∧tn i s'.heap∧(∀b∈fp,H' b=none)∧W i n σ' H' ys) ?_ m0
   ⟨0,a2c js σ,_,[],Ic,st1,fun b hb=>by rw [a0d (Qt (hlt b hb))];exact (f2 b hb).1,w0⟩
  rintro n s3 ⟨i,σ3,H3,ys,I3,st3,fr3,w3⟩
  obtain ⟨hD3,tn3⟩:=turn i n σ3 H3 ys w3
  rcases tn3 with ⟨stop,q⟩ | ⟨go,hys,step⟩
  ·refine thn (T.done (a1i X Nc scope (a2E X.env scope.names []) HL.objs.size s₂ H2 fp) rfl rfl rfl hc i [] s3 σ3 H3 NoE I3 (fpc fr3) st3 stop) fun r s4 ⟨hr,I4⟩=>?_
   subst hr
   obtain ⟨m4,n4,_⟩:=I4.loc
   exact hRR _ _ s4 H3 m4 (back I4) n4 (I2.fpOk hCle I4.free) q
  ·refine thn (T.item (a1i X Nc scope (a2E X.env scope.names []) HL.objs.size s₂ H2 fp) rfl rfl rfl hc i [] s3 σ3 H3 NoE I3 (fpc fr3) st3 go) fun r s4 ⟨u,hr,h4⟩=>?_
   subst hr
   refine thn h4 fun _ s5 ⟨x,H5,I5,r5,y5,st5,fr5⟩=>?_
   have I5':=I5.pinned (fpc fr5) (T.obj _ _ st5)
   have fin:∀{σ7:St} {H7:Hp} {s7:Shared} {zs:List V} {m':Nat},Inv (a1i X Nc scope (a2E X.env scope.names []) HL.objs.size s₂ H2 fp) ([]++a4i fp s5.heap) σ7 H7 s7→m' < n→W (i+1) m' σ7 H7 zs→
     ∃m,m < n∧∃i σ' H' ys,Inv (a1i X Nc scope (a2E X.env scope.names []) HL.objs.size s₂ H2 fp) [] σ' H' s7∧tn i s7.heap∧(∀b∈fp,H' b=none)∧W i m σ' H' ys:=fun {σ7 H7 s7 zs m'} I7 hm w7=>by
    refine ⟨m',hm,i+1,σ7,H7,zs,I7.unpinned,T.keep _ _ _ st5 fun b hb o e=>(I7.pin (b,o) (Yc _ (Yc _ (a1V hb e)))).1,fun b hb=>?_,w7⟩
    obtain ⟨o,e,d⟩:=T.obj _ _ st5 b hb
    exact (I7.pin (b,o) (Yc _ (Yc _ (a1V hb e)))).2.1
   refine thn (hg _ _ _ _ _ _ s5 σ3 H5 x u _ I5' r5 (step x H5 y5)) fun _ s6 ⟨σ6,H6,I6,q6⟩=>?_
   refine thn (ht _ _ _ _ _ _ s6 σ6 H6 _ I6 q6) fun b s7 ⟨H7,I7,q7⟩=>?_
   cases b with
   | false=>
    obtain ⟨m',hm,w7⟩:=q7
    exact fin I7 hm w7
   | true=>
    refine thn (he _ _ _ _ _ _ s7 σ6 H7 _ I7 q7) fun v s8 ⟨y,H8,I8,r8,hD8,m',hm,w8⟩=>?_
    refine thn (a0C _ s8 σ6 H8 (.ref s₂.heap.objs.size) [y] (.ref s₂.heap.objs.size) [v] (fun _ H9=>H9=upd H8 s₂.heap.objs.size (.lst (ys++[y]))) I8 rfl (.cons r8 .nil) ⟨_,ys,y,rfl,rfl,hD8,hys,rfl⟩) fun v9 s9 ⟨_,H9,I9,_,e9⟩=>?_
    subst e9
    exact fin I9 hm w8
 exact codeAny_compStart_list (loop _ rfl) (T.self X.A 0 _ _ _ st1 (loop _ rfl))
theorem b3r (ok:a5S X Nc js scope) (hc:X.calm=true) (hi:PI X target iter wi)
  (hg:∀C cl s H ex,PG (a1i X Nc scope cl C s H ex) target g) (ht:∀C cl s H ex,PTs (a1i X Nc scope cl C s H ex) ifs tt) (he:∀C cl s H ex,PE (a1i X Nc scope cl C s H ex) elt te)
  (hs:∀x,foldedSetIterable iter X.env x=pure x:=by intro _;rfl):PE X (.ListComp elt [⟨target,iter,ifs,0⟩] scope pos) (b2P js wi g tt te):=by
 intro pins s σ H Q I h
 have hfr:∀y∈scope.names,y.2=NameKind.free→∃c,X.env.cells.lookup y.1=some c:=fun y hy e=>I.ok.has y.1 (ok.free y hy e)
 rw [eval_ListComp]
 refine wpAny_comprehension_free (use:=none) rfl hs (a1R hfr) ok.kind ok.names (thn (hi pins s σ H _ I h) fun v s1 h1=>thn h1 fun itv s2 h2=>?_)
 obtain ⟨it,fp,tn,J,H2,e,I2,T,st2,f2,h⟩:=h2
 subst e
 refine a3r (RR:=fun acc C=>compPost (model X.prog X.w) X.A X.xe none (EP X pins σ Q) acc C) (Q:=Q) ok hc hg ht he I2 T st2 f2 h ?_
 intro D C s' H' m I' n' fC q
 refine ⟨m,n',fun h' sb=>⟨.ref D,H',?_,rfl,q⟩⟩
 exact I'.turned (t':=s'.toks) (fun b o hb e=>(sb.2 b hb).trans e) fC.1 fC.2.1 fC.2.2.2.1 fC.2.2.2.2.1 fC.2.2.2.2.2
theorem a6q {i:Nat} {y:Str} {py spos:Pos} (ok:a5S X Nc js scope) (hc:X.calm=true) (hi:PI X target iter wi)
  (hg:∀C cl s H ex,PG (a1i X Nc scope cl C s H ex) target g) (ht:∀C cl s H ex,PTs (a1i X Nc scope cl C s H ex) ifs tt) (he:∀C cl s H ex,PE (a1i X Nc scope cl C s H ex) elt te)
  (hN:X.N.Nodup) (hy:X.N[i]?=some y) (hx:Loc X.env.scope y) (hsw:swapsWith (.ListComp elt [⟨target,iter,ifs,0⟩] scope pos) (some (.Name y py)) spos.line X.env=pure true)
  (hs:∀x,foldedSetIterable iter X.env x=pure x:=by intro _;rfl) (hf:X.fn y=true∨X.env.scope.names.lookup y=some .local:=by first | exact .inl rfl | exact .inr rfl | assumption):
  PS X (.Assign [.Name y py] (.ListComp elt [⟨target,iter,ifs,0⟩] scope pos) spos) (fun D σ H=>b2P js wi g tt te σ H fun v H'=>D.nx (σ.set i (some v)) H'):=by
 intro pins s σ H D I h
 have hfr:∀y∈scope.names,y.2=NameKind.free→∃c,X.env.cells.lookup y.1=some c:=fun y hy e=>I.ok.has y.1 (ok.free y hy e)
 rw [exec_Assign_Name_used _ _ _ _ hsw]
 refine wpAny_bind (wpAny_standAt (wpAny_bind ?_))
 show wpAny _ X.A (do let _ ←comprehension (.ListComp elt [⟨target,iter,ifs,0⟩] scope pos) scope X.env _ (newList []) false (eval iter X.env) (some (assign (.Name y py) X.env))) _ _ s
 refine wpAny_bind (thn (wpAny_comprehension_free (use:=some (assign (.Name y py) X.env)) (Q:=fun _ s'=>SP X pins D .next s') rfl hs (a1R hfr) ok.kind ok.names
  (thn (hi pins s σ H _ I h) fun v s1 h1=>thn h1 fun itv s2 h2=>?_)) fun _ s' hq=>wpAny_pure (wpAny_pure hq))
 obtain ⟨it,fp,tn,J,H2,e,I2,T,st2,f2,h⟩:=h2
 subst e
 refine a3r (RR:=fun acc C=>compPost (model X.prog X.w) X.A X.xe (some (assign (.Name y py) X.env)) (fun _ s'=>SP X pins D .next s') acc C) (Q:=fun v H'=>D.nx (σ.set i (some v)) H') ok hc hg ht he I2 T st2 f2 h ?_
 intro Da C s' H' m I' n' fC q
 show wpAny _ X.A (assign (.Name y py) X.env (.ref Da)) _ _ _
 refine wpAny_assign_Name (a4S I' hN hy hx (show a0Q (.ref Da) (.ref Da) from rfl) (fun s'' I'' hsb=>?_) hf)
 obtain ⟨a,sb,ha⟩:=hsb
 have hCa:C≠a:=by
  rcases ha with e | e
  ·rw [e];exact fC.2.1
  ·exact fun z=>fC.2.2.2.2.1 y a e z.symm
 refine ⟨m,n'.sameBut sb hCa,fun h' sb'=>⟨σ.set i (some (.ref Da)),H',?_,q⟩⟩
 exact I''.turned (t':=s''.toks) (fun b o hb e=>(sb'.2 b hb).trans e) fC.1 fC.2.1 fC.2.2.2.1 fC.2.2.2.2.1 fC.2.2.2.2.2
end
section
variable {js:List (Option Nat)} {g:TG} {tt:TT} {te:TE} {σ:St} {H:Hp} {Q:VK}
def a4t (J:It) (js:List (Option Nat)) (g:TG) (tt:TT) (te:TE) (σ:St) (H:Hp) (Q:VK):Prop:=
 ∀D,H D=none→∃W:Nat→Nat→St→Hp→List V→Prop,(∃m,W 0 m (a2c js σ) (upd H D (.lst [])) [])∧
 ∀i m σ' H' ys,W i m σ' H' ys→H' D=some (.lst ys)∧((J.stop i H'∧Q (.ref D) H')∨(J.go i H'∧ys.length < sizeLine∧∀x H2,J.yld i H' x H2→g x σ' H2 fun σ2 H3=>tt σ2 H3 fun b H4=>
  if b=true then te σ2 H4 fun v H5=>H5 D=some (.lst ys)∧∃m',m' < m∧W (i+1) m' σ2 (upd H5 D (.lst (ys++[v]))) (ys++[v]) else ∃m',m' < m∧W (i+1) m' σ2 H4 ys))
structure Src (J:It) (n:Nat) (f:Nat→V) (Ok:Hp→Prop):Prop where
 go:∀i H,i < n→Ok H→J.go i H
 yld:∀i H x H',i < n→Ok H→J.yld i H x H'→H'=H∧x=f i
 stop:∀H,Ok H→J.stop n H
theorem a3N {K:Qc} {a:Addr} {xs:List V}:Src (Itl K a) xs.length (fun i=>(xs[i]?).getD .non) (fun H=>SqL K H a xs):=
 ⟨fun i H hi h=>⟨xs,xs[i],h,by simp [hi]⟩,fun i H x H' hi h y=>⟨y.1,by rw [y.2 xs h];rfl⟩,fun H h=>⟨xs,h,Qk _⟩⟩
theorem a7X {K:Qc} {a:Addr} {xs:List V}:Src (Itt K a) xs.length (fun i=>(xs[i]?).getD .non) (fun H=>SqT K H a xs):=
 ⟨fun i H hi h=>⟨xs,xs[i],h,by simp [hi]⟩,fun i H x H' hi h y=>⟨y.1,by rw [y.2 xs h];rfl⟩,fun H h=>⟨xs,h,Qk _⟩⟩
theorem a4r {lo:Int} {n:Nat}:Src (Itr lo n) n (fun i=>.int (lo+i)) (fun _=>True):=
 ⟨fun i H hi _=>hi,fun i H x H' hi _ y=>y,fun H _=>Qk _⟩
theorem a5k {J:It} {n:Nat} {f:Nat→V} {Ok:Hp→Prop} (S:Src J n f Ok) (hn:n≤sizeLine) (Pv:Addr→Nat→St→Hp→List V→Prop) (h0:∀D,H D=none→Pv D 0 (a2c js σ) (upd H D (.lst [])) [])
  (hk:∀D i σ' H' ys,H D=none→i≤n→Pv D i σ' H' ys→Ok H'∧H' D=some (.lst ys)∧ys.length≤i)
  (hs:∀D i σ' H' ys (R:St→Hp→List V→Prop),H D=none→i < n→Pv D i σ' H' ys→(∀a b c,Pv D (i+1) a b c→R a b c)→g (f i) σ' H' fun σ2 H3=>tt σ2 H3 fun b H4=>
   if b=true then te σ2 H4 fun v H5=>H5 D=some (.lst ys)∧R σ2 (upd H5 D (.lst (ys++[v]))) (ys++[v]) else R σ2 H4 ys)
  (hd:∀D σ' H' ys,H D=none→Pv D n σ' H' ys→Q (.ref D) H'):a4t J js g tt te σ H Q:=by
 intro D hD
 refine ⟨fun i m σ' H' ys=>m=n - i∧i≤n∧Pv D i σ' H' ys,⟨n,by simp,Xi _,h0 D hD⟩,?_⟩
 rintro i m σ' H' ys ⟨rfl,hi,p⟩
 obtain ⟨q1,q2,q3⟩:=hk D i σ' H' ys hD hi p
 refine ⟨q2,?_⟩
 by_cases hlt:i < n
 ·refine .inr ⟨S.go i H' hlt q1,by omega,fun x H2 y=>?_⟩
  obtain ⟨rfl,rfl⟩:=S.yld i H' x H2 hlt q1 y
  exact hs D i σ' _ ys (fun σ2 H3 ys'=>∃m',m' < n - i∧(m'=n - (i+1)∧i+1≤n∧Pv D (i+1) σ2 H3 ys')) hD hlt p fun a b c r=>⟨n - (i+1),by omega,rfl,hlt,r⟩
 ·have e:i=n:=by omega
  subst e
  exact .inl ⟨S.stop H' q1,hd D σ' H' ys hD p⟩
end
section
variable {X:Cx}
def c1a:V→Option Value
 | .ty n=>some (.type n)
 | .ref a=>some (.ref a)
 | _=>none
theorem b0r {c:V} {u v:Value} (h:c1a c=some u) (r:a0Q c v):v=u:=by
 cases c with
 | ty n=>cases h;exact r
 | ref a=>cases h;exact r
 | _=>cases h
def b8y (K:Qc):List V→Hp→VK→Prop:=fun xs H Q=>∃x c u t b,xs=[x,c]∧c1a c=some u∧a6W K H x t∧Yd K t u=some b∧Q (.bl b) H
theorem a5r:a1q X (.builtin "isinstance") (b8y X.K):=by
 intro pins s σ H xs us Q I r h
 obtain ⟨x,c,u,t,b,rfl,hu,ty,e,q⟩:=h
 obtain ⟨v,u',rfl,rv,ru'⟩:=b8i r
 cases b0r hu ru'
 exact a8V I rv ty e fun tk=>⟨.bl b,H,I.tok _,rfl,q⟩
theorem a5Q {bs:List Bool} {its:List Value} (r:a0G (bs.map V.bl) its) {i:Nat} {v:Value} (h:its[i]?=some v):∃b,bs[i]?=some b∧v=.bool b:=by
 have hi:i < its.length:=(Qy.mp h).1
 have hl:=r.length
 rw [Qd] at hl
 have hb:bs[i]?=some bs[i]:=Qe ‹om›
 obtain ⟨u,hu,ru⟩:=r.get (i:=i) (x:=V.bl bs[i]) (by rw [Qz,hb];rfl)
 rw [h] at hu;cases hu
 exact ⟨_,hb,ru⟩
theorem a1o (hc:X.calm=true):a1q X (.builtin "all") (fun xs H Q=>∃(p:Addr) (bs:List Bool),xs=[.ref p]∧SqL X.K H p (bs.map V.bl)∧Q (.bl (bs.all id)) H):=by
 intro pins s σ H xs us Q I r h
 obtain ⟨p,bs,rfl,hq,q⟩:=h
 obtain ⟨u,rfl,ru⟩:=a2d r
 cases ru
 obtain ⟨its,rv,pl,hz⟩:=I.list hq
 have hl:=pl.isList
 have hlt:p < s.heap.objs.size:=by obtain ⟨_,e,_⟩:=hl;exact Qo e
 refine call_all_walk (wpAny_pyIter_list hl ?_)
 refine ⟨s.heap.objs.size,[s.heap.objs.size,p],[s.heap.objs.size],its.toArray.size,_,_,fun i=>(bs[i]?).getD true,rfl,Walks.list (A:=X.A.in1) (I.ok.hd hc) _ p (Qt hlt) its.toArray,
  ⟨⟨_,Xf _ rfl,rfl,rfl⟩,hl.push _⟩,fun i v s' Q' E' hP hQ=>?_,fun h' tk hk=>?_⟩
 ·obtain ⟨b,e,rfl⟩:=a5Q rv (i:=i) (v:=v) (by simpa using hP)
  simp only [e,Yu] at hQ
  exact wpAny_truthy_bool hQ
 ·have e:((Yi its.toArray.size).all fun i=>(bs[i]?).getD true)=bs.all id:=by
   have hb:=rv.length
   rw [Qd] at hb
   rw [Ql,←hb];exact LSm.range_all bs
  rw [e]
  exact ⟨.bl (bs.all id),H,I.kept (t':=tk) (LSm.kept_iter hk),rfl,q⟩
theorem a1n (hc:X.calm=true):a1q X (.builtin "any") (fun xs H Q=>∃(p:Addr) (bs:List Bool),xs=[.ref p]∧SqL X.K H p (bs.map V.bl)∧Q (.bl (bs.any id)) H):=by
 intro pins s σ H xs us Q I r h
 obtain ⟨p,bs,rfl,hq,q⟩:=h
 obtain ⟨u,rfl,ru⟩:=a2d r
 cases ru
 obtain ⟨its,rv,pl,hz⟩:=I.list hq
 have hl:=pl.isList
 have hlt:p < s.heap.objs.size:=by obtain ⟨_,e,_⟩:=hl;exact Qo e
 refine call_any_walk (wpAny_pyIter_list hl ?_)
 refine ⟨s.heap.objs.size,[s.heap.objs.size,p],[s.heap.objs.size],its.toArray.size,_,_,fun i=>(bs[i]?).getD false,rfl,Walks.list (A:=X.A.in1) (I.ok.hd hc) _ p (Qt hlt) its.toArray,
  ⟨⟨_,Xf _ rfl,rfl,rfl⟩,hl.push _⟩,fun i v s' Q' E' hP hQ=>?_,fun h' tk hk=>?_⟩
 ·obtain ⟨b,e,rfl⟩:=a5Q rv (i:=i) (v:=v) (by simpa using hP)
  simp only [e,Yu] at hQ
  exact wpAny_truthy_bool hQ
 ·have e:((Yi its.toArray.size).any fun i=>(bs[i]?).getD false)=bs.any id:=by
   have hb:=rv.length
   rw [Qd] at hb
   rw [Ql,←hb];exact LSm.range_any bs
  rw [e]
  exact ⟨.bl (bs.any id),H,I.kept (t':=tk) (LSm.kept_iter hk),rfl,q⟩
def c1P:V→Option Int→Option Int→Hp→VK→Prop:=fun x lo hi H Q=>∃z,x=.str z∧z.length≤sizeLine∧Q (.str (Uj z lo hi)) H
theorem b3X:SlR X c1P:=by
 intro pins s σ H x v vl vu lo hi sl Q I rx hs pl pu h
 obtain ⟨z,rfl,hz,q⟩:=h
 obtain ⟨t,rfl⟩:=rx
 obtain ⟨o,ho,hc,hd⟩:=hs
 refine ⟨"str",_,PySem.F.slot_str_getitem.lookup,typeIs_str _ _ _,?_⟩
 have fin:∀(l u:Option Int) (t':Tok) (k:Nat),Q (.str (Uj z l u)) H→EP X pins σ Q (.str (Uj z l u) t') {s with toks:=k}:=fun l u t' k q=>⟨.str _,H,I.tok _,⟨_,rfl⟩,q⟩
 cases pl with
 | none=>
  cases pu with
  | none=>exact wpAny_getItem_str_slice (l:=none) (u:=none) (st:=none) ⟨o,ho,hc,hd⟩ rfl (post_val_or_str ⟨Qi (Uy z _ _) hz,fun t' k=>fin _ _ t' k q⟩)
  | int j uj=>exact wpAny_getItem_str_slice (l:=none) (u:=some (j,uj)) (st:=none) ⟨o,ho,hc,hd⟩ rfl (post_val_or_str ⟨Qi (Uy z _ _) hz,fun t' k=>fin _ _ t' k q⟩)
 | int i ui=>
  cases pu with
  | none=>exact wpAny_getItem_str_slice (l:=some (i,ui)) (u:=none) (st:=none) ⟨o,ho,hc,hd⟩ rfl (post_val_or_str ⟨Qi (Uy z _ _) hz,fun t' k=>fin _ _ t' k q⟩)
  | int j uj=>exact wpAny_getItem_str_slice (l:=some (i,ui)) (u:=some (j,uj)) (st:=none) ⟨o,ho,hc,hd⟩ rfl (post_val_or_str ⟨Qi (Uy z _ _) hz,fun t' k=>fin _ _ t' k q⟩)
theorem a3K:MtR X "str.startswith" (fun x xs H Q=>∃a b,x=.str a∧xs=[.str b]∧Q (.bl (Jc a b)) H):=by
 intro pins s σ H x xs v us Q I rx rs h
 obtain ⟨a,b,rfl,rfl,q⟩:=h
 obtain ⟨t,rfl⟩:=rx
 obtain ⟨u,rfl,t',rfl⟩:=a2d rs
 exact SC.startswith ⟨.bl _,H,I,rfl,q⟩
end
theorem a0v:bootBuiltins "len"=some (.builtin "len"):=by decide+kernel
theorem a2G:bootBuiltins "isinstance"=some (.builtin "isinstance"):=by decide+kernel
theorem a2m:bootBuiltins "all"=some (.builtin "all"):=by decide+kernel
theorem a2o:bootBuiltins "any"=some (.builtin "any"):=by decide+kernel
theorem a9t:bootBuiltins "str"=some (.type "str"):=by decide+kernel
theorem a6t:bootBuiltins "bool"=some (.type "bool"):=by decide+kernel
theorem a4h:bootBuiltins "int"=some (.type "int"):=by decide+kernel
theorem a0w:bootBuiltins "list"=some (.type "list"):=by decide+kernel
theorem a3h:bootBuiltins "tuple"=some (.type "tuple"):=by decide+kernel
section
variable {X:Cx}
def b7S:R2:=fun x y H Q=>∃i j,x=.str i∧y=.str j∧i.length+j.length≤sizeLine∧Q (.str (i++j)) H
def b8g:R2:=rI0 fun i j=>.int (i+j)
def a5p (K:Qc):R2:=fun x y H Q=>b8g x y H Q∨b7S x y H Q∨b9L x y H Q∨b5d K x y H Q
theorem a0f:OpR X (binaryOp .Add) (a5p X.K):=b4Y.or (a6O.or (b6E.or b3o))
theorem a0E {K:Qc} {i j:Int} {H:Hp} {Q:VK}:a5p K (.int i) (.int j) H Q↔Q (.int (i+j)) H:=by
 constructor
 ·rintro (⟨a,b,e1,e2,q⟩ | ⟨a,b,e1,_⟩ | ⟨a,b,_,_,e1,_⟩ | ⟨a,b,_,_,e1,_⟩)
  ·cases e1;cases e2;exact q
  ·cases e1
  ·cases e1
  ·cases e1
 ·exact fun q=>.inl ⟨i,j,rfl,rfl,q⟩
theorem a1H {K:Qc} {i j:Str} {H:Hp} {Q:VK}:a5p K (.str i) (.str j) H Q↔(i.length+j.length≤sizeLine∧Q (.str (i++j)) H):=by
 constructor
 ·rintro (⟨a,b,e1,_⟩ | ⟨a,b,e1,e2,q⟩ | ⟨a,b,_,_,e1,_⟩ | ⟨a,b,_,_,e1,_⟩)
  ·cases e1
  ·cases e1;cases e2;exact q
  ·cases e1
  ·cases e1
 ·exact fun q=>.inr (.inl ⟨i,j,rfl,rfl,q⟩)
theorem a8b {i j:Int} {H:Hp} {Q:VK}:rEq (.int i) (.int j) H Q↔Q (.bl (decide (i=j))) H:=by
 unfold rEq
 have e:decide (V.int i=V.int j)=decide (i=j):=by
  by_cases h:i=j
  ·subst h;simp
  ·simp [h]
 rw [e]
 exact ⟨fun h=>h.2,fun h=>⟨rfl,h⟩⟩
theorem a7n {i j:Str} {H:Hp} {Q:VK}:rEq (.str i) (.str j) H Q↔Q (.bl (decide (i=j))) H:=by
 unfold rEq
 have e:decide (V.str i=V.str j)=decide (i=j):=by
  by_cases h:i=j
  ·subst h;simp
  ·simp [h]
 rw [e]
 exact ⟨fun h=>h.2,fun h=>⟨rfl,h⟩⟩
def inS (c s:Str):Bool:=!(Builtin.Str.occurrences s c 0 s.length 1).isEmpty
def c0L:R2:=fun x y H Q=>∃i j,x=.str i∧y=.str j∧Q (.bl (inS i j)) H
def a8o:R2:=fun x y H Q=>∃i j,x=.str i∧y=.str j∧Q (.bl (!inS i j)) H
def b3I (K:Qc):R2:=fun x y H Q=>c0L x y H Q∨rIn K false x y H Q
def a8Z (K:Qc):R2:=fun x y H Q=>a8o x y H Q∨rIn K true x y H Q
theorem b5y:OpR X (compareOp .In) c0L:=a7t
theorem a7G:OpR X (compareOp .NotIn) a8o:=a4y
theorem a1D:OpR X (compareOp .In) (b3I X.K):=b5y.or a7y
theorem a4B:OpR X (compareOp .NotIn) (a8Z X.K):=a7G.or a4R
def b5g (K:Qc):List V→Hp→VK→Prop:=fun xs H Q=>(∃x n,xs=[x]∧b8z K x H n∧Q (.int n) H)∨∃a kvs,xs=[V.ref a]∧H a=some (.dK kvs)∧Q (.int kvs.length) H
theorem a0s:a1q X (.builtin "len") (b5g X.K):=b0N.or a8W
theorem a0u {K:Qc} {a:Addr} {xs:List V} {H:Hp} {Q:VK} (h:SqL K H a xs) (q:Q (.int xs.length) H):b5g K [.ref a] H Q:=.inl ⟨.ref a,xs.length,rfl,.inl ⟨xs,h,rfl⟩,q⟩
def b7E (K:Qc):V→Option Int→Option Int→Hp→VK→Prop:=fun x lo hi H Q=>c1P x lo hi H Q∨c0P K x lo hi H Q∨c1d K x lo hi H Q
theorem a0D:SlR X (b7E X.K):=b3X.or (b2Q.or b5U)
theorem a5D {K:Qc} {z:Str} {lo hi:Option Int} {H:Hp} {Q:VK}:b7E K (.str z) lo hi H Q↔(z.length≤sizeLine∧Q (.str (Uj z lo hi)) H):=by
 constructor
 ·rintro (⟨x,e1,q⟩ | ⟨a,xs,e1,_⟩ | ⟨a,xs,e1,_⟩)
  ·cases e1;exact q
  ·cases e1
  ·cases e1
 ·exact fun q=>.inl ⟨z,rfl,q⟩
theorem a5m {K:Qc} {z:Str} {i:Int} {H:Hp} {Q:VK}:rIx K (.str z) (.int i) H Q↔(z.length≤sizeLine∧∃c,atI z.cps.toList i=some c∧Q (.str ⟨#[c]⟩) H):=by
 constructor
 ·rintro (⟨p,xs,j,v,e1,_⟩ | ⟨p,xs,j,v,e1,_⟩ | ⟨y,j,c,e1,e2,h1,h2,q⟩)
  ·cases e1
  ·cases e1
  ·cases e1;cases e2;exact ⟨h1,c,h2,q⟩
 ·rintro ⟨h1,c,h2,q⟩
  exact .inr (.inr ⟨z,i,c,rfl,rfl,h1,h2,q⟩)
theorem a0m {K:Qc} {a:Addr} {xs:List V} {i:Int} {v:V} {H:Hp} {Q:VK} (h:SqL K H a xs) (e:atI xs i=some v) (q:Q v H):rIx K (.ref a) (.int i) H Q:=.inl ⟨a,xs,i,v,rfl,rfl,h,e,q⟩
theorem a1d {K:Qc} {a:Addr} {xs:List V} {i:Int} {v:V} {H:Hp} {Q:VK} (h:SqT K H a xs) (e:atI xs i=some v) (q:Q v H):rIx K (.ref a) (.int i) H Q:=.inr (.inl ⟨a,xs,i,v,rfl,rfl,h,e,q⟩)
theorem a0U {C:Int→Int→Prop} {g:Int→Int→V} {i j:Int} {H:Hp} {Q:VK}:rI C g (.int i) (.int j) H Q↔(C i j∧Q (g i j) H):=by
 constructor
 ·rintro ⟨a,b,e1,e2,q⟩;cases e1;cases e2;exact q
 ·exact fun q=>⟨i,j,rfl,rfl,q⟩
theorem b0Z {g:Int→V} {i:Int} {H:Hp} {Q:VK}:rU g (.int i) H Q↔Q (g i) H:=by
 constructor
 ·rintro ⟨a,e1,q⟩;cases e1;exact q
 ·exact fun q=>⟨i,rfl,q⟩
theorem a1v {k:Bool} {P:Bool→Prop}:(∃c,V.bl k=V.bl c∧P c)↔P k:=by
 constructor
 ·rintro ⟨c,e,q⟩;cases e;exact q
 ·exact fun q=>⟨k,rfl,q⟩
theorem a2l {k:Int} {P:Int→Prop}:(∃c,V.int k=V.int c∧P c)↔P k:=by
 constructor
 ·rintro ⟨c,e,q⟩;cases e;exact q
 ·exact fun q=>⟨k,rfl,q⟩
theorem a0b {v:V} {P:V→Prop}:(∃x,some (some v)=some (some x)∧P x)↔P v:=by
 constructor
 ·rintro ⟨c,e,q⟩;cases e;exact q
 ·exact fun q=>⟨v,rfl,q⟩
end
theorem a0h.upd {H:Hp} {a:Addr} {o:HO} (h:H a=none):a0h H (upd H a o):=fun b u e=>by rw [a0d (a0c e h)];exact e
section
variable {X:Cx} {st:Stmt} {a3n:List Stmt} {t u:TS}
def c2p (t u:TS):TS:=fun D σ H=>∃M:St→Hp→Prop,t {D with nx:=M} σ H∧∀σ' H',M σ' H'→u D σ' H'
theorem b2k (h1:PS X st t) (h2:PSs X a3n u):PSs X (st::a3n) (c2p t u):=by
 intro pins s σ H D I h
 obtain ⟨M,q1,q2⟩:=h
 refine wpAny_execs_cons (thn (h1 pins s σ H {D with nx:=M} I q1) fun f s1 q=>?_)
 cases f with
 | next=>
  obtain ⟨σ',H',I',q⟩:=q
  exact h2 pins s1 σ' H' D I' (q2 σ' H' q)
 | ret v=>exact q
 | brk=>exact q
 | cont=>exact q
end
theorem a2i {K:Qc}:Yd K (.type "bool") (.type "bool")=some true:=by kernel_rfl
theorem a1t {k:Addr} {P:Addr→Prop}:(∃c,V.ref k=V.ref c∧P c)↔P k:=by
 constructor
 ·rintro ⟨c,e,q⟩;cases e;exact q
 ·exact fun q=>⟨k,rfl,q⟩
theorem a7p {i j:Str} {H:Hp} {Q:VK}:rNe (.str i) (.str j) H Q↔Q (.bl (!decide (i=j))) H:=by
 unfold rNe
 have e:decide (V.str i=V.str j)=decide (i=j):=by
  by_cases h:i=j
  ·subst h;simp
  ·simp [h]
 rw [e]
 exact ⟨fun h=>h.2,fun h=>⟨rfl,h⟩⟩
theorem a2p {α:Type} {xs:List α} {i:Int} (h0:0≤i) (h1:i < xs.length):∃v,atI xs i=some v∧v∈xs∧xs[i.toNat]?=some v:=by
 have hk:i.toNat < xs.length:=by omega
 refine ⟨xs[i.toNat],?_,Qx hk,Qe hk⟩
 unfold atI ixN
 rw [if_pos h0,if_pos h1]
 exact Qe hk
theorem a1l {i j:Int} (h:0 < j):0≤i % j∧i % j < j:=⟨Int.emod_nonneg _ ‹om›,Int.emod_lt_of_pos _ h⟩
theorem a3A {A B:Prop}:(if false=true then A else B)=B:=if_neg Qn
theorem b6u {A B:Prop}:(if true=false then A else B)=B:=if_neg ‹dc›
theorem a0F {H:Hp} {p:Addr} (hp:H p=none) (o:HO):∃H',upd H p o=H'∧a0h H H'∧H' p=some o:=⟨_,rfl,a0h.upd hp,a0g⟩
def c2P (J:It) (g:TG) (tb:TS) (D:a8D) (σ:St) (H:Hp):Prop:=∃W:Nat→Nat→St→Hp→Prop,(∃m,W 0 m σ H)∧∀i m σ H,W i m σ H→
 (J.stop i H∧D.nx σ H)∨(J.go i H∧∃N:St→Hp→Prop,(∀σ' H',N σ' H'→∃m',m' < m∧W (i+1) m' σ' H')∧∀x H',J.yld i H x H'→g x σ H' fun σ2 H2=>tb {D with nx:=N,ct:=N,bk:=D.nx} σ2 H2)
theorem a0K {wi:TI} {g:TG} {tb:TS} {D:a8D} {σ:St} {H:Hp}:c0V wi g tb D σ H=wi σ H fun J H1=>c2P J g tb D σ H1:=rfl
theorem a0x {js:List (Option Nat)} {wi:TI} {g:TG} {tt:TT} {te:TE} {σ:St} {H:Hp} {Q:VK}:b2P js wi g tt te σ H Q=wi σ H fun J H1=>a4t J js g tt te σ H1 Q:=rfl
theorem a6k {J:It} {n:Nat} {f:Nat→V} {Ok:Hp→Prop} {js:List (Option Nat)} {te:TE} {σ:St} {H:Hp} {Q:VK} (S:Src J n f Ok) (hn:n≤sizeLine) (σr:St) (hσ:a2c js σ=none::σr) (Pr:Nat→V→Prop)
  (hOk:∀H',a0h H H'→Ok H') (hs:∀i H' (R:V→Hp→Prop),i < n→a0h H H'→(∀v H'',a0h H' H''→Pr i v→R v H'')→te (some (f i)::σr) H' R)
  (hd:∀D H' ys,H D=none→a0h H H'→H' D=some (.lst ys)→ys.length=n→(∀i v,ys[i]?=some v→Pr i v)→Q (.ref D) H'):a4t J js (a0y 0) b4e te σ H Q:=by
 refine a5k S hn (fun D i σ' H' ys=>(∃a,σ'=a::σr)∧a0h H H'∧H' D=some (.lst ys)∧ys.length=i∧∀j v,ys[j]?=some v→Pr j v) ?_ ?_ ?_ ?_
 ·intro D hD
  exact ⟨⟨none,hσ⟩,a0h.upd hD,a0g,rfl,fun j v e=>by simp at e⟩
 ·rintro D i σ' H' ys hD hi ⟨_,s,h,hl,_⟩
  exact ⟨hOk _ s,h,Ut hl⟩
 ·rintro D i σ' H' ys R hD hi ⟨⟨a,rfl⟩,s,h,hl,hp⟩ hR
  show te (some (f i)::σr) H' _
  refine hs i H' _ hi s fun v H'' s2 pv=>⟨s2 _ _ h,hR _ _ _ ⟨⟨_,rfl⟩,?_,a0g,by simp [hl],fun j v' e=>?_⟩⟩
  ·intro b o e
   rw [a0d (a0c e hD)]
   exact s2 b o (s b o e)
  ·rw [Vv] at e
   split at e
   ·exact hp j v' e
   ·rename_i hj
    have e1:j=ys.length:=by
     have:=(Qy.mp e).1
     simp at this;omega
    subst e1
    simp at e
    subst e
    rw [hl];exact pv
 ·rintro D σ' H' ys hD ⟨_,s,h,hl,hp⟩
  exact hd D H' ys hD s h hl hp
section
variable {K:Qc} {H:Hp} {Q:VK}
theorem a4N {z:Bool}:b8y K [.bl z,.ty "bool"] H Q↔Q (.bl true) H:=by
 constructor
 ·rintro ⟨x,c,u,t,b,e1,hu,ty,e,q⟩
  cases e1;cases hu;cases ty
  rw [a2i] at e;cases e;exact q
 ·exact fun q=>⟨_,_,_,_,_,rfl,rfl,.bl z,a2i,q⟩
end
section
variable {K:Qc} {H:Hp} {Q:VK}
def a9s:V→List V→Hp→VK→Prop:=fun x xs H Q=>∃a b,x=.str a∧xs=[.str b]∧Q (.bl (Jc a b)) H
def b3M (K:Qc):V→List V→Hp→VK→Prop:=fun x xs H Q=>∃z p ys,x=.str z∧xs=[.ref p]∧(SqL K H p (ys.map V.str)∨SqT K H p (ys.map V.str))∧(ys.map (·.length)).sum+ys.length * z.length≤16777216∧Q (.str (Txt.join z ys)) H
theorem a6T {a b:Str}:a9s (.str a) [.str b] H Q↔Q (.bl (Jc a b)) H:=⟨by rintro ⟨_,_,e1,e2,q⟩;cases e1;cases e2;exact q,fun q=>⟨_,_,rfl,rfl,q⟩⟩
theorem a5R {z:Str} {p:Addr} {ys:List Str} (h:SqL K H p (ys.map V.str)∨SqT K H p (ys.map V.str)) (hl:(ys.map (·.length)).sum+ys.length * z.length≤16777216) (q:Q (.str (Txt.join z ys)) H):b3M K (.str z) [.ref p] H Q:=⟨z,p,ys,rfl,rfl,h,hl,q⟩
theorem a7k {z:Str} {P:Prop}:(tyV K "str" (.str z) H∧P)↔P:=⟨fun h=>h.2,fun h=>⟨rfl,h⟩⟩
def b4X:List V→Hp→VK→Prop:=fun xs H Q=>(∃i,xs=[.int i]∧Q (.int i) H)∨∃k,xs=[.bl k]∧Q (.int (if k then 1 else 0)) H
theorem a5y {k:Bool}:b4X [.bl k] H Q↔Q (.int (if k then 1 else 0)) H:=⟨by
 rintro (⟨_,e,q⟩ | ⟨_,e,q⟩)
 ·cases e
 ·cases e;exact q,fun q=>.inr ⟨_,rfl,q⟩⟩
def b4a (K:Qc):List V→Hp→VK→Prop:=fun xs H Q=>∃p ys,xs=[.ref p]∧((SqL K H p ys∧∀l,H l=none→Q (.ref l) (upd H l (.tup ys)))∨SqT K H p ys∧Q (.ref p) H)
def a4Y (K:Qc):List V→Hp→VK→Prop:=fun xs H Q=>∃p ys,xs=[.ref p]∧(SqL K H p ys∨SqT K H p ys)∧∀l,H l=none→Q (.ref l) (upd H l (.lst ys))
end
mutual
inductive Den (K:Qc) (H:Hp):V→PyData→Prop
 | non:Den K H .non .none
 | bl (b:Bool):Den K H (.bl b) (.bool b)
 | int (i:Int):Den K H (.int i) (.int i)
 | str (x:Str):Den K H (.str x) (.str x)
 | lst {a:Addr} {xs:List V} {ds:List PyData}:SqL K H a xs→DenAll K H xs ds→Den K H (.ref a) (.list ds)
 | tup {a:Addr} {xs:List V} {ds:List PyData}:SqT K H a xs→DenAll K H xs ds→Den K H (.ref a) (.tuple ds)
inductive DenAll (K:Qc) (H:Hp):List V→List PyData→Prop
 | nil:DenAll K H [] []
 | cons {x:V} {xs:List V} {d:PyData} {ds:List PyData}:Den K H x d→DenAll K H xs ds→DenAll K H (x::xs) (d::ds)
end
theorem a2M {K:Qc} {H:Hp}:∀ys:List Str,DenAll K H (ys.map V.str) (ys.map Yj)
 | []=>.nil
 | y::ys=>.cons (.str y) (a2M ys)
def b8D (K:Qc):R2:=fun x y H Q=>∃d e,Den K H x d∧Den K H y e∧Zp d=true∧Zp e=true∧Q (.bl (Xs d e)) H
def c1F (K:Qc):R2:=fun x y H Q=>∃d e,Den K H x d∧Den K H y e∧Zp d=true∧Zp e=true∧Q (.bl (!PyData.eqv d e)) H
def b6x (K:Qc):R2:=fun x y H Q=>rEq x y H Q∨b8D K x y H Q
def b4y (K:Qc):R2:=fun x y H Q=>rNe x y H Q∨c1F K x y H Q
section
variable {K:Qc} {H:Hp} {Q:VK}
theorem a0W {i j:Str}:b6x K (.str i) (.str j) H Q↔Q (.bl (decide (i=j))) H:=by
 constructor
 ·rintro (h | ⟨d,e,h1,h2,_,_,q⟩)
  ·exact a7n.mp h
  ·cases h1;cases h2
   rw [show decide (i=j)=Xs (.str i) (.str j) from by simp only [Xs];by_cases z:i=j<;>simp [z]];exact q
 ·exact fun q=>.inl (a7n.mpr q)
theorem a1h {i j:Int}:b6x K (.int i) (.int j) H Q↔Q (.bl (decide (i=j))) H:=by
 constructor
 ·rintro (h | ⟨d,e,h1,h2,_,_,q⟩)
  ·exact a8b.mp h
  ·cases h1;cases h2
   rw [show decide (i=j)=Xs (.int i) (.int j) from by simp only [Xs];by_cases z:i=j<;>simp [z]];exact q
 ·exact fun q=>.inl (a8b.mpr q)
theorem a3L {i j:Str}:b4y K (.str i) (.str j) H Q↔Q (.bl (!decide (i=j))) H:=by
 constructor
 ·rintro (h | ⟨d,e,h1,h2,_,_,q⟩)
  ·exact a7p.mp h
  ·cases h1;cases h2
   rw [show decide (i=j)=Xs (.str i) (.str j) from by simp only [Xs];by_cases z:i=j<;>simp [z]];exact q
 ·exact fun q=>.inl (a7p.mpr q)
end
section
variable {X:Cx}
theorem a8S:MtR X "str.startswith" a9s:=a3K
theorem a3S:∀{ys:List Str} {us:List Value},a0G (ys.map V.str) us→StrsAre us ys
 | [],_,r=>by rw [Ux] at r;cases r;exact .nil
 | y::ys,_,r=>by
  rw [Xp] at r
  cases r with
  | cons h t=>obtain ⟨tk,rfl⟩:=h;exact .cons y tk (a3S t)
theorem a8G:MtR X "str.join" (b3M X.K):=by
 intro pins s σ H x xs v us Q I rx rs h
 obtain ⟨z,p,ys,rfl,rfl,hq,hl,q⟩:=h
 obtain ⟨t,rfl⟩:=rx
 obtain ⟨u,rfl,ru⟩:=a2d rs
 cases ru
 rcases hq with hq | hq
 ·obtain ⟨its,r,pl,_⟩:=I.list hq
  exact join_list pl.isList (by simpa using a3S r) hl fun t' k=>⟨.str _,H,I.tok _,⟨_,rfl⟩,q⟩
 ·obtain ⟨its,r,pl,_⟩:=I.tuple hq
  exact join_tuple pl (by simpa using a3S r) hl fun t' k=>⟨.str _,H,I.tok _,⟨_,rfl⟩,q⟩
theorem a4e:a1q X (.type "int") b4X:=a9r
theorem a3u:a1q X (.type "tuple") (b4a X.K):=by
 intro pins s σ H xs us Q I r h
 obtain ⟨p,ys,e,h⟩:=h
 exact a3V pins s σ H xs us Q I r ⟨p,ys,e,h⟩
theorem a0t:a1q X (.type "list") (a4Y X.K):=a4n
mutual
theorem Den.reads {pins:List (Addr×Obj)} {σ:St} {H:Hp} {s:Shared} (I:Inv X pins σ H s):∀{x:V} {d:PyData} {u:Value},Den X.K H x d→a0Q x u→∃as,Reads s.heap u d as
 | _,_,_,.non,r=>by cases r;exact ⟨_,.none⟩
 | _,_,_,.bl b,r=>by cases r;exact ⟨_,.bool b⟩
 | _,_,_,.int i,r=>by obtain ⟨t,rfl⟩:=r;exact ⟨_,.int i t⟩
 | _,_,_,.str x,r=>by obtain ⟨t,rfl⟩:=r;exact ⟨_,.str x t⟩
 | _,_,_,.lst h hs,r=>by
  cases r
  obtain ⟨its,rv,pl,_⟩:=I.list h
  obtain ⟨o,ho,hc,n,hd⟩:=pl.isList
  obtain ⟨as,ra⟩:=DenAll.reads I hs rv
  exact ⟨_,.list ho hc hd (by simpa using ra)⟩
 | _,_,_,.tup h hs,r=>by
  cases r
  obtain ⟨its,rv,pl,_⟩:=I.tuple h
  obtain ⟨o,ho,hc,n,hd⟩:=pl
  obtain ⟨as,ra⟩:=DenAll.reads I hs rv
  exact ⟨_,.tuple ho hc hd (by simpa using ra)⟩
theorem DenAll.reads {pins:List (Addr×Obj)} {σ:St} {H:Hp} {s:Shared} (I:Inv X pins σ H s):∀{xs:List V} {ds:List PyData} {us:List Value},DenAll X.K H xs ds→a0G xs us→∃as,ReadsAll s.heap us ds as
 | _,_,_,.nil,r=>by cases r;exact ⟨_,.nil⟩
 | _,_,_,.cons h hs,r=>by
  cases r with
  | cons r1 r2=>
   obtain ⟨as,ra⟩:=Den.reads I h r1
   obtain ⟨bs,rb⟩:=DenAll.reads I hs r2
   exact ⟨_,.cons ra rb⟩
end
theorem b6i (hu:X.A.units+64 < cLine):OpR X (compareOp .Eq) (b8D X.K):=by
 intro pins s σ H x y v u Q I rx ry h
 obtain ⟨d,e,h1,h2,s1,s2,q⟩:=h
 obtain ⟨as,ra⟩:=h1.reads I rx
 obtain ⟨bs,rb⟩:=h2.reads I ry
 exact eq_dataH ra rb s1 s2 hu ⟨.bl _,H,I,rfl,q⟩
theorem b5v (hu:X.A.units+64 < cLine):OpR X (compareOp .NotEq) (c1F X.K):=by
 intro pins s σ H x y v u Q I rx ry h
 obtain ⟨d,e,h1,h2,s1,s2,q⟩:=h
 obtain ⟨as,ra⟩:=h1.reads I rx
 obtain ⟨bs,rb⟩:=h2.reads I ry
 exact ne_dataH ra rb s1 s2 hu ⟨.bl _,H,I,rfl,q⟩
theorem a0L (hu:X.A.units+64 < cLine):OpR X (compareOp .Eq) (b6x X.K):=b8f.or (b6i hu)
theorem a3w (hu:X.A.units+64 < cLine):OpR X (compareOp .NotEq) (b4y X.K):=b8j.or (b5v hu)
variable {K:Qc}
theorem b2U (h:X.K=K):OpR X (binaryOp .Add) (a5p K):=h ▸ a0f
theorem b1e (h:X.K=K):OpR X (compareOp .In) (b3I K):=h ▸ a1D
theorem a5W (hu:X.A.units+64 < cLine) (h:X.K=K):OpR X (compareOp .Eq) (b6x K):=h ▸ a0L hu
theorem b4E (hu:X.A.units+64 < cLine) (h:X.K=K):OpR X (compareOp .NotEq) (b4y K):=h ▸ a3w hu
theorem a3I (h:X.K=K):IxR X (rIx K):=h ▸ a0j
theorem b3c (h:X.K=K):SlR X (b7E K):=h ▸ a0D
end
end L2
namespace L2
open PySem PySem.Spec PyProof.Rows PySem.W
end L2
namespace L2
open PySem PySem.Spec PyProof.Rows
theorem b3f {J:It} {n:Nat} {f:Nat→V} {Ok:Hp→Prop} {js:List (Option Nat)} {te:TE} {σ:St} {H:Hp} {Q:VK} (S:Src J n f Ok) (hn:n≤sizeLine) (σr:St) (hσ:a2c js σ=none::σr) (Pr:Addr→Nat→V→Hp→Prop)
  (mono:∀D i v (H1 H2:Hp),(∀b o,b≠D→H1 b=some o→H2 b=some o)→Pr D i v H1→Pr D i v H2)
  (hOk:∀H',a0h H H'→Ok H') (hs:∀D i H' (R:V→Hp→Prop),i < n→H D=none→a0h H H'→(∃ys,H' D=some (.lst ys))→(∀v H'',a0h H' H''→Pr D i v H''→R v H'')→te (some (f i)::σr) H' R)
  (hd:∀D H' ys,H D=none→a0h H H'→H' D=some (.lst ys)→ys.length=n→(∀i v,ys[i]?=some v→Pr D i v H')→Q (.ref D) H'):a4t J js (a0y 0) b4e te σ H Q:=by
 refine a5k S hn (fun D i σ' H' ys=>(∃a,σ'=a::σr)∧a0h H H'∧H' D=some (.lst ys)∧ys.length=i∧∀j v,ys[j]?=some v→Pr D j v H') ?_ ?_ ?_ ?_
 ·intro D hD
  exact ⟨⟨none,hσ⟩,a0h.upd hD,a0g,rfl,fun j v e=>by simp at e⟩
 ·rintro D i σ' H' ys hD hi ⟨_,s,h,hl,_⟩
  exact ⟨hOk _ s,h,Ut hl⟩
 ·rintro D i σ' H' ys R hD hi ⟨⟨a,rfl⟩,s,h,hl,hp⟩ hR
  show te (some (f i)::σr) H' _
  refine hs D i H' _ hi hD s ⟨_,h⟩ fun v H'' s2 pv=>⟨s2 _ _ h,hR _ _ _ ⟨⟨_,rfl⟩,?_,a0g,by simp [hl],fun j v' e=>?_⟩⟩
  ·intro b o e
   rw [a0d (a0c e hD)]
   exact s2 b o (s b o e)
  ·have up:∀b o,b≠D→H'' b=some o→upd H'' D (.lst (ys++[v])) b=some o:=fun b o hb e=>by rw [a0d hb];exact e
   rw [Vv] at e
   split at e
   ·exact mono _ _ _ _ _ (fun b o hb e=>up b o hb (s2 b o e)) (hp j v' e)
   ·have e1:j=ys.length:=by
     have:=(Qy.mp e).1
     simp at this;omega
    subst e1
    simp at e
    subst e
    rw [hl];exact mono _ _ _ _ _ up pv
 ·rintro D σ' H' ys hD ⟨_,s,h,hl,hp⟩
  exact hd D H' ys hD s h hl hp
theorem b1b {J:It} {n:Nat} {f:Nat→V} {Ok:Hp→Prop} {js:List (Option Nat)} {tt:TT} {te:TE} {σ:St} {H:Hp} {Q:VK} (S:Src J n f Ok) (hn:n≤sizeLine) (σr:St) (hσ:a2c js σ=none::σr) (keep:Nat→Bool) (val:Nat→V)
  (hOk:∀H',a0h H H'→Ok H') (hs:∀i H' (R:Bool→Hp→Prop),i < n→a0h H H'→(∀H'',a0h H' H''→R (keep i) H'')→tt (some (f i)::σr) H' R)
  (he:∀i H' (R:V→Hp→Prop),i < n→a0h H H'→(∀H'',a0h H' H''→R (val i) H'')→te (some (f i)::σr) H' R)
  (hd:∀D H',H D=none→a0h H H'→H' D=some (.lst (((Yi n).filter keep).map val))→Q (.ref D) H'):a4t J js (a0y 0) tt te σ H Q:=by
 refine a5k S hn (fun D i σ' H' ys=>(∃a,σ'=a::σr)∧a0h H H'∧H' D=some (.lst ys)∧ys=((Yi i).filter keep).map val) ?_ ?_ ?_ ?_
 ·intro D hD
  exact ⟨⟨none,hσ⟩,a0h.upd hD,a0g,rfl⟩
 ·rintro D i σ' H' ys hD hi ⟨_,s,h,rfl⟩
  refine ⟨hOk _ s,h,?_⟩
  rw [Qd]
  exact Qi (Qv _ _) (by simp)
 ·rintro D i σ' H' ys R hD hi ⟨⟨a,rfl⟩,s,h,rfl⟩ hR
  show tt (some (f i)::σr) H' _
  refine hs i H' _ hi s fun H2 s2=>?_
  cases hk:keep i with
  | false=>
   rw [if_neg Qn]
   refine hR _ _ _ ⟨⟨_,rfl⟩,s.trans s2,s2 _ _ h,?_⟩
   rw [List.range_succ,Ji,Zo,hk];simp
  | true=>
   rw [if_pos rfl]
   refine he i H2 _ hi (s.trans s2) fun H3 s3=>⟨s3 _ _ (s2 _ _ h),hR _ _ _ ⟨⟨_,rfl⟩,?_,a0g,?_⟩⟩
   ·intro b o e
    rw [a0d (a0c e hD)]
    exact s3 b o (s2 b o (s b o e))
   ·rw [List.range_succ,Ji,Zo,hk];simp
 ·rintro D σ' H' ys hD ⟨_,s,h,rfl⟩
  exact hd D H' hD s h
structure b6R (K:Qc) (C:Addr) (m:Str) (f:Addr):Prop where
 ga:Uo K (.ref C) "__getattribute__"=some (some (.builtin "type.__getattribute__"))
 rd:PySem.W.readsIn K C (.type "type")=true
 at_:PySem.W.findCls K (.ref C) (.type "type") m=some (.val (.ref f))
 kp:Zn K (.ref f)=true
structure TyI (K:Qc) (C:Addr):Prop where
 ha:Yn K (.ref C) "__class__"=some (some (.builtin "object.__class__"))
 hn:Uo K (.builtin "object.__class__") "__get__"=some (some (.builtin "getset_descriptor.__get__"))
 htk:Wx K (.builtin "object.__class__")=some true
 hm:PySem.W.mroIn K C (.type "object")=some true
theorem b3L {K:Qc} {C D:Addr} {cd:ClassData} {b:Bool} (hc:PySem.W.clsIn K D=some cd) (ht:Vp K (.ref D)=some (.type "type")) (hs:Wa K (.ref C) (.ref D)=some b) (ho:Wa K (.ref C) (.ref C)=some true):
  Yd K (.ref C) (.ref D)=some b:=by
 unfold Yd
 by_cases e:(Value.ref C == Value.ref D)=true
 ·rw [if_pos e]
  have e':C=D:=by
   have:=eq_of_beq e
   injection this
  rw [←e',ho] at hs
  exact hs
 ·rw [if_neg e]
  show (if ((PySem.W.clsIn K D).isSome && Vp K (.ref D) == some (.type "type"))=true then Wa K (.ref C) (.ref D) else none)=_
  rw [hc,ht,if_pos (by simp),hs]
section
variable {X:Cx}
def c2e:R2:=fun x y H Q=>∃i j,x=.str i∧y=.str j∧Q (.bl (decide (i.cps.toList < j.cps.toList))) H
def c1E:R2:=fun x y H Q=>rI0 (fun i j=>.bl (decide (i < j))) x y H Q∨c2e x y H Q
theorem a3g:OpR X (compareOp .Lt) c1E:=b7L.or a8c
theorem a1J {i j:Int} {H:Hp} {Q:VK}:c1E (.int i) (.int j) H Q↔Q (.bl (decide (i < j))) H:=by
 constructor
 ·rintro (⟨a,b,e1,e2,q⟩ | ⟨a,b,e1,_⟩)
  ·cases e1;cases e2;exact q
  ·cases e1
 ·exact fun q=>.inl ⟨i,j,rfl,rfl,q⟩
end
section
variable {X:Cx} {o e:Expr} {es:List Expr} {apos pos:Pos} {m:Str} {C f:Addr} {fd:FuncData} {ps:List Str} {sp:Sp} {CX:CXT} {k:Nat} {E:XK} {dvs:List V} {ds:List Value} {ta:TE} {t:TA}
def b4n (t u:TE):TE:=fun σ H Q=>t σ H Q∨u σ H Q
theorem b7c {t u:TE} (h1:PE X e t) (h2:PE X e u):PE X e (b4n t u):=fun pins s σ H Q I h=>h.elim (h1 pins s σ H Q I) (h2 pins s σ H Q I)
def b1u (C:Addr) (sp:Sp) (dvs:List V) (E:XK) (ta:TE) (t:TA):TE:=fun σ H Q=>ta σ H fun x H1=>x=.ref C∧t σ H1 fun vs H2=>sp (vs++dvs) H2 Q E
theorem a9U {pl:Sem Bool} (he:PE X o ta) (hm:b6R X.K C m f) (F:a0T X.prog X.w X.K X.mg X.base CX k f fd ps sp) (hr:a2t k X.A) (hb:a0p X.K fd ps ds) (hd:a0G dvs ds) (hx:a2y CX X E) (ha:PA X (e::es) t)
  (hst:starEach (e::es) X.env=(false,eval e X.env)::starEach es X.env:=by rfl) (hpl:(backTo pos (starEach es X.env)).any (·.1)=false:=by rfl)
  (ht:eval (.Call (.Attribute o m apos) (e::es) [] pos) X.env=(do
   let ov ←eval o X.env
   standAt apos.atName
   let (f,first) ←holding [ov] (getMethod ov m pl)
   callWith pos f first (backTo pos (starEach (e::es) X.env)) (backToKw pos (keywordEach [] X.env))):=by rfl):
  PE X (.Call (.Attribute o m apos) (e::es) [] pos) (b1u C sp dvs E ta t):=by
 intro pins s σ H Q I h
 refine Js (pl:=pl) (thn (he pins s σ H _ I h) fun u s1 ⟨x,H1,I1,rx,ex,q⟩=>?_) ht
 subst ex
 obtain rfl:u=Value.ref C:=rx
 refine PySem.W.method_cls I1.kIn hm.ga (PySem.W.cls_value I1.kIn hm.rd hm.at_ rfl ?_)
 refine Jg (first:=[]) (h₀:=X.base) I.ok.mod.kin hm.kp (thn (ha pos pins _ σ H1 _ (I1.tok _) q) fun us s2 ⟨vs,H2,I2,r,q2⟩=>⟨I2.kIn,?_⟩) hst hpl
 exact a6h (us:=us) (vs:=vs) F hr hb hd hx I2 r q2
end
theorem a9i {c:TT} {tb:TS} {D:a8D} {σ:St} {H:Hp} (W:Nat→St→Hp→Prop) (m0:Nat) (h0:W m0 σ H)
  (hs:∀m σ H,W m σ H→c σ H fun b H1=>if b=true then ∃N:St→Hp→Prop,(∀σ' H',N σ' H'→∃m',m' < m∧W m' σ' H')∧tb {D with nx:=N,ct:=N,bk:=D.nx} σ H1 else D.nx σ H1):b0Q c tb D σ H:=⟨W,⟨m0,h0⟩,hs⟩
theorem a2w {α β:Type} (d:α) (P:α→Bool) (g:α→β):∀ps:List α,((Yi ps.length).filter fun i=>P ((ps[i]?).getD d)).map (fun i=>g ((ps[i]?).getD d))=(ps.filter P).map g:=by
 intro ps
 have h:(Yi ps.length).map (fun i=>(ps[i]?).getD d)=ps:=by
  refine Jl fun i=>?_
  rw [Qz]
  by_cases hi:i < ps.length
  ·rw [List.getElem?_range hi,Qe hi,Jf,Qe hi];rfl
  ·rw [Yo (by simp;omega),Yo ‹om›];rfl
 conv=>rhs;rw [←h]
 rw [Yq,Yv];rfl
theorem a5j (z:Str) (r:List Str):inV (.str z) (r.map V.str)=decide (z∈r):=by
 unfold inV
 rw [Yl,Xy,decide_eq_true_eq]
 constructor
 ·rintro ⟨v,hv,e⟩
  obtain ⟨l,hl,rfl⟩:=Xa.mp hv
  have e':(l == z)=true:=e
  rw [←eq_of_beq e'];exact hl
 ·intro h
  exact ⟨.str z,Xa.mpr ⟨z,h,rfl⟩,(beq_self_eq_true z:(z == z)=true)⟩
theorem a2R (qs:List Str):(qs.map V.str).all a3R=true:=by
 rw [Ze];intro v hv
 obtain ⟨l,_,rfl⟩:=Xa.mp hv;rfl
theorem a1F {K:Qc} {H:Hp} {Q:VK} {z:Str} {a:Addr} {r:List Str} (h:SqL K H a (r.map V.str)) (q:Q (.bl (decide (z∈r))) H):b3I K (.str z) (.ref a) H Q:=
 .inr ⟨a,_,rfl,.inl h,rfl,a2R _,by rw [if_neg Qn,a5j];exact q⟩
theorem a3F {K:Qc} {H:Hp} {Q:VK} {z:Str} {a:Addr} {r:List Str} (h:SqL K H a (r.map V.str)) (q:Q (.bl (!decide (z∈r))) H):a8Z K (.str z) (.ref a) H Q:=
 .inr ⟨a,_,rfl,.inl h,rfl,a2R _,by rw [if_pos rfl,a5j];exact q⟩
theorem none_of {H H':Hp} (s:a0h H H') {p:Addr} (h:H' p=none):H p=none:=by
 cases e:H p with
 | none=>rfl
 | some o=>rw [s _ _ e] at h;cases h
section
variable {X:Cx}
theorem b2A {K:Qc} {pos:Pos} {es:List Expr} {k:Nat} {t:TGs} {n:Nat} (hK:X.K=K) (hc:X.calm=true) (h:PGs X es t)
  (hn:(assignEach es X.env).length=n:=by rfl) (hst:(assignEach es X.env).findIdx? (·.1)=none:=by rfl):PG X (.Tuple es k pos) (b7A K n t):=hK ▸ b0W hc h hn hst
end
end L2
namespace L2
open PySem PySem.Spec PyProof.Rows PySem.W
def Ite (K:Qc) (a:Addr):It:=
 ⟨fun i H=>∃xs x,SqL K H a xs∧xs[i]?=some x,fun i H x H'=>∃p v,H p=none∧(∀xs,SqL K H a xs→xs[i]?=some v)∧x=.ref p∧H'=upd H p (.tup [.int i,v]),fun i H=>∃xs,SqL K H a xs∧xs.length≤i⟩
def b5T (K:Qc) (ta:TA):TI:=fun σ H R=>ta σ H fun vs H1=>∃a,vs=[.ref a]∧(∃xs,SqL K H1 a xs)∧R (Ite K a) H1
theorem b7k {K:Qc} {a:Addr} {xs:List V} {js:List (Option Nat)} {te:TE} {σ:St} {H:Hp} {Q:VK} (hn:xs.length≤sizeLine) (σr:St) (hσ:a2c js σ=none::none::σr) (Pr:Addr→Nat→V→Hp→Prop)
  (mono:∀D i v (H1 H2:Hp),(∀b o,b≠D→H1 b=some o→H2 b=some o)→Pr D i v H1→Pr D i v H2)
  (ha:SqL K H a xs) (hs:∀D i H' (R:V→Hp→Prop) (hi:i < xs.length),H D=none→a0h H H'→(∃ys,H' D=some (.lst ys))→(∀v H'',a0h H' H''→Pr D i v H''→R v H'')→te (some (.int i)::some xs[i]::σr) H' R)
  (hd:∀D H' ys,H D=none→a0h H H'→H' D=some (.lst ys)→ys.length=xs.length→(∀i v,ys[i]?=some v→Pr D i v H')→Q (.ref D) H'):a4t (Ite K a) js (b7A K 2 (b0n (a0y 0) (b0n (a0y 1) b7I))) b4e te σ H Q:=by
 intro D hD
 refine ⟨fun i m σ' H' ys=>m=xs.length - i∧i≤xs.length∧(∃u v,σ'=u::v::σr)∧a0h H H'∧H' D=some (.lst ys)∧ys.length=i∧∀j v,ys[j]?=some v→Pr D j v H',⟨xs.length,by simp,Xi _,⟨none,none,hσ⟩,a0h.upd hD,a0g,rfl,fun j v e=>by simp at e⟩,?_⟩
 rintro i m σ' H' ys ⟨rfl,hi,⟨u,v,rfl⟩,s,h,hl,hp⟩
 refine ⟨h,?_⟩
 by_cases hlt:i < xs.length
 ·refine .inr ⟨⟨xs,xs[i],s.seq ha,Qe hlt⟩,by omega,?_⟩
  rintro x H2 ⟨p,w,hpn,hw,rfl,rfl⟩
  have ew:w=xs[i]:=by have:=hw xs (s.seq ha);rw [Qe hlt] at this;exact (Option.some.inj this).symm
  subst ew
  obtain ⟨H3,e3,s3,h3⟩:∃H3,upd H' p (.tup [.int i,xs[i]])=H3∧a0h H' H3∧H3 p=some (.tup [.int i,xs[i]]):=⟨_,rfl,a0h.upd hpn,a0g⟩
  rw [e3]
  refine ⟨p,_,rfl,SqT.of h3,rfl,_,_,rfl,_,_,rfl,rfl,?_⟩
  unfold b4e;dsimp only
  rw [if_pos rfl]
  show te (some (.int i)::some xs[i]::σr) H3 _
  refine hs D i H3 _ hlt hD (s.trans s3) ⟨_,s3 _ _ h⟩ fun v H'' s2 pv=>⟨s2 _ _ (s3 _ _ h),xs.length - (i+1),by omega,rfl,hlt,⟨_,_,rfl⟩,?_,a0g,by simp [hl],fun j v' e=>?_⟩
  ·intro b o e
   rw [a0d (a0c e hD)];exact s2 _ _ (s3 _ _ (s b o e))
  ·have up:∀b o,b≠D→H'' b=some o→upd H'' D (.lst (ys++[v])) b=some o:=fun b o hb q=>by rw [a0d hb];exact q
   by_cases hj:j < ys.length
   ·rw [Yh hj] at e
    exact mono _ _ _ _ _ up (mono _ _ _ _ _ (fun b o _ q=>s2 _ _ (s3 _ _ q)) (hp j v' e))
   ·have hj2:=(Qy.mp e).1
    have ej:j=ys.length:=by simp at hj2;omega
    subst ej
    rw [Ye (Qk _),Wm] at e
    cases e
    rw [hl];exact mono _ _ _ _ _ up pv
 ·have e:i=xs.length:=by omega
  subst e
  exact .inl ⟨⟨xs,s.seq ha,Qk _⟩,hd D H' ys hD s h hl hp⟩
def a9K (K:Qc) (te:TE):TE:=fun σ H Q=>te σ H fun x H1=>∃a xs,x=.ref a∧SqL K H1 a xs∧∀p,H1 p=none→Q (.ref p) (upd H1 p (.lst xs.reverse))
section
variable {X:Cx} {pins:List (Addr×Obj)} {σ:St} {H:Hp} {s:Shared} {h':Heap} {tg:Expr}
theorem Inv.turned2 {t':Nat} {e it:Addr} (I:Inv X pins σ H s) (k:∀b o,b≠e→b≠it→s.heap.get? b=some o→h'.get? b=some o) (f1:a6D X pins H e) (f2:a6D X pins H it):Inv X pins σ H {s with heap:=h',toks:=t'}:=by
 obtain ⟨a0,a1,a2,a3,a4,a5⟩:=f1
 obtain ⟨b0,b1,b2,b3,b4,b5⟩:=f2
 have ne:∀b u,H b=some u→b≠e:=fun b u q z=>by rw [z,a0] at q;cases q
 have nit:∀b u,H b=some u→b≠it:=fun b u q z=>by rw [z,b0] at q;cases q
 refine I.step (g':=s.gens) (d':=s.drawn) (ch:=[e,it]) (fun b hb=>?_) (fun b o _ _ hc q _=>k b o (fun z=>hc (by simp [z])) (fun z=>hc (by simp [z])) q) (fun b o _ _ hc q _=>⟨o.slots,k b o (fun z=>hc (by simp [z])) (fun z=>hc (by simp [z])) q⟩) (fun _ _ _ _ n=>n)
  (fun b o hc q=>⟨o,k b o (fun z=>hc (by simp [z])) (fun z=>hc (by simp [z])) q⟩) (fun _ _ q=>q) (fun _ _ _ q=>q) (fun b ps q=>⟨#[],by rw [q];simp⟩) (fun m hm=>?_) (fun b u q=>?_) I.bare
 ·rcases Qw.mp hb with z | z
  ·subst z;exact ⟨a3,a1,a4,a5⟩
  ·rw [Qq.mp z];exact ⟨b3,b1,b4,b5⟩
 ·obtain ⟨o,es,ep,ho,r⟩:=hm
  exact ⟨o,es,ep,k _ o (Ne.symm a1) (Ne.symm b1) ho,r⟩
 ·refine (I.hok b u q).stay (fun c v hc z=>k c v ?_ ?_ z) (fun _ z=>z) fun _ _ z=>z
  ·rcases hc with z | z
   ·rw [z];exact ne b u q
   ·exact ne c _ z
  ·rcases hc with z | z
   ·rw [z];exact nit b u q
   ·exact nit c _ z
theorem a7L {P:Program} {w:World} {K:Qc} {elts:List Expr} {x1:Nat} {pos:Pos} (a e it:Addr) (hei:e≠it):b3G P w K (.Tuple elts x1 pos) (Ite K a) [e,it] e (fun i h=>(∃old,IsEnum h e it i old)∧h.IsListIter it a i) where
 mem:=by simp
 obj:=fun i h st b hb=>by
  obtain ⟨⟨old,he⟩,o,e1,c,d⟩:=st
  rcases Qw.mp hb with z | z
  ·subst z;exact ⟨_,he,fun v z=>by cases z⟩
  ·rw [Qq.mp z];exact ⟨o,e1,fun v z=>by rw [d] at z;cases z⟩
 keep:=fun i h h' st k=>by
  obtain ⟨⟨old,he⟩,hit⟩:=st
  exact ⟨⟨old,k e (by simp) _ he⟩,hit.at fun o q=>k it (by simp) o q⟩
 item:=by
  intro X hP hw hK hc i pins s σ H E I hf st hg
  subst hP hw hK
  obtain ⟨⟨old,he⟩,hit⟩:=st
  obtain ⟨xs,x,hq,hx⟩:=hg
  obtain ⟨its,rv,p,hz⟩:=I.list hq
  obtain ⟨u,hu,ru⟩:=rv.get hx
  refine wpAny_pyNext_enum_item he hit p.isList (x:=u) (by simpa using hu) hei fun h' ho hit' hT hsz hk=>?_
  refine ⟨_,rfl,?_⟩
  refine wpAny_letOwnedTupleGo_enum ho fun h2 he2 hs2=>?_
  have hfr:H s.heap.objs.size=none:=I.hok.fresh (Qk _)
  have helt:e < s.heap.objs.size:=Qo he
  have hilt:it < s.heap.objs.size:=by obtain ⟨_,z,_⟩:=hit;exact Qo z
  have hL:=Xf s.heap (o:={cls:=.type "tuple",data:=.seq #[.int i s.toks,u]}) rfl
  have I1:Inv X pins σ (upd H s.heap.objs.size (.tup [.int i,x])) {s with heap:=s.heap.push {cls:=.type "tuple",data:=.seq #[.int i s.toks,u]},toks:=s.toks+1}:=
   I.laid (t':=s.toks+1) (fun b o q=>Qm _ q) (Qk _) ⟨by simp only [Qj,Qr];decide,[.int i s.toks,u],.cons ⟨_,rfl⟩ (.cons ru .nil),⟨_,hL,rfl,_,rfl⟩⟩
  have up:∀b,b < s.heap.objs.size→upd H s.heap.objs.size (.tup [.int i,x]) b=H b:=fun b hb=>a0d (Qt hb)
  have fp:∀b,b < s.heap.objs.size→a6D X pins H b→a6D X pins (upd H s.heap.objs.size (.tup [.int i,x])) b:=fun b hb ⟨c0,c1,c2,c3,c4,c5⟩=>⟨by rw [up b hb];exact c0,c1,c2,c3,c4,c5⟩
  have I2:Inv X pins σ (upd H s.heap.objs.size (.tup [.int i,x])) {s with heap:=h2,toks:=s.toks+1}:=by
   refine I1.turned2 (h':=h2) (t':=s.toks+1) (fun b o h1 h3 q=>?_) (fp e helt (hf e (by simp))) (fp it hilt (hf it (by simp)))
   rw [hs2.2 b h1]
   by_cases z:b=s.heap.objs.size
   ·subst z
    have q':(s.heap.push {cls:=.type "tuple",data:=.seq #[.int i s.toks,u]}).get? s.heap.objs.size=some o:=q
    rw [hL] at q';rw [←q'];exact hT
   ·have q':s.heap.get? b=some o:=by
     have q2:(s.heap.push {cls:=.type "tuple",data:=.seq #[.int i s.toks,u]}).get? b=some o:=q
     rw [Jb _ _ _ z] at q2;exact q2
    exact hk b o h1 h3 q'
  exact ⟨.ref s.heap.objs.size,_,I2,rfl,⟨s.heap.objs.size,x,hfr,fun ys hy=>by rw [I.list_inj hy hq];exact hx,rfl,rfl⟩,⟨⟨_,by simpa using he2⟩,hit'.at fun o y=>(hs2.2 it hei.symm).trans y⟩,fun b hb=>by
   have hb':b < s.heap.objs.size:=by
    rcases Qw.mp hb with z | z
    ·rw [z];exact helt
    ·rw [Qq.mp z];exact hilt
   rw [up b hb'];exact (hf b hb).1⟩
 done:=by
  intro X hP hw hK hc i pins s σ H E I hf st hg
  subst hP hw hK
  obtain ⟨⟨old,he⟩,hit⟩:=st
  obtain ⟨xs,hq,hx⟩:=hg
  obtain ⟨its,rv,p,hz⟩:=I.list hq
  have hl:=rv.length
  exact wpAny_pyNext_enum_end (I.ok.hd hc) he hit p.isList (by simp;omega) fun h' hk=>⟨rfl,I.turned2 (t':=s.toks) (fun b o h1 h3 q=>hk b o h3 q) (hf e (by simp)) (hf it (by simp))⟩
 self:=fun _ _ _ _ _ st h=>by
  obtain ⟨⟨old,he⟩,_⟩:=st
  exact wpAny_pyIter_enum he h
theorem a2Y:bootBuiltins "enumerate"=some (.type "enumerate"):=by decide+kernel
theorem b3x {a:Expr} {ta:TA} {p pos:Pos} {elts:List Expr} {x1:Nat} {tpos:Pos} (hg:Gl X "enumerate") (hm:X.mg "enumerate"=none) (ha:PA X [a] ta) (hs:starEach [a] X.env=[(false,eval a X.env)]:=by rfl):PI X (.Tuple elts x1 tpos) (.Call (.Name "enumerate" p) [a] [] pos) (b5T X.K ta):=by
 intro pins s σ H R I h
 refine Call_ (a2C I hg hm a2Y (PyProof.Rows.callWith_type1 (thn (ha pos pins s σ H _ I h) fun us s1 ⟨vs,H1,I1,r1,q1⟩=>?_) hs rfl))
 obtain ⟨l,e,⟨xs,hq⟩,q⟩:=q1
 subst e
 cases r1 with
 | cons r rr=>
  cases rr
  cases r
  obtain ⟨its,rv,pl,hz⟩:=I1.list hq
  refine call_enumerate_list pl.isList fun h' he hit hsz hk=>?_
  refine wpAny_pyIter_enum he ?_
  have I2:=I1.kept (t':=s1.toks) hk
  refine ⟨s1.heap.objs.size+1,[s1.heap.objs.size+1,s1.heap.objs.size],_,_,H1,rfl,I2,a7L l _ _ (Nat.succ_ne_self _),⟨⟨_,he⟩,hit⟩,fun b hb=>?_,q⟩
  have hb':s1.heap.objs.size≤b:=by
   rcases Qw.mp hb with z | z
   ·rw [z];exact Zf _
   ·rw [Qq.mp z];exact Qk _
  exact I1.fpOk hb' (I1.hok.fresh hb')
theorem b3j {K:Qc} {e:Expr} {ta:TE} {f:Str} {pos:Pos} (hK:X.K=K) (he:PE X e ta) (hb:attributeBase e f X.env (eval e X.env)=eval e X.env):PE X (.Attribute e f pos) (a2Q K ta f):=hK ▸ b1f he hb
end
section
variable {prog:Program} {w:World} {A:Around} {E:Value→Shared→Prop} {s:Shared}
theorem a8O:typeLookup (.type "list_reverseiterator") "__len__"=pure none:=by rw [typeLookup_type,builtinLookup_eq_fast];kernel_rfl
theorem a9R:typeLookup (.type "list_reverseiterator") "__length_hint__"=pure (some (.builtin "list_reverseiterator.__length_hint__")):=by rw [typeLookup_type,builtinLookup_eq_fast];kernel_rfl
theorem a3o {I l:Addr} {i:Int} {Q:Bool→Shared→Prop} (hit:s.heap.IsRevIter I l i) (h:Q false s):wpAny (model prog w) A (Builtin.List.listLengthHint (.ref I)) Q E s:=by
 unfold Builtin.List.listLengthHint
 refine wpAny_bind (wpAny_specialOf hit.typeIs a8O ?_)
 show wpAny _ A (specialOf (Value.ref I) (Xr "__length_hint__") >>= _) _ _ _
 refine wpAny_bind (wpAny_specialOf hit.typeIs a9R ?_)
 generalize hid:("list_reverseiterator.__length_hint__":String)=id0
 wp_delta
 rw [show splitId id0=some ("list_reverseiterator","__length_hint__") from by subst hid;decide+kernel]
 subst hid
 refine wpAny_bind (wpAny_isInstance (b:=true) hit.typeIs (by rw [isSubtype_type];kernel_rfl) ?_)
 exact wpAny_pure h
theorem a2D {R:Result→Shared→Prop} {I l:Addr} {items:Array Value} (hh:A.handled=none) (hit:s.heap.IsRevIter I l ((items.size:Int) - 1)) (hl:s.heap.IsList l items) (hlI:l≠I) (hsz:items.size≤sizeLine) (S:Addr) (res:Value) (c₀:Nat)
  (hS:s.heap.get? S=some {cls:=.type "list",data:=.seq #[] c₀}) (hSI:S≠I) (hSl:S≠l)
  (hR:∀h' tk acc' c',(∀b o,b≠S→b≠I→s.heap.get? b=some o→h'.get? b=some o)→h'.get? S=some {cls:=.type "list",dict:=none,data:=.seq acc' c',slots:=#[]}→
   ItemsOf (fun i v=>items[items.size - 1 - i]?=some v) acc' items.size→R (.ok (.ret res)) {s with heap:=h',toks:=tk}):
  wpAny (model prog w) A.in1 (Builtin.List.listExtendWith (.ref S) (.ref I) res)
   (fun fin s'=>match fin with | .done f=>R (.ok f) s' | .again c'=>c'.quiet=true∧codeAny (model prog w) A c' R s') (fun e s'=>R (.error e) s') s:=by
 have W:=(Walks.listRev (prog:=prog) (w:=w) (A:=A.in1) hh I l hlI items).toS
 have hSf:S∉[I,l]:=fun hm=>by
  rcases Qw.mp hm with z | z
  ·exact hSI z
  ·exact hSl (Qq.mp z)
 unfold Builtin.List.listExtendWith
 refine wpAny_bind (wpAny_typeOf hit.typeIs ?_)
 have h1:Builtin.List.listSameRef (.ref S) (.ref I)=false:=by simp [Builtin.List.listSameRef,hSI]
 have h2:(Value.type "list_reverseiterator" == Value.type "list")=false:=by decide
 have h3:(Value.type "list_reverseiterator" == Value.type "tuple")=false:=by decide
 simp only [h1,h2,h3,Bool.or_false,Ja,if_false]
 refine wpAny_bind (wpAny_pyIter_revIter hit ?_)
 refine wpAny_bind (wpAny_holding (a3o hit ?_))
 refine wpAny_ite_split (fun hab=>absurd hab ‹dc›) (fun _=>wpAny_pure ⟨plainId_quiet F.plain_extend_loop _,codeAny_extend_loopS W hsz S hSf res items.size 0 _ #[] c₀ rfl (Xi _) ⟨Xi _,by simpa using hit,hl⟩ hS (ItemsOf.nil _) fun s' acc' c' hm hS' hacc=>?_⟩)
 rw [Moved.eq_with hm]
 refine hR s'.heap s'.toks acc' c' (fun b o hb hbI e=>hm.heap b o (fun hmem=>?_) e) hS' hacc
 rcases Qw.mp hmem with e' | hmem
 ·exact hb e'
 ·exact hbI (Qq.mp hmem)
theorem a3T {Q:Value→Shared→Prop} {I l:Addr} {items:Array Value} (hh:A.handled=none) (hit:s.heap.IsRevIter I l ((items.size:Int) - 1)) (hl:s.heap.IsList l items) (hlI:l≠I) (hsz:items.size≤sizeLine)
  (hQ:∀h' tk acc' c',(∀b o,b≠I→s.heap.get? b=some o→h'.get? b=some o)→
   h'.get? s.heap.objs.size=some {cls:=.type "list",dict:=none,data:=.seq acc' c',slots:=#[]}→ItemsOf (fun i v=>items[items.size - 1 - i]?=some v) acc' items.size→Q (.ref s.heap.objs.size) {s with heap:=h',toks:=tk}):
  wpAny (model prog w) A (call (.type "list") [.ref I]) Q E s:=by
 refine callType_codes (Q₁:=fun obj s₁=>obj=.ref s.heap.objs.size∧s₁={s with heap:=s.heap.push {cls:=.type "list",data:=.seq #[]}}) F.called_list (F.typeCall_list_1 _) F.entry_list_init
  (code_list_new _ ⟨rfl,rfl⟩) fun obj s₁ h₁=>?_
 obtain ⟨rfl,rfl⟩:=h₁
 have hS:(s.heap.push {cls:=.type "list",data:=.seq #[]}).get? s.heap.objs.size=some {cls:=.type "list",data:=.seq #[]}:=Xf _ rfl
 have hIlt:I < s.heap.objs.size:=by obtain ⟨_,z,_⟩:=hit;exact Qo z
 have hllt:l < s.heap.objs.size:=by obtain ⟨_,z,_⟩:=hl;exact Qo z
 refine ⟨⟨_,hS,rfl⟩,F.args_list_init_2 _ _,?_⟩
 show wpAny _ _ (do let old ←Builtin.List.listItems (.ref s.heap.objs.size);Builtin.List.listUpdate (.ref s.heap.objs.size) (fun _=>#[]);letGo old.toList.reverse;Builtin.List.listExtendWith (.ref s.heap.objs.size) (.ref I) .none) _ _ _
 refine wpAny_bind ?_
 unfold Builtin.List.listItems
 refine wpAny_bind (wpAny_seqItems hS rfl (wpAny_pure ?_))
 show wpAny _ _ (updateSeq s.heap.objs.size (fun _=>#[]) >>= fun _=>letGo (#[]:Array Value).toList.reverse >>= fun _=>Builtin.List.listExtendWith (.ref s.heap.objs.size) (.ref I) .none) _ _ _
 refine wpAny_bind (wpAny_updateSeq hS rfl ?_)
 have hS₂:=Vq (Obj.mapSeq (fun _=>(#[]:Array Value))) hS rfl
 have oth:∀b o,b≠s.heap.objs.size→s.heap.get? b=some o→((s.heap.push {cls:=.type "list",data:=.seq #[]}).update s.heap.objs.size (Obj.mapSeq (fun _=>(#[]:Array Value)))).get? b=some o:=
  fun b o hb e=>(Jm _ _ (Ne.symm hb)).trans (Qm _ e)
 refine wpAny_bind (wpAny_letGo ?_)
 refine a2D (A:=A.in1) hh (hit.at fun o e=>oth I o (Qt hIlt) e) (hl.at fun o e=>oth l o (Qt hllt) e) hlI hsz s.heap.objs.size .none _ hS₂ (Wj hIlt) (Wj hllt) fun h' tk acc' c' hk hS' hacc=>?_
 exact ⟨rfl,hQ h' tk acc' c' (fun b o hb e=>hk b o (Qt (Qo e)) hb (oth b o (Qt (Qo e)) e)) hS' hacc⟩
end
section
variable {X:Cx}
theorem a3p:bootBuiltins "reversed"=some (.type "reversed"):=by decide+kernel
theorem a7l {its:List Value} {acc:Array Value} (h:ItemsOf (fun i v=>its.toArray[its.toArray.size - 1 - i]?=some v) acc its.toArray.size):acc.toList=its.reverse:=by
 obtain ⟨h1,h2⟩:=h
 have h1':acc.size=its.length:=by simpa using h1
 refine Jl fun i=>?_
 by_cases hi:i < its.length
 ·have hi':i < acc.size:=by omega
  have e:its[its.length - 1 - i]?=some acc[i]:=by simpa using h2 i acc[i] (Array.getElem?_eq_getElem hi')
  rw [List.getElem?_reverse hi,e]
  simp [hi']
 ·rw [Yo (by simp;omega),Yo (by simp;omega)]
theorem a6M {e:Expr} {te:TE} {p1 p2 q1 q2:Pos} (hc:X.calm=true) (hg1:Gl X "list") (hm1:X.mg "list"=none) (hg2:Gl X "reversed") (hm2:X.mg "reversed"=none) (he:PE X e te)
  (hs1:starEach [Expr.Call (.Name "reversed" p2) [e] [] q2] X.env=[(false,eval (.Call (.Name "reversed" p2) [e] [] q2) X.env)]:=by rfl) (hs2:starEach [e] X.env=[(false,eval e X.env)]:=by rfl):
  PE X (.Call (.Name "list" p1) [.Call (.Name "reversed" p2) [e] [] q2] [] q1) (a9K X.K te):=by
 intro pins s σ H Q I h
 refine Call_ (a2C I hg1 hm1 a0w (PyProof.Rows.callWith_type1 ?_ hs1 rfl))
 rw [hs1]
 show wpAny _ _ (spliced ((false,eval (.Call (.Name "reversed" p2) [e] [] q2) X.env)::[])) _ _ s
 refine Calls.spliced_cons ?_
 refine Call_ (a2C I hg2 hm2 a3p (PyProof.Rows.callWith_type1 ?_ hs2 rfl))
 rw [hs2]
 show wpAny _ _ (spliced ((false,eval e X.env)::[])) _ _ s
 refine Calls.spliced_cons (thn (he pins s σ H _ I h) fun u s1 ⟨x,H1,I1,r1,q1⟩=>?_)
 refine Calls.spliced_nil ?_
 obtain ⟨a,xs,rfl,hq,q⟩:=q1
 cases r1
 obtain ⟨its,rv,pl,hz⟩:=I1.list hq
 have hl:=pl.isList
 have hlt:a < s1.heap.objs.size:=by obtain ⟨_,z,_⟩:=hl;exact Qo z
 refine call_reversed_list hl ?_
 refine Calls.spliced_nil ?_
 have hlen:=rv.length
 refine a3T (I:=s1.heap.objs.size) (l:=a) (items:=its.toArray) (I1.ok.hd hc) ⟨_,Xf _ rfl,rfl,rfl⟩ (hl.push _) (Qt hlt) (by rw [Ql,←hlen];exact hz) fun h' tk acc' c' hk hS' hacc=>?_
 have hp:(s1.heap.push (revObj a ((its.toArray.size:Int) - 1))).objs.size=s1.heap.objs.size+1:=Ud ..
 have keep:∀b u,s1.heap.get? b=some u→h'.get? b=some u:=fun b u z=>hk b u (Qt (Qo z)) (Qm _ z)
 have hfr:H1 (s1.heap.objs.size+1)=none:=I1.hok.fresh (Zf _)
 have hS2:h'.get? (s1.heap.objs.size+1)=some {cls:=.type "list",dict:=none,data:=.seq acc' c',slots:=#[]}:=by rw [←hp];exact hS'
 have ea:acc'=its.reverse.toArray:=by rw [←a7l hacc]
 refine ⟨.ref (s1.heap.objs.size+1),upd H1 (s1.heap.objs.size+1) (.lst xs.reverse),I1.laid (t':=tk) keep (Zf _) ⟨by rw [Wc];exact hz,its.reverse,c',rv.reverse,by rw [hS2,ea]⟩,?_,q _ hfr⟩
 show Value.ref _=Value.ref _
 rw [←hp]
end
section
variable {X:Cx} {pins:List (Addr×Obj)} {σ:St} {H:Hp} {s:Shared} {a:Addr} {kvs:List (Key×V)} {k:Key} {u:Value} {A:Around} {E:Value→Shared→Prop}
theorem b6a {z:V} {r:Value} {Q:Value→Shared→Prop} (I:Inv X pins σ H s) (e:H a=some (.dK kvs)) (ry:a0Q (kV k) u) (rz:a0Q z r) (hz:kvs.length < sizeLine)
  (h1:∀v w' s',a1I kvs k=some v→Inv X pins σ H s'→a0Q v w'→Q w' s') (h2:a1I kvs k=none→∀s',Inv X pins σ (upd H a (.dK (a3m kvs k z))) s'→Q r s'):
  wpAny (model X.prog X.w) A (call (.builtin "dict.setdefault") [.ref a,u,r]) Q E s:=by
 obtain ⟨z0,hd,vs,rel,dd⟩:=b4d I.hok e
 refine call_meetsIn Ug dd.typeIs PySem.F.entry_dict_setdefault (PySem.F.args_dict_setdefault_3 _ _ _) (kt_meets_setdefault (a0N X.prog X.w) a (a7A ry) hd r) ⟨vs,dd,by rw [←rel.length];exact z0,fun v hv=>?_,fun hn h' dd' hs=>?_⟩
 ·cases l:a1I kvs k with
  | none=>
   have:=a3O.none_of (o:=valueAt vs k) (by rw [←l];exact rel.val k)
   rw [this] at hv;cases hv
  | some x=>
   obtain ⟨w',hw,rw'⟩:=a3O.some_of (v:=x) (o:=valueAt vs k) (by rw [←l];exact rel.val k)
   rw [hw] at hv;cases hv
   exact h1 x _ _ l (I.tok _) rw'
 ·have l:a1I kvs k=none:=by
   cases l:a1I kvs k with
   | none=>rfl
   | some x=>
    obtain ⟨w',hw,_⟩:=a3O.some_of (v:=x) (o:=valueAt vs k) (by rw [←l];exact rel.val k)
    rw [hw] at hn;cases hn
  refine h2 l _ ?_
  have he:∃q,h'.get? a=some q:=let ⟨q,_,_,hq,_⟩:=dd';⟨q,hq⟩
  exact a5h I (by rw [e];exact True.intro) hs he (b1H (by have:=a1m kvs k z;omega) hd (rel.put k rz) dd')
end
def b1o (td ty tx:TE):TE:=fun σ H Q=>td σ H fun x H1=>∃a,x=.ref a∧IsD H1 a∧ty σ H1 fun y H2=>tx σ H2 fun z H3=>∃kvs k,H3 a=some (.dK kvs)∧y=kV k∧kvs.length < sizeLine∧
 (∀v,a1I kvs k=some v→Q v H3)∧(a1I kvs k=none→Q z (upd H3 a (.dK (a3m kvs k z))))
section
variable {X:Cx} {o e f:Expr} {apos cpos:Pos} {td ty tx:TE}
theorem b0b (ho:PE X o td) (he:PE X e ty) (hf:PE X f tx) (m:M2 X o "setdefault" apos e f cpos):PE X (.Call (.Attribute o "setdefault" apos) [e,f] [] cpos) (b1o td ty tx):=by
 intro pins s σ H Q I h
 refine wpAny_Call_method m.base m.few m.line Ve Ug PySem.F.type_dict_setdefault (thn (ho pins s σ H _ I h) fun u s1 ⟨x,H1,I1,rx,a,ex,d,q1⟩=>?_)
 subst ex
 obtain rfl:u=Value.ref a:=rx
 obtain ⟨t1,t2,_⟩:=b0T I1 d
 refine ⟨t1,t2,?_⟩
 rw [m.trees]
 refine Calls.callWith_builtin rfl (Calls.evalArgs_plain (Calls.spliced_cons (thn (he pins s1 σ H1 _ I1 q1) fun iv s2 ⟨y,H2,I2,ry,q2⟩=>
  Calls.spliced_cons (thn (hf pins s2 σ H2 _ I2 q2) fun fv s3 ⟨z,H3,I3,rz,kvs,k,hH,ey,hz,q3,q4⟩=>Calls.spliced_nil ?_))))
 subst ey
 exact b6a I3 hH ry rz hz (fun v w' s' l I' r'=>⟨v,H3,I',r',q3 v l⟩) (fun l s' I'=>⟨z,_,I',rz,q4 l⟩)
end
section
variable {α β:Type}
def TOk (n:Nat) (P:α→Prop):KasT α→Prop
 | .ret a=>P a
 | .ask i j k=>i < n∧j < n∧∀b,TOk n P (k b)
def b3u (lt:Nat→Nat→Bool):KasT α→α
 | .ret a=>a
 | .ask i j k=>b3u lt (k (lt i j))
theorem TOk.run {n:Nat} {P:α→Prop} {lt:Nat→Nat→Bool}:∀{t:KasT α},TOk n P t→P (b3u lt t)
 | .ret _,h=>h
 | .ask i j k,h=>show P (b3u lt (k (lt i j))) from TOk.run (h.2.2 (lt i j))
theorem TOk.wp {n:Nat} {P:α→Prop} {lt:Nat→Nat→Bool} {cmp:Nat→Nat→(Bool→Shared→Prop)→Shared→Prop} {Q:α→Shared→Prop} {s:Shared} (hc:∀i j C,i < n→j < n→C (lt i j) s→cmp i j C s):∀{t:KasT α},TOk n P t→Q (b3u lt t) s→t.kasWp cmp Q s
 | .ret _,_,q=>q
 | .ask i j k,h,q=>hc i j _ h.1 h.2.1 (TOk.wp hc (h.2.2 _) q)
theorem TOk.bind {n:Nat} {P:α→Prop} {R:β→Prop} {f:α→KasT β} (hf:∀a,P a→TOk n R (f a)):∀{t:KasT α},TOk n P t→TOk n R (t.bind f)
 | .ret _,h=>hf _ h
 | .ask i j k,h=>⟨h.1,h.2.1,fun b=>TOk.bind hf (h.2.2 b)⟩
end
def a1g (n:Nat) (p:Array Nat):Prop:=p.Perm (Zg (Yi n))
theorem a1g.list {n:Nat} {p:Array Nat} (h:a1g n p):p.toList.Perm (Yi n):=Array.perm_iff_toList_perm.mp h
theorem a1g.lt {n:Nat} {p:Array Nat} (h:a1g n p) (hn:0 < n) (i:Nat):p.getD i 0 < n:=by
 by_cases hi:i < p.size
 ·have h1:p[i]∈Yi n:=h.list.mem_iff.mp (by simp)
  have e:p.getD i 0=p[i]:=by simp [Vw,hi]
  rw [e];exact Vo.mp h1
 ·have e:p.getD i 0=0:=by simp [Vw,hi]
  rw [e];exact hn
theorem a1g.rev {n:Nat} {p:Array Nat} (h:a1g n p) (i j:Nat):a1g n (kas_rev p i j):=(mirror_perm _ _ _ _).trans h
theorem a1g.bub {n:Nat} {p:Array Nat} (h:a1g n p) (i j:Nat):a1g n (bubble p i j):=(bubble_perm _ _ _).trans h
section
variable {n:Nat} (hn:0 < n)
include hn
theorem a7o {p:Array Nat} (hp:a1g n p):∀f m,TOk n (fun _=>True) (kas_asc p f m)
 | 0,m=>trivial
 | f+1,m=>⟨hp.lt hn _,hp.lt hn _,fun b=>by
   show TOk n _ (if b=true then _ else _)
   split
   ·exact trivial
   ·exact a7o hp f (m+1)⟩
theorem a3M:∀f (p:Array Nat) m q,a1g n p→TOk n (fun r=>a1g n r.1) (kas_desc f p m q)
 | 0,p,m,q,hp=>hp
 | f+1,p,m,q,hp=>⟨hp.lt hn _,hp.lt hn _,fun b=>by
   show TOk n _ (if b=true then _ else _)
   split
   ·split
    ·exact a3M f _ _ _ (hp.rev _ _)
    ·exact a3M f _ _ _ hp
   ·refine ⟨hp.lt hn _,hp.lt hn _,fun d=>?_⟩
    show TOk n _ (if d=true then _ else _)
    split
    ·exact hp
    ·exact a3M f _ _ _ hp⟩
theorem a5L {p:Array Nat} (hp:a1g n p) (m r:Nat):TOk n (fun r=>a1g n r.2) (kas_tail3 m r p):=by
 unfold kas_tail3
 refine TOk.bind (P:=fun _=>True) (fun k _=>?_) (a7o hn (hp.rev _ _) _ _)
 exact hp.rev 0 m
theorem a3j {p:Array Nat} (hp:a1g n p) (m r:Nat):TOk n (fun r=>a1g n r.2) (kas_descPart m r p):=TOk.bind (fun a ha=>by
 split
 ·exact a5L hn (a1g.rev ha _ _) _ _
 ·exact a5L hn ha _ _) (a3M hn _ _ _ _ hp)
theorem b0a {p:Array Nat} (hp:a1g n p) (r:Nat):TOk n (fun r=>a1g n r.2) (kas_count r p):=TOk.bind (fun a _=>by
 split
 ·exact hp
 ·split
  ·refine ⟨hp.lt hn _,hp.lt hn _,fun b=>?_⟩
   show TOk n _ (if b=true then _ else _)
   split
   ·exact hp
   ·exact a3j hn (hp.rev _ _) _ _
  ·exact a3j hn hp _ _) (a7o hn hp _ _)
theorem a3Z {p:Array Nat} (hp:a1g n p) (k:Nat):∀f l r,TOk n (fun _=>True) (kas_place p k f l r)
 | 0,l,r=>trivial
 | f+1,l,r=>by
  show TOk n _ (if l≥r then _ else _)
  split
  ·exact trivial
  ·refine ⟨hp.lt hn _,hp.lt hn _,fun b=>?_⟩
   show TOk n _ (if b=true then _ else _)
   split
   ·exact a3Z hp k f _ _
   ·exact a3Z hp k f _ _
theorem b1y:∀f (p:Array Nat) k,a1g n p→TOk n (a1g n) (kas_bin f p k)
 | 0,p,k,hp=>hp
 | f+1,p,k,hp=>TOk.bind (fun l _=>b1y f _ _ (hp.bub _ _)) (a3Z hn hp k _ _ _)
theorem b2x:TOk n (a1g n) (kas_sort n):=TOk.bind (fun r hr=>by
 split
 ·exact b1y hn _ _ _ hr
 ·exact hr) (b0a hn (Ga.refl _) n)
end
theorem a6n (vs:List Value):(Yi vs.length).map (fun i=>vs.getD i Value.none)=vs:=by
 refine Uz (by simp) fun i h1 h2=>?_
 simp [h2]
section
variable {prog:Program} {w:World} {A:Around} {E:Value→Shared→Prop} {s:Shared}
theorem a2O {a:Addr} {vs:List Value} {n:Nat} {P:PySem.Fin→Shared→Prop} (ho:s.heap.get? a=some (seqObj "list" vs.toArray n)) (h64:vs.length < 64) (lt:Nat→Nat→Bool) (κ:SortKind)
  (hk:2≤vs.length→∀h',(∀b o,b≠a→s.heap.get? b=some o→h'.get? b=some o)→∀Q:SortKind→Shared→Prop,Q κ {s with heap:=h'}→wpAny (model prog w) A (keyKind' vs.toArray) Q (fun _ _=>False) {s with heap:=h'})
  (hask:∀h',(∀b o,b≠a→s.heap.get? b=some o→h'.get? b=some o)→∀i j C,i < vs.length→j < vs.length→C (lt i j) {s with heap:=h'}→kas_ask prog w A κ vs i j C {s with heap:=h'})
  (h:∀p:Array Nat,a1g vs.length p→(2≤vs.length→p=b3u lt (kas_sort vs.length))→P (.done (.ret .none)) {s with heap:=sortedHeap s.heap a vs (Zg (p.toList.map fun i=>vs.getD i Value.none))}):
  wpAny (model prog w) A (Builtin.«list.sort» ⟨[.ref a],[]⟩) P E s:=by
 rw [list_sort_plain]
 have ha:a < s.heap.objs.size:=Qo ho
 refine wpAny_bind (listItems_at ho rfl ?_)
 refine wpAny_bind (listUpdate_at ho rfl ?_ (by rw [Ql,sizeLine_eq];omega) (Xi _))
 obtain ⟨e1,ho1⟩:∃e1,(s.heap.update a (Obj.mapSeq fun _=>#[])).get? a=some (seqObj "list" #[] e1):=⟨_,get?_update_seq ho (fun _=>#[])⟩
 refine wpAny_bind (seqEpoch_at ho1 rfl ?_)
 refine wpAny_bind (wpAny_newTuple ?_ (by show vs.length≤_;rw [sizeLine_eq];omega))
 refine wpAny_bind (wpAny_newList ?_ (Xi _))
 refine wpAny_holding ?_
 have ho6:(((s.heap.update a (Obj.mapSeq fun _=>#[])).push (seqObj "tuple" vs.toArray 0)).push (seqObj "list" #[] 0)).get? a=some (seqObj "list" #[] e1):=by
  rw [Jb _ _ _ (by rw [size_push',Va];exact Qt (Zd ha)),Jb _ _ _ (by rw [Va];exact Qt ha)]
  exact ho1
 have keep:∀b o,b≠a→s.heap.get? b=some o→(((s.heap.update a (Obj.mapSeq fun _=>(#[]:Array Value))).push (seqObj "tuple" vs.toArray 0)).push (seqObj "list" #[] 0)).get? b=some o:=fun b o hb e=>by
  refine Qm _ (Qm _ ?_)
  rw [Wd _ _ _ _ hb];exact e
 show wpAny (model prog w) A _ P E {s with heap:=((s.heap.update a (Obj.mapSeq fun _=>(#[]:Array Value))).push (seqObj "tuple" vs.toArray 0)).push (seqObj "list" #[] 0)}
 dsimp only
 by_cases h2:vs.toArray.size < 2
 ·rw [if_pos h2,if_pos h2]
  refine wpAny_bind (wpAny_pure ?_)
  rw [StateT.run_pure]
  refine wpAny_bind (wpAny_pure ?_)
  dsimp only
  refine wpAny_bind (seqEpoch_at ho6 rfl ?_)
  have hz:((arrOf (SortSt.mk' general' (vs.toArray.zip vs.toArray) #[] 7 none)).map (·.2))=Zg ((Zg (Yi vs.length)).toList.map fun i=>vs.getD i Value.none):=by
   have e:=a6n vs
   show ((vs.toArray.zip vs.toArray).map (·.2))=Zg ((Yi vs.length).map fun i=>vs.getD i Value.none)
   rw [e]
   apply Array.toList_inj.mp
   simp
   exact List.map_snd_zip (Qk _)
  rw [hz]
  refine wpAny_bind (listUpdate_at ho6 rfl ?_ (Xi _) (by simp only [Ql,Qd,Up];rw [sizeLine_eq];omega))
  simp only [bne_self_eq_false,Ja,if_false]
  exact wpAny_pure (h (Zg (Yi vs.length)) (Ga.refl _) (fun z=>by rw [Ql] at h2;omega))
 ·rw [if_neg h2,if_neg h2]
  rw [Ql] at h2
  have h2':2≤vs.length:=by omega
  refine wpAny_bind (wpAny_mono (hk h2' _ keep (fun κ' s0=>κ'=κ∧s0={s with heap:=((s.heap.update a (Obj.mapSeq fun _=>(#[]:Array Value))).push (seqObj "tuple" vs.toArray 0)).push (seqObj "list" #[] 0)}) ⟨rfl,rfl⟩) (fun κ' s0 hk'=>?_) fun _ _ x=>x.elim)
  obtain ⟨rfl,rfl⟩:=hk'
  have hok:=b2x (n:=vs.length) ‹om›
  refine wpAny_bind (wpAny_mono (kat_run (Q:=fun st' s'=>∃p:Array Nat,p.size=vs.length∧arrOf st'=p.map (kas_item (vs.toArray.zip vs.toArray))∧failedOf st'=none∧p=b3u lt (kas_sort vs.length)∧s'={s with heap:=((s.heap.update a (Obj.mapSeq fun _=>(#[]:Array Value))).push (seqObj "tuple" vs.toArray 0)).push (seqObj "list" #[] 0)})
   (G:=fun p s'=>p=b3u lt (kas_sort vs.length)∧s'={s with heap:=((s.heap.update a (Obj.mapSeq fun _=>(#[]:Array Value))).push (seqObj "tuple" vs.toArray 0)).push (seqObj "list" #[] 0)})
   rfl h2' h64 (fun p' st' s' a1 a2 a3 a4=>⟨p',a1,a2,a3,a4.1,a4.2⟩) (TOk.wp (lt:=lt) (fun i j C hi hj hC=>hask _ keep i j C hi hj hC) hok ⟨rfl,rfl⟩)) ?_ fun _ _ e=>e)
  rintro ⟨⟨⟩,st'⟩ s' ⟨p,hp,har,hf,hpe,rfl⟩
  dsimp only
  have hP:a1g vs.length p:=by rw [hpe];exact hok.run
  refine wpAny_bind (seqEpoch_at ho6 rfl ?_)
  rw [kat_snds rfl har]
  refine wpAny_bind (listUpdate_at ho6 rfl ?_ (Xi _) (by simp only [Ql,Qd,Zs];rw [sizeLine_eq];omega))
  rw [hf]
  simp only [bne_self_eq_false,Ja,if_false]
  exact wpAny_pure (h p hP fun _=>hpe)
end
def b1k (K:Qc):List V→Hp→VK→Prop:=fun xs H Q=>∃(p:Addr) (ss:List Str),xs=[.ref p]∧SqL K H p (ss.map V.str)∧ss.length < 64∧∀l ss',H l=none→ss'.Perm ss→sortedS ss'=true→Q (.ref l) (upd H l (.lst (ss'.map V.str)))
def b1P:List V→Hp→VK→Prop:=fun xs H Q=>∃(p:Addr) (kvs:List (Key×V)) (ss:List Str),xs=[.ref p]∧Rd H p (.dK kvs)∧kvs.map (·.1)=ss.map Sum.inr∧ss.length < 64∧∀l ss',H l=none→ss'.Perm ss→sortedS ss'=true→Q (.ref l) (upd H l (.lst (ss'.map V.str)))
def b1a (K:Qc):List V→Hp→VK→Prop:=fun xs H Q=>∃(p:Addr) (ys:List V),xs=[.ref p]∧SqL K H p ys∧ys.length < 64∧(∀v∈ys,∃a i z,v=.ref a∧H a=some (.tup [.int i,.str z]))∧∀l ys',H l=none→ys'.Perm ys→Q (.ref l) (upd H l (.lst ys'))
def b8q (K:Qc):List V→Hp→VK→Prop:=fun xs H Q=>b1k K xs H Q∨(b1P xs H Q∨b1a K xs H Q)
theorem a3B:∀{ss:List Str} {its:List Value},a0G (ss.map V.str) its→StrsAre its ss
 | [],_,r=>by cases r;exact .nil
 | x::ss,_,r=>by
  cases r with
  | cons h t=>obtain ⟨t0,rfl⟩:=h;exact .cons _ _ (a3B t)
theorem a4f {ss:List Str} {its:List Value} (h:StrsAre its ss):a0G (ss.map V.str) its:=by
 induction h with
 | nil=>exact .nil
 | cons x t h ih=>exact .cons ⟨t,rfl⟩ ih
section
variable {X:Cx}
theorem a6G:a1q X (.builtin "sorted") (b1k X.K):=by
 intro pins s σ H xs us Q I r h
 obtain ⟨p,ss,rfl,hq,h64,q⟩:=h
 obtain ⟨u,rfl,ru⟩:=a2d r
 cases ru
 obtain ⟨its,rv,pl,hz⟩:=I.list hq
 have hn:=rv.length
 rw [Qd] at hn
 refine sorted_strs pl.isList (a3B rv) ‹om› fun out ss' a1 a2 a3=>?_
 obtain ⟨e,he⟩:=sortedAll_at s.heap its out
 have hl:ss'.length < 64:=by rw [a2.length_eq];exact h64
 have I1:=I.laid (a:=s.heap.objs.size+1) (o:=.lst (ss'.map V.str)) (h':=sortedAll s.heap its out) (t':=s.toks) (fun _ _ q=>sortedAll_old q) (Zf _) ⟨by rw [Qd,sizeLine_eq];omega,out.toList,e,a4f a1,he⟩
 exact ⟨.ref (s.heap.objs.size+1),_,I1,rfl,q _ _ (I.hok.fresh (Zf _)) a2 a3⟩
theorem b2j {P:Program} {w:World} {z:Str} {v:Value} (h:(a0N P w).is (Sum.inr z) v=true):∃t,v=.str z t:=Value.isStrOf_shape h
theorem a3C:∀{its:List Value} {ss:List Str},its.length=ss.length→(∀(j:Nat) v,its[j]?=some v→∃z t,ss[j]?=some z∧v=.str z t)→StrsAre its ss
 | [],[],_,_=>.nil
 | [],_::_,h,_=>by simp at h
 | _::_,[],h,_=>by simp at h
 | v::its,z::ss,h,hv=>by
  obtain ⟨z',t,e1,e2⟩:=hv 0 v rfl
  cases e1
  rw [e2]
  exact .cons _ _ (a3C (by simpa using h) fun j u e=>by
   obtain ⟨a,b,c,d⟩:=hv (j+1) u (by simpa using e)
   exact ⟨a,b,by simpa using c,d⟩)
theorem b7p:∀{r:List (Key×V)} {rs:List (Key×Value)},KV r rs→∀{i:Nat} {k:Key} {x:Value},rs[i]?=some (k,x)→∃y,r[i]?=some (k,y)∧a0Q y x:=by
 intro r rs h
 unfold KV at h
 induction h with
 | nil=>intro i k x e;simp at e
 | @cons p q ps qs h t ih=>
  intro i k x e
  cases i with
  | zero=>
   simp only [Qa,Option.some.injEq] at e
   subst e
   exact ⟨p.2,by simp only [Qa];rw [show (k,p.2)=p from by rw [←show p.1=k from h.1]],h.2⟩
  | succ i=>exact ih (by simpa using e)
theorem a6Z (hc:X.calm=true):a1q X (.builtin "sorted") b1P:=by
 intro pins s σ H xs us Q I r h
 obtain ⟨p,kvs,ss,rfl,hq,hks,h64,q⟩:=h
 obtain ⟨u,rfl,ru⟩:=a2d r
 cases ru
 obtain ⟨z,hd,vs,rel,dd⟩:=a6U I.hok hq
 obtain ⟨ep,hat⟩:=dd.dictAt
 have hn:vs.length=ss.length:=by rw [←rel.length];have:=congrArg Za hks;simpa using this
 refine Calls.call_function_entry kind_sorted plain_sorted entry_sorted (args_sorted1 _) ?_
 unfold Builtin.«sorted»
 refine wpAny_bind (m:=checkCount "sorted" 1 1 _) (wpAny_pure ?_)
 refine wpAny_bind (kdu_collect (A:=X.A.in1) (kdl_dict (knd:=a0N X.prog X.w) (kvs:=vs) (ep:=ep) hd) (I.ok.hd hc) hat (by rw [sizeLine_eq];omega) fun h' tk acc hk hacc=>?_)
 have hal:acc.toList.length=ss.length:=by rw [Zs];exact hacc.1.trans hn
 have hS:StrsAre acc.toList ss:=a3C hal fun j v e=>by
  obtain ⟨k,x,hx,hkv⟩:=hacc.2 j v (by rw [←Array.getElem?_toList];exact e)
  obtain ⟨y,hy,_⟩:=b7p rel hx
  have h1:(kvs.map (·.1))[j]?=some k:=by rw [Qz,hy];rfl
  rw [hks,Qz] at h1
  cases e2:ss[j]? with
  | none=>rw [e2] at h1;cases h1
  | some z'=>
   rw [e2] at h1
   cases h1
   obtain ⟨t,ht⟩:=b2j hkv
   exact ⟨z',t,rfl,ht⟩
 refine wpAny_bind (wpAny_newList ?_ (by rw [hal,sizeLine_eq];omega))
 have hoL:(h'.push (seqObj "list" acc.toList.toArray 0)).get? h'.objs.size=some (seqObj "list" acc.toList.toArray 0):=Xf _ rfl
 refine wpAny_bind (wpAny_holding (wpAny_call_entry slot_list_sort ⟨_,hoL,rfl⟩ entry_list_sort (list_sort_treeK (s:={s with heap:=h'.push (seqObj "list" acc.toList.toArray 0),toks:=tk}) (vs:=acc.toList) strKind_oneLt hoL hS.keysOf (fun v₁ v₂ a3n e=>keyKind_strs (by rw [←e];exact hS)) ‹om› fun st' a1 a2=>⟨_,rfl,?_⟩) (args_list_sort _)))
 refine wpAny_pure ⟨_,rfl,?_⟩
 obtain ⟨ss',b1,b2,b3⟩:=sorted_out_str hS a1 a2
 generalize (arrOf st').map (·.2)=out at b1 ⊢
 obtain ⟨e,he⟩:=sortedHeap_at (out:=out) hoL
 have hl:ss'.length < 64:=by rw [b2.length_eq];exact h64
 have I1:=I.kept (t':=tk) hk
 have I2:=I1.laid (a:=h'.objs.size) (o:=.lst (ss'.map V.str)) (h':=sortedHeap (h'.push (seqObj "list" acc.toList.toArray 0)) h'.objs.size acc.toList out) (t':=tk) (fun b o e=>by
  have hb:b < h'.objs.size:=Qo e
  rw [sortedHeap_old (Qt hb) (by rw [size_push'];exact Zd hb)]
  exact Qm _ e) (Qk _) ⟨by rw [Qd,sizeLine_eq];omega,out.toList,e,a4f b1,he⟩
 exact ⟨.ref h'.objs.size,_,I2,rfl,q _ _ (I1.hok.fresh (Qk _)) b2 b3⟩
def a2q (H:Hp):V→Int×Str
 | .ref a=>match H a with
  | some (.tup [.int i,.str z])=>(i,z)
  | _=>(0,"")
 | _=>(0,"")
def ltP (x y:Int×Str):Bool:=if x.1=y.1 then (if x.2=y.2 then false else decide (x.2.cps.toList < y.2.cps.toList)) else decide (x.1 < y.1)
theorem b0P {P:Program} {w:World} {H:Hp} {h:Heap} {a:Addr} {i:Int} {z:Str} (ok:a1f P w H h a (.tup [.int i,.str z])):∃o n t t',h.get? a=some o∧o.cls=.type "tuple"∧o.data=.seq #[.int i t,.str z t'] n:=by
 obtain ⟨_,its,rv,o,ho,hc,n,hd⟩:=ok
 cases rv with
 | cons h1 r=>
  cases r with
  | cons h2 r=>
   cases r
   obtain ⟨t,rfl⟩:=h1
   obtain ⟨t',rfl⟩:=h2
   exact ⟨o,n,t,t',ho,hc,hd⟩
theorem a8T {P:Program} {w:World} {H:Hp} {h h':Heap} (hok:∀a o,H a=some o→a1f P w H h a o) (hk:∀b o,h.get? b=some o→h'.get? b=some o):∀{ys:List V} {its:List Value},a0G ys its→(∀v∈ys,∃a i z,v=.ref a∧H a=some (.tup [.int i,.str z]))→
  ∃fs,KatTups h' its fs∧fs.length=its.length∧∀v∈fs,∃i t,v=.int i t
 | [],_,r,_=>by cases r;exact ⟨[],trivial,rfl,by simp⟩
 | y::ys,_,r,hT=>by
  cases r with
  | cons h1 r=>
   obtain ⟨fs,g1,g2,g3⟩:=a8T hok hk r fun v hv=>hT v (Qs _ hv)
   obtain ⟨a,i,z,rfl,ha⟩:=hT y Qu
   cases h1
   obtain ⟨o,n,t,t',e1,e2,e3⟩:=b0P (hok _ _ ha)
   refine ⟨.int i t::fs,KatTups.cons (hk _ _ e1) e2 e3 rfl g1,by simp [g2],fun v hv=>?_⟩
   rcases Qw.mp hv with e | e
   ·exact ⟨i,t,e⟩
   ·exact g3 v e
theorem a4O {ys:List V} {its:List Value} (r:a0G ys its):∀(l:List Nat),(∀i∈l,i < ys.length)→a0G (l.map fun i=>ys.getD i .non) (l.map fun i=>its.getD i Value.none)
 | [],_=>.nil
 | i::l,h=>by
  have hi:=h i Qu
  obtain ⟨u,hu,ru⟩:=r.get (Qe hi)
  refine .cons ?_ (a4O r l fun j hj=>h j (Qs _ hj))
  show a0Q (ys.getD i .non) (its.getD i Value.none)
  rw [Zk,Qe hi,Zk,hu]
  exact ru
theorem a7f (vs:List V):(Yi vs.length).map (fun i=>vs.getD i .non)=vs:=by
 refine Uz (by simp) fun i h1 h2=>?_
 simp [h2]
theorem a6y:a1q X (.builtin "sorted") (b1a X.K):=by
 intro pins s σ H xs us Q I r h
 obtain ⟨p,ys,rfl,hq,h64,hT,q⟩:=h
 obtain ⟨u,rfl,ru⟩:=a2d r
 cases ru
 obtain ⟨its,rv,pl,hz⟩:=I.list hq
 have hn:=rv.length
 have hat:∀i,i < its.length→∃a o n t t',its.getD i Value.none=.ref a∧s.heap.get? a=some o∧o.data=.seq #[.int (a2q H (ys.getD i .non)).1 t,.str (a2q H (ys.getD i .non)).2 t'] n:=fun i hi=>by
  have hi':i < ys.length:=by omega
  obtain ⟨u,hu,ru⟩:=rv.get (Qe hi')
  obtain ⟨a,m,z,e,ha⟩:=hT _ (Qx hi')
  rw [e] at ru
  cases ru
  obtain ⟨o,n,t,t',e1,e2,e3⟩:=b0P (I.hok _ _ ha)
  have ep:a2q H (ys.getD i .non)=(m,z):=by
   rw [Zk,Qe hi',Yu,e]
   show (match H a with | some (.tup [.int i,.str z])=>(i,z) | _=>(0,""))=(m,z)
   rw [ha]
  rw [ep]
  exact ⟨a,o,n,t,t',by rw [Zk,hu];rfl,e1,e3⟩
 refine Calls.call_function_entry kind_sorted plain_sorted entry_sorted (args_sorted1 _) ?_
 unfold Builtin.«sorted»
 refine wpAny_bind (m:=checkCount "sorted" 1 1 _) (wpAny_pure ?_)
 refine wpAny_bind (collect_list pl.isList ?_ (by rw [sizeLine_eq];omega))
 refine wpAny_bind (wpAny_newList ?_ (by rw [sizeLine_eq];omega))
 have hsz:((s.heap.push (seqObj "list" #[] 0)).update s.heap.objs.size (Obj.mapSeq (·++its.toArray))).objs.size=s.heap.objs.size+1:=by
  rw [Va,size_push']
 have hoL:(((s.heap.push (seqObj "list" #[] 0)).update s.heap.objs.size (Obj.mapSeq (·++its.toArray))).push (seqObj "list" its.toArray 0)).get? (s.heap.objs.size+1)=some (seqObj "list" its.toArray 0):=by
  rw [←hsz];exact Xf _ rfl
 have keep:∀b o,s.heap.get? b=some o→(((s.heap.push (seqObj "list" #[] 0)).update s.heap.objs.size (Obj.mapSeq (·++its.toArray))).push (seqObj "list" its.toArray 0)).get? b=some o:=fun b o q=>by
  have hlt:b < s.heap.objs.size:=Qo q
  rw [Jb _ _ _ (by rw [hsz];exact Qt (Zd hlt)),Wd _ _ _ _ (Qt hlt),Jb _ _ _ (Qt hlt)]
  exact q
 show wpAny _ _ _ _ _ {s with heap:=((s.heap.push (seqObj "list" #[] 0)).update s.heap.objs.size (Obj.mapSeq (·++its.toArray))).push (seqObj "list" its.toArray 0)}
 rw [hsz]
 have keep2:∀h':Heap,(∀b o,b≠s.heap.objs.size+1→(((s.heap.push (seqObj "list" #[] 0)).update s.heap.objs.size (Obj.mapSeq (·++its.toArray))).push (seqObj "list" its.toArray 0)).get? b=some o→h'.get? b=some o)→∀b o,s.heap.get? b=some o→h'.get? b=some o:=fun h' hk b o e=>hk b o (Qt (Zd (Qo e))) (keep b o e)
 refine wpAny_bind (wpAny_holding (wpAny_call_entry slot_list_sort ⟨_,hoL,rfl⟩ entry_list_sort (a2O (s:={s with heap:=((s.heap.push (seqObj "list" #[] 0)).update s.heap.objs.size (Obj.mapSeq (·++its.toArray))).push (seqObj "list" its.toArray 0)}) hoL ‹om›
  (fun i j=>ltP (a2q H (ys.getD i .non)) (a2q H (ys.getD j .non))) (tuples' true) ?hk ?hask fun pp hp _=>⟨_,rfl,?fin⟩) (args_list_sort _)))
 case hk=>
  intro h2 h' hkp Q' hQ'
  obtain ⟨fs,g1,g2,g3⟩:=a8T (h':=h') (fun a o e=>I.hok a o e) (keep2 h' hkp) rv hT
  refine kat_kind (T:=.type "int") g1 ‹om› (fun v hv=>?_) ‹dc› hQ'
  obtain ⟨i,t,rfl⟩:=g3 v hv
  exact .now
 case hask=>
  intro h' hkp i j C hi hj hC
  obtain ⟨a,oa,na,ta,ta',ea,ha,da⟩:=hat i hi
  obtain ⟨b,ob,nb,tb,tb',eb,hb,db⟩:=hat j hj
  unfold kas_ask
  rw [ea,eb]
  refine kat_lt (keep2 h' hkp _ _ ha) da (keep2 h' hkp _ _ hb) db ?_
  have hC':C (ltP (a2q H (ys.getD i .non)) (a2q H (ys.getD j .non))) {s with heap:=h'}:=hC
  generalize a2q H (ys.getD i .non)=x at hC' ⊢
  generalize a2q H (ys.getD j .non)=y at hC' ⊢
  unfold ltP at hC'
  show KatLex _ _ _ _ _ _ [(.int x.1 ta,.int y.1 tb),(.str x.2 ta',.str y.2 tb')] 0 _
  refine kat_cons (wpAny_eqBool_int ?_)
  by_cases h1:x.1=y.1
  ·rw [show (x.1 == y.1)=true from by rw [h1];exact beq_self_eq_true _]
   rw [if_pos h1] at hC'
   refine kat_yes (kat_cons (wpAny_eqBool_str ?_))
   by_cases h2:x.2=y.2
   ·rw [decide_eq_true h2]
    rw [if_pos h2] at hC'
    exact kat_yes (kat_nil (by simpa using hC'))
   ·rw [decide_eq_false h2]
    rw [if_neg h2] at hC'
    refine kat_no ?_
    show wpAny _ _ (oneLt' (true && (0+1) == 0) _ _) _ _ _
    rw [show (true && (0+1) == 0)=false from rfl]
    exact kat_one _ _ (PySem.P.lt_str hC')
  ·rw [show (x.1 == y.1)=false from beq_eq_false_iff_ne.mpr h1]
   rw [if_neg h1] at hC'
   refine kat_no ?_
   exact oneLt_int hC'
 case fin=>
  refine wpAny_pure ⟨_,rfl,?_⟩
  obtain ⟨e,he⟩:=sortedHeap_at (out:=Zg (pp.toList.map fun i=>its.getD i Value.none)) hoL
  have hpl:∀i∈pp.toList,i < ys.length:=fun i hi=>by
   have:=hp.list.mem_iff.mp hi
   rw [Vo] at this;omega
  have hplen:pp.toList.length=its.length:=by rw [hp.list.length_eq,Up]
  have I2:=I.laid (a:=s.heap.objs.size+1) (o:=.lst (pp.toList.map fun i=>ys.getD i .non)) (h':=sortedHeap (((s.heap.push (seqObj "list" #[] 0)).update s.heap.objs.size (Obj.mapSeq (·++its.toArray))).push (seqObj "list" its.toArray 0)) (s.heap.objs.size+1) its (Zg (pp.toList.map fun i=>its.getD i Value.none))) (t':=s.toks) (fun b o e=>by
   have hb:b < s.heap.objs.size:=Qo e
   rw [sortedHeap_old (Qt (Zd hb)) (by rw [size_push',hsz];exact Zd (Zd hb))]
   exact keep b o e) (Zf _) ⟨by rw [Qd,sizeLine_eq];omega,pp.toList.map fun i=>its.getD i Value.none,e,a4O rv _ hpl,he⟩
  refine ⟨.ref (s.heap.objs.size+1),_,I2,rfl,q _ _ (I.hok.fresh (Zf _)) ?_⟩
  have h1:=hp.list.map fun i=>ys.getD i .non
  rw [←hn,a7f] at h1
  exact h1
theorem a4D (hc:X.calm=true):a1q X (.builtin "sorted") (b8q X.K):=a1q.or a6G (a1q.or (a6Z hc) a6y)
theorem a2x:bootBuiltins "sorted"=some (.builtin "sorted"):=by decide+kernel
end
def c3N (K:Qc) (n:Nat) (t:TGs):TG:=fun v σ H Q=>∃a xs,v=.ref a∧SqL K H a xs∧xs.length=n∧t xs σ H Q
def a0o (H:Hp) (xs:List V) (pl:List (Str×Str)):Prop:=∃as:List Addr,xs=as.map V.ref∧as.length=pl.length∧∀(i:Nat) (a:Addr) (p:Str×Str),as[i]?=some a→pl[i]?=some p→H a=some (.tup [.str p.1,.str p.2])
def a9D (H:Hp) (a:Addr):Option (Str×Str):=match H a with
 | some (.tup [.str x,.str y])=>some (x,y)
 | _=>none
def c4o (K:Qc):R2:=fun x y H Q=>∃(q l:Addr) (a b:Str) (xs:List V) (pl:List (Str×Str)),x=.ref q∧y=.ref l∧H q=some (.tup [.str a,.str b])∧SqL K H l xs∧a0o H xs pl∧(Xb a=true∧Xb b=true)∧(∀p∈pl,Xb p.1=true∧Xb p.2=true)∧Q (.bl (decide ((a,b)∈pl))) H
section
variable {X:Cx} {pos:Pos}
theorem b4Q {es:List Expr} {k:Nat} {t:TGs} {n:Nat} (hc:X.calm=true) (h:PGs X es t)
  (hn:(assignEach es X.env).length=n:=by rfl) (hst:(assignEach es X.env).findIdx? (·.1)=none:=by rfl):PG X (.Tuple es k pos) (c3N X.K n t):=by
 intro pins s σ H v u Q I r hw
 obtain ⟨a,xs,e1,hq,hl,hw⟩:=hw
 subst e1
 cases r
 obtain ⟨its,rv,pl,hz⟩:=I.list hq
 have hsz:(assignEach es X.env).length=its.toArray.size:=by rw [hn,←hl,rv.length];simp
 rw [assign_Tuple]
 refine wpAny_bind (wpAny_standAt ?_)
 unfold unpack
 rw [hsz,hst]
 refine wpAny_bind (wpAny_holding (kun_itemsOf (I.ok.hd hc) pl.isList fun h' hx=>?_))
 have I1:Inv X pins σ H {s with heap:=h'}:=I.kept (t':=s.toks) fun b o e=>hx b o (Qt (Qo e)) e
 exact h pins _ σ H xs _ Q I1 (by simpa using rv) hw
theorem a5v {K:Qc} {H:Hp} {a:Addr} {x y:Str} (h:H a=some (.tup [.str x,.str y])):Den K H (.ref a) (.tuple [.str x,.str y]):=.tup (SqT.of h) (.cons (.str x) (.cons (.str y) .nil))
theorem a5Z {x y:Str} (h1:Xb x=true) (h2:Xb y=true):Yz (.tuple [.str x,.str y])=true:=by
 show (Yz (.str x) && (Yz (.str y) && true))=true
 rw [show Yz (.str x)=true from h1,show Yz (.str y)=true from h2];rfl
theorem a5F (x y a b:Str):Xs (.tuple [.str x,.str y]) (.tuple [.str a,.str b])=decide ((x,y)=(a,b)):=by
 have e:Xs (.tuple [.str x,.str y]) (.tuple [.str a,.str b])=(decide (x=a) && (decide (y=b) && true)):=by first | rfl | simp [Xs,Yx]
 rw [e]
 by_cases h1:x=a<;>by_cases h2:y=b<;>simp [h1,h2]
theorem b5x (hu:X.A.units+64 < cLine):OpR X (compareOp .In) (c4o X.K):=by
 intro pins s σ H x y v u Q I rx ry h
 obtain ⟨q,l,a,b,xs,pl,rfl,rfl,hq,hl,⟨as,rfl,hal,hat⟩,hab,hpo,qq⟩:=h
 cases rx
 cases ry
 obtain ⟨its,rv,p1,hz⟩:=I.list hl
 have hits:its=as.map Value.ref:=by
  have:∀{as:List Addr} {its:List Value},a0G (as.map V.ref) its→its=as.map Value.ref:=by
   intro as
   induction as with
   | nil=>intro its r;cases r;rfl
   | cons a as ih=>
    intro its r
    cases r with
    | cons h t=>cases h;rw [ih t];rfl
  exact this rv
 subst hits
 have hpr:∀c∈as,∃p∈pl,H c=some (.tup [.str p.1,.str p.2]):=fun c hc=>by
  obtain ⟨i,hi,rfl⟩:=Ub hc
  have hi':i < pl.length:=by omega
  exact ⟨pl[i],Qx hi',hat i _ _ (Qe hi) (Qe hi')⟩
 obtain ⟨bs,rb⟩:=(a5v (K:=X.K) hq).reads I (show a0Q (V.ref q) (Value.ref q) from rfl)
 refine SeqAt.in_listAt (fun w=>match w with | .ref c=>decide (a9D H c=some (a,b)) | _=>false) p1.isList (fun w hw=>?_) ⟨.bl _,H,I,rfl,?_⟩
 ·obtain ⟨c,hc,rfl⟩:=Xa.mp (show w∈as.map Value.ref by simpa using hw)
  obtain ⟨p,hp,hc2⟩:=hpr c hc
  obtain ⟨cs,rc⟩:=(a5v (K:=X.K) hc2).reads I (show a0Q (V.ref c) (Value.ref c) from rfl)
  have e0:=SeqAt.eqAt_reads _ _ X.A.in1 s _ _ _ _ rc rb (a5Z (hpo p hp).1 (hpo p hp).2) (a5Z hab.1 hab.2) (by
   have h1:min (Zq (.tuple [.str p.1,.str p.2])) (Zq (.tuple [.str a,.str b]))≤1:=Qi (Nat.min_le_left _ _) (by simp [Zq,Jv])
   have h2:X.A.in1.units≤X.A.units+1:=by first | exact Qk _ | exact Zf _ | (simp [Around.in1])
   omega)
  rw [a5F] at e0
  have e1:(match Value.ref c with | .ref c=>decide (a9D H c=some (a,b)) | _=>false)=decide ((p.1,p.2)=(a,b)):=by
   show decide (a9D H c=some (a,b))=_
   have:a9D H c=some (p.1,p.2):=by unfold a9D;rw [hc2]
   rw [this,Yl,decide_eq_true_eq,decide_eq_true_eq,Option.some.injEq]
  rw [e1];exact e0
 ·have e2:(Zg (as.map Value.ref)).any (fun w=>match w with | .ref c=>decide (a9D H c=some (a,b)) | _=>false)=decide ((a,b)∈pl):=by
   rw [List.any_toArray,Yw,Yl,Xy,decide_eq_true_eq]
   constructor
   ·rintro ⟨c,hc,e⟩
    obtain ⟨p,hp,hc2⟩:=hpr c hc
    have e':a9D H c=some (a,b):=of_decide_eq_true e
    have:a9D H c=some (p.1,p.2):=by unfold a9D;rw [hc2]
    rw [this] at e'
    have e3:p=(a,b):=Option.some.inj e'
    rw [←e3];exact hp
   ·intro hm
    obtain ⟨i,hi,e⟩:=Ub hm
    have hi':i < as.length:=by omega
    have h1:=hat i _ _ (Qe hi') (Qe hi)
    refine ⟨as[i],Qx hi',decide_eq_true ?_⟩
    unfold a9D;rw [h1,e]
  rw [e2];exact qq
end
def b5A (t u:TT):TT:=fun σ H Q=>t σ H Q∨u σ H Q
theorem b5H {X:Cx} {e:Expr} {t u:TT} (h1:PT X e t) (h2:PT X e u):PT X e (b5A t u):=fun pins s σ H Q I h=>h.elim (h1 pins s σ H Q I) (h2 pins s σ H Q I)
def c4b (K:Qc):R2:=fun x y H Q=>∃(a b:Addr) (xs:List V),x=.ref a∧y=.ref b∧SqL K H a xs∧SqL K H b []∧Q (.bl (decide (xs=[]))) H
section
variable {X:Cx}
theorem a5B (hu:X.A.units+64 < cLine):OpR X (compareOp .Eq) (c4b X.K):=by
 intro pins s σ H x y v u Q I rx ry h
 obtain ⟨a,b,xs,rfl,rfl,ha,hb,q⟩:=h
 cases rx
 cases ry
 obtain ⟨its,rv,p1,_⟩:=I.list ha
 obtain ⟨its2,rv2,p2,_⟩:=I.list hb
 have hl:=rv.length
 have hl2:=rv2.length
 cases rv2
 by_cases hx:xs=[]
 ·subst hx
  cases rv
  rw [decide_eq_true rfl] at q
  exact SeqAt.eq_listAt (e:=fun _=>true) p1.isList p2.isList rfl ‹om› (fun j h1 _=>absurd h1 (by simp)) ⟨.bl _,H,I,rfl,q⟩
 ·rw [decide_eq_false hx] at q
  refine SeqAt.eq_list_lengthsAt p1.isList p2.isList ?_ ‹om› ⟨.bl _,H,I,rfl,q⟩
  have:its.length≠0:=fun z=>hx (Zv.mp ‹om›)
  simp [this]
end
end L2
namespace L2
open PySem PySem.Spec PySem.W PyProof.Rows
theorem a1g.size {n:Nat} {p:Array Nat} (h:a1g n p):p.size=n:=by
 have:=Ga.size_eq h;simpa using this
theorem a1g.inj {n:Nat} {p:Array Nat} (h:a1g n p) {i j:Nat} (hi:i < n) (hj:j < n) (e:i≠j):p.getD i 0≠p.getD j 0:=by
 have nd:p.toList.Nodup:=(h.list.nodup_iff).mpr List.nodup_range
 have hs:=h.size
 rw [List.nodup_iff_pairwise_ne,List.pairwise_iff_getElem] at nd
 have e1:p.getD i 0=p[i]'‹om›:=by simp [Vw,show i < p.size by omega]
 have e2:p.getD j 0=p[j]'‹om›:=by simp [Vw,show j < p.size by omega]
 rw [e1,e2]
 rcases Nat.lt_or_gt_of_ne e with q | q
 ·exact nd i j (by simpa using (by omega:i < p.size)) (by simpa using (by omega:j < p.size)) q
 ·exact Ne.symm (nd j i (by simpa using (by omega:j < p.size)) (by simpa using (by omega:i < p.size)) q)
end L2
namespace L2
open PySem PySem.Spec PySem.W PyProof.Rows PySem.Builtin PySem.Builtin.ObjectAttr
def b0V:List Value→Bool
 | .ref _::r=>b0V r
 | [.type a,.type b,.type c,.type d]=>a == "ValueError" && b == "Exception" && c == "BaseException" && d == "object"
 | _=>false
def b5D (K:Qc) (C:Addr):Bool:=(clsIn K C).any fun cd=>b0V cd.mro
end L2
namespace L2
open PySem PySem.Spec PySem.W PySem.Calls PyProof.Rows PySem.Builtin PySem.Builtin.ObjectAttr
abbrev bmV:List Value:=[.type "ValueError",.type "Exception",.type "BaseException",.type "object"]
def c3f (K:Qc) (C:Addr):Bool:=match K.lookup C with
 | some ⟨.type "type",_,.cls cd,sl⟩=>(match cd.mro,sl.toList with
  | .ref C'::bm,[_,_,_,_,some (.builtin n),_]=>C' == C && n == "ValueError.__new__" && !cd.hasDel && !cd.abstract && tailIn K bmV bm && specialIn K (.ref C) "__call__" == some (some (.builtin "type.__call__")) && instIn K (.ref C) (.type "type") == some true
  | _,_=>false)
 | _=>false
structure c4l (K:Qc) (C:Addr):Prop where
 ga:findIn K (.ref C) "__getattribute__"=some (some (.builtin "BaseException.__getattribute__"))
 gt:findIn K (.ref C) "__getattr__"=some none
 bx:mroIn K C (.type "BaseException")=some true
 hd:hasDictIn K C=true
 cc:findIn K (.ref C) "__class__"=some (some (.builtin "object.__class__"))
 cg:specialIn K (.builtin "object.__class__") "__get__"=some (some (.builtin "getset_descriptor.__get__"))
 ct:takesIn K (.builtin "object.__class__")=some true
 mo:mroIn K C (.type "object")=some true
 sa:findIn K (.ref C) "__setattr__"=some (some (.builtin "object.__setattr__"))
 ov:b5D K C=true
 xc:c3f K C=true
end L2
namespace L2
open PySem PySem.Spec PySem.W PyProof.Rows
def b9q (x C:Addr) (od:Option Addr):HO:=.ext fun h=>∃vs sl,h.get? x=some ⟨.ref C,od,.fields vs,sl⟩∧vs[1]?=some Value.none
def c1k (x C:Addr) (od:Option Addr) (T:Addr):HO:=.ext fun h=>∃vs sl,h.get? x=some ⟨.ref C,od,.fields vs,sl⟩∧vs[1]?=some (Value.ref T)
def IsX (H:Hp) (x C:Addr) (od:Option Addr):Prop:=H x=some (b9q x C od)∨∃T,H x=some (c1k x C od T)
end L2
namespace L2
open PySem PySem.Spec PySem.W PySem.Calls PyProof.Rows
def c2x (H:Hp) (x C:Addr) (m:Str) (v:V):Prop:=∃d,IsX H x C (some d)∧H d=some (.xd [(m,v)])
def c0O (H:Hp) (x C:Addr):Option (Str×V)→Prop
 | some (m,v)=>c2x H x C m v
 | none=>IsX H x C none
def b3H (H:Hp):List Addr→List (Addr×Option (Str×V))→Prop
 | [],[]=>True
 | x::xs,e::es=>c0O H x e.1 e.2∧b3H H xs es
 | _,_=>False
theorem b3H.len {H:Hp}:∀{xs:List Addr} {es:List (Addr×Option (Str×V))},b3H H xs es→xs.length=es.length
 | [],[],_=>rfl
 | _::_,_::_,⟨_,b⟩=>congrArg (·+1) b.len
 | [],_::_,h=>h.elim
 | _::_,[],h=>h.elim
theorem b3H.get {H:Hp}:∀{xs:List Addr} {es:List (Addr×Option (Str×V))} {i:Nat} {e:Addr×Option (Str×V)},b3H H xs es→es[i]?=some e→∃x,xs[i]?=some x∧c0O H x e.1 e.2
 | _::_,_::_,0,_,⟨a,_⟩,h=>by cases h;exact ⟨_,rfl,a⟩
 | _::_,_::_,i+1,_,⟨_,b⟩,h=>b3H.get (i:=i) b (by simpa using h)
 | [],_::_,_,_,h,_=>h.elim
 | _::_,[],_,_,h,_=>h.elim
def TbO (T:Addr) (fl:Value):HO:=.ext fun h=>∃ob ts,h.get? T=some ob∧ob.data=.fields ts∧ts[3]?=some fl
def Fl (H:Hp) (x C:Addr) (od:Option Addr) (fl:Value) (T:Addr):Prop:=T≠x∧H x=some (c1k x C od T)∧H T=some (TbO T fl)
def Arr (H:Hp) (x C:Addr) (od oT:Option Addr):Prop:=(oT=none∧H x=some (b9q x C od))∨∃T,oT=some T∧Fl H x C od .none T
section
variable {X:Cx} {pins:List (Addr×Obj)} {σ:St} {H:Hp} {s:Shared}
abbrev XW:=St→Addr→Addr→Hp→Prop
def XP (X:Cx) (pins:List (Addr×Obj)) (W:XW) (e:Value) (s':Shared):Prop:=∃σ H x C od oT,e=.ref x∧Inv X pins σ H s'∧Arr H x C od oT∧c4l X.K C∧W σ x C H
end
end L2
namespace Tx
open PySem PySem.Builtin PySem.Builtin.Str PySem.StrLaws PyProof.Rows
theorem a2U (l:List Nat) (i j:Nat):(strSub (mk l) i j).length≤l.length:=by
 rw [b7g,a1Y]
 exact Qi (List.length_take_le' _ _) (by rw [Jr];omega)
end Tx
namespace L2
open PySem PySem.Spec PySem.W PySem.Calls PyProof.Rows
def c3w (K:Qc):R2:=fun x y H Q=>∃(a b:Addr) (xs:List V),x=.ref a∧y=.ref b∧SqL K H a xs∧SqL K H b []∧Q (.bl (decide (xs≠[]))) H
section
variable {X:Cx}
theorem b6X (hu:X.A.units+64 < cLine):OpR X (compareOp .NotEq) (c3w X.K):=by
 intro pins s σ H x y v u Q I rx ry h
 obtain ⟨a,b,xs,rfl,rfl,ha,hb,q⟩:=h
 cases rx
 cases ry
 obtain ⟨its,rv,p1,_⟩:=I.list ha
 obtain ⟨its2,rv2,p2,_⟩:=I.list hb
 have hl:=rv.length
 cases rv2
 by_cases hx:xs=[]
 ·subst hx
  cases rv
  rw [decide_eq_false (fun z=>z rfl)] at q
  exact SeqAt.RcNeAt.lists (e:=fun _=>true) p1.isList p2.isList rfl ‹om› (fun j h1 _=>absurd h1 (by simp)) X.prog X.w _ _ ⟨.bl _,H,I,rfl,q⟩
 ·rw [decide_eq_true hx] at q
  refine SeqAt.RcNeAt.lists_lengths p1.isList p2.isList ?_ ‹om› X.prog X.w _ _ ⟨.bl _,H,I,rfl,q⟩
  have:its.length≠0:=fun z=>hx (Zv.mp ‹om›)
  simp [this]
end
end L2
namespace L2
open PySem PySem.Spec PyProof.Rows PySem.W
end L2
namespace L2
open PySem PySem.Spec PyProof.Rows
def b9Q:R2:=fun x y H Q=>∃b c,x=.bl b∧y=.bl c∧Q (.bl (b == c)) H
def b6o:R2:=fun x y H Q=>∃b c,x=.bl b∧y=.bl c∧Q (.bl (!(b == c))) H
theorem b2v {b c:Bool} {H:Hp} {Q:VK}:b9Q (.bl b) (.bl c) H Q↔Q (.bl (b == c)) H:=⟨by rintro ⟨_,_,e1,e2,q⟩;cases e1;cases e2;exact q,fun q=>⟨_,_,rfl,rfl,q⟩⟩
theorem a5u {b c:Bool} {H:Hp} {Q:VK}:b6o (.bl b) (.bl c) H Q↔Q (.bl (!(b == c))) H:=⟨by rintro ⟨_,_,e1,e2,q⟩;cases e1;cases e2;exact q,fun q=>⟨_,_,rfl,rfl,q⟩⟩
section
variable {X:Cx}
theorem b6n:OpR X (compareOp .Is) b9Q:=by
 intro pins s σ H x y v u Q I rx ry h
 obtain ⟨b,c,rfl,rfl,q⟩:=h
 cases rx;cases ry
 unfold compareOp
 repeat wp_step
 exact a0z I q (by cases b<;>cases c<;>rfl)
theorem a4J:OpR X (compareOp .IsNot) b6o:=by
 intro pins s σ H x y v u Q I rx ry h
 obtain ⟨b,c,rfl,rfl,q⟩:=h
 cases rx;cases ry
 unfold compareOp
 repeat wp_step
 exact a0z I q (by cases b<;>cases c<;>rfl)
end
end L2
namespace L2
open PySem
theorem c4t {a b c:Prop} (h:a):a∨b∨c:=Or.inl h
theorem c3J {a b c:Prop} (h:b):a∨b∨c:=Or.inr (Or.inl h)
theorem c3y {a b c:Prop} (h:c):a∨b∨c:=Or.inr (Or.inr h)
end L2
namespace K52
open PySem L2 Tx
abbrev b6f:List Str:=["some","told","statement"]
theorem a7z:a0e b6f ["some"] (a0a a8v):=‹sk›
abbrev b3n:List Str:=["statements","some"]
theorem b4g:a0e b3n ["statements","some"] (a0a a6J):=‹sk›
abbrev b2g:List Str:=["statements","some"]
theorem b5a:a0e b2g ["statements","some"] (a0a a6Y):=‹sk›
abbrev b7l:List Str:=["statement"]
theorem b6K:a0e b7l ["statement"] (a0a a7q):=‹sk›
abbrev a6I:List Str:=["ground","some","ahead","text","ways","sure_rules"]
theorem a4P:a0e a6I ["ground","some"] (a0a a3X):=‹sk›
abbrev b2H:List Str:=["ground","rule","beaters"]
theorem b7f:a0e b2H ["ground","rule","beaters"] (a0a a6R):=‹sk›
abbrev b0v:List Str:=["ground","sures","held","refused","q","standing"]
theorem b1S:a0e b0v ["ground","sures","held","refused","q"] (a0a a5a):=‹sk›
abbrev a9T:List Str:=["ground","sures","held","refused","q","unfallen"]
theorem b0X:a0e a9T ["ground","sures","held","refused","q"] (a0a a5q):=‹sk›
abbrev b2e:List Str:=["rows","word"]
theorem b7o:a0e b2e ["rows","word"] (a0a a6L):=‹sk›
abbrev b4G:List Str:=["ground","sures","rows","claim","held","refused"]
theorem a9j:a0e b4G ["ground","sures","rows","claim"] (a0a a8i):=‹sk›
abbrev b3B:List Str:=["ground","paper","sures","rows"]
theorem a8y:a0e b3B ["ground","paper"] (a0a a6C):=‹sk›
abbrev b6M:List Str:=["self","label","head","body"]
theorem b3V:a0e b6M ["self","label","head","body"] (a0a a7W):=‹sk›
abbrev b5X:List Str:=["self"]
theorem b6W:a0e b5X ["self"] (a0a a9p):=‹sk›
abbrev b5R:List Str:=["self"]
theorem b5s:a0e b5R ["self"] (a0a a9g):=‹sk›
abbrev b5F:List Str:=["self","head"]
theorem b6l:a0e b5F ["self","head"] (a0a a7Q):=‹sk›
abbrev b4L:List Str:=["self"]
theorem b4v:a0e b4L ["self"] (a0a a9w):=‹sk›
abbrev b6D:List Str:=["self"]
theorem b5q:a0e b6D ["self"] (a0a a9f):=‹sk›
abbrev b6j:List Str:=["self"]
theorem b5P:a0e b6j ["self"] (a0a a7s):=‹sk›
abbrev b6s:List Str:=["self"]
theorem b3S:a0e b6s ["self"] (a0a a8w):=‹sk›
abbrev b4b:List Str:=["self"]
theorem b4K:a0e b4b ["self"] (a0a a8C):=‹sk›
abbrev b4p:List Str:=["self"]
theorem b5Q:a0e b4p ["self"] (a0a a8x):=‹sk›
abbrev b4h:List Str:=["self"]
theorem b4z:a0e b4h ["self"] (a0a a8p):=‹sk›
abbrev b5C:List Str:=["self","rules","pairs","rule","pair"]
theorem a8P:a0e b5C ["self","rules","pairs"] (a0a a7m):=‹sk›
abbrev b4H:List Str:=["self"]
theorem b7t:a0e b4H ["self"] (a0a a8K):=‹sk›
abbrev b5z:List Str:=["self","statement"]
theorem b6y:a0e b5z ["self","statement"] (a0a a9l):=‹sk›
abbrev b2t:List Str:=["self","statement"]
theorem b5Y:a0e b2t ["self","statement"] (a0a a6o):=‹sk›
abbrev b3Q:List Str:=["self","statement"]
theorem b4S:a0e b3Q ["self","statement"] (a0a a7i):=‹sk›
abbrev b5r:List Str:=["self","one","other"]
theorem b4m:a0e b5r ["self","one","other"] (a0a a8B):=‹sk›
abbrev b5i:List Str:=["_law_script","_law_k"]
theorem b7x:a0e b5i ["_law_script","_law_k"] (a0a a7u):=‹sk›
abbrev b4B:List Str:=["_law_cell","_law_k","_law_number"]
theorem a5T:a0e b4B ["_law_cell","_law_k"] (a0a a8M):=‹sk›
abbrev b2s:List Str:=["_law_cell","_law_many","_law_signs","_law_base","_law_size","_law_at","_law_found","_law_k","_law_other"]
theorem a2z:a0e b2s ["_law_cell","_law_many"] (a0a a6r):=‹sk›
abbrev b4D:List Str:=["_law_text"]
theorem b4P:a0e b4D ["_law_text"] (a0a a7Y):=‹sk›
abbrev b6B:List Str:=["_law_script","_law_names","_law_things","_law_some"]
theorem a4g:a0e b6B ["_law_script"] (a0a a9q):=‹sk›
abbrev b3Z:List Str:=["_law_pool_here","_law_number","_law_text"]
theorem b1m:a0e b3Z ["_law_pool_here","_law_number"] (a0a a7V):=‹sk›
abbrev b7z:List Str:=["_law_cell","_law_many","_law_size","_law_plain","_law_found","_law_rest","_law_j"]
theorem a4u:a0e b7z ["_law_cell","_law_many","_law_size","_law_plain"] (a0a a9h):=‹sk›
abbrev b2Z:List Str:=["_law_pool_here","_law_cell","_law_k","_law_plain","_law_many","_law_texts","_law_way","_law_label"]
theorem a4k:a0e b2Z ["_law_pool_here","_law_cell","_law_k","_law_plain"] (a0a a6S):=‹sk›
abbrev b5Z:List Str:=["_law_rules","_law_cell","_law_pairs_here","_law_k","_law_j","_law_way"]
theorem a4j:a0e b5Z ["_law_rules","_law_cell"] (a0a a7E):=‹sk›
abbrev b5M:List Str:=["_law_rules","_law_cell"]
theorem b4j:a0e b5M ["_law_rules","_law_cell"] (a0a a7C):=‹sk›
abbrev b2R:List Str:=["_law_script","_law_many","_law_pool_here","_law_cells","_law_plain","_law_rules","_law_pairs_here","_law_every","_law_text"]
theorem a2A:a0e b2R ["_law_script","_law_many"] (a0a a6v):=‹sk›
abbrev b6e:List Str:=["_law_rule_here"]
theorem b5V:a0e b6e ["_law_rule_here"] (a0a a8r):=‹sk›
abbrev b3W:List Str:=["_law_rule_here","_law_held","_law_text"]
theorem b1K:a0e b3W ["_law_rule_here","_law_held"] (a0a a9o):=‹sk›
abbrev b6b:List Str:=["_law_rule_here","_law_refused","_law_text"]
theorem b1d:a0e b6b ["_law_rule_here","_law_refused"] (a0a a8u):=‹sk›
abbrev b2C:List Str:=["_law_scene_here","_law_text"]
theorem b4t:a0e b2C ["_law_scene_here","_law_text"] (a0a a6F):=‹sk›
abbrev b2p:List Str:=["_law_scene_here","_law_text"]
theorem b4Z:a0e b2p ["_law_scene_here","_law_text"] (a0a a6x):=‹sk›
abbrev b6z:List Str:=["_law_scene_here","_law_rule_here","_law_others","_law_other"]
theorem b1q:a0e b6z ["_law_scene_here","_law_rule_here","_law_others"] (a0a a7I):=‹sk›
abbrev b2F:List Str:=["_law_scene_here","_law_sures_here","_law_held","_law_refused","_law_text","_law_standing","_law_rule_here"]
theorem a9u:a0e b2F ["_law_scene_here","_law_sures_here","_law_held","_law_refused","_law_text"] (a0a a7e):=‹sk›
abbrev b2y:List Str:=["_law_scene_here","_law_sures_here","_law_held","_law_refused","_law_text","_law_left","_law_rule_here"]
theorem a8t:a0e b2y ["_law_scene_here","_law_sures_here","_law_held","_law_refused","_law_text"] (a0a a6V):=‹sk›
abbrev b5p:List Str:=["_law_scene_here","_law_found","_law_last","_law_rule_here"]
theorem a4X:a0e b5p ["_law_scene_here"] (a0a a7K):=‹sk›
abbrev b5G:List Str:=["_law_scene_here","_law_sures_here","_law_held","_law_refused","_law_rows","_law_last","_law_text"]
theorem a3a:a0e b5G ["_law_scene_here","_law_sures_here"] (a0a a8g):=‹sk›
abbrev b1Y:List Str:=["_law_scene_here","_law_some","_law_there","_law_text","_law_rests"]
theorem a5x:a0e b1Y ["_law_scene_here","_law_some"] (a0a a6B):=‹sk›
abbrev b4f:List Str:=["_law_scene_here","_law_sures_here","_law_rows","_law_held","_law_refused","_law_word","_law_text"]
theorem a4p:a0e b4f ["_law_scene_here","_law_sures_here","_law_rows"] (a0a a8X):=‹sk›
abbrev b3Y:List Str:=["_law_some","_law_cell","_law_at","_law_other","_law_left"]
theorem a5N:a0e b3Y ["_law_some","_law_cell"] (a0a a7v):=‹sk›
abbrev b4l:List Str:=["_law_scene_here","_law_sures_here","_law_rows","_law_cell","_law_way","_law_rest","_law_at","_law_claim","_law_word","_law_cut"]
theorem a2P:a0e b4l ["_law_scene_here","_law_sures_here","_law_rows","_law_cell"] (a0a a7U):=‹sk›
abbrev a8j:List Str:=["_law_script","_law_scene_here","_law_ground","_law_sures_here","_law_rows","_law_cell","_law_some","_law_claims","_law_handed","_law_found","_law_word","_law_bad"]
theorem a0Y:a0e a8j ["_law_script"] (a0a a3l):=‹sk›
set_option genInjectivity false in
set_option genSizeOf false in
structure Adr where
 f_z1r:Addr
 fd_z1r:FuncData
 f_z0s:Addr
 fd_z0s:FuncData
 f_z0t:Addr
 fd_z0t:FuncData
 f_z16:Addr
 fd_z16:FuncData
 f_z0c:Addr
 fd_z0c:FuncData
 f_z0u:Addr
 fd_z0u:FuncData
 f_z17:Addr
 fd_z17:FuncData
 f_z0j:Addr
 fd_z0j:FuncData
 f_z0v:Addr
 fd_z0v:FuncData
 f_z1d:Addr
 fd_z1d:FuncData
 f_z1e:Addr
 fd_z1e:FuncData
 f_z0w:Addr
 fd_z0w:FuncData
 f_z0d:Addr
 fd_z0d:FuncData
 f_z04:Addr
 fd_z04:FuncData
 f_z0y:Addr
 fd_z0y:FuncData
 f_z0z:Addr
 fd_z0z:FuncData
 f_z06:Addr
 fd_z06:FuncData
 f_z10:Addr
 fd_z10:FuncData
 f_z07:Addr
 fd_z07:FuncData
 f_z11:Addr
 fd_z11:FuncData
 f_z0o:Addr
 fd_z0o:FuncData
 f_z08:Addr
 fd_z08:FuncData
 f_z0g:Addr
 fd_z0g:FuncData
 f_z09:Addr
 fd_z09:FuncData
 f_z03:Addr
 fd_z03:FuncData
 f_z01:Addr
 fd_z01:FuncData
 f_z02:Addr
 fd_z02:FuncData
 f_z0a:Addr
 fd_z0a:FuncData
 f_z12:Addr
 fd_z12:FuncData
 f_z1s:Addr
 fd_z1s:FuncData
 f_z1f:Addr
 fd_z1f:FuncData
 f_z13:Addr
 fd_z13:FuncData
 f_z1n:Addr
 fd_z1n:FuncData
 f_z1g:Addr
 fd_z1g:FuncData
 f_z14:Addr
 fd_z14:FuncData
 f_z1o:Addr
 fd_z1o:FuncData
 f_z1h:Addr
 fd_z1h:FuncData
 f_z1a:Addr
 fd_z1a:FuncData
 f_z1i:Addr
 fd_z1i:FuncData
 f_z1p:Addr
 fd_z1p:FuncData
 f_z1b:Addr
 fd_z1b:FuncData
 f_z1j:Addr
 fd_z1j:FuncData
 f_z0p:Addr
 fd_z0p:FuncData
 f_z15:Addr
 fd_z15:FuncData
 f_z1c:Addr
 fd_z1c:FuncData
 f_z0q:Addr
 fd_z0q:FuncData
 f_z0b:Addr
 fd_z0b:FuncData
 f_z1k:Addr
 fd_z1k:FuncData
 f_z1l:Addr
 fd_z1l:FuncData
 f_z0r:Addr
 fd_z0r:FuncData
 f_z1t:Addr
 fd_z1t:FuncData
 f_z1m:Addr
 fd_z1m:FuncData
 f_z0i:Addr
 fd_z0i:FuncData
 f_d_law:Addr
 fd_d_law:FuncData
 C_Rule:Addr
 C_Fact:Addr
 C_Sure:Addr
 C_Most:Addr
 C_Block:Addr
 C_Ground:Addr
structure Txt (K:Qc) (mg:Str→Option Value) (t:Adr):Prop where
 F_z1r:Fun K "keyed" "keyed" a8v t.f_z1r t.fd_z1r
 b_z1r:a0p K t.fd_z1r ["some"] []
 g_z1r:mg "keyed"=some (.ref t.f_z1r)
 F_z0s:Fun K "all_among" "all_among" a6J t.f_z0s t.fd_z0s
 b_z0s:a0p K t.fd_z0s ["statements","some"] []
 g_z0s:mg "all_among"=some (.ref t.f_z0s)
 F_z0t:Fun K "any_among" "any_among" a6Y t.f_z0t t.fd_z0t
 b_z0t:a0p K t.fd_z0t ["statements","some"] []
 g_z0t:mg "any_among"=some (.ref t.f_z0t)
 F_z16:Fun K "opposite" "opposite" a7q t.f_z16 t.fd_z16
 b_z16:a0p K t.fd_z16 ["statement"] []
 g_z16:mg "opposite"=some (.ref t.f_z16)
 F_z0c:Fun K "is_sure_set" "is_sure_set" a3X t.f_z0c t.fd_z0c
 b_z0c:a0p K t.fd_z0c ["ground","some"] []
 g_z0c:mg "is_sure_set"=some (.ref t.f_z0c)
 F_z0u:Fun K "is_beaten" "is_beaten" a6R t.f_z0u t.fd_z0u
 b_z0u:a0p K t.fd_z0u ["ground","rule","beaters"] []
 g_z0u:mg "is_beaten"=some (.ref t.f_z0u)
 F_z17:Fun K "holds_by" "holds_by" a5a t.f_z17 t.fd_z17
 b_z17:a0p K t.fd_z17 ["ground","sures","held","refused","q"] []
 g_z17:mg "holds_by"=some (.ref t.f_z17)
 F_z0j:Fun K "refused_by" "refused_by" a5q t.f_z0j t.fd_z0j
 b_z0j:a0p K t.fd_z0j ["ground","sures","held","refused","q"] []
 g_z0j:mg "refused_by"=some (.ref t.f_z0j)
 F_z0v:Fun K "with_word" "with_word" a6L t.f_z0v t.fd_z0v
 b_z0v:a0p K t.fd_z0v ["rows","word"] []
 g_z0v:mg "with_word"=some (.ref t.f_z0v)
 F_z1d:Fun K "follows" "follows" a8i t.f_z1d t.fd_z1d
 b_z1d:a0p K t.fd_z1d ["ground","sures","rows","claim"] []
 g_z1d:mg "follows"=some (.ref t.f_z1d)
 F_z1e:Fun K "lets_by" "lets_by" a6C t.f_z1e t.fd_z1e
 b_z1e:a0p K t.fd_z1e ["ground","paper"] []
 g_z1e:mg "lets_by"=some (.ref t.f_z1e)
 F_z0w:Fun K "__init__" "Rule.__init__" a7W t.f_z0w t.fd_z0w
 b_z0w:a0p K t.fd_z0w ["self","label","head","body"] []
 F_z0d:Fun K "speaks" "Rule.speaks" a9p t.f_z0d t.fd_z0d
 b_z0d:a0p K t.fd_z0d ["self"] []
 F_z04:Fun K "is_sure" "Rule.is_sure" a9g t.f_z04 t.fd_z04
 b_z04:a0p K t.fd_z04 ["self"] []
 F_z0y:Fun K "__init__" "Fact.__init__" a7Q t.f_z0y t.fd_z0y
 b_z0y:a0p K t.fd_z0y ["self","head"] []
 F_z0z:Fun K "word" "Fact.word" a9w t.f_z0z t.fd_z0z
 b_z0z:a0p K t.fd_z0z ["self"] []
 F_z06:Fun K "is_sure" "Fact.is_sure" a9f t.f_z06 t.fd_z06
 b_z06:a0p K t.fd_z06 ["self"] []
 F_z10:Fun K "word" "Sure.word" a7s t.f_z10 t.fd_z10
 b_z10:a0p K t.fd_z10 ["self"] []
 F_z07:Fun K "is_sure" "Sure.is_sure" a8w t.f_z07 t.fd_z07
 b_z07:a0p K t.fd_z07 ["self"] []
 F_z11:Fun K "word" "Most.word" a8C t.f_z11 t.fd_z11
 b_z11:a0p K t.fd_z11 ["self"] []
 F_z0o:Fun K "word" "Block.word" a8x t.f_z0o t.fd_z0o
 b_z0o:a0p K t.fd_z0o ["self"] []
 F_z08:Fun K "speaks" "Block.speaks" a8p t.f_z08 t.fd_z08
 b_z08:a0p K t.fd_z08 ["self"] []
 F_z0g:Fun K "__init__" "Ground.__init__" a7m t.f_z0g t.fd_z0g
 b_z0g:a0p K t.fd_z0g ["self","rules","pairs"] []
 F_z09:Fun K "rules" "Ground.rules" a8K t.f_z09 t.fd_z09
 b_z09:a0p K t.fd_z09 ["self"] []
 F_z03:Fun K "ruling" "Ground.ruling" a9l t.f_z03 t.fd_z03
 b_z03:a0p K t.fd_z03 ["self","statement"] []
 F_z01:Fun K "speaking" "Ground.speaking" a6o t.f_z01 t.fd_z01
 b_z01:a0p K t.fd_z01 ["self","statement"] []
 F_z02:Fun K "against" "Ground.against" a7i t.f_z02 t.fd_z02
 b_z02:a0p K t.fd_z02 ["self","statement"] []
 F_z0a:Fun K "beats" "Ground.beats" a8B t.f_z0a t.fd_z0a
 b_z0a:a0p K t.fd_z0a ["self","one","other"] []
 F_z12:Fun K "_law_cell_at" "_law_cell_at" a7u t.f_z12 t.fd_z12
 b_z12:a0p K t.fd_z12 ["_law_script","_law_k"] []
 g_z12:mg "_law_cell_at"=some (.ref t.f_z12)
 F_z1s:Fun K "_law_mix" "_law_mix" a8M t.f_z1s t.fd_z1s
 b_z1s:a0p K t.fd_z1s ["_law_cell","_law_k"] []
 g_z1s:mg "_law_mix"=some (.ref t.f_z1s)
 F_z1f:Fun K "_law_words" "_law_words" a6r t.f_z1f t.fd_z1f
 b_z1f:a0p K t.fd_z1f ["_law_cell","_law_many"] []
 g_z1f:mg "_law_words"=some (.ref t.f_z1f)
 F_z13:Fun K "_law_opposed" "_law_opposed" a7Y t.f_z13 t.fd_z13
 b_z13:a0p K t.fd_z13 ["_law_text"] []
 g_z13:mg "_law_opposed"=some (.ref t.f_z13)
 F_z1n:Fun K "_law_pool" "_law_pool" a9q t.f_z1n t.fd_z1n
 b_z1n:a0p K t.fd_z1n ["_law_script"] []
 g_z1n:mg "_law_pool"=some (.ref t.f_z1n)
 F_z1g:Fun K "_law_drawn" "_law_drawn" a7V t.f_z1g t.fd_z1g
 b_z1g:a0p K t.fd_z1g ["_law_pool_here","_law_number"] []
 g_z1g:mg "_law_drawn"=some (.ref t.f_z1g)
 F_z14:Fun K "_law_numbers" "_law_numbers" a9h t.f_z14 t.fd_z14
 b_z14:a0p K t.fd_z14 ["_law_cell","_law_many","_law_size","_law_plain"] []
 g_z14:mg "_law_numbers"=some (.ref t.f_z14)
 F_z1o:Fun K "_law_rule" "_law_rule" a6S t.f_z1o t.fd_z1o
 b_z1o:a0p K t.fd_z1o ["_law_pool_here","_law_cell","_law_k","_law_plain"] []
 g_z1o:mg "_law_rule"=some (.ref t.f_z1o)
 F_z1h:Fun K "_law_pairs" "_law_pairs" a7E t.f_z1h t.fd_z1h
 b_z1h:a0p K t.fd_z1h ["_law_rules","_law_cell"] []
 g_z1h:mg "_law_pairs"=some (.ref t.f_z1h)
 F_z1a:Fun K "_law_turned" "_law_turned" a7C t.f_z1a t.fd_z1a
 b_z1a:a0p K t.fd_z1a ["_law_rules","_law_cell"] []
 g_z1a:mg "_law_turned"=some (.ref t.f_z1a)
 F_z1i:Fun K "_law_scene" "_law_scene" a6v t.f_z1i t.fd_z1i
 b_z1i:a0p K t.fd_z1i ["_law_script","_law_many"] []
 g_z1i:mg "_law_scene"=some (.ref t.f_z1i)
 F_z1p:Fun K "_law_firm" "_law_firm" a8r t.f_z1p t.fd_z1p
 b_z1p:a0p K t.fd_z1p ["_law_rule_here"] []
 g_z1p:mg "_law_firm"=some (.ref t.f_z1p)
 F_z1b:Fun K "_law_stands" "_law_stands" a9o t.f_z1b t.fd_z1b
 b_z1b:a0p K t.fd_z1b ["_law_rule_here","_law_held"] []
 g_z1b:mg "_law_stands"=some (.ref t.f_z1b)
 F_z1j:Fun K "_law_falls" "_law_falls" a8u t.f_z1j t.fd_z1j
 b_z1j:a0p K t.fd_z1j ["_law_rule_here","_law_refused"] []
 g_z1j:mg "_law_falls"=some (.ref t.f_z1j)
 F_z0p:Fun K "_law_speaking" "_law_speaking" a6F t.f_z0p t.fd_z0p
 b_z0p:a0p K t.fd_z0p ["_law_scene_here","_law_text"] []
 g_z0p:mg "_law_speaking"=some (.ref t.f_z0p)
 F_z15:Fun K "_law_against" "_law_against" a6x t.f_z15 t.fd_z15
 b_z15:a0p K t.fd_z15 ["_law_scene_here","_law_text"] []
 g_z15:mg "_law_against"=some (.ref t.f_z15)
 F_z1c:Fun K "_law_beaten" "_law_beaten" a7I t.f_z1c t.fd_z1c
 b_z1c:a0p K t.fd_z1c ["_law_scene_here","_law_rule_here","_law_others"] []
 g_z1c:mg "_law_beaten"=some (.ref t.f_z1c)
 F_z0q:Fun K "_law_may_hold" "_law_may_hold" a7e t.f_z0q t.fd_z0q
 b_z0q:a0p K t.fd_z0q ["_law_scene_here","_law_sures_here","_law_held","_law_refused","_law_text"] []
 g_z0q:mg "_law_may_hold"=some (.ref t.f_z0q)
 F_z0b:Fun K "_law_may_refuse" "_law_may_refuse" a6V t.f_z0b t.fd_z0b
 b_z0b:a0p K t.fd_z0b ["_law_scene_here","_law_sures_here","_law_held","_law_refused","_law_text"] []
 g_z0b:mg "_law_may_refuse"=some (.ref t.f_z0b)
 F_z1k:Fun K "_law_sures" "_law_sures" a7K t.f_z1k t.fd_z1k
 b_z1k:a0p K t.fd_z1k ["_law_scene_here"] []
 g_z1k:mg "_law_sures"=some (.ref t.f_z1k)
 F_z1l:Fun K "_law_grown" "_law_grown" a8g t.f_z1l t.fd_z1l
 b_z1l:a0p K t.fd_z1l ["_law_scene_here","_law_sures_here"] []
 g_z1l:mg "_law_grown"=some (.ref t.f_z1l)
 F_z0r:Fun K "_law_sure_set" "_law_sure_set" a6B t.f_z0r t.fd_z0r
 b_z0r:a0p K t.fd_z0r ["_law_scene_here","_law_some"] []
 g_z0r:mg "_law_sure_set"=some (.ref t.f_z0r)
 F_z1t:Fun K "_law_due" "_law_due" a8X t.f_z1t t.fd_z1t
 b_z1t:a0p K t.fd_z1t ["_law_scene_here","_law_sures_here","_law_rows"] []
 g_z1t:mg "_law_due"=some (.ref t.f_z1t)
 F_z1m:Fun K "_law_moved" "_law_moved" a7v t.f_z1m t.fd_z1m
 b_z1m:a0p K t.fd_z1m ["_law_some","_law_cell"] []
 g_z1m:mg "_law_moved"=some (.ref t.f_z1m)
 F_z0i:Fun K "_law_otherwise" "_law_otherwise" a7U t.f_z0i t.fd_z0i
 b_z0i:a0p K t.fd_z0i ["_law_scene_here","_law_sures_here","_law_rows","_law_cell"] []
 g_z0i:mg "_law_otherwise"=some (.ref t.f_z0i)
 F_d_law:Fun K "law" "law" a3l t.f_d_law t.fd_d_law
 b_d_law:a0p K t.fd_d_law ["_law_script"] []
 g_d_law:mg "law"=some (.ref t.f_d_law)
 k_HELD:∃u,mg "HELD"=some (.str "held" u)
 k_REFUSED:∃u,mg "REFUSED"=some (.str "refused" u)
 g_Rule:mg "Rule"=some (.ref t.C_Rule)
 g_Fact:mg "Fact"=some (.ref t.C_Fact)
 g_Sure:mg "Sure"=some (.ref t.C_Sure)
 g_Most:mg "Most"=some (.ref t.C_Most)
 g_Block:mg "Block"=some (.ref t.C_Block)
 g_Ground:mg "Ground"=some (.ref t.C_Ground)
 z_NotImplementedError:mg "NotImplementedError"=none
 z_all:mg "all"=none
 z_any:mg "any"=none
 z_bool:mg "bool"=none
 z_enumerate:mg "enumerate"=none
 z_int:mg "int"=none
 z_isinstance:mg "isinstance"=none
 z_len:mg "len"=none
 z_list:mg "list"=none
 z_range:mg "range"=none
 z_reversed:mg "reversed"=none
 z_sorted:mg "sorted"=none
 z_str:mg "str"=none
 z_tuple:mg "tuple"=none
 cm_Rule:b6R K t.C_Rule "__init__" t.f_z0w
 cl_Fact:Cls K t.C_Fact
 ty_Fact:TyI K t.C_Fact
 nf_Fact_label:a0H K t.C_Fact "label"
 nf_Fact_head:a0H K t.C_Fact "head"
 nf_Fact_body:a0H K t.C_Fact "body"
 mk_Fact:Mk K t.C_Fact t.f_z0y
 me_Fact_word:a3q K t.C_Fact "word" t.f_z0z
 me_Fact_speaks:a3q K t.C_Fact "speaks" t.f_z0d
 me_Fact_is_sure:a3q K t.C_Fact "is_sure" t.f_z06
 ki_Fact_Rule:Yd K (.ref t.C_Fact) (.ref t.C_Rule)=some true
 ki_Fact_Fact:Yd K (.ref t.C_Fact) (.ref t.C_Fact)=some true
 cl_Sure:Cls K t.C_Sure
 ty_Sure:TyI K t.C_Sure
 nf_Sure_label:a0H K t.C_Sure "label"
 nf_Sure_head:a0H K t.C_Sure "head"
 nf_Sure_body:a0H K t.C_Sure "body"
 mk_Sure:Mk K t.C_Sure t.f_z0w
 me_Sure_word:a3q K t.C_Sure "word" t.f_z10
 me_Sure_speaks:a3q K t.C_Sure "speaks" t.f_z0d
 me_Sure_is_sure:a3q K t.C_Sure "is_sure" t.f_z07
 ki_Sure_Rule:Yd K (.ref t.C_Sure) (.ref t.C_Rule)=some true
 ki_Sure_Sure:Yd K (.ref t.C_Sure) (.ref t.C_Sure)=some true
 cl_Most:Cls K t.C_Most
 ty_Most:TyI K t.C_Most
 nf_Most_label:a0H K t.C_Most "label"
 nf_Most_head:a0H K t.C_Most "head"
 nf_Most_body:a0H K t.C_Most "body"
 mk_Most:Mk K t.C_Most t.f_z0w
 me_Most_word:a3q K t.C_Most "word" t.f_z11
 me_Most_speaks:a3q K t.C_Most "speaks" t.f_z0d
 me_Most_is_sure:a3q K t.C_Most "is_sure" t.f_z04
 ki_Most_Rule:Yd K (.ref t.C_Most) (.ref t.C_Rule)=some true
 ki_Most_Most:Yd K (.ref t.C_Most) (.ref t.C_Most)=some true
 cl_Block:Cls K t.C_Block
 ty_Block:TyI K t.C_Block
 nf_Block_label:a0H K t.C_Block "label"
 nf_Block_head:a0H K t.C_Block "head"
 nf_Block_body:a0H K t.C_Block "body"
 mk_Block:Mk K t.C_Block t.f_z0w
 me_Block_word:a3q K t.C_Block "word" t.f_z0o
 me_Block_speaks:a3q K t.C_Block "speaks" t.f_z08
 me_Block_is_sure:a3q K t.C_Block "is_sure" t.f_z04
 ki_Block_Rule:Yd K (.ref t.C_Block) (.ref t.C_Rule)=some true
 ki_Block_Block:Yd K (.ref t.C_Block) (.ref t.C_Block)=some true
 cl_Ground:Cls K t.C_Ground
 ty_Ground:TyI K t.C_Ground
 nf_Ground_in_order:a0H K t.C_Ground "in_order"
 nf_Ground_by_head:a0H K t.C_Ground "by_head"
 nf_Ground_pairs:a0H K t.C_Ground "pairs"
 mk_Ground:Mk K t.C_Ground t.f_z0g
 me_Ground_rules:a3q K t.C_Ground "rules" t.f_z09
 me_Ground_ruling:a3q K t.C_Ground "ruling" t.f_z03
 me_Ground_speaking:a3q K t.C_Ground "speaking" t.f_z01
 me_Ground_against:a3q K t.C_Ground "against" t.f_z02
 me_Ground_beats:a3q K t.C_Ground "beats" t.f_z0a
 ki_Ground_Ground:Yd K (.ref t.C_Ground) (.ref t.C_Ground)=some true
def a7g:List Nat:=[97,98,99,100,101,102,103,104,105,106,107,108,109,110,111,112,113,114,115,116,117,118,119,120,121,122]
abbrev sv (l:List Nat):V:=.str (mk l)
theorem b4s:("abcdefghijklmnopqrstuvwxyz":Str)=mk a7g:=by decide+kernel
theorem b4u {c:Nat} (h:c∈a7g):c < 128:=by revert c;decide
theorem a2r {n:Nat} (h:n≤100000):n≤sizeLine:=Qi h ‹dc›
theorem b0u {l:List Nat} (h:∀c∈l,c < 1114112):Xb (mk l)=true:=by
 unfold Xb;simpa using h
def OkS (z:Str):Prop:=Xb z=true∧z.length≤40
theorem OkS.of {l:List Nat} (h:∀c∈l,c < 128) (hl:l.length≤40):OkS (mk l):=⟨b0u fun c hc=>by have:=h c hc;omega,by rw [a1Y];exact hl⟩
def b2S:Nat→Str
 | 0=>"fact"
 | 1=>"sure"
 | 2=>"most"
 | _=>"block"
abbrev Rw:=Nat×Str×Str×List Str
def a3G (r:Rw):Prop:=r.1 < 4∧(r.1=0→r.2.2.2=[]∧r.2.1="")∧OkS r.2.1∧OkS r.2.2.1∧(∀q∈r.2.2.2,OkS q)∧r.2.2.2.length≤4
def b6O (K:Qc):Sp:=fun vs H Q _=>∃(a:Addr) (ns:List Int) (k:Int),vs=[.ref a,.int k]∧SqL K H a (ns.map V.int)∧ns.length≤63∧0≤k∧k≤1000∧∀i,Q (.int i) H
def b6H:Sp:=fun vs H Q _=>∃(c k:Int),vs=[.int c,.int k]∧∀r:Int,0≤r→Q (.int r) H
theorem a1T {c k:Int} {H:Hp} {Q:VK} {E:XK}:b6H [.int c,.int k] H Q E↔∀r:Int,0≤r→Q (.int r) H:=⟨by rintro ⟨_,_,e,q⟩;cases e;exact q,fun q=>⟨_,_,rfl,q⟩⟩
def IsW (l:List Nat):Prop:=1≤l.length∧l.length≤8∧∀c∈l,c∈a7g
abbrev pv' (ps:List (List Nat)):List V:=ps.map fun l=>V.str (mk l)
def b2N (c:List Nat):List (List Nat)→List Nat
 | []=>[]
 | a::r=>a++r.flatMap fun b=>c++b
theorem a6H (c:List Nat):∀(r:List (List Nat)) (a:Array Nat),(r.map mk).foldl (fun acc p=>acc++(mk c).cps++p.cps) a=a++(r.flatMap fun b=>c++b).toArray:=by
 intro r
 induction r with
 | nil=>intro a;simp
 | cons b r ih=>
  intro a
  rw [Xp,List.foldl_cons,ih]
  show a++c.toArray++b.toArray++_=_
  simp
theorem a7O (c:List Nat) (xs:List (List Nat)):Txt.join (mk c) (xs.map mk)=mk (b2N c xs):=by
 cases xs with
 | nil=>rfl
 | cons a r=>
  show (⟨(r.map mk).foldl (fun acc p=>acc++(mk c).cps++p.cps) a.toArray⟩:Str)=_
  rw [a6H]
  simp [b2N,mk]
def b3v:Sp:=fun vs H Q _=>∃(c m:Int),vs=[.int c,.int m]∧(0≤m∧m≤8)∧∀(D:Addr) (ws:List (List Nat)) (H':Hp),a0h H H'→H D=none→H' D=some (.lst (pv' ws))→ws.length=m.toNat→(∀w∈ws,IsW w)→Q (.ref D) H'
theorem a3P (xs:List V) {n:Int} (h:0≤n):a3c xs none (some n)=xs.take n.toNat:=by
 unfold a3c HT.sIx
 simp only [Wn,Uh]
 rw [if_neg ‹om›]
 by_cases c:n.toNat≤xs.length
 ·rw [Vh c]
 ·rw [Nat.min_eq_right ‹om›,Vm (Qk _),Vm ‹om›]
def sgl (cs:List Nat):List (List Nat):=cs.map fun c=>[c]
theorem a5U (cs:List Nat):b2N [] (sgl cs)=cs:=by
 have h:∀r:List Nat,((sgl r).flatMap fun b=>[]++b)=r:=by
  intro r
  induction r with
  | nil=>rfl
  | cons c r ih=>
   have e:sgl (c::r)=[c]::sgl r:=rfl
   rw [e,List.flatMap_cons,ih];rfl
 cases cs with
 | nil=>rfl
 | cons c r=>
  show [c]++((sgl r).flatMap fun b=>[]++b)=_
  rw [h];rfl
theorem a8N:∀cs:List Nat,(((sgl cs).map mk).map (·.length)).sum=cs.length
 | []=>rfl
 | c::cs=>by
  have e:sgl (c::cs)=[c]::sgl cs:=rfl
  rw [e,Xp,Xp,List.sum_cons,a8N cs,a1Y]
  simp;omega
theorem a9c (cs:List Nat):(sgl cs).length=cs.length:=Qd _
theorem b1j:∀{ys:List V},(∀(i:Nat) v,ys[i]?=some v→∃c,v=sv [c]∧c∈a7g)→∃cs:List Nat,ys=pv' (sgl cs)∧∀c∈cs,c∈a7g
 | [],_=>⟨[],rfl,by simp⟩
 | y::ys,h=>by
  obtain ⟨cs,rfl,hc⟩:=b1j (ys:=ys) fun i v e=>h (i+1) v e
  obtain ⟨c,rfl,h0⟩:=h 0 y rfl
  refine ⟨c::cs,rfl,fun d hd=>?_⟩
  rcases Qw.mp hd with z | z
  ·rw [z];exact h0
  ·exact hc d z
theorem a9n (ws:List (List Nat)) (n:Nat):(pv' ws).take n=pv' (ws.take n):=(Zw).symm
theorem a5Y (cs:List Nat) (n:Nat):(sgl cs).take n=sgl (cs.take n):=(Zw).symm
theorem b2L (cs:List Nat) (j d:Nat):(pv' (sgl cs)).set j (sv [d])=pv' (sgl (cs.set j d)):=by
 unfold sgl
 rw [List.map_set]
 exact (List.map_set (f:=fun l=>V.str (mk l))).symm
theorem b1E {cs:List Nat} {k:Nat} (hl:cs.length=8) (hc:∀c∈cs,c∈a7g) (h1:1≤k) (h8:k≤8):IsW (cs.take k):=by
 refine ⟨by rw [Xu];omega,by rw [Xu];omega,fun c h=>hc c (Jw h)⟩
theorem a9O {p:Addr} {xs:List V} {k:Int} {v:V} {H:Hp} {Q:Hp→Prop} (h:H p=some (.lst xs)) (h0:0≤k) (h1:k < xs.length) (q:Q (upd H p (.lst (xs.set k.toNat v)))):b4A (.ref p) (.int k) v H Q:=
 ⟨p,xs,k,k.toNat,rfl,rfl,h,by unfold ixN;rw [if_pos h0,if_pos h1],q⟩
theorem b4N (ws:List (List Nat)) (w:List Nat):pv' ws++[sv w]=pv' (ws++[w]):=(Xo (f:=fun l=>V.str (mk l)) (l₁:=ws) (l₂:=[w])).symm
theorem a3b {α:Type} (d:α) (r:List α):atI (d::r) 0=some d:=by
 unfold atI ixN;rw [if_pos ‹dc›,if_pos (by simp only [Qj];omega)];rfl
def a7h (lb hd:V) (t:Addr):List (Str×V):=a1s "body" (.ref t) (a1s "head" hd (a1s "label" lb []))
theorem a1e (lb hd:V) (t:Addr):(a7h lb hd t).lookup ("label":Str)=some lb:=by
 unfold a7h;rw [a0i,if_neg ‹dk›,a0i,if_neg ‹dk›,a0i,if_pos rfl]
theorem a0R (lb hd:V) (t:Addr):(a7h lb hd t).lookup ("head":Str)=some hd:=by
 unfold a7h;rw [a0i,if_neg ‹dk›,a0i,if_pos rfl]
theorem a1z (lb hd:V) (t:Addr):(a7h lb hd t).lookup ("body":Str)=some (.ref t):=by
 unfold a7h;rw [a0i,if_pos rfl]
theorem b2X (lb hd:V) (t:Addr) {m:Str} (h1:¬m="body") (h2:¬m="head") (h3:¬m="label"):(a7h lb hd t).lookup m=none:=by
 unfold a7h;rw [a0i,if_neg h1,a0i,if_neg h2,a0i,if_neg h3];rfl
def a1A (H:Hp) (r C:Addr) (lb hd:V) (bs:List V):Prop:=∃dx t,H r=some (.ins C dx (a7h lb hd t))∧H t=some (.tup bs)
theorem a1A.same {H H':Hp} {r C:Addr} {lb hd:V} {bs:List V} (s:a0h H H') (h:a1A H r C lb hd bs):a1A H' r C lb hd bs:=let ⟨d,t,a,b⟩:=h;⟨d,t,s _ _ a,s _ _ b⟩
def b3R (K:Qc):Sp:=fun vs H Q _=>∃x C dx lb hd b bs,vs=[.ref x,lb,hd,.ref b]∧H x=some (.ins C dx [])∧(Cls K C∧a0H K C "label"∧a0H K C "head"∧a0H K C "body")∧(SqL K H b bs∨SqT K H b bs∧H b=some (.tup bs))∧
 ∀H',(∀c o,H c=some o→c≠x→H' c=some o)→a1A H' x C lb hd bs→Q .non H'
def b1W (K:Qc) (C:Addr):Sp:=fun vs H Q _=>∃x dx hd,vs=[.ref x,hd]∧H x=some (.ins C dx [])∧
 ∀H',(∀c o,H c=some o→c≠x→H' c=some o)→a1A H' x C (.str "") hd []→Q .non H'
def a2T (t:Adr):Nat→Addr
 | 0=>t.C_Fact
 | 1=>t.C_Sure
 | 2=>t.C_Most
 | _=>t.C_Block
def a0S (b:Bool):Sp:=fun vs H Q _=>∃x,vs=[x]∧Q (.bl b) H
theorem a2v {b:Bool} {x:V} {H:Hp} {Q:VK} {E:XK}:a0S b [x] H Q E↔Q (.bl b) H:=⟨by rintro ⟨_,e,q⟩;cases e;exact q,fun q=>⟨_,rfl,q⟩⟩
structure c2L (K:Qc) (t:Adr) (C:Addr):Prop where
 cl:Cls K C
 ty:TyI K C
 nl:a0H K C "label"
 nh:a0H K C "head"
 nb:a0H K C "body"
 kr:Yd K (.ref C) (.ref t.C_Rule)=some true
theorem a3Y {K:Qc} {mg:Str→Option Value} {t:Adr} (T:Txt K mg t) {kind:Nat} (h:kind < 4):c2L K t (a2T t kind):=by
 match kind,h with
 | 0,_=>exact ⟨T.cl_Fact,T.ty_Fact,T.nf_Fact_label,T.nf_Fact_head,T.nf_Fact_body,T.ki_Fact_Rule⟩
 | 1,_=>exact ⟨T.cl_Sure,T.ty_Sure,T.nf_Sure_label,T.nf_Sure_head,T.nf_Sure_body,T.ki_Sure_Rule⟩
 | 2,_=>exact ⟨T.cl_Most,T.ty_Most,T.nf_Most_label,T.nf_Most_head,T.nf_Most_body,T.ki_Most_Rule⟩
 | 3,_=>exact ⟨T.cl_Block,T.ty_Block,T.nf_Block_label,T.nf_Block_head,T.nf_Block_body,T.ki_Block_Rule⟩
def a9G (kind:Nat) (a b c d:Sp):Sp:=match kind with
 | 0=>a
 | 1=>b
 | 2=>c
 | _=>d
theorem a4c {kind:Nat} (h:kind < 4):a9G kind (a0S true) (a0S true) (a0S false) (a0S false)=a0S (decide ((kind:Int) < 2)):=by
 match kind,h with
 | 0,_=>rfl
 | 1,_=>rfl
 | 2,_=>rfl
 | 3,_=>rfl
theorem b4c {t:Adr} {m:Str} {s0 s1 s2 s3:Sp} {ta:TE} {σ:St} {H:Hp} {Q:VK} {r:Addr} {kind:Nat} {lb hd:V} {bs:List V} (hk:kind < 4) (hta:∀R:VK,R (.ref r) H→ta σ H R) (hR:a1A H r (a2T t kind) lb hd bs)
  (hm:¬m="body"∧¬m="head"∧¬m="label") (q:a9G kind s0 s1 s2 s3 [.ref r] H Q E0):
  b4n (a2n t.C_Fact m s0 [] E0 ta a0B) (b4n (a2n t.C_Sure m s1 [] E0 ta a0B) (b4n (a2n t.C_Most m s2 [] E0 ta a0B) (a2n t.C_Block m s3 [] E0 ta a0B))) σ H Q:=by
 obtain ⟨dx,t0,h1,_⟩:=hR
 have hn:=b2X lb hd t0 hm.1 hm.2.1 hm.2.2
 match kind,hk with
 | 0,_=>exact .inl (hta _ ⟨r,dx,_,rfl,h1,hn,q⟩)
 | 1,_=>exact .inr (.inl (hta _ ⟨r,dx,_,rfl,h1,hn,q⟩))
 | 2,_=>exact .inr (.inr (.inl (hta _ ⟨r,dx,_,rfl,h1,hn,q⟩)))
 | 3,_=>exact .inr (.inr (.inr (hta _ ⟨r,dx,_,rfl,h1,hn,q⟩)))
theorem a1c {i:Nat} {σ:St} {H:Hp} {v:V} (h:σ[i]?=some (some v)):∀R:VK,R v H→a0q i σ H R:=fun R q=>⟨v,h,q⟩
section
variable {α:Type} [DecidableEq α]
def a1B (b S:List α):Bool:=b.all fun q=>decide (q∈S)
theorem a1C {b S:List α}:a1B b S=true↔∀q∈b,q∈S:=by
 unfold a1B;rw [Ze]
 exact ⟨fun h q hq=>by simpa using h q hq,fun h q hq=>by simpa using h q hq⟩
end
theorem b7C:∀zs:List Str,(∀z∈zs,Xb z=true)→Uq (zs.map Yj)=true∧Jv (zs.map Yj)=0
 | [],_=>⟨rfl,rfl⟩
 | z::zs,h=>by
  obtain ⟨a,b⟩:=b7C zs fun p hp=>h p (Qs _ hp)
  refine ⟨?_,?_⟩
  ·show (Yz (.str z) && _)=true
   rw [a,Zx];exact h z Qu
  ·show max (Zq (.str z)) _=0
   rw [b];rfl
theorem a7F {zs:List Str} (h:∀z∈zs,Xb z=true):Zp (.list (zs.map Yj))=true:=by
 obtain ⟨a,b⟩:=b7C zs h
 unfold Zp
 simp only [Yz,Zq,a,b]
 decide
def a6d (t:Adr) (H:Hp) (v:V) (r:Rw):Prop:=∃p,v=.ref p∧a1A H p (a2T t r.1) (.str r.2.1) (.str r.2.2.1) (r.2.2.2.map V.str)
theorem a6d.same {t:Adr} {H H':Hp} {v:V} {r:Rw} (s:a0h H H') (h:a6d t H v r):a6d t H' v r:=let ⟨p,a,b⟩:=h;⟨p,a,b.same s⟩
structure a1L (t:Adr) (H:Hp) (xs:List V) (rs:List Rw):Prop where
 len:xs.length=rs.length
 get:∀(i:Nat) (r:Rw),rs[i]?=some r→∃x,xs[i]?=some x∧a6d t H x r
theorem a1L.same {t:Adr} {H H':Hp} {xs:List V} {rs:List Rw} (s:a0h H H') (h:a1L t H xs rs):a1L t H' xs rs:=⟨h.len,fun i r e=>let ⟨x,a,b⟩:=h.get i r e;⟨x,a,b.same s⟩⟩
theorem a1L.at {t:Adr} {H:Hp} {xs:List V} {rs:List Rw} (h:a1L t H xs rs) {i:Nat} (hi:i < xs.length):∃(hi':i < rs.length) (p:Addr),xs[i]=.ref p∧a1A H p (a2T t rs[i].1) (.str rs[i].2.1) (.str rs[i].2.2.1) (rs[i].2.2.2.map V.str):=by
 have hi':i < rs.length:=by rw [←h.len];exact hi
 obtain ⟨x,e,p,rfl,hp⟩:=h.get i rs[i] (Qe hi')
 rw [Qe hi] at e
 exact ⟨hi',p,Option.some.inj e,hp⟩
abbrev VR:=V×Rw
def a4b (t:Adr) (H:Hp) (ws:List VR):Prop:=∀p∈ws,a6d t H p.1 p.2∧a3G p.2
theorem a4b.same {t:Adr} {H H':Hp} {ws:List VR} (s:a0h H H') (h:a4b t H ws):a4b t H' ws:=fun p hp=>⟨(h p hp).1.same s,(h p hp).2⟩
theorem a1L.zip {t:Adr} {H:Hp}:∀{xs:List V} {rs:List Rw},a1L t H xs rs→(∀r∈rs,a3G r)→∃zr:List VR,zr.map (·.1)=xs∧zr.map (·.2)=rs∧a4b t H zr
 | [],[],_,_=>⟨[],rfl,rfl,fun _ h=>by cases h⟩
 | [],_::_,h,_=>by have:=h.len;simp at this
 | _::_,[],h,_=>by have:=h.len;simp at this
 | x::xs,r::rs,h,ho=>by
  have h':a1L t H xs rs:=⟨by have:=h.len;simpa using this,fun i r e=>h.get (i+1) r e⟩
  obtain ⟨zr,e1,e2,hz⟩:=a1L.zip h' fun r hr=>ho r (Qs _ hr)
  obtain ⟨x',ex,hx⟩:=h.get 0 r rfl
  cases ex
  refine ⟨(x,r)::zr,by rw [Xp,e1],by rw [Xp,e2],fun p hp=>?_⟩
  rcases Qw.mp hp with z | z
  ·rw [z];exact ⟨hx,ho r Qu⟩
  ·exact hz p z
theorem a1b {K:Qc} {t:Adr} {a:Addr} {js:List (Option Nat)} {tt:TT} {te:TE} {σ:St} {H:Hp} {Q:VK} (ws:List VR) (hW:H a=some (.lst (ws.map (·.1)))) (hl:ws.length≤1000) (hz:a4b t H ws) (σr:St) (hσ:a2c js σ=none::σr) (P:Rw→Bool) (g:VR→V)
  (hs:∀(x:Addr) (r:Rw) H' (R:Bool→Hp→Prop),a3G r→a1A H' x (a2T t r.1) (.str r.2.1) (.str r.2.2.1) (r.2.2.2.map V.str)→a0h H H'→(∀H'',a0h H' H''→R (P r) H'')→tt (some (.ref x)::σr) H' R)
  (he:∀(x:Addr) (r:Rw) H' (R:V→Hp→Prop),a3G r→a1A H' x (a2T t r.1) (.str r.2.1) (.str r.2.2.1) (r.2.2.2.map V.str)→a0h H H'→(∀H'',a0h H' H''→R (g (.ref x,r)) H'')→te (some (.ref x)::σr) H' R)
  (hd:∀D H',H D=none→a0h H H'→H' D=some (.lst ((ws.filter fun p=>P p.2).map g))→Q (.ref D) H'):a4t (Itl K a) js (a0y 0) tt te σ H Q:=by
 let d0:VR:=(.non,0,"","",[])
 refine b1b (a3N (xs:=ws.map (·.1))) (Qi (show (ws.map (·.1)).length≤1000 by simpa using hl) ‹dc›) σr hσ (fun i=>P ((ws[i]?).getD d0).2) (fun i=>g ((ws[i]?).getD d0)) (fun H' s=>SqL.of (s _ _ hW)) (fun i H' R hi s hR=>?_) (fun i H' R hi s hR=>?_) (fun D H' hD s h=>?_)
 ·have hi':i < ws.length:=by simpa using hi
  obtain ⟨⟨x,ex,hx⟩,ho⟩:=hz _ (Qx hi')
  have e2:((ws.map (·.1))[i]?).getD .non=.ref x:=by rw [Qz,Qe hi'];exact ex
  rw [e2]
  rw [Qe hi',Yu] at hR
  exact hs x _ H' R ho (hx.same s) s hR
 ·have hi':i < ws.length:=by simpa using hi
  obtain ⟨⟨x,ex,hx⟩,ho⟩:=hz _ (Qx hi')
  have e2:((ws.map (·.1))[i]?).getD .non=.ref x:=by rw [Qz,Qe hi'];exact ex
  rw [e2]
  rw [Qe hi',Yu] at hR
  refine he x _ H' R ho (hx.same s) s ?_
  rw [show ((V.ref x,ws[i].2):VR)=ws[i] from by rw [←ex]]
  exact hR
 ·rw [show (ws.map (·.1)).length=ws.length by simp,a2w d0 (fun p:VR=>P p.2) g ws] at h
  exact hd D H' hD s h
def RuD (t:Adr) (D:Addr) (v:V) (r:Rw) (H:Hp):Prop:=∃p dx t0,v=.ref p∧p≠D∧t0≠D∧H p=some (.ins (a2T t r.1) dx (a7h (.str r.2.1) (.str r.2.2.1) t0))∧H t0=some (.tup (r.2.2.2.map V.str))
def gfl (io bh pr:Addr):List (Str×V):=a1s "pairs" (.ref pr) (a1s "by_head" (.ref bh) (a1s "in_order" (.ref io) []))
theorem b6Q (io bh pr:Addr):(gfl io bh pr).lookup ("in_order":Str)=some (.ref io):=by
 unfold gfl;rw [a0i,if_neg ‹dk›,a0i,if_neg ‹dk›,a0i,if_pos rfl]
theorem b4R (io bh pr:Addr):(gfl io bh pr).lookup ("by_head":Str)=some (.ref bh):=by
 unfold gfl;rw [a0i,if_neg ‹dk›,a0i,if_pos rfl]
theorem a2k (io bh pr:Addr) {m:Str} (h1:¬m="pairs") (h2:¬m="by_head") (h3:¬m="in_order"):(gfl io bh pr).lookup m=none:=by
 unfold gfl;rw [a0i,if_neg h1,a0i,if_neg h2,a0i,if_neg h3];rfl
def hdF (rs:List Rw) (h:Str):List Rw:=rs.filter fun r=>decide (r.2.2.1=h)
def b7B (t:Adr) (H:Hp) (kvs:List (Key×V)) (rs:List Rw):Prop:=∀h:Str,(a1I kvs (Sum.inr h:Key)=none∧hdF rs h=[])∨∃L ys,a1I kvs (Sum.inr h:Key)=some (.ref L)∧H L=some (.lst ys)∧a1L t H ys (hdF rs h)
theorem b7B.same {t:Adr} {H H':Hp} {kvs:List (Key×V)} {rs:List Rw} (s:a0h H H') (h:b7B t H kvs rs):b7B t H' kvs rs:=fun x=>(h x).imp id fun ⟨L,ys,a,b,c⟩=>⟨L,ys,a,s _ _ b,c.same s⟩
def b8k (kvs:List (List Key×V)) (pl:List (Str×Str)):Prop:=∀a b:Str,a1I kvs [Sum.inr a,Sum.inr b]=if (a,b)∈pl then some (V.bl true) else none
def a5l (t:Adr) (H:Hp) (g:Addr) (rs:List Rw) (pl:List (Str×Str)):Prop:=∃dx io bh pr xs kvs kps,H g=some (.ins t.C_Ground dx (gfl io bh pr))∧H io=some (.tup xs)∧a1L t H xs rs∧H bh=some (.dK kvs)∧b7B t H kvs rs∧H pr=some (.dT kps)∧b8k kps pl
theorem a5l.same {t:Adr} {H H':Hp} {g:Addr} {rs:List Rw} {pl:List (Str×Str)} (s:a0h H H') (h:a5l t H g rs pl):a5l t H' g rs pl:=let ⟨dx,io,bh,pr,xs,kvs,kps,a,b,c,d,e,f,k⟩:=h;⟨dx,io,bh,pr,xs,kvs,kps,s _ _ a,s _ _ b,c.same s,s _ _ d,e.same s,s _ _ f,k⟩
theorem a1L.refs {t:Adr} {H H':Hp} {xs:List V} {rs:List Rw} (h:a1L t H xs rs) {x dx:Addr} {C:Addr} (hx:H x=some (.ins C dx [])) (k:∀c o,H c=some o→c≠x→H' c=some o):a1L t H' xs rs:=⟨h.len,fun i r e=>by
 obtain ⟨v,a,p,rfl,dx',t0,h1,h2⟩:=h.get i r e
 have hp:p≠x:=fun z=>by
  rw [z,hx] at h1
  injection h1 with h1
  injection h1 with _ _ h3
  have:=a0R (.str r.2.1) (.str r.2.2.1) t0
  rw [←h3] at this;cases this
 have ht:t0≠x:=a1O h2 hx ‹iz›
 exact ⟨_,a,p,rfl,dx',t0,k _ _ h1 hp,k _ _ h2 ht⟩⟩
theorem b1G (io bh pr:Addr):(gfl io bh pr).lookup ("pairs":Str)=some (.ref pr):=by
 unfold gfl;rw [a0i,if_pos rfl]
theorem a0o.same {H H':Hp} {xs:List V} {pl:List (Str×Str)} (s:a0h H H') (h:a0o H xs pl):a0o H' xs pl:=let ⟨as,a,b,c⟩:=h;⟨as,a,b,fun i x p e1 e2=>s _ _ (c i x p e1 e2)⟩
def b8m (t:Adr):Sp:=fun vs H Q _=>∃(x dx b pb:Addr) (xs:List V) (rs:List Rw) (ps:List V) (pl:List (Str×Str)),vs=[.ref x,.ref b,.ref pb]∧H x=some (.ins t.C_Ground dx [])∧H b=some (.lst xs)∧a1L t H xs rs∧(∀r∈rs,a3G r)∧rs.length≤63∧H pb=some (.lst ps)∧a0o H ps pl∧pl.length≤200∧
 ∀H',(∀c o,H c=some o→c≠x→H' c=some o)→a5l t H' x rs pl→Q .non H'
def a7a (t:Adr):Sp:=fun vs H Q _=>∃(g:Addr) (h:Str) (rs:List Rw) (pl:List (Str×Str)),vs=[.ref g,.str h]∧a5l t H g rs pl∧∀D ys H',a0h H H'→H D=none→H' D=some (.lst ys)→a1L t H' ys (hdF rs h)→Q (.ref D) H'
theorem b0e {K:Qc} {H:Hp} {Q:VK} {a b:Addr} {l m:List Str} (ha:H a=some (.lst (l.map V.str))) (hb:H b=some (.lst (m.map V.str))) (hl:l.length+m.length≤1000) (q:∀p,H p=none→Q (.ref p) (upd H p (.lst ((l++m).map V.str)))):a5p K (.ref a) (.ref b) H Q:=by
 refine .inr (.inr (.inl ⟨a,b,_,_,rfl,rfl,ha,hb,Qi (show _≤1000 by simp only [Qd];exact hl) ‹dc›,fun p hp=>?_⟩))
 rw [←Xo];exact q p hp
def a1Z (z:Str):Str:=if Jc z "-"=true then Uj z (some 1) none else "-"++z
def b7M:Sp:=fun vs H Q _=>∃z:Str,vs=[.str z]∧z.length≤100∧Q (.str (a1Z z)) H
def a2s (b S:List Str):Bool:=b.any fun q=>decide (q∈S)
def spk (r:Rw):Bool:=decide (r.1 < 3)
def btn (pl:List (Str×Str)) (bs:List Rw) (r:Rw):Bool:=bs.any fun b=>decide ((b.2.1,r.2.1)∈pl)
def a1P (rs:List Rw) (U:List Str) (q:Str):List Rw:=((hdF rs q).filter spk).filter fun r=>a1B r.2.2.2 U
def unf (rs:List Rw) (D:List Str) (q:Str):List Rw:=((hdF rs q).filter spk).filter fun r=>!a2s r.2.2.2 D
def a1w (rs:List Rw) (pl:List (Str×Str)) (S U D:List Str) (q:Str):Bool:=if q∈S then true else if a1P rs U q=[]∨a1Z q∈S then false else (hdF rs (a1Z q)).all fun r=>a2s r.2.2.2 D || btn pl (a1P rs U q) r
def a5o (rs:List Rw) (pl:List (Str×Str)) (S U D:List Str) (q:Str):Bool:=if q∈S then false else if unf rs D q=[]∨a1Z q∈S then true else (hdF rs (a1Z q)).any fun r=>a1B r.2.2.2 U && !btn pl (unf rs D q) r
def a1N (H:Hp) (v:V) (S:List Str):Prop:=(∃a,v=.ref a∧H a=some (.lst (S.map V.str)))∨∃a kvs,v=.ref a∧H a=some (.dK kvs)∧∀x:Str,(a1I kvs (Sum.inr x:Key)).isSome=decide (x∈S)
theorem a1N.same {H H':Hp} {v:V} {S:List Str} (s:a0h H H') (h:a1N H v S):a1N H' v S:=h.imp (fun ⟨a,e,b⟩=>⟨a,e,s _ _ b⟩) fun ⟨a,k,e,b,c⟩=>⟨a,k,e,s _ _ b,c⟩
theorem a8E {K:Qc} {tl tr:TE} {σ:St} {H:Hp} {Q:VK} {v:V} {S:List Str} {x:Str} (h:a1N H v S) (hl:∀R:VK,R (.str x) H→tl σ H R) (hr:∀R:VK,R v H→tr σ H R) (q:Q (.bl (decide (x∈S))) H):b4n (b3J tl tr) (tOp (b3I K) tl tr) σ H Q:=by
 rcases h with ⟨a,rfl,ha⟩ | ⟨a,kvs,rfl,ha,hk⟩
 ·exact .inr (hl _ (hr _ (a1F (SqL.of ha) q)))
 ·refine .inl (hl _ (hr _ ⟨a,_,rfl,a5H.k (k:=(Sum.inr x:Key)) ha,?_⟩))
  rw [hk];exact q
theorem a2J {K:Qc} {tl tr:TE} {σ:St} {H:Hp} {Q:Bool→Hp→Prop} {v:V} {S:List Str} {x:Str} (h:a1N H v S) (hl:∀R:VK,R (.str x) H→tl σ H R) (hr:∀R:VK,R v H→tr σ H R) (q:Q (decide (x∈S)) H):b5A (tB (b3J tl tr)) (a0O (tOp (b3I K) tl tr)) σ H Q:=by
 rcases h with ⟨a,rfl,ha⟩ | ⟨a,kvs,rfl,ha,hk⟩
 ·exact .inr (hl _ (hr _ (a1F (SqL.of ha) ⟨_,rfl,q⟩)))
 ·refine .inl (hl _ (hr _ ⟨a,_,rfl,a5H.k (k:=(Sum.inr x:Key)) ha,_,rfl,?_⟩))
  rw [hk];exact q
def a5z:Sp:=fun vs H Q _=>∃(t:Addr) (v:V) (bd S:List Str),vs=[.ref t,v]∧H t=some (.tup (bd.map V.str))∧bd.length≤1000∧a1N H v S∧∀H',a0h H H'→Q (.bl (a1B bd S)) H'
def b5J:Sp:=fun vs H Q _=>∃(t:Addr) (v:V) (bd S:List Str),vs=[.ref t,v]∧H t=some (.tup (bd.map V.str))∧bd.length≤1000∧a1N H v S∧∀H',a0h H H'→Q (.bl (a2s bd S)) H'
def b2E (t:Adr):Sp:=fun vs H Q _=>∃(g x y:Addr) (rs:List Rw) (pl:List (Str×Str)) (r1 r2:Rw),vs=[.ref g,.ref x,.ref y]∧a5l t H g rs pl∧a6d t H (.ref x) r1∧a6d t H (.ref y) r2∧a3G r1∧a3G r2∧∀H',a0h H H'→Q (.bl (decide ((r1.2.1,r2.2.1)∈pl))) H'
def a9Q (t:Adr):Sp:=fun vs H Q _=>∃(g x L:Addr) (rs:List Rw) (pl:List (Str×Str)) (r:Rw) (zr:List VR),vs=[.ref g,.ref x,.ref L]∧a5l t H g rs pl∧a6d t H (.ref x) r∧a3G r∧H L=some (.lst (zr.map (·.1)))∧a4b t H zr∧zr.length≤63∧∀H',a0h H H'→Q (.bl (btn pl (zr.map (·.2)) r)) H'
def a6w (t:Adr):Sp:=fun vs H Q _=>∃(g:Addr) (h:Str) (rs:List Rw) (pl:List (Str×Str)),vs=[.ref g,.str h]∧a5l t H g rs pl∧(∀r∈rs,a3G r)∧rs.length≤63∧∀D (zr:List VR) H',a0h H H'→H D=none→H' D=some (.lst (zr.map (·.1)))→a4b t H' zr→zr.map (·.2)=(hdF rs h).filter spk→Q (.ref D) H'
def a9m (t:Adr):Sp:=fun vs H Q _=>∃(g:Addr) (h:Str) (rs:List Rw) (pl:List (Str×Str)),vs=[.ref g,.str h]∧a5l t H g rs pl∧(∀r∈rs,a3G r)∧h.length≤100∧∀D (zr:List VR) H',a0h H H'→H D=none→H' D=some (.lst (zr.map (·.1)))→a4b t H' zr→zr.map (·.2)=hdF rs (a1Z h)→Q (.ref D) H'
def a7S (t:Adr) (f:List Rw→List (Str×Str)→List Str→List Str→List Str→Str→Bool):Sp:=fun vs H Q _=>∃(g:Addr) (v1 v2 v3:V) (q:Str) (rs:List Rw) (pl:List (Str×Str)) (S U D:List Str),vs=[.ref g,v1,v2,v3,.str q]∧a5l t H g rs pl∧(∀r∈rs,a3G r)∧rs.length≤63∧a1N H v1 S∧a1N H v2 U∧a1N H v3 D∧q.length≤100∧∀H',a0h H H'→Q (.bl (f rs pl S U D q)) H'
theorem a5d {kind:Nat} (h:kind < 4):a9G kind (a0S true) (a0S true) (a0S true) (a0S false)=a0S (decide (kind < 3)):=by
 match kind,h with
 | 0,_=>rfl
 | 1,_=>rfl
 | 2,_=>rfl
 | 3,_=>rfl
theorem b1i {H:Hp} {S:Addr} {d:List (Key×V)} (h:H S=some (.dK d)):IsD H S:=.inl ⟨_,.inl h⟩
def b6Z (pl:List (Str×Str)):Prop:=∀p∈pl,Xb p.1=true∧Xb p.2=true
theorem a5C {H:Hp} {xs:List V} {pl:List (Str×Str)} {a:Addr} {p:Str×Str} (h:a0o H xs pl) (ha:H a=some (.tup [.str p.1,.str p.2])):a0o H (xs++[.ref a]) (pl++[p]):=by
 obtain ⟨as,rfl,hl,hat⟩:=h
 refine ⟨as++[a],by rw [Xo];rfl,by simp [hl],fun i b q e1 e2=>?_⟩
 by_cases hi:i < as.length
 ·rw [Yh hi] at e1
  rw [Yh ‹om›] at e2
  exact hat i b q e1 e2
 ·have hi2:=(Qy.mp e1).1
  have ei:i=as.length:=by simp at hi2;omega
  subst ei
  rw [Ye (Qk _),Wm] at e1
  rw [Ye ‹om›,hl,Wm] at e2
  cases e1;cases e2;exact ha
theorem b0p {H H':Hp} {xs:List V} {pl:List (Str×Str)} {D:Addr} (h:a0o H xs pl) (hD:∃ys,H D=some (.lst ys)) (up:∀b o,b≠D→H b=some o→H' b=some o):a0o H' xs pl:=by
 obtain ⟨as,e,hl,hat⟩:=h
 obtain ⟨ys,hD⟩:=hD
 refine ⟨as,e,hl,fun i b q e1 e2=>?_⟩
 have:=hat i b q e1 e2
 exact up _ _ (a1O this hD ‹iz›) this
def TxN (n:Nat) (z:Str):Prop:=∃c r,z=mk (c::r)∧(c::r).length≤n∧∀x∈c::r,x < 128
theorem TxN.ok {n:Nat} {z:Str} (h:TxN n z) (hn:n≤40):OkS z:=by
 obtain ⟨c,r,rfl,h1,h2⟩:=h
 exact OkS.of h2 ‹om›
theorem TxN.len {n:Nat} {z:Str} (h:TxN n z):z.length≤n:=by
 obtain ⟨c,r,rfl,h1,h2⟩:=h
 rw [a1Y];exact h1
theorem TxN.of {n:Nat} {l:List Nat} (h0:l≠[]) (h1:l.length≤n) (h2:∀x∈l,x < 128):TxN n (mk l):=by
 cases l with
 | nil=>exact absurd rfl h0
 | cons c r=>exact ⟨c,r,rfl,h1,h2⟩
theorem TxN.up {n m:Nat} {z:Str} (h:TxN n z) (hm:n≤m):TxN m z:=by
 obtain ⟨c,r,e,h1,h2⟩:=h
 exact ⟨c,r,e,by omega,h2⟩
theorem TxN.neg {n:Nat} {z:Str} (h:TxN n z):TxN (n+1) ("-"++z):=by
 obtain ⟨c,r,rfl,h1,h2⟩:=h
 rw [show ("-":Str)=mk [45] by decide+kernel,b1I]
 refine ⟨45,c::r,rfl,by simp at h1 ⊢;omega,fun x hx=>?_⟩
 rcases Qw.mp hx with e | e
 ·omega
 ·exact h2 x e
def a8f:Sp:=fun vs H Q _=>∃(n:Nat) (z:Str),vs=[.str z]∧TxN n z∧n≤100∧Q (.str (a1Z z)) H
theorem b7n {c:Nat} {r:List Nat}:a1Z (mk (c::r))=if c=45 then Uj (mk (c::r)) (some 1) none else "-"++mk (c::r):=by
 unfold a1Z
 rw [show ("-":Str)=mk [45] by decide+kernel,a7c]
 by_cases h:c=45
 ·rw [if_pos h,if_pos (by rw [h];rfl)]
 ·rw [if_neg h,if_neg (by simpa using h)]
def b0m (K:Qc):Sp:=fun vs H Q _=>∃(a:Addr) (ns:List Int),vs=[.ref a]∧SqL K H a (ns.map V.int)∧ns.length≤63∧∀(D:Addr) (pl:List Str) H',a0h H H'→H D=none→H' D=some (.lst (pl.map V.str))→1≤pl.length→pl.length≤7→(∀z∈pl,TxN 30 z)→Q (.ref D) H'
def a9E (pl:List Str):List Str:=pl.flatMap fun x=>[x,"-"++x]
theorem b7V {pl:List Str} {z:Str} (h:z∈pl):z∈a9E pl:=List.mem_flatMap.mpr ⟨z,h,Qu⟩
theorem b6c {pl:List Str} {z:Str} (h:z∈pl):"-"++z∈a9E pl:=List.mem_flatMap.mpr ⟨z,h,Qs _ Qu⟩
def RwE (ev:List Str) (r:Rw):Prop:=r.2.2.1∈ev∧∀q∈r.2.2.2,q∈ev
def b2D:Sp:=fun vs H Q _=>∃(P:Addr) (n:Int) (pl:List Str),vs=[.ref P,.int n]∧H P=some (.lst (pl.map V.str))∧1≤pl.length∧pl.length≤7∧(∀z∈pl,TxN 30 z)∧∀z,TxN 31 z→z∈a9E pl→Q (.str z) H
def a8m:Sp:=fun vs H Q _=>∃(c m sz:Int) (p:Bool),vs=[.int c,.int m,.int sz,.bl p]∧(0≤m∧m≤10)∧(0 < sz∧sz≤1000)∧∀(D:Addr) (is:List Int) H',a0h H H'→H D=none→H' D=some (.lst (is.map V.int))→is.length=m.toNat→Q (.ref D) H'
def RwT (r:Rw):Prop:=a3G r∧TxN 31 r.2.2.1∧∀q∈r.2.2.2,TxN 31 q
def a9S (t:Adr):Sp:=fun vs H Q _=>∃(P:Addr) (c k:Int) (p:Bool) (pl:List Str),vs=[.ref P,.int c,.int k,.bl p]∧H P=some (.lst (pl.map V.str))∧1≤pl.length∧pl.length≤7∧(∀z∈pl,TxN 30 z)∧(0≤k∧k < 40)∧∀x r H',a0h H H'→RwT r→RwE (a9E pl) r→a1A H' x (a2T t r.1) (.str r.2.1) (.str r.2.2.1) (r.2.2.2.map V.str)→Q (.ref x) H'
theorem b4O:∀k:Nat,k < 40→OkS (Xr "r"++Xr (toString (k:Int))):=by
 intro k hk
 have h1:Xb (Xr "r"++Xr (toString (k:Int)))=true:=by
  revert k;decide+kernel
 have h2:(Xr "r"++Xr (toString (k:Int))).length≤40:=by
  revert k;decide+kernel
 exact ⟨h1,h2⟩
theorem b1R {K:Qc} {l m:List Nat} {H:Hp} {Q:VK} (h:l.length+m.length≤1000) (q:Q (sv (l++m)) H):a5p K (sv l) (sv m) H Q:=by
 rw [a1H,b1I]
 exact ⟨by rw [a1Y,a1Y];exact Qi h ‹dc›,q⟩
theorem b1l {P:Str→Prop} {ys:List V} (h:∀(i:Nat) (v:V),ys[i]?=some v→∃z,v=V.str z∧P z):∃zs:List Str,ys=zs.map V.str∧∀z∈zs,P z:=by
 induction ys with
 | nil=>exact ⟨[],rfl,by simp⟩
 | cons y ys ih=>
  obtain ⟨zs,e,ho⟩:=ih fun i v e=>h (i+1) v e
  obtain ⟨z,ez,hz⟩:=h 0 y rfl
  refine ⟨z::zs,by rw [e,ez];rfl,fun x hx=>?_⟩
  rcases Qw.mp hx with w | w
  ·rw [w];exact hz
  ·exact ho x w
theorem b0L (x:V) (xs:List V):a3c (x::xs) (some 1) none=xs:=by
 unfold a3c HT.sIx
 simp
theorem b4T {H0:Hp} {x dx:Addr} {C:Addr} (h1:H0 x=none) (h2:H0 dx=none):(a0h H0 (upd (upd H0 dx (.own x)) x (.ins C dx [])))∧(upd (upd H0 dx (.own x)) x (.ins C dx [])) x=some (.ins C dx []):=
 ⟨fun c o e=>by rw [a0d (a0c e h1),a0d (a0c e h2)];exact e,a0g⟩
def b3O (H:Hp) (Q:VK):Prop:=∀(D:Addr) (ps:List V) (pl:List (Str×Str)) H',a0h H H'→H D=none→H' D=some (.lst ps)→a0o H' ps pl→pl.length≤60→b6Z pl→Q (.ref D) H'
def a1M (t:Adr) (H:Hp) (a:Addr) (zr:List VR):Prop:=H a=some (.lst (zr.map (·.1)))∧a4b t H zr∧zr.length≤30∧∀p∈zr,RwT p.2
theorem a1M.same {t:Adr} {H H':Hp} {a:Addr} {zr:List VR} (s:a0h H H') (h:a1M t H a zr):a1M t H' a zr:=⟨s _ _ h.1,h.2.1.same s,h.2.2⟩
theorem a1M.at {t:Adr} {H:Hp} {a:Addr} {zr:List VR} (h:a1M t H a zr) {i:Nat} (hi:i < zr.length):∃x,atI (zr.map (·.1)) (i:Int)=some (.ref x)∧a1A H x (a2T t zr[i].2.1) (.str zr[i].2.2.1) (.str zr[i].2.2.2.1) (zr[i].2.2.2.2.map V.str)∧RwT zr[i].2:=by
 obtain ⟨h1,h2,h3,h4⟩:=h
 obtain ⟨⟨x,ex,hx⟩,ho⟩:=h2 _ (Qx hi)
 refine ⟨x,?_,hx,h4 _ (Qx hi)⟩
 unfold atI ixN
 rw [if_pos ‹om›,if_pos (by rw [Qd];omega)]
 show (zr.map (·.1))[((i:Int)).toNat]?=_
 rw [Int.toNat_natCast,Qz,Qe hi,←ex];rfl
def a7M (t:Adr):Sp:=fun vs H Q _=>∃(a:Addr) (c:Int) (zr:List VR),vs=[.ref a,.int c]∧a1M t H a zr∧b3O H Q
def b0I (t:Adr):Sp:=fun vs H Q _=>∃(a:Addr) (c:Int) (zr:List VR),vs=[.ref a,.int c]∧a1M t H a zr∧∀D zr' H',a0h H H'→H D=none→a1M t H' D zr'→(∀p∈zr',p∈zr)→Q (.ref D) H'
structure a1k (t:Adr) (H:Hp) (s T P E:Addr) (zr:List VR) (ps:List V) (pl:List (Str×Str)) (ev:List Str):Prop where
 s:H s=some (.lst [.ref T,.ref P,.ref E])
 r:a1M t H T zr
 p:H P=some (.lst ps)
 prs:a0o H ps pl
 po:b6Z pl
 pn:pl.length≤60
 e:H E=some (.lst (ev.map V.str))
 eo:∀z∈ev,TxN 31 z
 en:1≤ev.length∧ev.length≤14
 ez:∀p∈zr,RwE ev p.2
theorem a1k.same {t:Adr} {H H':Hp} {s T P E:Addr} {zr:List VR} {ps:List V} {pl:List (Str×Str)} {ev:List Str} (k:a0h H H') (h:a1k t H s T P E zr ps pl ev):a1k t H' s T P E zr ps pl ev:=
 ⟨k _ _ h.s,h.r.same k,k _ _ h.p,a0o.same k h.prs,h.po,h.pn,k _ _ h.e,h.eo,h.en,h.ez⟩
def b3l (K:Qc) (t:Adr):Sp:=fun vs H Q _=>∃(a:Addr) (ns:List Int),vs=[.ref a,.int 30]∧SqL K H a (ns.map V.int)∧ns.length≤63∧∀s T P E zr ps pl ev H',a0h H H'→a1k t H' s T P E zr ps pl ev→Q (.ref s) H'
def a1X (s:Str):Sp:=fun vs H Q _=>∃x,vs=[x]∧Q (.str s) H
theorem a4m {s:Str} {x:V} {H:Hp} {Q:VK} {E:XK}:a1X s [x] H Q E↔Q (.str s) H:=⟨by rintro ⟨_,e,q⟩;cases e;exact q,fun q=>⟨_,rfl,q⟩⟩
theorem a4U {kind:Nat} (h:kind < 4):a9G kind (a1X "fact") (a1X "sure") (a1X "most") (a1X "block")=a1X (b2S kind):=by
 match kind,h with
 | 0,_=>rfl
 | 1,_=>rfl
 | 2,_=>rfl
 | 3,_=>rfl
def wOf (rl:List (Str×Str)) (w:Str):List Str:=(rl.filter fun p=>decide (p.1=w)).map (·.2)
def a5f (H:Hp) (D:Addr) (zs:List Str):Prop:=∃kvs,H D=some (.dK kvs)∧∀x:Str,(a1I kvs (Sum.inr x:Key)).isSome=decide (x∈zs)
theorem a5f.some {H:Hp} {D:Addr} {zs:List Str} (h:a5f H D zs):a1N H (.ref D) zs:=let ⟨k,a,b⟩:=h;.inr ⟨D,k,rfl,a,b⟩
theorem a5f.same {H H':Hp} {D:Addr} {zs:List Str} (s:a0h H H') (h:a5f H D zs):a5f H' D zs:=let ⟨k,a,b⟩:=h;⟨k,s _ _ a,b⟩
def b3p:Sp:=fun vs H Q _=>∃(a:Addr) (zs:List Str),vs=[.ref a]∧H a=some (.lst (zs.map V.str))∧zs.length≤400∧∀D H',a0h H H'→a5f H' D zs→Q (.ref D) H'
def a6s:Sp:=fun vs H Q _=>∃(a:Addr) (w:Str) (ps:List V) (rl:List (Str×Str)),vs=[.ref a,.str w]∧H a=some (.lst ps)∧a0o H ps rl∧rl.length≤400∧∀D H',a0h H H'→a5f H' D (wOf rl w)→Q (.ref D) H'
def b7X (rs:List Rw) (pl:List (Str×Str)) (S:List Str) (rl:List (Str×Str)) (b:Bool) (q:Str):Bool:=if b then a1w rs pl S (wOf rl "held") (wOf rl "refused") q else a5o rs pl S (wOf rl "held") (wOf rl "refused") q
def clW (b:Bool):Str:=if b then "held" else "refused"
def a8l (t:Adr):Sp:=fun vs H Q _=>∃(g a c:Addr) (v1:V) (rs:List Rw) (pl rl:List (Str×Str)) (ps:List V) (S:List Str) (b:Bool) (q:Str),vs=[.ref g,v1,.ref a,.ref c]∧a5l t H g rs pl∧(∀r∈rs,a3G r)∧rs.length≤63∧a1N H v1 S∧H a=some (.lst ps)∧a0o H ps rl∧rl.length≤400∧H c=some (.tup [.str (clW b),.str q])∧q.length≤100∧∀H',a0h H H'→Q (.bl (b7X rs pl S rl b q)) H'
def a5A (t:Adr) (f:List Str→List Str→Bool):Sp:=fun vs H Q _=>∃(x a:Addr) (r:Rw) (U:List Str),vs=[.ref x,.ref a]∧a6d t H (.ref x) r∧a3G r∧H a=some (.lst (U.map V.str))∧∀H',a0h H H'→Q (.bl (f r.2.2.2 U)) H'
def b1M (t:Adr) (H:Hp) (rs:List Rw) (Q:VK):Prop:=∀D (zr:List VR) H',a0h H H'→H' D=some (.lst (zr.map (·.1)))→a4b t H' zr→zr.length≤30→zr.map (·.2)=rs→Q (.ref D) H'
def b7N (t:Adr):Sp:=fun vs H Q _=>∃(s T P E:Addr) (zr:List VR) (ps:List V) (pl:List (Str×Str)) (ev:List Str) (q:Str),vs=[.ref s,.str q]∧a1k t H s T P E zr ps pl ev∧b1M t H ((hdF (zr.map (·.2)) q).filter spk) Q
def b8c (t:Adr):Sp:=fun vs H Q _=>∃(s T P E:Addr) (zr:List VR) (ps:List V) (pl:List (Str×Str)) (ev:List Str) (q:Str),vs=[.ref s,.str q]∧a1k t H s T P E zr ps pl ev∧TxN 31 q∧b1M t H (hdF (zr.map (·.2)) (a1Z q)) Q
def b7J (t:Adr):Sp:=fun vs H Q _=>∃(s T P E x L:Addr) (zr:List VR) (ps:List V) (pl:List (Str×Str)) (ev:List Str) (r:Rw) (zo:List VR),vs=[.ref s,.ref x,.ref L]∧a1k t H s T P E zr ps pl ev∧a6d t H (.ref x) r∧a3G r∧H L=some (.lst (zo.map (·.1)))∧a4b t H zo∧zo.length≤30∧∀H',a0h H H'→Q (.bl (btn pl (zo.map (·.2)) r)) H'
def b4r (t:Adr) (f:List Rw→List (Str×Str)→List Str→List Str→List Str→Str→Bool):Sp:=fun vs H Q _=>∃(s T P E a1 a2 a3:Addr) (zr:List VR) (ps:List V) (pl:List (Str×Str)) (ev:List Str) (S U D:List Str) (q:Str),vs=[.ref s,.ref a1,.ref a2,.ref a3,.str q]∧a1k t H s T P E zr ps pl ev∧TxN 31 q∧H a1=some (.lst (S.map V.str))∧H a2=some (.lst (U.map V.str))∧H a3=some (.lst (D.map V.str))∧∀H',a0h H H'→Q (.bl (f (zr.map (·.2)) pl S U D q)) H'
theorem b0t (a b:Str):(a++b).length=a.length+b.length:=by
 show (a.cps++b.cps).size=_
 exact Array.size_append
theorem a1Q {α:Type} {f:α→V} {l:List α} {i:Nat} {v:V} (h:(l.map f)[i]?=some v):∃hi:i < l.length,v=f l[i]:=by
 rw [Qz] at h
 obtain ⟨y,e,rfl⟩:=Vn.mp h
 obtain ⟨hi,rfl⟩:=Qy.mp e
 exact ⟨hi,rfl⟩
theorem a0o.at {H:Hp} {ps:List V} {rl:List (Str×Str)} (h:a0o H ps rl) {i:Nat} (hi:i < rl.length):∃x,ps[i]?=some (.ref x)∧H x=some (.tup [.str rl[i].1,.str rl[i].2]):=by
 obtain ⟨as,rfl,hl,hat⟩:=h
 have hi':i < as.length:=by omega
 exact ⟨as[i],by rw [Qz,Qe hi'];rfl,hat i _ _ (Qe hi') (Qe hi)⟩
theorem a0o.len {H:Hp} {ps:List V} {rl:List (Str×Str)} (h:a0o H ps rl):ps.length=rl.length:=by
 obtain ⟨as,rfl,hl,_⟩:=h
 rw [Qd];exact hl
theorem b0h {K:Qc} {a:Addr} {js:List (Option Nat)} {tt:TT} {te:TE} {σ:St} {H:Hp} {Q:VK} {ps:List V} {rl:List (Str×Str)} (ha:H a=some (.lst ps)) (hP:a0o H ps rl) (hl:rl.length≤1000) (σr:St) (hσ:a2c js σ=none::σr) (P:Str×Str→Bool) (g:Str×Str→V)
  (hs:∀(x:Addr) (p:Str×Str) H' (R:Bool→Hp→Prop),H' x=some (.tup [.str p.1,.str p.2])→a0h H H'→(∀H'',a0h H' H''→R (P p) H'')→tt (some (.ref x)::σr) H' R)
  (he:∀(x:Addr) (p:Str×Str) H' (R:V→Hp→Prop),H' x=some (.tup [.str p.1,.str p.2])→a0h H H'→(∀H'',a0h H' H''→R (g p) H'')→te (some (.ref x)::σr) H' R)
  (hd:∀D H',H D=none→a0h H H'→H' D=some (.lst ((rl.filter P).map g))→Q (.ref D) H'):a4t (Itl K a) js (a0y 0) tt te σ H Q:=by
 let d0:Str×Str:=("","")
 have hpl:=a0o.len hP
 refine b1b (a3N (xs:=ps)) (Qi (show ps.length≤1000 by omega) ‹dc›) σr hσ (fun i=>P ((rl[i]?).getD d0)) (fun i=>g ((rl[i]?).getD d0)) (fun H' s=>SqL.of (s _ _ ha)) (fun i H' R hi s hR=>?_) (fun i H' R hi s hR=>?_) (fun D H' hD s h=>?_)
 ·have hi':i < rl.length:=by omega
  obtain ⟨x,ex,hx⟩:=a0o.at hP hi'
  rw [ex,Yu]
  rw [Qe hi',Yu] at hR
  exact hs x _ H' R (s _ _ hx) s hR
 ·have hi':i < rl.length:=by omega
  obtain ⟨x,ex,hx⟩:=a0o.at hP hi'
  rw [ex,Yu]
  rw [Qe hi',Yu] at hR
  exact he x _ H' R (s _ _ hx) s hR
 ·rw [hpl,a2w d0 P g rl] at h
  exact hd D H' hD s h
theorem a1x {α:Type} {l:List α} {i:Nat} (hi:i < l.length) (x:α):x∈l.take (i+1)↔x∈l.take i∨x=l[i]:=by
 rw [Xc hi,Xq,Qq]
theorem a1M.at2 {t:Adr} {H:Hp} {a:Addr} {zr:List VR} (h:a1M t H a zr) {k:Int} (h0:0≤k) (h1:k < zr.length):∃x r,atI (zr.map (·.1)) k=some (.ref x)∧a1A H x (a2T t r.1) (.str r.2.1) (.str r.2.2.1) (r.2.2.2.map V.str)∧RwT r:=by
 obtain ⟨n,rfl⟩:∃n:Nat,k=(n:Int):=⟨k.toNat,by omega⟩
 obtain ⟨x,e,hx,hr⟩:=h.at (i:=n) ‹om›
 exact ⟨x,_,e,hx,hr⟩
theorem b5W {t:Adr} {D:Addr} {H:Hp} {ev:List Str}:∀{ys:List V},(∀(i:Nat) v,ys[i]?=some v→∃r,(RwT r∧RwE ev r)∧RuD t D v r H)→∃zr:List VR,zr.map (·.1)=ys∧a4b t H zr∧∀p∈zr,RwT p.2∧RwE ev p.2
 | [],_=>⟨[],rfl,fun p hp=>absurd hp Yr,fun p hp=>absurd hp Yr⟩
 | y::ys,h=>by
  obtain ⟨zr,e,hw,hr⟩:=b5W (ys:=ys) fun i v e=>h (i+1) v e
  obtain ⟨r,hrt,p,dx,t0,ev,_,_,h1,h2⟩:=h 0 y rfl
  refine ⟨(y,r)::zr,by rw [Xp,e],fun q hq=>?_,fun q hq=>?_⟩
  ·rcases Qw.mp hq with z | z
   ·rw [z];exact ⟨⟨p,ev,dx,t0,h1,h2⟩,hrt.1.1⟩
   ·exact hw q z
  ·rcases Qw.mp hq with z | z
   ·rw [z];exact hrt
   ·exact hr q z
theorem b8p (ns:List Int):∃cs:List Int,a3c (ns.map V.int) (some 3) (some (3+30))=cs.map V.int∧cs.length≤30:=by
 unfold a3c
 refine ⟨(ns.drop (HT.sIx (ns.map V.int).length 0 (some 3))).take (HT.sIx (ns.map V.int).length (ns.map V.int).length (some (3+30)) - HT.sIx (ns.map V.int).length 0 (some 3)),by rw [Zw,List.map_drop],?_⟩
 rw [Xu]
 refine Qi (Nat.min_le_left _ _) ?_
 rw [show (some (3+30:Int))=some ((33:Nat):Int) from rfl,show (some (3:Int))=some ((3:Nat):Int) from rfl,HT.sIx_nat,HT.sIx_nat]
 omega
theorem a7Z {K:Qc} {H:Hp}:∀{xs:List V} {ps:List (Str×Str)},a0o H xs ps→DenAll K H xs (ps.map fun p=>Yb [.str p.1,.str p.2])
 | [],[],_=>.nil
 | [],_::_,h=>by have:=a0o.len h;simp at this
 | _::_,[],h=>by have:=a0o.len h;simp at this
 | x::xs,p::ps,h=>by
  obtain ⟨y,e,hy⟩:=a0o.at h (i:=0) (by simp)
  cases e
  obtain ⟨as,ea,hl,hat⟩:=h
  cases as with
  | nil=>cases ea
  | cons b bs=>
   have e2:xs=bs.map V.ref:=(List.cons.inj ea).2
   exact .cons (.tup (SqT.of hy) (.cons (.str _) (.cons (.str _) .nil))) (a7Z ⟨bs,e2,by simpa using hl,fun i a q e1 e3=>hat (i+1) a q e1 e3⟩)
theorem b9g:∀ps:List (Str×Str),(∀p∈ps,Xb p.1=true∧Xb p.2=true)→Uq (ps.map fun p=>Yb [.str p.1,.str p.2])=true∧Jv (ps.map fun p=>Yb [.str p.1,.str p.2])≤1
 | [],_=>⟨rfl,by decide⟩
 | p::ps,h=>by
  obtain ⟨a,b⟩:=b9g ps fun p hp=>h p (Qs _ hp)
  obtain ⟨c,d⟩:=b7C [p.1,p.2] (by
   intro z hz
   rcases Qw.mp hz with e | e
   ·rw [e];exact (h p Qu).1
   ·rw [Qq.mp e];exact (h p Qu).2)
  refine ⟨?_,?_⟩
  ·show (Yz (.tuple [.str p.1,.str p.2]) && _)=true
   rw [a,Zx];exact c
  ·show max (Zq (.tuple [.str p.1,.str p.2])) _≤1
   have:Zq (.tuple [.str p.1,.str p.2])=1:=rfl
   rw [this];exact Nat.max_le.mpr ⟨Qk _,b⟩
theorem a9J {k:Nat} (h:k < 4):(!decide (b2S k=Xr "block"))=decide (k < 3):=by
 match k,h with
 | 0,_=>decide+kernel
 | 1,_=>decide+kernel
 | 2,_=>decide+kernel
 | 3,_=>decide+kernel
theorem a9a {K:Qc} {b c:Bool} {H:Hp} {Q:VK} (e:b=c) (q:Q (.bl false) H):b4y K (.bl b) (.bl c) H Q:=by
 subst e
 refine .inl ⟨rfl,?_⟩
 rw [decide_eq_true rfl];exact q
/-! ### sure sets,as in k33 -/
section
variable {α:Type} [DecidableEq α]
abbrev SR (α:Type):=Bool×α×List α
def b5E (l:List α) (x:α):List α:=if x∈l then l else l++[x]
def a2B (rs:List (SR α)) (S:List α) (x:α):Bool:=rs.any fun r=>(r.1 && decide (r.2.1=x)) && a1B r.2.2 S
theorem b0C {rs:List (SR α)} {S:List α} {x:α}:a2B rs S x=true↔∃b,(true,x,b)∈rs∧∀q∈b,q∈S:=by
 unfold a2B
 rw [Xy]
 constructor
 ·rintro ⟨⟨a,h,b⟩,hr,e⟩
  rw [Qp,Qp,decide_eq_true_eq,a1C] at e
  obtain ⟨⟨e1,e2⟩,e3⟩:=e
  dsimp only at e1 e2 e3
  subst e1 e2
  exact ⟨b,hr,e3⟩
 ·rintro ⟨b,hr,hb⟩
  exact ⟨_,hr,by rw [Qp,Qp,decide_eq_true_eq,a1C];exact ⟨⟨rfl,rfl⟩,hb⟩⟩
def a2a (rs:List (SR α)):List α→List α→Bool
 | _,[]=>true
 | S,x::xs=>(!decide (x∈S) && a2B rs S x) && a2a rs (S++[x]) xs
def a5i (rs:List (SR α)) (S:List α):Bool:=rs.all fun r=>!(r.1 && a1B r.2.2 S) || decide (r.2.1∈S)
theorem a1S {rs:List (SR α)} {S:List α}:a5i rs S=true↔∀x b,(true,x,b)∈rs→(∀q∈b,q∈S)→x∈S:=by
 unfold a5i
 rw [Ze]
 constructor
 ·intro h x b hr hb
  have e:=h _ hr
  rw [Bool.or_eq_true] at e
  rcases e with e | e
  ·rw [Xk,Xx,a1C.mpr hb] at e;cases e
  ·simpa using e
 ·rintro h ⟨a,x,b⟩ hr
  cases a with
  | false=>rfl
  | true=>
   rw [Bool.or_eq_true]
   by_cases hb:∀q∈b,q∈S
   ·exact .inr (by simpa using h x b hr hb)
   ·refine .inl ?_
    rw [Xk,Xx]
    cases e:a1B b S with
    | false=>rfl
    | true=>exact absurd (a1C.mp e) hb
theorem a4x {rs:List (SR α)} {S xs:List α} {x:α}:a2a rs S (x::xs)=true↔x∉S∧a2B rs S x=true∧a2a rs (S++[x]) xs=true:=by
 show ((!decide (x∈S) && a2B rs S x) && a2a rs (S++[x]) xs)=true↔_
 rw [Qp,Qp,Xk,decide_eq_false_iff_not,and_assoc]
theorem a3x {rs:List (SR α)}:∀{l S:List α},a2a rs S l=true→S.Nodup→(S++l).Nodup
 | [],S,_,h=>by rw [Qf];exact h
 | x::l,S,h,hS=>by
  obtain ⟨h1,_,h3⟩:=a4x.mp h
  have:=a3x h3 (List.nodup_append.mpr ⟨hS,by simp,fun a ha b hb e=>h1 (by rw [Qq] at hb;rw [←hb,←e];exact ha)⟩)
  rw [Yt] at this;exact this
theorem a2K {rs:List (SR α)} {C:List α} (hC:∀x b,(true,x,b)∈rs→(∀q∈b,q∈C)→x∈C):∀{l S:List α},a2a rs S l=true→(∀x∈S,x∈C)→∀x∈l,x∈C
 | [],_,_,_=>by simp
 | x::l,S,h,hS=>by
  obtain ⟨_,h2,h3⟩:=a4x.mp h
  obtain ⟨b,hr,hb⟩:=b0C.mp h2
  have hx:=hC x b hr fun q hq=>hS q (hb q hq)
  intro y hy
  rcases Qw.mp hy with e | e
  ·rw [e];exact hx
  ·exact a2K hC h3 (fun z hz=>by
    rcases Xq.mp hz with w | w
    ·exact hS z w
    ·rw [Qq.mp w];exact hx) y e
theorem a9N {S:List α} {x:α} (h:x∉S):b5E S x=S++[x]:=by unfold b5E;rw [if_neg h]
end
def srW (r:Rw):SR Str:=(decide (r.1 < 2),r.2.2.1,r.2.2.2)
def bv (S:List Str):List (Key×V):=S.map fun x=>(Sum.inr x,V.bl true)
theorem a4a (x:Str):∀S:List Str,a1I (bv S) (Sum.inr x:Key)=if x∈S then some (V.bl true) else none
 | []=>rfl
 | y::r=>by
  have ih:=a4a x r
  by_cases e:y=x
  ·rw [show bv (y::r)=(Sum.inr y,V.bl true)::bv r from rfl,a0X (by rw [e]),if_pos (by rw [e];exact Qu)]
  ·rw [show bv (y::r)=(Sum.inr y,V.bl true)::bv r from rfl,a1a (fun z=>e (Sum.inr.inj z)),ih]
   by_cases h:x∈r
   ·rw [if_pos h,if_pos (Qs _ h)]
   ·rw [if_neg h,if_neg (by simp [h];exact fun z=>e z.symm)]
theorem b5O (S:List Str) (x:Str):a3m (bv S) (Sum.inr x:Key) (V.bl true)=bv (b5E S x):=by
 unfold a3m b5E
 rw [a2f,a4a]
 by_cases h:x∈S
 ·rw [if_pos h,if_pos (by rfl),if_pos h]
  unfold bv
  rw [Yv]
  refine We fun y _=>?_
  simp only [Function.comp]
  split<;>rfl
 ·rw [if_neg h,if_neg (by simp),if_neg h]
  unfold bv;rw [Xo];rfl
theorem c1V {H:Hp} {D:Addr} {S:List Str} (h:H D=some (.dK (bv S))) (x:Str):a5H H D (.str x) (if x∈S then some (V.bl true) else none):=by
 have:=a5H.k (k:=(Sum.inr x:Key)) h
 rw [a4a] at this;exact this
theorem c2c {H:Hp} {D:Addr} {S:List Str} (h:H D=some (.dK (bv S))) (hl:S.length≤100000) (x:Str):a9C H D (.str x) (V.bl true) (upd H D (.dK (bv (b5E S x)))):=by
 have:=a9C.k (k:=(Sum.inr x:Key)) (v:=V.bl true) h (by unfold bv;rw [Qd];exact Xm hl ‹dc›)
 rw [b5O] at this;exact this
theorem b6t (rs:List Rw) (S:List Str) (h:Str):(((hdF rs h).filter fun r=>(srW r).1).any fun r=>a1B (srW r).2.2 S)=a2B (rs.map srW) S h:=by
 unfold hdF a2B
 rw [Uk,List.any_filter,Yw]
 refine congrArg (fun f=>List.any rs f) (funext fun r=>?_)
 simp only [Function.comp]
 rfl
theorem b4U (rs:List Rw) (S:List Str):(((rs.filter fun r=>(srW r).1).filter fun r=>a1B (srW r).2.2 S).all fun r=>decide ((srW r).2.1∈S))=a5i (rs.map srW) S:=by
 unfold a5i
 rw [Uk,List.all_filter,Jj]
 refine congrArg (fun f=>List.all rs f) (funext fun r=>?_)
 simp only [Function.comp]
 rw [Bool.and_comm]
def isS (rs:List Rw) (l:List Str):Bool:=a2a (rs.map srW) [] l && a5i (rs.map srW) l
def a8s (t:Adr):Sp:=fun vs H Q _=>∃(g:Addr) (rs:List Rw) (pl:List (Str×Str)),vs=[.ref g]∧a5l t H g rs pl∧∀D xs H',a0h H H'→H D=none→H' D=some (.lst xs)→a1L t H' xs rs→Q (.ref D) H'
def c3c (t:Adr):Sp:=fun vs H Q _=>∃(g s:Addr) (rs:List Rw) (pl:List (Str×Str)) (l:List Str),vs=[.ref g,.ref s]∧a5l t H g rs pl∧(∀r∈rs,a3G r)∧rs.length≤63∧H s=some (.lst (l.map V.str))∧l.length≤100∧∀H',a0h H H'→Q (.bl (isS rs l)) H'
/-! ### claims that are let by -/
def cw (c:Bool×Str):Str×Str:=(clW c.1,c.2)
def a1E (rs:List Rw) (pl:List (Str×Str)) (S:List Str) (acc:List (Bool×Str)) (c:Bool×Str):Bool:=b7X rs pl S (acc.map cw) c.1 c.2
def a1u (rs:List Rw) (pl:List (Str×Str)) (S:List Str):List (Bool×Str)→List (Bool×Str)→Bool
 | _,[]=>true
 | acc,c::r=>a1E rs pl S acc c && a1u rs pl S (acc++[c]) r
def b3E (rs:List Rw) (pl:List (Str×Str)) (S:List Str) (acc cl:List (Bool×Str)) (i:Nat):Bool:=match cl[i]? with
 | some c=>a1E rs pl S (acc++cl.take i) c
 | none=>true
theorem a6i {rs:List Rw} {pl:List (Str×Str)} {S:List Str}:∀(cl acc:List (Bool×Str)),((Yi cl.length).map (b3E rs pl S acc cl)).all id=a1u rs pl S acc cl
 | [],_=>rfl
 | c::r,acc=>by
  rw [Qj,List.range_succ_eq_map,Xp,Yv,Vz]
  show ((a1E rs pl S (acc++[]) c) && _)=(a1E rs pl S acc c && a1u rs pl S (acc++[c]) r)
  rw [Qf,←a6i r (acc++[c])]
  congr 2
  refine We fun i _=>?_
  show b3E rs pl S acc (c::r) (i+1)=_
  unfold b3E
  rw [Qb,List.take_succ_cons,Yt];rfl
theorem a3e {rs:List Rw} {pl:List (Str×Str)} {S:List Str}:∀(l acc:List (Bool×Str)) (c:Bool×Str),a1u rs pl S acc (l++[c])=(a1u rs pl S acc l && a1E rs pl S (acc++l) c)
 | [],acc,c=>by show (a1E rs pl S acc c && true)=(true && _);rw [Qf,Zx,Xx]
 | d::l,acc,c=>by
  show (a1E rs pl S acc d && a1u rs pl S (acc++[d]) (l++[c]))=((a1E rs pl S acc d && a1u rs pl S (acc++[d]) l) && _)
  rw [a3e l,Yt,Bool.and_assoc];rfl
theorem a9F {H:Hp} {ps:List V} {pl:List (Str×Str)} (h:a0o H ps pl) (n:Nat):a0o H (ps.take n) (pl.take n):=by
 obtain ⟨as,rfl,e,g⟩:=h
 refine ⟨as.take n,by rw [Zw],by rw [Xu,Xu,e],fun i a p h1 h2=>?_⟩
 rw [List.getElem?_take] at h1 h2
 by_cases hi:i < n
 ·rw [if_pos hi] at h1 h2;exact g i a p h1 h2
 ·rw [if_neg hi] at h1;cases h1
def b1O (t:Adr):Sp:=fun vs H Q _=>∃(g p a1 a2:Addr) (rs:List Rw) (pl:List (Str×Str)) (S:List Str) (ps:List V) (cl:List (Bool×Str)),vs=[.ref g,.ref p]∧a5l t H g rs pl∧(∀r∈rs,a3G r)∧rs.length≤63∧H p=some (.tup [.ref a1,.ref a2])∧H a1=some (.lst (S.map V.str))∧S.length≤100∧H a2=some (.lst ps)∧a0o H ps (cl.map cw)∧cl.length≤400∧(∀c∈cl,c.2.length≤100)∧∀H',a0h H H'→Q (.bl (isS rs S && a1u rs pl S [] cl)) H'
/-! ### the law's own sure statements -/
theorem a8A {n:Nat} (h:n < 4):decide (b2S n∈(["fact","sure"]:List Str))=decide (n < 2):=by
 match n,h with
 | 0,_=>decide+kernel
 | 1,_=>decide+kernel
 | 2,_=>decide+kernel
 | 3,_=>decide+kernel
theorem a2X {rs:List (SR Str)} {x:Str}:∀(l S:List Str),a2a rs S (l++[x])=(a2a rs S l && (!decide (x∈S++l) && a2B rs (S++l) x))
 | [],S=>by
  show ((!decide (x∈S) && a2B rs S x) && true)=(true && (!decide (x∈S++[]) && a2B rs (S++[]) x))
  rw [Qf,Zx,Xx]
 | y::l,S=>by
  show ((!decide (y∈S) && a2B rs S y) && a2a rs (S++[y]) (l++[x]))=(((!decide (y∈S) && a2B rs S y) && a2a rs (S++[y]) l) && _)
  rw [a2X l (S++[y]),Bool.and_assoc ((!decide (y∈S) && a2B rs S y)),Yt];rfl
theorem a2U {α:Type} [DecidableEq α]:∀{l m:List α},l.Nodup→(∀x∈l,x∈m)→l.length≤m.length
 | [],m,_,_=>Xi _
 | x::l,m,h,s=>by
  rw [Zi] at h
  have h1:=a2U (l:=l) (m:=m.erase x) h.2 (fun y hy=>(List.mem_erase_of_ne (fun z=>h.1 (by rw [←z];exact hy))).mpr (s y (Qs _ hy)))
  have h2:x∈m:=s x Qu
  have h3:=List.length_erase_of_mem h2
  have h4:=List.length_pos_of_mem h2
  simp only [Qj];omega
theorem a1U {rs:List Rw} {l:List Str} (h:a2a (rs.map srW) [] l=true):l.Nodup∧(∀x∈l,∃r∈rs,r.2.2.1=x)∧l.length≤rs.length:=by
 have hn:l.Nodup:=by have:=a3x h Uf;rwa [Zy] at this
 have hm:∀x∈l,x∈rs.map (·.2.2.1):=a2K (C:=rs.map (·.2.2.1)) (fun x b hr _=>by
  obtain ⟨r,hr,e⟩:=Xa.mp hr
  have:r.2.2.1=x:=congrArg (fun z:SR Str=>z.2.1) e
  exact Xa.mpr ⟨r,hr,this⟩) h (fun _ z=>by cases z)
 refine ⟨hn,fun x hx=>by obtain ⟨r,hr,e⟩:=Xa.mp (hm x hx);exact ⟨r,hr,e⟩,?_⟩
 have:=a2U hn hm
 rw [Qd] at this;exact this
def b6N (t:Adr):Sp:=fun vs H Q _=>∃(x:Addr) (r:Rw),vs=[.ref x]∧a6d t H (.ref x) r∧a3G r∧∀H',a0h H H'→Q (.bl (srW r).1) H'
def b0J (t:Adr):Sp:=fun vs H Q _=>∃(s T P E:Addr) (zr:List VR) (ps:List V) (pl:List (Str×Str)) (ev:List Str),vs=[.ref s]∧a1k t H s T P E zr ps pl ev∧∀D L H',a0h H H'→H D=none→H' D=some (.lst (L.map V.str))→isS (zr.map (·.2)) L=true→Q (.ref D) H'
theorem b2c {K:Qc} {H:Hp} {Q:VK} {z:Str} {a:Addr} {r:List Str} (h:SqT K H a (r.map V.str)) (q:Q (.bl (decide (z∈r))) H):b3I K (.str z) (.ref a) H Q:=
 .inr ⟨a,_,rfl,.inr h,rfl,a2R _,by rw [if_neg Qn,a5j];exact q⟩
/-! ### words that grow,never both,as few as can be -/
section
variable {rs:List Rw} {pl:List (Str×Str)} {S U U' D D':List Str} {q:Str}
theorem a4d {b:List Str} (h:∀x∈U,x∈U') (e:a1B b U=true):a1B b U'=true:=by
 rw [a1C] at e ⊢;exact fun q hq=>h q (e q hq)
theorem b0k {b:List Str}:a2s b S=true↔∃q∈b,q∈S:=by
 unfold a2s;rw [Xy];simp
theorem a4G {b:List Str} (h:∀x∈U,x∈U') (e:a2s b U=true):a2s b U'=true:=by
 rw [b0k] at e ⊢
 obtain ⟨q,a,c⟩:=e
 exact ⟨q,a,h q c⟩
theorem a5V {bs bs':List Rw} {r:Rw} (h:∀b∈bs,b∈bs') (e:btn pl bs r=true):btn pl bs' r=true:=by
 unfold btn at e ⊢
 rw [Xy] at e ⊢
 obtain ⟨b,hb,c⟩:=e
 exact ⟨b,h b hb,c⟩
theorem a7D {r:Rw}:r∈a1P rs U q↔(r∈hdF rs q∧spk r=true)∧a1B r.2.2.2 U=true:=by
 unfold a1P;rw [Xn,Xn]
theorem b2i {r:Rw}:r∈unf rs D q↔(r∈hdF rs q∧spk r=true)∧a2s r.2.2.2 D=false:=by
 unfold unf;rw [Xn,Xn,Xk]
theorem a8I {α:Type} {l m:List α} (h:∀r∈l,r∈m) (e:m=[]):l=[]:=Jx.mpr fun r hr=>by
 have:=h r hr;rw [e] at this;cases this
theorem a8Q:a1w rs pl S U D q=true↔q∈S∨(q∉S∧a1P rs U q≠[]∧a1Z q∉S∧∀r∈hdF rs (a1Z q),a2s r.2.2.2 D=true∨btn pl (a1P rs U q) r=true):=by
 unfold a1w
 by_cases h:q∈S
 ·simp [h]
 ·rw [if_neg h]
  by_cases c:a1P rs U q=[]∨a1Z q∈S
  ·rw [if_pos c]
   constructor
   ·intro z;cases z
   ·rintro (z | ⟨_,a,b,_⟩)
    ·exact absurd z h
    ·exact (c.elim a b).elim
  ·rw [if_neg c,Ze]
   rw [not_or] at c
   constructor
   ·intro z;exact .inr ⟨h,c.1,c.2,fun r hr=>Wf.mp (z r hr)⟩
   ·rintro (z | ⟨_,_,_,z⟩)
    ·exact absurd z h
    ·exact fun r hr=>Wf.mpr (z r hr)
theorem b1Z:a5o rs pl S U D q=true↔q∉S∧(unf rs D q=[]∨a1Z q∈S∨∃r∈hdF rs (a1Z q),a1B r.2.2.2 U=true∧btn pl (unf rs D q) r=false):=by
 unfold a5o
 by_cases h:q∈S
 ·simp [h]
 ·rw [if_neg h]
  by_cases c:unf rs D q=[]∨a1Z q∈S
  ·rw [if_pos c]
   exact ⟨fun _=>⟨h,c.imp id .inl⟩,fun _=>rfl⟩
  ·rw [if_neg c,Xy]
   rw [not_or] at c
   constructor
   ·rintro ⟨r,hr,z⟩
    rw [Qp,Xk] at z
    exact ⟨h,.inr (.inr ⟨r,hr,z⟩)⟩
   ·rintro ⟨_,z | z | ⟨r,hr,z⟩⟩
    ·exact absurd z c.1
    ·exact absurd z c.2
    ·exact ⟨r,hr,by rw [Qp,Xk];exact z⟩
theorem a6m (hU:∀x∈U,x∈U') (hD:∀x∈D,x∈D') (e:a1w rs pl S U D q=true):a1w rs pl S U' D' q=true:=by
 rw [a8Q] at e ⊢
 rcases e with e | ⟨a,b,c,d⟩
 ·exact .inl e
 ·have hs:∀r∈a1P rs U q,r∈a1P rs U' q:=fun r hr=>by rw [a7D] at hr ⊢;exact ⟨hr.1,a4d hU hr.2⟩
  exact .inr ⟨a,fun z=>b (a8I hs z),c,fun r hr=>(d r hr).imp (a4G hD) (a5V hs)⟩
theorem b0c (hU:∀x∈U,x∈U') (hD:∀x∈D,x∈D') (e:a5o rs pl S U D q=true):a5o rs pl S U' D' q=true:=by
 rw [b1Z] at e ⊢
 have hs:∀r∈unf rs D' q,r∈unf rs D q:=fun r hr=>by
  rw [b2i] at hr ⊢
  refine ⟨hr.1,?_⟩
  cases z:a2s r.2.2.2 D with
  | false=>rfl
  | true=>have:=hr.2;rw [a4G hD z] at this;cases this
 refine ⟨e.1,?_⟩
 rcases e.2 with z | z | ⟨r,hr,a,b⟩
 ·exact .inl (a8I hs z)
 ·exact .inr (.inl z)
 ·refine .inr (.inr ⟨r,hr,a4d hU a,?_⟩)
  cases z:btn pl (unf rs D' q) r with
  | false=>rfl
  | true=>rw [a5V hs z] at b;cases b
end
/-! ### claims that come in,as few as can be -/
theorem b3U {cl:List (Bool×Str)} {b:Bool} {x:Str}:x∈wOf (cl.map cw) (clW b)↔(b,x)∈cl:=by
 unfold wOf
 rw [Xa]
 constructor
 ·rintro ⟨p,hp,rfl⟩
  obtain ⟨h1,h2⟩:=Xn.mp hp
  obtain ⟨c,hc,rfl⟩:=Xa.mp h1
  have:clW c.1=clW b:=of_decide_eq_true h2
  have e:c.1=b:=by
   cases h:c.1<;>cases b<;>first | rfl | (rw [h] at this;exact absurd this ‹dk›)
  rw [←e];exact hc
 ·exact fun h=>⟨cw (b,x),Xn.mpr ⟨Xa.mpr ⟨_,h,rfl⟩,by simp [cw]⟩,rfl⟩
theorem a5O {cl:List (Bool×Str)} {x:Str}:x∈wOf (cl.map cw) "held"↔(true,x)∈cl:=b3U (b:=true)
theorem a5X {cl:List (Bool×Str)} {x:Str}:x∈wOf (cl.map cw) "refused"↔(false,x)∈cl:=b3U (b:=false)
section
variable {rs:List Rw} {pl:List (Str×Str)} {S ev:List Str} {acc acc' G:List (Bool×Str)} {c:Bool×Str}
theorem a2I (h:∀c∈acc,c∈acc') (e:a1E rs pl S acc c=true):a1E rs pl S acc' c=true:=by
 unfold a1E b7X at e ⊢
 have hU:∀x∈wOf (acc.map cw) "held",x∈wOf (acc'.map cw) "held":=fun x hx=>a5O.mpr (h _ (a5O.mp hx))
 have hD:∀x∈wOf (acc.map cw) "refused",x∈wOf (acc'.map cw) "refused":=fun x hx=>a5X.mpr (h _ (a5X.mp hx))
 by_cases b:c.1=true
 ·rw [if_pos b] at e ⊢;exact a6m hU hD e
 ·rw [if_neg b] at e ⊢;exact b0c hU hD e
theorem a4A:∀{l acc:List (Bool×Str)} (k:Nat),a1u rs pl S acc l=true→a1u rs pl S acc (l.take k)=true
 | [],_,k,_=>by rw [List.take_nil];rfl
 | d::l,acc,0,_=>rfl
 | d::l,acc,k+1,e=>by
  have e':(a1E rs pl S acc d && a1u rs pl S (acc++[d]) l)=true:=e
  rw [Qp] at e'
  show (a1E rs pl S acc d && a1u rs pl S (acc++[d]) (l.take k))=true
  rw [e'.1,a4A k e'.2];rfl
structure Grw (rs:List Rw) (pl:List (Str×Str)) (S ev:List Str) (G:List (Bool×Str)):Prop where
 l:a1u rs pl S [] G=true
 n:(G.map (·.2)).Nodup
 e:∀c∈G,c.2∈ev
def GrC (rs:List Rw) (pl:List (Str×Str)) (S ev:List Str) (G:List (Bool×Str)):Prop:=∀q∈ev,q∉G.map (·.2)→a1E rs pl S G (true,q)=false∧a1E rs pl S G (false,q)=false
theorem a6z {α:Type} {l:List α} {x:α} (h:l.Nodup) (hx:x∉l):(l++[x]).Nodup:=
 List.nodup_append.mpr ⟨h,Zi.mpr ⟨Yr,Uf⟩,fun a ha b hb e=>hx (by rw [←Qq.mp hb,←e];exact ha)⟩
theorem Grw.len (h:Grw rs pl S ev G):G.length≤ev.length:=by
 have:=a2U h.n (fun x hx=>by obtain ⟨c,hc,e⟩:=Xa.mp hx;rw [←e];exact h.e c hc)
 rwa [Qd] at this
theorem Grw.snoc (h:Grw rs pl S ev G) (hq:c.2∈ev) (hn:c.2∉G.map (·.2)) (hd:a1E rs pl S G c=true):Grw rs pl S ev (G++[c]):=by
 refine ⟨by rw [a3e,h.l,Zy,hd];rfl,?_,fun d hd=>?_⟩
 ·rw [Xo];exact a6z h.n hn
 ·rcases Xq.mp hd with m | m
  ·exact h.e d m
  ·rw [Qq.mp m];exact hq
end
theorem a3t (l:List (Bool×Str)) (c:Bool×Str) (w:Str):wOf ((l++[c]).map cw) w=wOf (l.map cw) w++if clW c.1=w then [c.2] else []:=by
 unfold wOf
 rw [Xo,Ji,Xo]
 congr 1
 show Wv _ (List.filter _ [cw c])=_
 rw [Zo]
 by_cases h:clW c.1=w
 ·rw [if_pos (show decide ((cw c).1=w)=true from decide_eq_true h),if_pos h];rfl
 ·rw [if_neg (show ¬decide ((cw c).1=w)=true from fun z=>h (of_decide_eq_true z)),if_neg h];rfl
def b2m (t:Adr):Sp:=fun vs H Q _=>∃(s T P E a1:Addr) (zr:List VR) (ps:List V) (pl:List (Str×Str)) (ev S:List Str),vs=[.ref s,.ref a1]∧a1k t H s T P E zr ps pl ev∧H a1=some (.lst (S.map V.str))∧∀D G qs H',a0h H H'→H D=none→H' D=some (.lst qs)→a0o H' qs (G.map cw)→Grw (zr.map (·.2)) pl S ev G→GrC (zr.map (·.2)) pl S ev G→Q (.ref D) H'
structure GrI (H H':Hp) (A1 A2 A3:Addr) (rs:List Rw) (pl:List (Str×Str)) (S ev:List Str) (G:List (Bool×Str)) (qs:List V):Prop where
 s:a0h H H'
 u:H' A1=some (.lst ((wOf (G.map cw) "held").map V.str))
 d:H' A2=some (.lst ((wOf (G.map cw) "refused").map V.str))
 r:H' A3=some (.lst qs)
 p:a0o H' qs (G.map cw)
 g:Grw rs pl S ev G
theorem GrI.same {H H' H2:Hp} {A1 A2 A3:Addr} {rs:List Rw} {pl:List (Str×Str)} {S ev:List Str} {G:List (Bool×Str)} {qs:List V} (h:GrI H H' A1 A2 A3 rs pl S ev G qs) (s:a0h H' H2):GrI H H2 A1 A2 A3 rs pl S ev G qs:=⟨h.s.trans s,s _ _ h.u,s _ _ h.d,s _ _ h.r,a0o.same s h.p,h.g⟩
theorem GrI.add {H H':Hp} {A1 A2 A3 Ab p:Addr} {rs:List Rw} {pl:List (Str×Str)} {S ev:List Str} {G:List (Bool×Str)} {qs:List V} {b:Bool} {q:Str} (h:GrI H H' A1 A2 A3 rs pl S ev G qs) (n12:A1≠A2) (n13:A1≠A3) (n23:A2≠A3) (f1:H A1=none) (f2:H A2=none) (f3:H A3=none) (hb:(b=true∧Ab=A1)∨(b=false∧Ab=A2)) (hg:Grw rs pl S ev (G++[(b,q)])) (hp:upd H' Ab (.lst ((wOf (G.map cw) (clW b)).map V.str++[V.str q])) p=none):
  GrI H (upd (upd (upd H' Ab (.lst ((wOf (G.map cw) (clW b)).map V.str++[V.str q]))) p (.tup [.str (clW b),.str q])) A3 (.lst (qs++[.ref p]))) A1 A2 A3 rs pl S ev (G++[(b,q)]) (qs++[.ref p]):=by
 have hpb:p≠Ab:=fun z=>by rw [z,a0g] at hp;cases hp
 have hp':H' p=none:=by rw [a0d hpb] at hp;exact hp
 have k1:p≠A1:=fun z=>by rw [z,h.u] at hp';cases hp'
 have k2:p≠A2:=fun z=>by rw [z,h.d] at hp';cases hp'
 have k3:p≠A3:=fun z=>by rw [z,h.r] at hp';cases hp'
 have b3:Ab≠A3:=by rcases hb with ⟨_,rfl⟩ | ⟨_,rfl⟩<;>assumption
 have up:∀c o,c≠Ab→c≠A3→H' c=some o→(upd (upd (upd H' Ab (.lst ((wOf (G.map cw) (clW b)).map V.str++[V.str q]))) p (.tup [.str (clW b),.str q])) A3 (.lst (qs++[.ref p]))) c=some o:=fun c o c1 c2 e=>by
  rw [a0d c2,a0d (a0c e hp'),a0d c1];exact e
 have hbl:∃ys,H' Ab=some (.lst ys):=by
  rcases hb with ⟨_,rfl⟩ | ⟨_,rfl⟩
  ·exact ⟨_,h.u⟩
  ·exact ⟨_,h.d⟩
 refine ⟨fun c o e=>up c o ?_ (a0c e f3) (h.s _ _ e),?_,?_,a0g,?_,hg⟩
 ·rcases hb with ⟨_,rfl⟩ | ⟨_,rfl⟩
  ·exact a0c e f1
  ·exact a0c e f2
 ·rw [a3t]
  rcases hb with ⟨rfl,rfl⟩ | ⟨rfl,rfl⟩
  ·rw [a0d n13,a0d k1.symm,a0g,if_pos (show clW true="held" from rfl),Xo];rfl
  ·rw [up _ _ n12 n13 h.u,if_neg (show ¬clW false="held" by decide+kernel),Qf]
 ·rw [a3t]
  rcases hb with ⟨rfl,rfl⟩ | ⟨rfl,rfl⟩
  ·rw [up _ _ n12.symm n23 h.d,if_neg (show ¬clW true="refused" by decide+kernel),Qf]
  ·rw [a0d n23,a0d k2.symm,a0g,if_pos (show clW false="refused" from rfl),Xo];rfl
 ·rw [Xo]
  refine a5C (p:=cw (b,q)) ?_ (by rw [a0d k3,a0g];rfl)
  obtain ⟨as,e,hl,hat⟩:=h.p
  obtain ⟨ys,hb'⟩:=hbl
  exact ⟨as,e,hl,fun i a z e1 e2=>by
   have:=hat i a z e1 e2
   exact up _ _ (a1O this hb' ‹iz›) (a1O this h.r ‹iz›) this⟩
def b3C (H:Hp) (D:Addr) (ev:List Str) (cl:List (Bool×Str)):Prop:=∃qs,H D=some (.lst qs)∧a0o H qs (cl.map cw)∧∀c∈cl,c.2∈ev
theorem b3C.same {H H':Hp} {D:Addr} {ev:List Str} {cl:List (Bool×Str)} (s:a0h H H') (h:b3C H D ev cl):b3C H' D ev cl:=let ⟨q,a,b,c⟩:=h;⟨q,s _ _ a,a0o.same s b,c⟩
theorem b4W {H:Hp} {ev:List Str}:∀{ys:List V},(∀(i:Nat) v,ys[i]?=some v→∃(x:Addr) (c:Bool×Str),v=.ref x∧H x=some (.tup [.str (clW c.1),.str c.2])∧c.2∈ev)→∃cl:List (Bool×Str),a0o H ys (cl.map cw)∧∀c∈cl,c.2∈ev
 | [],_=>⟨[],⟨[],rfl,rfl,fun i a p e=>(by cases e)⟩,fun c hc=>(by cases hc)⟩
 | y::ys,h=>by
  obtain ⟨cl,⟨as,e,hl,hat⟩,hc⟩:=b4W (ys:=ys) fun i v e=>h (i+1) v e
  obtain ⟨x,c,ey,hx,he⟩:=h 0 y rfl
  refine ⟨c::cl,⟨x::as,by rw [ey,e];rfl,by rw [Xp,Qj,Qj,hl],fun i a p e1 e2=>?_⟩,fun d hd=>?_⟩
  ·cases i with
   | zero=>cases e1;cases e2;exact hx
   | succ i=>exact hat i a p e1 e2
  ·rcases Qw.mp hd with z | z
   ·rw [z];exact he
   ·exact hc d z
theorem a3y {H:Hp} {xs ys:List V} {a b:List (Str×Str)} (h:a0o H xs a) (k:a0o H ys b):a0o H (xs++ys) (a++b):=by
 obtain ⟨as,rfl,hl,hat⟩:=h
 obtain ⟨bs,rfl,kl,kat⟩:=k
 refine ⟨as++bs,by rw [Xo],by rw [Xl,Xl,hl,kl],fun i x p e1 e2=>?_⟩
 by_cases hi:i < as.length
 ·rw [Yh hi] at e1
  rw [Yh ‹om›] at e2
  exact hat i x p e1 e2
 ·rw [Ye ‹om›] at e1
  rw [Ye ‹om›,←hl] at e2
  exact kat _ x p e1 e2
theorem b6h (b:Bool):Xb (clW b)=true:=by cases b<;>decide+kernel
theorem b2Y (ns:List Int) (lo hi:Option Int):∃cs:List Int,a3c (ns.map V.int) lo hi=cs.map V.int∧cs.length≤ns.length:=by
 unfold a3c
 refine ⟨(ns.drop (HT.sIx (ns.map V.int).length 0 lo)).take (HT.sIx (ns.map V.int).length (ns.map V.int).length hi - HT.sIx (ns.map V.int).length 0 lo),by rw [Zw,List.map_drop],?_⟩
 rw [Xu,Jr]
 omega
/-! ### texts in order -/
def leT (a b:Str):Prop:=¬b.cps.toList < a.cps.toList
theorem a9x {a b c:Str} (h1:leT a b) (h2:leT b c):leT a c:=List.le_trans (show a.cps.toList≤b.cps.toList from h1) (show b.cps.toList≤c.cps.toList from h2)
theorem b0D {a b:Str} (h1:leT a b) (h2:leT b a):a=b:=by
 have e:a.cps.toList=b.cps.toList:=List.le_antisymm (show a.cps.toList≤b.cps.toList from h1) (show b.cps.toList≤a.cps.toList from h2)
 obtain ⟨⟨a⟩⟩:=a
 obtain ⟨⟨b⟩⟩:=b
 have e':a=b:=e
 rw [e']
theorem a4C:∀(l:List Str) (p:Str),PyProof.Rows.risingS p l=true→(p::l).Pairwise leT
 | [],p,_=>by simp
 | x::r,p,h=>by
  have h':(!PySem.Spec.ltCps x.cps.toList p.cps.toList && PyProof.Rows.risingS x r)=true:=h
  rw [Qp,Xk,PyProof.Rows.ltCps_eq,decide_eq_false_iff_not] at h'
  have ih:=a4C r x h'.2
  refine Zh.mpr ⟨fun y hy=>?_,ih⟩
  rcases Qw.mp hy with e | e
  ·rw [e];exact h'.1
  ·exact a9x h'.1 ((Zh.mp ih).1 y e)
theorem a4q:∀{l:List Str},PyProof.Rows.sortedS l=true→l.Pairwise leT
 | [],_=>.nil
 | x::r,h=>a4C r x h
theorem a2Z:∀{a b:List Str},a.Perm b→a.Pairwise leT→b.Pairwise leT→a=b
 | [],b,h,_,_=>(h.symm.eq_nil).symm
 | x::a,[],h,_,_=>by have:=h.length_eq;simp at this
 | x::a,y::b,h,ha,hb=>by
  have e:x=y:=by
   rcases Qw.mp (h.mem_iff.mp (Qu (a:=x) (l:=a))) with z | z
   ·exact z
   ·rcases Qw.mp (h.mem_iff.mpr (Qu (a:=y) (l:=b))) with w | w
    ·exact w.symm
    ·exact b0D ((Zh.mp ha).1 y w) ((Zh.mp hb).1 x z)
  subst e
  rw [a2Z (List.Perm.cons_inv h) (Zh.mp ha).2 (Zh.mp hb).2]
theorem a5E:∀(zs ys:List Str),Xs (.list (zs.map Yj)) (.list (ys.map Yj))=decide (zs=ys):=by
 have all:∀(zs ys:List Str),Yx (zs.map Yj) (ys.map Yj)=decide (zs=ys):=by
  intro zs
  induction zs with
  | nil=>intro ys;cases ys<;>rfl
  | cons z zs ih=>
   intro ys
   cases ys with
   | nil=>rfl
   | cons y ys=>
    have e:Yx ((z::zs).map Yj) ((y::ys).map Yj)=(Xs (.str z) (.str y) && Yx (zs.map Yj) (ys.map Yj)):=rfl
    have e2:Xs (.str z) (.str y)=decide (z=y):=by first | rfl | simp [Xs]
    rw [e,e2,ih]
    by_cases h1:z=y
    ·by_cases h2:zs=ys
     ·simp [h1,h2]
     ·simp [h1,h2]
    ·simp [h1]
 intro zs ys
 have e:Xs (.list (zs.map Yj)) (.list (ys.map Yj))=Yx (zs.map Yj) (ys.map Yj):=by first | rfl | simp [Xs]
 rw [e];exact all zs ys
/-! ### a sure set,looked at one by one -/
theorem a4V {rs:List (SR Str)}:∀{l S:List Str} (k:Nat),a2a rs S l=true→a2a rs S (l.take k)=true
 | [],_,k,_=>by rw [List.take_nil];rfl
 | _::_,_,0,_=>rfl
 | y::l,S,k+1,e=>by
  have e':((!decide (y∈S) && a2B rs S y) && a2a rs (S++[y]) l)=true:=e
  rw [Qp] at e'
  show ((!decide (y∈S) && a2B rs S y) && a2a rs (S++[y]) (l.take k))=true
  rw [e'.1,a4V k e'.2];rfl
theorem a8z {α:Type} [DecidableEq α]:∀{l m:List α},l.Nodup→m.Nodup→(∀x,x∈l↔x∈m)→l.Perm m
 | [],m,_,_,h=>by
  have:m=[]:=Jx.mpr fun x hx=>by have:=(h x).mpr hx;cases this
  rw [this]
 | x::l,m,hl,hm,h=>by
  rw [Zi] at hl
  have hx:x∈m:=(h x).mp Qu
  refine ((a8z hl.2 (hm.erase x) fun y=>?_).cons x).trans (List.perm_cons_erase hx).symm
  rw [Xv.mem_erase_iff hm,←h y,Qw]
  exact ⟨fun hy=>⟨fun e=>hl.1 (by rw [←e];exact hy),.inr hy⟩,fun ⟨n,e⟩=>e.resolve_left n⟩
theorem a6E {rs:List Rw} {S L s' l':List Str} (hL:isS rs L=true) (hS:a2a (rs.map srW) [] S=true) (p1:s'.Perm S) (p2:l'.Perm L) (h1:PyProof.Rows.sortedS s'=true) (h2:PyProof.Rows.sortedS l'=true):decide (s'=l')=isS rs S:=by
 have hL':=hL
 unfold isS at hL'
 rw [Qp] at hL'
 rw [Yl,decide_eq_true_eq]
 constructor
 ·rintro rfl
  have p:=p1.symm.trans p2
  unfold isS
  rw [hS,Xx,a1S]
  intro x b hr hb
  exact p.mem_iff.mpr (a1S.mp hL'.2 x b hr fun q hq=>p.mem_iff.mp (hb q hq))
 ·intro h
  have h':=h
  unfold isS at h'
  rw [Qp] at h'
  have s1:=a2K (a1S.mp hL'.2) hS (fun _ z=>by cases z)
  have s2:=a2K (a1S.mp h'.2) hL'.1 (fun _ z=>by cases z)
  have p:=a8z (a1U hS).1 (a1U hL'.1).1 fun x=>⟨s1 x,s2 x⟩
  exact a2Z ((p1.trans p).trans p2.symm) (a4q h1) (a4q h2)
def a9d (t:Adr):Sp:=fun vs H Q _=>∃(s T P E a:Addr) (zr:List VR) (ps:List V) (pl:List (Str×Str)) (ev S:List Str),vs=[.ref s,.ref a]∧a1k t H s T P E zr ps pl ev∧H a=some (.lst (S.map V.str))∧S.length≤60∧(∀z∈S,Xb z=true)∧∀H',a0h H H'→Q (.bl (isS (zr.map (·.2)) S)) H'
def b7u (t:Adr):Sp:=fun vs H Q _=>∃(s T P E a1 a2:Addr) (zr:List VR) (ps:List V) (pl:List (Str×Str)) (ev S:List Str) (R:List (Bool×Str)),vs=[.ref s,.ref a1,.ref a2]∧a1k t H s T P E zr ps pl ev∧H a1=some (.lst (S.map V.str))∧S.length≤60∧(∀z∈S,Xb z=true)∧b3C H a2 ev R∧R.length≤1000∧∀H',a0h H H'→Q (.bl (isS (zr.map (·.2)) S && a1u (zr.map (·.2)) pl S [] R)) H'
theorem b0g {K:Qc} {H:Hp} {Q:VK} {a b:Addr} {zs ys:List Str} (ha:SqL K H a (zs.map V.str)) (hb:SqL K H b (ys.map V.str)) (ho:∀z∈zs,Xb z=true) (ho':∀z∈ys,Xb z=true) (q:Q (.bl (decide (zs=ys))) H):b6x K (.ref a) (.ref b) H Q:=
 .inr ⟨_,_,.lst ha (a2M zs),.lst hb (a2M ys),a7F ho,a7F ho',by rw [a5E];exact q⟩
/-! ### a row told three hundred times -/
section
variable {rs:List Rw} {pl:List (Str×Str)} {S:List Str} {c d:Bool×Str}
theorem b2z {acc acc':List (Bool×Str)} (h:∀x,x∈acc↔x∈acc'):a1E rs pl S acc c=a1E rs pl S acc' c:=by
 rw [Yl];exact ⟨a2I fun x hx=>(h x).mp hx,a2I fun x hx=>(h x).mpr hx⟩
theorem a5t:∀(n:Nat) {acc:List (Bool×Str)},c∈acc→a1E rs pl S acc c=true→a1u rs pl S acc (Xd n c++[d])=a1E rs pl S acc d
 | 0,acc,_,_=>Zx _
 | n+1,acc,h,e=>by
  show (a1E rs pl S acc c && a1u rs pl S (acc++[c]) (Xd n c++[d]))=_
  rw [e,Xx,a5t n (Zc _ h) (a2I (fun x hx=>Zc _ hx) e)]
  refine b2z fun x=>⟨fun hx=>?_,fun hx=>Zc _ hx⟩
  rcases Xq.mp hx with m | m
  ·exact m
  ·rw [Qq.mp m];exact h
theorem a8H (n:Nat):a1u rs pl S [] (Xd (n+1) c++[d])=a1u rs pl S [] [c,d]:=by
 show (a1E rs pl S [] c && a1u rs pl S [c] (Xd n c++[d]))=(a1E rs pl S [] c && (a1E rs pl S [c] d && true))
 cases e:a1E rs pl S [] c with
 | false=>rfl
 | true=>rw [a5t n Qu (a2I (fun x hx=>by cases hx) e),Zx]
end
theorem a7w {H:Hp} {x:Addr} {p:Str×Str} (h:H x=some (.tup [.str p.1,.str p.2])) (n:Nat):a0o H (Xd n (V.ref x)) (Xd n p):=by
 refine ⟨Xd n x,by rw [Wo],by rw [Zj,Zj],fun i a q e1 e2=>?_⟩
 rw [Vb] at e1 e2
 by_cases hi:i < n
 ·rw [if_pos hi] at e1 e2;cases e1;cases e2;exact h
 ·rw [if_neg hi] at e1;cases e1
/-! ### lists of things of one kind,cut and joined -/
def LsP (P:Hp→V→Prop) (H:Hp) (D:Addr) (n:Nat):Prop:=∃ys,H D=some (.lst ys)∧ys.length≤n∧∀v∈ys,P H v
def Kp (P:Hp→V→Prop):Prop:=∀H H' v,a0h H H'→P H v→P H' v
theorem LsP.same {P:Hp→V→Prop} (m:Kp P) {H H':Hp} {D:Addr} {n:Nat} (s:a0h H H') (h:LsP P H D n):LsP P H' D n:=let ⟨y,a,b,c⟩:=h;⟨y,s _ _ a,b,fun v hv=>m _ _ _ s (c v hv)⟩
theorem LsP.up {P:Hp→V→Prop} {H:Hp} {D:Addr} {n m:Nat} (h:LsP P H D n) (e:n≤m):LsP P H D m:=let ⟨y,a,b,c⟩:=h;⟨y,a,Qi b e,c⟩
theorem LsP.cut {P:Hp→V→Prop} (m:Kp P) {K:Qc} {H:Hp} {a:Addr} {n:Nat} {lo hi:Option Int} {Q:VK} (h:LsP P H a n) (k:∀p H',a0h H H'→LsP P H' p n→Q (.ref p) H'):b7E K (.ref a) lo hi H Q:=by
 obtain ⟨ys,ha,hl,hP⟩:=h
 refine .inr (.inl ⟨a,_,rfl,SqL.of ha,fun p hp=>?_⟩)
 obtain ⟨H1,e1,s1,g1⟩:=a0F hp (.lst (a3c ys lo hi));rw [e1]
 exact k p H1 s1 ⟨_,g1,Qi (a2b ys lo hi) hl,fun v hv=>m _ _ _ s1 (hP v (List.mem_of_mem_drop (Jw hv)))⟩
theorem LsP.add {P:Hp→V→Prop} (m:Kp P) {K:Qc} {H:Hp} {a b:Addr} {n n':Nat} {Q:VK} (h:LsP P H a n) (h':LsP P H b n') (hn:n+n'≤1000) (k:∀p H',a0h H H'→LsP P H' p (n+n')→Q (.ref p) H'):a5p K (.ref a) (.ref b) H Q:=by
 obtain ⟨ys,ha,hl,hP⟩:=h
 obtain ⟨zs,hb,hl',hP'⟩:=h'
 refine .inr (.inr (.inl ⟨a,b,_,_,rfl,rfl,ha,hb,Qi (show ys.length+zs.length≤1000 by omega) ‹dc›,fun p hp=>?_⟩))
 obtain ⟨H1,e1,s1,g1⟩:=a0F hp (.lst (ys++zs));rw [e1]
 exact k p H1 s1 ⟨_,g1,by rw [Xl];omega,fun v hv=>m _ _ _ s1 ((Xq.mp hv).elim (hP v) (hP' v))⟩
def b3e (ev:List Str):Hp→V→Prop:=fun _ v=>∃z∈ev,v=.str z
def b1F (ev:List Str):Hp→V→Prop:=fun H v=>∃(x:Addr) (c:Bool×Str),v=.ref x∧H x=some (.tup [.str (clW c.1),.str c.2])∧c.2∈ev
theorem b8e (ev:List Str):Kp (b3e ev):=fun _ _ _ _ h=>h
theorem b8n (ev:List Str):Kp (b1F ev):=fun _ _ _ s ⟨x,c,e,h,m⟩=>⟨x,c,e,s _ _ h,m⟩
theorem b7R {H:Hp} {D:Addr} {ev:List Str} {n:Nat} (h:LsP (b3e ev) H D n):∃S:List Str,H D=some (.lst (S.map V.str))∧S.length≤n∧∀z∈S,z∈ev:=by
 obtain ⟨ys,ha,hl,hP⟩:=h
 obtain ⟨S,e,hS⟩:=b1l (P:=fun z=>z∈ev) (ys:=ys) fun i v e=>by
  obtain ⟨z,hz,ez⟩:=hP v (Zl e)
  exact ⟨z,ez,hz⟩
 rw [e] at ha hl
 rw [Qd] at hl
 exact ⟨S,ha,hl,hS⟩
theorem b6C {H:Hp} {D:Addr} {ev:List Str} {n:Nat} (h:LsP (b1F ev) H D n):∃cl:List (Bool×Str),b3C H D ev cl∧cl.length≤n:=by
 obtain ⟨ys,ha,hl,hP⟩:=h
 obtain ⟨cl,hp,hc⟩:=b4W (H:=H) (ev:=ev) (ys:=ys) fun i v e=>hP v (Zl e)
 refine ⟨cl,⟨ys,ha,hp,hc⟩,?_⟩
 have:=a0o.len hp
 rw [Qd] at this
 omega
theorem b5N {H:Hp} {D:Addr} {ev:List Str} {cl:List (Bool×Str)} {n:Nat} (h:b3C H D ev cl) (hn:cl.length≤n):LsP (b1F ev) H D n:=by
 obtain ⟨ys,ha,hp,hc⟩:=h
 have hl:=a0o.len hp
 rw [Qd] at hl
 refine ⟨ys,ha,by omega,fun v hv=>?_⟩
 obtain ⟨i,hi,rfl⟩:=Ub hv
 have hi':i < cl.length:=by omega
 obtain ⟨x,ex,hx⟩:=a0o.at hp (i:=i) (by rw [Qd];exact hi')
 rw [Qe hi] at ex
 rw [Zr] at hx
 exact ⟨x,cl[i],Option.some.inj ex,hx,hc _ (Qx hi')⟩
theorem b8r {H:Hp} {D:Addr} {ev S:List Str} {n:Nat} (h:H D=some (.lst (S.map V.str))) (hn:S.length≤n) (he:∀z∈S,z∈ev):LsP (b3e ev) H D n:=⟨_,h,by rw [Qd];exact hn,fun v hv=>by
 obtain ⟨z,hz,rfl⟩:=Xa.mp hv
 exact ⟨z,he z hz,rfl⟩⟩
def b2O:Sp:=fun vs H Q _=>∃(a:Addr) (c:Int) (P:Hp→V→Prop) (n:Nat),vs=[.ref a,.int c]∧Kp P∧LsP P H a n∧n≤100∧∀D H',a0h H H'→LsP P H' D (4 * n+1)→Q (.ref D) H'
def b2a (t:Adr):Sp:=fun vs H Q _=>∃(s T P E a1 a2:Addr) (c:Int) (zr:List VR) (ps:List V) (pl:List (Str×Str)) (ev:List Str),vs=[.ref s,.ref a1,.ref a2,.int c]∧a1k t H s T P E zr ps pl ev∧LsP (b3e ev) H a1 14∧LsP (b1F ev) H a2 14∧
 ∀D b1 b2 H',a0h H H'→H' D=some (.lst [.ref b1,.ref b2])→LsP (b3e ev) H' b1 57→LsP (b1F ev) H' b2 57→Q (.ref D) H'
/-! ### what is handed in,looked at again -/
def b0M (S:List Str) (rl:List (Str×Str)):PyData:=.tuple [.list (S.map Yj),.list (rl.map fun p=>Yb [.str p.1,.str p.2])]
theorem a8q:∀rl:List (Str×Str),Yx (rl.map fun p=>Yb [.str p.1,.str p.2]) (rl.map fun p=>Yb [.str p.1,.str p.2])=true
 | []=>rfl
 | p::rl=>by
  have e:Yx ((p::rl).map fun p=>Yb [.str p.1,.str p.2]) ((p::rl).map fun p=>Yb [.str p.1,.str p.2])=(Xs (.tuple [.str p.1,.str p.2]) (.tuple [.str p.1,.str p.2]) && Yx (rl.map fun p=>Yb [.str p.1,.str p.2]) (rl.map fun p=>Yb [.str p.1,.str p.2])):=rfl
  rw [e,a5F,decide_eq_true rfl,a8q rl];rfl
theorem b0f (S:List Str) (rl:List (Str×Str)):Xs (b0M S rl) (b0M S rl)=true:=by
 have e:Xs (b0M S rl) (b0M S rl)=(Xs (.list (S.map Yj)) (.list (S.map Yj)) && (Xs (.list (rl.map fun p=>Yb [.str p.1,.str p.2])) (.list (rl.map fun p=>Yb [.str p.1,.str p.2])) && true)):=by
  first | rfl | simp [b0M,Xs,Yx]
 have e2:Xs (.list (rl.map fun p=>Yb [.str p.1,.str p.2])) (.list (rl.map fun p=>Yb [.str p.1,.str p.2]))=true:=by
  have:Xs (.list (rl.map fun p=>Yb [.str p.1,.str p.2])) (.list (rl.map fun p=>Yb [.str p.1,.str p.2]))=Yx (rl.map fun p=>Yb [.str p.1,.str p.2]) (rl.map fun p=>Yb [.str p.1,.str p.2]):=by
   first | rfl | simp [Xs]
  rw [this];exact a8q rl
 rw [e,a5E,decide_eq_true rfl,e2];rfl
theorem a7x {S:List Str} {rl:List (Str×Str)} (so:∀z∈S,Xb z=true) (po:∀p∈rl,Xb p.1=true∧Xb p.2=true):Zp (b0M S rl)=true:=by
 obtain ⟨a,b⟩:=b7C S so
 obtain ⟨c,d⟩:=b9g rl po
 unfold Zp b0M
 simp only [Yz,Uq,Zq,Jv,a,b,c,Xx,Zx,decide_eq_true_eq]
 omega
theorem b1U {K:Qc} {H:Hp} {Q:VK} {h p a1 a2 b1 b2:Addr} {S:List Str} {qs qs':List V} {rl:List (Str×Str)} (hh:H h=some (.tup [.ref a1,.ref a2])) (h1:H a1=some (.lst (S.map V.str))) (h2:H a2=some (.lst qs)) (hP:a0o H qs rl) (hp:H p=some (.tup [.ref b1,.ref b2])) (k1:H b1=some (.lst (S.map V.str))) (k2:H b2=some (.lst qs')) (hP':a0o H qs' rl) (so:∀z∈S,Xb z=true) (po:∀p∈rl,Xb p.1=true∧Xb p.2=true) (q:Q (.bl false) H):b4y K (.ref h) (.ref p) H Q:=
 .inr ⟨b0M S rl,b0M S rl,.tup (SqT.of hh) (.cons (.lst (SqL.of h1) (a2M S)) (.cons (.lst (SqL.of h2) (a7Z hP)) .nil)),.tup (SqT.of hp) (.cons (.lst (SqL.of k1) (a2M S)) (.cons (.lst (SqL.of k2) (a7Z hP')) .nil)),a7x so po,a7x so po,by rw [b0f];exact q⟩
def b2T (K:Qc):Sp:=fun vs H Q _=>∃(a:Addr) (ns:List Int),vs=[.ref a]∧SqL K H a (ns.map V.int)∧ns.length≤63∧∀H',Q (.bl true) H'
theorem a9V {K:Qc} {H:Hp} {a:Addr} {ns:List Int} (hl:ns.length≤63) (_:b7v H) (hS:SqL K H a (ns.map V.int)):b2T K [.ref a] H (fun v _=>v=.bl true) fun _ _ _=>False:=⟨a,ns,rfl,hS,hl,fun _=>rfl⟩
end K52
namespace K52
open PySem L2 Tx
local macro_rules
 | `(‹$n:num›)=>`(@pv _ $n _ _ (by rfl) (by first | exact c4t rfl | exact c3J rfl | exact c3y rfl) ‹dc› ‹dc›)
local macro_rules | `(tactic| trivial)=>`(tactic| first | exact Or.inl rfl | exact Or.inr rfl | assumption)
set_option hygiene false
local macro_rules
 | `(‹($x)›)=>`(‹$x›)
 | `(‹A0 $a $b›)=>`(@b2n _ _ _ _ _ ‹$a› ‹$b› (by rfl))
 | `(‹A1›)=>`(@b5I _)
 | `(‹A2›)=>`(@b3P _ _ _ _)
 | `(‹A3 $a›)=>`(@b3m _ _ _ ‹$a›)
 | `(‹A4 $a $b›)=>`(@b0y _ _ _ _ _ ‹$a› ‹$b›)
 | `(‹A5 $a $b $c›)=>`(@b7G _ _ _ _ _ _ _ _ $a ‹$b› ‹$c›)
 | `(‹A6 $a›)=>`(@b5m _ _ _ _ ‹$a›)
 | `(‹A7 $a $b $c $d $e›)=>`(@b3q _ _ _ _ _ _ _ _ _ _ _ _ _ _ _ _ $a (hr.mono ‹dc›) rfl $b $c $d .nil a8R ‹$e› ‹dc› (by rfl) (by rfl))
 | `(‹A8 $a $b $c›)=>`(@b7F _ _ _ _ _ _ _ $a ‹$b› ‹$c› (fun _ _=>rfl))
 | `(‹A9 $a $b $c›)=>`(@b5o _ _ $a _ _ _ _ $b rfl (by trivial) ‹$c› (by rfl) (by trivial))
 | `(‹B0 $a $b $c $d›)=>`(@b2b _ _ _ _ _ _ _ _ $a ‹$b› ‹$c› $d)
 | `(‹B1 $a $b $c›)=>`(@b7Q _ _ _ _ _ _ _ _ ‹$a› ‹$b› ‹$c›)
 | `(‹B2 $a $b›)=>`(@b2l _ _ $a _ $b rfl (by trivial) (by trivial))
 | `(‹B3›)=>`(@b2o _)
 | `(‹B4 $a›)=>`(@b5S _ _ _ _ ‹$a›)
 | `(‹B5›)=>`(@b5n _ _ _ _)
 | `(‹B6›)=>`(@b7P _ _ _ _)
 | `(‹B7 $a›)=>`(@b1T _ _ _ ‹$a›)
 | `(‹B8 $a $b $c $d›)=>`(@a9I _ _ _ _ _ _ _ _ _ $a rfl $b $c ‹$d› ‹dc› ‹dc› (by rfl) (by rfl))
 | `(‹B9 $a›)=>`(@b3y _ _ _ _ ‹$a›)
 | `(‹C0 $a $b $c $d›)=>`(@b0B _ _ _ _ _ _ _ _ _ _ $a ‹$b› ‹$c› ‹$d›)
 | `(‹C1›)=>`(@b3i _)
 | `(‹C2 $a›)=>`(@b5k _ _ _ ‹$a› (by intro _;rfl))
 | `(‹C3 $a $b $c $d›)=>`(@a8L _ $a $b $c $d _ rfl rfl ‹dk›)
 | `(‹C4 $a›)=>`(@b1f _ _ _ _ _ ‹$a› rfl)
 | `(‹C5 $a $b $c $d $e›)=>`(@a9P _ _ _ _ _ _ _ _ _ _ _ _ _ _ _ _ _ ‹$a› $b $c $d (hr.mono ‹dc›) $e .nil a8R (by rfl))
 | `(‹C6 $a $b $c $d›)=>`(@a8a _ _ _ _ _ _ _ _ _ $a rfl $b $c ‹$d› ‹dc› ‹dc› (by rfl) (by rfl))
 | `(‹C7 $a $b $c›)=>`(@b6T _ _ _ _ _ _ _ _ PassesOwn.never rfl ‹$a› ‹$b› ‹$c› (by intro _;rfl))
 | `(‹C8 $a $b $c $d $e $f›)=>`(@b8s _ _ _ _ _ _ _ _ _ _ _ _ $a $b $c $d ‹$e› ‹$f› (by rfl) (by rfl) (by rfl) (by rfl) (by rfl))
 | `(‹C9 $a›)=>`(@PW.pt _ _ _ ‹$a›)
 | `(‹D0 $a›)=>`(@b6F _ _ _ _ _ ‹$a›)
 | `(‹D1 $a $b›)=>`(@b7c _ _ _ _ ‹$a› ‹$b›)
 | `(‹D2 $a›)=>`(@b3z _ _ _ _ ‹$a› (by rfl))
 | `(‹D3 $a $b $c $d $e›)=>`(@b3r _ _ _ _ _ _ _ _ _ _ _ _ _ ‹$a› rfl ‹$b› (fun _ _ _ _ _=>‹$c›) (fun _ _ _ _ _=>‹$d›) (fun _ _ _ _ _=>‹$e›) (by intro _;rfl))
 | `(‹D4 $a›)=>`(@b2J _ _ _ ‹$a›)
 | `(‹D5 $a $b›)=>`(@b6J _ _ _ _ _ _ _ ‹$a› ‹$b›)
 | `(‹D6 $a $b›)=>`(@b2k _ _ _ _ _ ‹$a› ‹$b›)
 | `(‹D7 $a›)=>`(@b5w _ _ _ _ ‹$a›)
 | `(‹D8 $a›)=>`(@b3j _ (K) _ _ _ _ rfl ‹$a› rfl)
 | `(‹D9 $a $b›)=>`(@b7U _ _ _ _ _ _ _ ‹$a› ‹$b›)
 | `(‹E0›)=>`(@b2u _)
 | `(‹E1 $a›)=>`(@b3a _ _ _ _ ‹$a›)
 | `(‹E2 $a›)=>`(@b5e _ _ _ _ ‹$a›)
 | `(‹E3 $a $b $c $d $e $f $g›)=>`(@a6q _ _ _ _ _ _ _ _ _ _ _ _ _ $a _ _ _ ‹$b› rfl ‹$c› (fun _ _ _ _ _=>‹$d›) (fun _ _ _ _ _=>‹$e›) (fun _ _ _ _ _=>‹$f›) $g rfl (by trivial) rfl (by intro _;rfl) (by trivial))
 | `(‹E4 $a $b $c $d›)=>`(@b2q _ _ _ _ _ _ _ _ $a ‹$b› ‹$c› $d)
 | `(‹E5 $a $b $c $d $e›)=>`(@b3t _ _ _ _ _ _ _ _ _ _ _ _ _ _ _ _ _ _ _ _ ‹$a› T.cl_Ground $b $c (hr.mono ‹dc›) $d .nil a8R ‹$e› (by rfl) (by rfl) (by rfl))
 | `(‹E6 $a $b›)=>`(@b5c _ _ _ _ _ _ _ _ ‹$a› ‹$b› rfl)
 | `(‹E7 $a $b›)=>`(@a9Z _ _ _ _ _ ‹$a› ‹$b› (by rfl))
 | `(‹E8 $a›)=>`(@b5K _ _ _ _ ‹$a›)
 | `(‹E9 $a›)=>`(@a7H _ _ _ _ _ _ rfl T.z_range ‹$a› (by rfl))
 | `(‹F0 $a $b $c›)=>`(@b2M _ _ $a _ _ rfl $b $c ‹dc›)
 | `(‹F1 $a $b $c $d $e›)=>`(@b2K _ _ _ _ _ _ _ _ _ _ _ _ _ _ _ _ _ $a $b (hr.mono ‹dc›) rfl $c $d .nil a8R ‹$e› ‹dc› (by rfl) (by rfl))
 | `(‹F2 $a›)=>`(@b5h _ _ _ _ _ _ $a (by with_unfolding_all rfl))
 | `(‹F3 $a›)=>`(@b6P _ _ _ _ _ _ $a (by with_unfolding_all rfl))
 | `(‹F4 $a $b›)=>`(@b5H _ _ _ _ ‹$a› ‹$b›)
 | `(‹F5›)=>`(@b0z _ _)
 | `(‹F6 $a $b $c›)=>`(@b2I _ _ _ _ _ _ _ _ _ (a3k hr) ‹$a› ‹$b› ‹$c› rfl)
 | `(‹F7›)=>`(@b3w _)
 | `(‹F8 $a›)=>`(@b7Z _ _ _ _ _ _ b7r ‹$a›)
 | `(‹F9 $a $b›)=>`(@b0F _ _ _ _ _ _ PassesOwn.never ‹$a› ‹$b›)
 | `(‹G0 $a $b›)=>`(@b5l _ _ _ _ _ _ ‹$a› ‹$b› (by rfl) (by rfl) (by rfl))
 | `(‹G1 $a›)=>`(@b6g _ _ _ _ _ ‹$a›)
 | `(‹G2 $a $b $c $d›)=>`(@b0b _ _ _ _ _ _ _ _ _ ‹$a› ‹$b› ‹$c› $d)
 | `(‹G3›)=>`(@b0s _ _)
 | `(‹G4 $a $b›)=>`(@b0W _ _ _ _ _ _ $a ‹$b› (by rfl) (by rfl))
 | `(‹G5›)=>`(@a4Z _ _)
 | `(‹G6 $a $b $c›)=>`(@a8U _ _ _ _ _ _ _ $a $b ‹$c› (by rfl) (by rfl))
 | `(‹G7 $a $b $c›)=>`(@b5t _ _ _ _ _ _ _ ‹$a› ‹$b› $c (by intro _;rfl))
 | `(‹G8 $a $b $c $d $e $f $g $h›)=>`(@a9U _ _ _ _ _ _ _ _ _ _ _ _ _ _ _ _ _ _ _ _ ‹$a› $b $c $d $e $f $g ‹$h› (by rfl) (by rfl) (by rfl))
 | `(‹G9 $a $b $c $d $e $f›)=>`(@a6M _ _ _ _ _ _ _ $a $b $c $d $e ‹$f› (by rfl) (by rfl))
 | `(‹H0 $a $b $c $d $e›)=>`(@a9M _ _ _ _ _ _ _ _ _ $a ‹$b› ‹$c› ‹$d› $e)
 | `(‹H1 $a $b $c›)=>`(@b0i _ _ _ _ _ _ _ _ ‹$a› ‹$b› ‹$c›)
 | `(‹H2 $a $b›)=>`(@b8d _ _ _ _ _ _ _ ‹$a› ‹$b›)
 | `(‹H3 $a $b›)=>`(@b4i _ _ _ _ _ _ _ ‹$a› ‹$b›)
 | `(‹H4 $a›)=>`(@b6I _ _ _ _ ‹$a›)
 | `(‹H5 $a $b $c›)=>`(@b3x _ _ _ _ _ _ _ _ $a $b ‹$c› (by rfl))
 | `(‹H6 $a $b $c $d $e›)=>`(@b2A _ $a _ _ _ _ $b $c $d ‹$e› (by rfl) (by rfl))
 | `(‹H7 $a $b›)=>`(@b4Q _ _ _ _ _ _ $a ‹$b› (by rfl) (by rfl))
 | `(‹H8 $a $b $c $d $e›)=>`(@b3A _ _ $a _ _ $b $c $d $e ‹dc› ‹dc›)

section
variable {P:Program} {w:World} {K:Qc} {mg:Str→Option Value} {base:Heap} {t:Adr}
theorem b7b (T:Txt K mg t):a0T P w K mg base CX0 1 t.f_z0g t.fd_z0g ["self","rules","pairs"] (b8m t):=by
 refine T.F_z0g.ok a8P (fun vs H Q E h=>?_) (fun cdv A outer s H vs Q E hr h=>?_)
 ·obtain ⟨x,dx,b,pb,xs,rs,ps,pl,rfl,hx,hb,hA,hO,hrl,hpb,hPr,hpll,q⟩:=h;rfl
 ·obtain ⟨x,dx,b,pb,xs,rs,ps,pl,rfl,hx,hb,hA,hO,hrl,hpb,hPr,hpll,q⟩:=h
  refine ⟨_,‹A4 (E6 0 (C6 a3u T.z_tuple a3h (A0 1 A1))) (A4 (E6 0 F5) (A4 (C7 (E8 (C4 0)) (B2 3 a8P.nd) (A3 (D2 (C8 Xe Xg Xh a0C (G2 (C4 0) (C4 3) (B4 A1) ⟨rfl,rfl,rfl,rfl⟩) (A0 3 A1))))) (A4 (E6 0 G3) (A3 (C7 (B9 2) (B2 4 a8P.nd) (A3 (F6 (C4 0) (D0 (A0 (A8 a0j 4 A2) (A0 (A8 a0j 4 A2) A1))) B6)))))))›,?_⟩
  rw [show a0r b5C [V.ref x,V.ref b,V.ref pb]=[some (V.ref x),some (V.ref b),some (V.ref pb),none,none] from rfl]
  have hxl:=hA.len
  simp only [a1p,b7D,tCB,a0k,a0q,Qb,Qa,a0B,a6g,a0K,b3K,a2Q,a0b]
  refine ⟨b,xs,rfl,.inl ⟨SqL.of hb,fun io hio=>?_⟩⟩
  obtain ⟨H1,e1,s1,h1⟩:=a0F hio (.tup xs);rw [e1]
  have hiox:io≠x:=fun z=>by rw [z,hx] at hio;cases hio
  refine ⟨x,t.C_Ground,dx,_,rfl,s1 _ _ hx,T.cl_Ground,T.nf_Ground_in_order,by show 0 < 1000;decide,?_⟩
  obtain ⟨H2,e2,k2,h2x,h2io⟩:∃H',upd H1 x (.ins t.C_Ground dx (a1s "in_order" (.ref io) []))=H'∧(∀c o,H c=some o→c≠x→H' c=some o)∧H' x=some (.ins t.C_Ground dx (a1s "in_order" (.ref io) []))∧H' io=some (.tup xs):=⟨_,rfl,fun c o e hc=>by rw [a0d hc];exact s1 _ _ e,a0g,by rw [a0d hiox];exact h1⟩
  rw [e2]
  intro bh hbh
  obtain ⟨H3,e3,s3,h3⟩:=a0F hbh (.dK []);rw [e3]
  have hbhx:bh≠x:=fun z=>by rw [z,h2x] at hbh;cases hbh
  have hbhn:H bh=none:=by
   cases e:H bh with
   | none=>rfl
   | some o=>rw [k2 _ _ e hbhx] at hbh;cases hbh
  refine ⟨x,t.C_Ground,dx,_,rfl,s3 _ _ h2x,T.cl_Ground,T.nf_Ground_by_head,by show 1 < 1000;decide,?_⟩
  have e2f:a1s "by_head" (V.ref bh) (a1s "in_order" (V.ref io) [])=([("in_order",V.ref io),("by_head",V.ref bh)]:List (Str×V)):=by
   show (if ("in_order":Str)="by_head" then _ else _)=_
   rw [if_neg ‹dk›];rfl
  obtain ⟨H4,e4,k4,h4x,h4io,h4bh⟩:∃H',upd H3 x (.ins t.C_Ground dx (a1s "by_head" (.ref bh) (a1s "in_order" (.ref io) [])))=H'∧(∀c o,H c=some o→c≠x→H' c=some o)∧H' x=some (.ins t.C_Ground dx (a1s "by_head" (.ref bh) (a1s "in_order" (.ref io) [])))∧H' io=some (.tup xs)∧H' bh=some (.dK []):=
   ⟨_,rfl,fun c o e hc=>by rw [a0d hc];exact s3 _ _ (k2 c o e hc),a0g,by rw [a0d hiox];exact s3 _ _ h2io,by rw [a0d hbhx];exact h3⟩
  rw [e4]
  have lio:(a1s "by_head" (V.ref bh) (a1s "in_order" (V.ref io) [])).lookup ("in_order":Str)=some (V.ref io):=by rw [a0i,if_neg ‹dk›,a0i,if_pos rfl]
  have lbh:(a1s "by_head" (V.ref bh) (a1s "in_order" (V.ref io) [])).lookup ("by_head":Str)=some (V.ref bh):=by rw [a0i,if_pos rfl]
  refine ⟨x,_,dx,_,_,rfl,h4x,T.cl_Ground,T.nf_Ground_in_order,lio,?_⟩
  simp only [a1t]
  refine ⟨⟨_,SqT.of h4io⟩,?_⟩
  refine a5n (K:=K) (a:=io) (xs:=xs) (fun i σ H'=>∃(kvs:List (Key×V)) (y3:Option V),σ=[some (V.ref x),some (V.ref b),some (V.ref pb),y3,none]∧(∀c o,H c=some o→c≠x→H' c=some o)∧H' x=some (.ins t.C_Ground dx (a1s "by_head" (.ref bh) (a1s "in_order" (.ref io) [])))∧H' io=some (.tup xs)∧H' bh=some (.dK kvs)∧kvs.length≤i∧
    (∀h:Str,(a1I kvs (Sum.inr h:Key)=none∧hdF (rs.take i) h=[])∨∃L ys,a1I kvs (Sum.inr h:Key)=some (.ref L)∧H L=none∧H' L=some (.lst ys)∧ys.length≤i∧a1L t H ys (hdF (rs.take i) h))∧
    (∀(h h':Str) (L:Addr),a1I kvs (Sum.inr h:Key)=some (.ref L)→a1I kvs (Sum.inr h':Key)=some (.ref L)→h=h'))
   ⟨[],_,rfl,k4,h4x,h4io,h4bh,Qk _,fun h=>.inl ⟨rfl,rfl⟩,fun h h' L e=>by cases e⟩ (fun i σ H' _ h=>by obtain ⟨_,_,_,_,_,h,_⟩:=h;exact SqT.of h) ?_ ?_
  ·rintro i v σ H5 hi ⟨kvs,y3,rfl,k5,h5x,h5io,h5bh,hkl,hF,hinj⟩
   have hil:i < rs.length:=by rw [←hA.len];exact (Qy.mp hi).1
   obtain ⟨v',ev,p,rfl,hp⟩:=hA.get i rs[i] (Qe hil)
   rw [hi] at ev;cases ev
   have hro:=hO _ (Qx hil)
   have CF:=a3Y T hro.1
   have hru:a6d t H (.ref p) rs[i]:=⟨p,rfl,hp⟩
   have esn:∀h,hdF (rs.take (i+1)) h=hdF (rs.take i) h++(if rs[i].2.2.1=h then [rs[i]] else []):=fun h=>by
    unfold hdF
    rw [Xc hil,Ji,Zo]
    by_cases z:rs[i].2.2.1=h
    ·rw [if_pos z,if_pos (decide_eq_true z)];rfl
    ·rw [if_neg z,if_neg (by simpa using z)];rfl
   generalize rs[i]=r at hp hro CF hru esn
   obtain ⟨dx',t0,hp1,hp2⟩:=hp
   have hpx:p≠x:=fun z=>by
    rw [z,hx] at hp1
    injection hp1 with hp1
    injection hp1 with _ _ h3
    have:=a0R (.str r.2.1) (.str r.2.2.1) t0
    rw [←h3] at this;cases this
   have hp5:=k5 _ _ hp1 hpx
   simp only [a0y,a3d,tBM,b1o,a2Q,a0q,Qg,Qh,Qa,Qb,a2H,a0B,a0k,a0b]
   refine ⟨x,_,dx,_,_,rfl,h5x,T.cl_Ground,T.nf_Ground_by_head,lbh,?_⟩
   simp only [a1t]
   refine ⟨b1i h5bh,p,_,dx',_,_,rfl,hp5,CF.cl,CF.nh,a0R _ _ _,by decide,fun N hN=>?_⟩
   obtain ⟨H6,e6,s6,h6⟩:=a0F hN (.lst []);rw [e6]
   have hNx:N≠x:=fun z=>by rw [z,h5x] at hN;cases hN
   have hNio:N≠io:=fun z=>by rw [z,h5io] at hN;cases hN
   have hNbh:N≠bh:=fun z=>by rw [z,h5bh] at hN;cases hN
   have hNn:H N=none:=by
    cases e:H N with
    | none=>rfl
    | some o=>rw [k5 _ _ e hNx] at hN;cases hN
   refine ⟨kvs,Sum.inr r.2.2.1,s6 _ _ h5bh,rfl,Xm (show kvs.length≤1000 by omega) ‹dc›,fun u hu=>?_,fun hu=>?_⟩
   ·rcases hF r.2.2.1 with ⟨e,_⟩ | ⟨L,ys,e,hLn,hL5,hyl,hR⟩
    ·rw [e] at hu;cases hu
    rw [e] at hu;cases hu
    have hL6:=s6 _ _ hL5
    have hLx:L≠x:=a1O hL5 h5x ‹iz›
    have hLio:L≠io:=a1O hL5 h5io ‹iz›
    have hLbh:L≠bh:=a1O hL5 h5bh ‹iz›
    try skip
    refine ⟨.inl ⟨rfl,_,SqL.of hL6⟩,L,_,_,rfl,rfl,hL6,Xm (show ys.length≤1000 by omega) ‹dc›,?_⟩
    refine ⟨kvs,_,rfl,fun c o e hc=>?_,?_,?_,?_,by omega,fun h=>?_,hinj⟩
    ·rw [a0d (a0c e hLn)];exact s6 _ _ (k5 c o e hc)
    ·rw [a0d hLx.symm];exact s6 _ _ h5x
    ·rw [a0d hLio.symm];exact s6 _ _ h5io
    ·rw [a0d hLbh.symm];exact s6 _ _ h5bh
    ·rw [esn]
     by_cases z:r.2.2.1=h
     ·subst z
      rw [if_pos rfl]
      refine .inr ⟨L,ys++[V.ref p],e,hLn,a0g,by simp;omega,?_⟩
      refine ⟨by simp [hR.len],fun j r' ej=>?_⟩
      by_cases hj:j < (hdF (rs.take i) r.2.2.1).length
      ·rw [Yh hj] at ej
       rw [Yh (by rw [hR.len];exact hj)]
       exact hR.get j r' ej
      ·rw [Ye ‹om›] at ej
       rw [Ye (by rw [hR.len];omega),hR.len]
       have hj0:=(Qy.mp ej).1
       have ej0:j - (hdF (rs.take i) r.2.2.1).length=0:=by simp at hj0;omega
       rw [ej0] at ej ⊢
       cases ej
       exact ⟨_,rfl,hru⟩
     ·rw [if_neg z,Qf]
      rcases hF h with ⟨e',g⟩ | ⟨L',ys',e',g1,g2,g3,g4⟩
      ·exact .inl ⟨e',g⟩
      ·refine .inr ⟨L',ys',e',g1,?_,by omega,g4⟩
       have:L'≠L:=fun w=>z (hinj _ _ L e (by rw [←w];exact e'))
       rw [a0d this];exact s6 _ _ g2
   ·try skip
    have hbN:bh≠N:=hNbh.symm
    refine ⟨.inl ⟨rfl,_,SqL.of (show upd H6 bh (.dK (a3m kvs (Sum.inr r.2.2.1) (V.ref N))) N=some (.lst []) by rw [a0d hNbh];exact h6)⟩,N,_,_,rfl,rfl,(by rw [a0d hNbh];exact h6),by decide,?_⟩
    have kvl:=a1m kvs (Sum.inr r.2.2.1:Key) (V.ref N)
    refine ⟨a3m kvs (Sum.inr r.2.2.1) (V.ref N),_,rfl,fun c o e hc=>?_,?_,?_,?_,by omega,fun h=>?_,fun h h' L e1 e2=>?_⟩
    ·rw [a0d (a0c e hNn),a0d (a0c e hbhn)];exact s6 _ _ (k5 c o e hc)
    ·rw [a0d hNx.symm,a0d hbhx.symm];exact s6 _ _ h5x
    ·rw [a0d hNio.symm,a0d (a1O h5io h5bh ‹iz›)];exact s6 _ _ h5io
    ·rw [a0d hbN,a0g]
    ·rw [esn,a2L]
     by_cases z:r.2.2.1=h
     ·subst z
      rw [if_pos rfl,if_pos rfl]
      rcases hF r.2.2.1 with ⟨e',g⟩ | ⟨L',ys',e',_⟩
      ·rw [g]
       refine .inr ⟨N,[V.ref p],rfl,hNn,a0g,by simp,⟨rfl,fun j r' ej=>?_⟩⟩
       cases j with
       | zero=>cases ej;exact ⟨_,rfl,hru⟩
       | succ j=>simp at ej
      ·rw [e'] at hu;cases hu
     ·rw [if_neg z,Qf,if_neg (fun w=>z (Sum.inr.inj w).symm)]
      rcases hF h with ⟨e',g⟩ | ⟨L',ys',e',g1,g2,g3,g4⟩
      ·exact .inl ⟨e',g⟩
      ·refine .inr ⟨L',ys',e',g1,?_,by omega,g4⟩
       have hLN:L'≠N:=fun w=>by rw [w,hN] at g2;cases g2
       rw [a0d hLN,a0d (a1O g2 h5bh ‹iz›)];exact s6 _ _ g2
    ·rw [a2L] at e1 e2
     by_cases z1:(Sum.inr h:Key)=Sum.inr r.2.2.1
     ·by_cases z2:(Sum.inr h':Key)=Sum.inr r.2.2.1
      ·rw [Sum.inr.inj z1,Sum.inr.inj z2]
      ·rw [if_pos z1] at e1;cases e1
       rw [if_neg z2] at e2
       rcases hF h' with ⟨e',_⟩ | ⟨L',ys',e',_,g2,_⟩
       ·rw [e'] at e2;cases e2
       ·rw [e'] at e2;cases e2;rw [hN] at g2;cases g2
     ·rw [if_neg z1] at e1
      by_cases z2:(Sum.inr h':Key)=Sum.inr r.2.2.1
      ·rw [if_pos z2] at e2;cases e2
       rcases hF h with ⟨e',_⟩ | ⟨L',ys',e',_,g2,_⟩
       ·rw [e'] at e1;cases e1
       ·rw [e'] at e1;cases e1;rw [hN] at g2;cases g2
      ·rw [if_neg z2] at e2
       exact hinj _ _ L e1 e2
  rintro σ H5 ⟨kvs,y3,rfl,k5,h5x,h5io,h5bh,hkl,hF,hinj⟩
  rw [show rs.take xs.length=rs by rw [hxl];exact Xz] at hF
  simp only [a1p,b7D,a0q,Qa,a0K,a1j,Qb,a0b,a1t]
  intro pr hpr
  obtain ⟨H6,e6,s6,h6⟩:=a0F hpr (.dT []);rw [e6]
  have hprx:pr≠x:=fun z=>by rw [z,h5x] at hpr;cases hpr
  have hprn:H pr=none:=by
   cases e:H pr with
   | none=>rfl
   | some o=>rw [k5 _ _ e hprx] at hpr;cases hpr
  refine ⟨x,t.C_Ground,dx,_,rfl,s6 _ _ h5x,T.cl_Ground,T.nf_Ground_pairs,by rw [e2f];show 2 < 1000;decide,?_⟩
  rw [show a1s "pairs" (V.ref pr) (a1s "by_head" (V.ref bh) (a1s "in_order" (V.ref io) []))=gfl io bh pr from rfl]
  obtain ⟨as,eas,hal,hat⟩:=hPr
  have hiopr:io≠pr:=fun z=>by rw [z,hpr] at h5io;cases h5io
  have hbhpr:bh≠pr:=fun z=>by rw [z,hpr] at h5bh;cases h5bh
  have base:∀H',(∀c o,upd H6 x (.ins t.C_Ground dx (gfl io bh pr)) c=some o→c≠pr→H' c=some o)→(∀c o,H c=some o→c≠x→H' c=some o)∧(∀kps,H' pr=some (.dT kps)→b8k kps pl→a5l t H' x rs pl):=fun H' kk=>by
   have k7:∀c o,H c=some o→c≠x→H' c=some o:=fun c o e hc=>kk c o (by rw [a0d hc];exact s6 _ _ (k5 c o e hc)) (a0c e hprn)
   refine ⟨k7,fun kps hk hp=>⟨dx,io,bh,pr,xs,kvs,kps,kk _ _ a0g hprx.symm,kk _ _ (by rw [a0d hiox];exact s6 _ _ h5io) hiopr,hA.refs hx k7,kk _ _ (by rw [a0d hbhx];exact s6 _ _ h5bh) hbhpr,fun h=>?_,hk,hp⟩⟩
   rcases hF h with z | ⟨L,ys,e,_,g2,_,g4⟩
   ·exact .inl z
   ·exact .inr ⟨L,ys,e,kk _ _ (by rw [a0d (a1O g2 h5x ‹iz›)];exact s6 _ _ g2) (fun z=>by rw [z,hpr] at g2;cases g2),g4.refs hx k7⟩
  have hpb7:upd H6 x (.ins t.C_Ground dx (gfl io bh pr)) pb=some (.lst ps):=by
   have hpx:=a1O hpb hx ‹iz›
   rw [a0d hpx];exact s6 _ _ (k5 _ _ hpb hpx)
  have hpr7:upd H6 x (.ins t.C_Ground dx (gfl io bh pr)) pr=some (.dT []):=by rw [a0d hprx];exact h6
  have hx7:upd H6 x (.ins t.C_Ground dx (gfl io bh pr)) x=some (.ins t.C_Ground dx (gfl io bh pr)):=a0g
  have hpbpr:pb≠pr:=a0c hpb hprn
  obtain ⟨H7,e7⟩:∃H7,upd H6 x (.ins t.C_Ground dx (gfl io bh pr))=H7:=⟨_,rfl⟩
  rw [e7] at base hpb7 hpr7 hx7 ⊢
  refine ⟨⟨_,SqL.of hpb7⟩,?_⟩
  refine a0Z (K:=K) (a:=pb) (xs:=ps) (fun i σ H'=>∃(kps:List (List Key×V)) (y4:Option V),σ=[some (V.ref x),some (V.ref b),some (V.ref pb),y3,y4]∧(∀c o,H7 c=some o→c≠pr→H' c=some o)∧H' pr=some (.dT kps)∧kps.length≤i∧b8k kps (pl.take i))
   ⟨[],_,rfl,fun c o e _=>e,hpr7,Qk _,fun a b=>by rw [List.take_zero,if_neg (by simp)];rfl⟩ (fun i σ H' _ h=>by obtain ⟨_,_,_,kk,_⟩:=h;exact SqL.of (kk _ _ hpb7 hpbpr)) ?_ ?_
  ·rintro i v σ H8 hi ⟨kps,y4,rfl,kk,h8,hkl8,hpo⟩
   have hil:i < as.length:=by
    have:=(Qy.mp hi).1
    rw [eas,Qd] at this;exact this
   have hil':i < pl.length:=by omega
   have ev:v=V.ref as[i]:=by
    rw [eas,Qz,Qe hil] at hi
    exact (Option.some.inj hi).symm
   subst ev
   have hp:=hat i _ _ (Qe hil) (Qe hil')
   have hp8:=(base H8 kk).1 _ _ hp (a1O hp hx ‹iz›)
   have hx8:=kk _ _ hx7 hprx.symm
   rw [Xc hil']
   generalize pl[i]=pp at hp hp8
   generalize pl.take i=pt at hpo
   simp only [a0y,a9Y,tC,a2Q,a0q,Qg,Qh,Qa,a6c,a0k,tOp,Qb,a0B,a0b]
   refine ⟨x,_,dx,_,_,rfl,hx8,T.cl_Ground,T.nf_Ground_pairs,b1G _ _ _,?_⟩
   refine a1d (SqT.of hp8) rfl (a1d (SqT.of hp8) rfl ⟨by simp only [Qj,Qr];decide,fun c hc=>?_⟩)
   obtain ⟨H9,e9,s9,h9⟩:=a0F hc (.tup [V.str pp.1,V.str pp.2]);rw [e9]
   refine ⟨pr,_,rfl,a9C.t (k:=[Sum.inr pp.1,Sum.inr pp.2]) (s9 _ _ h8) h9 (Xm (show kps.length≤1000 by omega) ‹dc›),a3m kps [Sum.inr pp.1,Sum.inr pp.2] (V.bl true),_,rfl,?_,a0g,by have:=a1m kps ([Sum.inr pp.1,Sum.inr pp.2]:List Key) (V.bl true);omega,fun a b=>?_⟩
   ·intro d o e hd;rw [a0d hd];exact s9 _ _ (kk d o e hd)
   ·rw [a2L,hpo]
    by_cases z:(a,b)=pp
    ·rw [if_pos (by rw [←z]),if_pos (by rw [←z];simp)]
    ·rw [if_neg (fun w=>z (by
      have w1:=congrArg (fun l:List Key=>l.head?) w
      have w2:=congrArg (fun l:List Key=>l.getLast?) w
      simp at w1 w2
      exact Prod.ext w1 w2))]
     by_cases y:(a,b)∈pt
     ·rw [if_pos y,if_pos (Zc _ y)]
     ·rw [if_neg y,if_neg (by simp [y,z])]
  ·rintro σ H8 ⟨kps,y4,rfl,kk,h8,hkl8,hpo⟩
   rw [show pl.take ps.length=pl by rw [eas,Qd,hal,Xz]] at hpo
   simp only []
   obtain ⟨b1,b2⟩:=base H8 kk
   exact q _ b1 (b2 kps h8 hpo)
theorem a6e (T:Txt K mg t):a0T P w K mg base CX0 1 t.f_z13 t.fd_z13 ["_law_text"] a8f:=by
 refine T.F_z13.ok b4P (fun vs H Q E h=>?_) (fun cdv A outer s H vs Q E hr h=>?_)
 ·obtain ⟨n,z,rfl,hz,hn,q⟩:=h;rfl
 ·obtain ⟨n,z,rfl,hz,hn,q⟩:=h
  refine ⟨_,‹A4 (B1 (B0 (a0L hr.units) (A8 a0j 0 A2) B5 (a0n _)) (A3 (A6 (C0 a0D 0 (B7 A2) C1))) B3) (A3 (A6 (A5 a0f B5 0)))›,?_⟩
  rw [show a0r b4D [V.str z]=[some (V.str z)] from rfl]
  have hlen:=hz.len
  obtain ⟨c,r,rfl,h1,h2⟩:=hz
  rw [b7n] at q
  simp only [a1p,a1K,a0O,tOp,a0q,Qa,tC,a0M,tSl,a2e,a1r,a2l,a0b,a5D,a0P,a1H,a5m,a0W,a1v,decide_eq_true_eq]
  refine ⟨a2r ‹om›,c,a3b c r,a0V (fun e=>?_) (fun e=>?_)⟩
  ·rw [if_pos (by
    rw [show (Xr "-")=mk [45] by decide+kernel] at e
    have:=congrArg (fun z:Str=>z.cps.toList) e
    exact (List.cons.inj this).1)] at q
   exact ⟨a2r ‹om›,q⟩
  ·rw [if_neg (fun z=>e (by rw [z,show (Xr "-")=mk [45] by decide+kernel]))] at q
   exact ⟨Qi (Ui (show (Xr "-").length≤1 by decide+kernel) hlen) (Qi (show 1+n≤1000 by omega) ‹dc›),q⟩
theorem b1N (T:Txt K mg t):a0T P w K mg base CX0 2 t.f_z15 t.fd_z15 ["_law_scene_here","_law_text"] (b8c t):=by
 refine T.F_z15.ok b4Z (fun vs H Q E h=>?_) (fun cdv A outer s H vs Q E hr h=>?_)
 ·obtain ⟨s,T0,P0,E,zr,ps,pl,ev,q0,rfl,hs,hq,q⟩:=h;rfl
 ·obtain ⟨s,T0,P0,E,zr,ps,pl,ev,q0,rfl,hs,hq,q⟩:=h
  refine ⟨_,‹A3 (A6 (D3 (C3 (a0a a6x) b2p ["_law_rule_here","_law_text"] [none,some 1]) (B9 (A8 a0j 0 A2)) (B2 0 (show Xv (["_law_rule_here","_law_text"]:List Str) by decide+kernel)) (D4 (B0 (a5W hr.units (K:=K) rfl) (D8 0) (A7 (a6e T) T.g_z13 T.F_z13.kp T.b_z13 (A0 1 A1)) (a0n _))) 0))›,?_⟩
  rw [show a0r b2p [V.ref s,V.str q0]=[some (V.ref s),some (V.str q0)] from rfl]
  simp only [a0M,a0x,a1j,tOp,a0q,Qa,tC,a0b]
  refine a0m (SqL.of hs.s) rfl ⟨T0,rfl,⟨_,SqL.of hs.r.1⟩,?_⟩
  refine a1b zr hs.r.1 (by have:=hs.r.2.2.1;omega) hs.r.2.1 [some (V.str q0)] rfl (fun r=>decide (r.2.2.1=a1Z q0)) (fun p=>p.1) (fun x r H' R ho hr' s' hR=>?_) (fun x r H' R ho hr' s' hR=>?_) (fun D H' hD s' hD'=>?_)
  ·have CF:=a3Y T ho.1
   obtain ⟨dx,t0,g1,g2⟩:=id hr'
   simp only [a0O,tOp,a2Q,a0q,Qa,a0A,a0k,Qb,a0B,Qf,a0b]
   refine ⟨x,_,dx,_,_,rfl,g1,CF.cl,CF.nh,a0R _ _ _,31,q0,rfl,hq,by decide,?_⟩
   simp only [a0W,a1v]
   exact hR _ (a0h.refl _)
  ·simp only [a0q,Qa,a0b]
   exact hR _ (a0h.refl _)
  have hf:∀p∈zr.filter (fun p=>decide (p.2.2.2.1=a1Z q0)),p∈zr:=fun p hp=>(Xn.mp hp).1
  refine q D _ H' s' hD' (fun p hp=>(hs.r.2.1.same s') p (hf p hp)) (Qi (Qv _ _) hs.r.2.2.1) ?_
  unfold hdF
  rw [Yq];rfl
theorem b1n (T:Txt K mg t):a0T P w K mg base CX0 1 t.f_z1c t.fd_z1c ["_law_scene_here","_law_rule_here","_law_others"] (b7J t):=by
 refine T.F_z1c.ok b1q (fun vs H Q E h=>?_) (fun cdv A outer s H vs Q E hr h=>?_)
 ·obtain ⟨s,T0,P0,E,x,L,zr,ps,pl,ev,r,zo,rfl,hs,hru,ho,hL,hz,hzl,q⟩:=h;rfl
 ·obtain ⟨s,T0,P0,E,x,L,zr,ps,pl,ev,r,zo,rfl,hs,hru,ho,hL,hz,hzl,q⟩:=h
  refine ⟨_,‹A4 (C7 (B9 2) (B2 3 b1q.nd) (A3 (B1 (B0 (b5x hr.units) (D0 (A0 (C4 3) (A0 (C4 1) A1))) (A8 a0j 0 A2) (by with_unfolding_all rfl)) (A3 (A6 B6)) B3))) (A3 (A6 B6))›,?_⟩
  rw [show a0r b6z [V.ref s,V.ref x,V.ref L]=[some (V.ref s),some (V.ref x),some (V.ref L),none] from rfl]
  obtain ⟨x',ex,dx,t0,g1,g2⟩:=hru
  cases ex
  have CF:=a3Y T ho.1
  simp only [a1p,a0K,a1j,a0q,Qb,Qa,a0b,a1t]
  refine ⟨⟨_,SqL.of hL⟩,?_⟩
  refine a0Z (K:=K) (a:=L) (xs:=zo.map (·.1)) (fun i σ H'=>a0h H H'∧(∀b∈zo.take i,(b.2.2.1,r.2.1)∉pl)∧∃y,σ=[some (V.ref s),some (V.ref x),some (V.ref L),y]) ⟨a0h.refl _,by simp,_,rfl⟩ (fun i σ H' _ h=>SqL.of (h.1 _ _ hL)) ?_ ?_
  ·rintro i v σ H' hi ⟨s',hU,y,rfl⟩
   obtain ⟨hi',ev⟩:=a1Q hi
   obtain ⟨⟨x2,ex2,dx2,t2,f1,f2⟩,ho2⟩:=hz _ (Qx hi')
   rw [ex2] at ev
   subst ev
   have CF2:=a3Y T ho2.1
   simp only [a0y,a1K,a0O,tOp,a6c,a0k,a2Q,a0q,Qg,Qh,Qb,Qa,a0B,tC,a0M,a0P,a0b]
   refine ⟨x2,_,dx2,_,_,rfl,s' _ _ f1,CF2.cl,CF2.nl,a1e _ _ _,x,_,dx,_,_,rfl,s' _ _ g1,CF.cl,CF.nl,a1e _ _ _,(show 2≤sizeLine by decide),fun Z hZ=>?_⟩
   obtain ⟨H1,e1,s1,h1⟩:=a0F hZ (.tup [V.str zo[i].2.2.1,V.str r.2.1]);rw [e1]
   have s01:=s'.trans s1
   refine a0m (SqL.of (s01 _ _ hs.s)) rfl ⟨Z,P0,_,_,_,_,rfl,rfl,h1,SqL.of (s01 _ _ hs.p),a0o.same s01 hs.prs,⟨ho2.2.2.1.1,ho.2.2.1.1⟩,hs.po,?_⟩
   refine ⟨_,rfl,a0V (fun c=>?_) (fun c=>⟨s01,fun b hb=>?_,_,rfl⟩)⟩
   ·have:=q _ s01
    rwa [show btn pl (zo.map (·.2)) r=true from ?_] at this
    unfold btn
    exact Xy.mpr ⟨_,Xa.mpr ⟨_,Qx hi',rfl⟩,c⟩
   ·rcases (a1x hi' b).mp hb with z | z
    ·exact hU _ z
    ·rw [z];exact fun w=>c (decide_eq_true w)
  ·rintro σ H' ⟨s',hU,y,rfl⟩
   rw [Qd,Xz] at hU
   simp only [a0M,tC]
   have:=q _ s'
   rwa [show btn pl (zo.map (·.2)) r=false from ?_] at this
   refine Xw.mpr fun z=>?_
   unfold btn at z
   obtain ⟨w,h1,h2⟩:=Xy.mp z
   obtain ⟨b,hb,rfl⟩:=Xa.mp h1
   exact hU b hb (by simpa using h2)
theorem b1z (T:Txt K mg t):a0T P w K mg base CX0 1 t.f_z1j t.fd_z1j ["_law_rule_here","_law_refused"] (a5A t a2s):=by
 refine T.F_z1j.ok b1d (fun vs H Q E h=>?_) (fun cdv A outer s H vs Q E hr h=>?_)
 ·obtain ⟨x,a,r,U,rfl,hru,ho,ha,q⟩:=h;rfl
 ·obtain ⟨x,a,r,U,rfl,hru,ho,ha,q⟩:=h
  refine ⟨_,‹A4 (C7 (E8 (C4 0)) (B2 2 b1d.nd) (A3 (B1 (B0 a1D 2 1 (by with_unfolding_all rfl)) (A3 (A6 B6)) B3))) (A3 (A6 B6))›,?_⟩
  rw [show a0r b6b [V.ref x,V.ref a]=[some (V.ref x),some (V.ref a),none] from rfl]
  obtain ⟨x',ex,dx,t0,g1,g2⟩:=hru
  cases ex
  have CF:=a3Y T ho.1
  simp only [a1p,a0K,b3K,a2Q,a0q,Qa,a0b]
  refine ⟨x,_,dx,_,_,rfl,g1,CF.cl,CF.nb,a1z _ _ _,t0,rfl,⟨_,SqT.of g2⟩,?_⟩
  refine a5n (K:=K) (a:=t0) (xs:=r.2.2.2.map V.str) (fun i σ H'=>H=H'∧(∀q∈r.2.2.2.take i,q∉U)∧∃y,σ=[some (V.ref x),some (V.ref a),y]) ⟨rfl,by simp,_,rfl⟩ (fun i σ H' _ h=>by rw [←h.1];exact SqT.of g2) ?_ ?_
  ·rintro i v σ H' hi ⟨rfl,hU,y,rfl⟩
   obtain ⟨hi',rfl⟩:=a1Q hi
   simp only [a0y,a1K,a0O,tOp,a0q,Qg,Qh,Qb,Qa,a0M,tC,a0P,a0b]
   refine a1F (SqL.of ha) ?_
   simp only [a1v,decide_eq_true_eq]
   refine a0V (fun c=>?_) (fun c=>⟨by trivial,fun q hq=>?_,_,rfl⟩)
   ·have:=q _ (a0h.refl _)
    rwa [show a2s r.2.2.2 U=true from ?_] at this
    unfold a2s;exact Xy.mpr ⟨_,Qx hi',by simpa using c⟩
   ·rw [Xc hi'] at hq
    rcases Xq.mp hq with z | z
    ·exact hU _ z
    ·rw [Qq.mp z];exact c
  ·rintro σ H' ⟨rfl,hU,y,rfl⟩
   rw [Qd,Xz] at hU
   simp only [a0M,tC]
   have:=q _ (a0h.refl _)
   rwa [show a2s r.2.2.2 U=false from ?_] at this
   refine Xw.mpr fun z=>?_;unfold a2s at z;obtain ⟨w,h1,h2⟩:=Xy.mp z;exact hU w h1 (by simpa using h2)
theorem b0S (T:Txt K mg t):a0T P w K mg base CX0 1 t.f_z0o t.fd_z0o ["self"] (a1X "block"):=by
 refine T.F_z0o.ok b5Q (fun vs H Q E h=>?_) (fun cdv A outer s H vs Q E hr h=>?_)
 ·obtain ⟨x,rfl,q⟩:=h;rfl
 ·obtain ⟨x,rfl,q⟩:=h
  refine ⟨_,‹A3 (A6 B5)›,?_⟩
  rw [show a0r b4p [x]=[some (x)] from rfl]
  simp only [a0M,tC]
  exact q
theorem b1D (T:Txt K mg t):a0T P w K mg base CX0 1 t.f_z0z t.fd_z0z ["self"] (a1X "fact"):=by
 refine T.F_z0z.ok b4v (fun vs H Q E h=>?_) (fun cdv A outer s H vs Q E hr h=>?_)
 ·obtain ⟨x,rfl,q⟩:=h;rfl
 ·obtain ⟨x,rfl,q⟩:=h
  refine ⟨_,‹A3 (A6 B5)›,?_⟩
  rw [show a0r b4L [x]=[some (x)] from rfl]
  simp only [a0M,tC]
  exact q
theorem b1w (T:Txt K mg t):a0T P w K mg base CX0 1 t.f_z11 t.fd_z11 ["self"] (a1X "most"):=by
 refine T.F_z11.ok b4K (fun vs H Q E h=>?_) (fun cdv A outer s H vs Q E hr h=>?_)
 ·obtain ⟨x,rfl,q⟩:=h;rfl
 ·obtain ⟨x,rfl,q⟩:=h
  refine ⟨_,‹A3 (A6 B5)›,?_⟩
  rw [show a0r b4b [x]=[some (x)] from rfl]
  simp only [a0M,tC]
  exact q
theorem b0Y (T:Txt K mg t):a0T P w K mg base CX0 1 t.f_z10 t.fd_z10 ["self"] (a1X "sure"):=by
 refine T.F_z10.ok b5P (fun vs H Q E h=>?_) (fun cdv A outer s H vs Q E hr h=>?_)
 ·obtain ⟨x,rfl,q⟩:=h;rfl
 ·obtain ⟨x,rfl,q⟩:=h
  refine ⟨_,‹A3 (A6 B5)›,?_⟩
  rw [show a0r b6j [x]=[some (x)] from rfl]
  simp only [a0M,tC]
  exact q
theorem b1L (T:Txt K mg t):a0T P w K mg base CX0 2 t.f_z0p t.fd_z0p ["_law_scene_here","_law_text"] (b7N t):=by
 refine T.F_z0p.ok b4t (fun vs H Q E h=>?_) (fun cdv A outer s H vs Q E hr h=>?_)
 ·obtain ⟨s,T0,P0,E,zr,ps,pl,ev,q0,rfl,hs,q⟩:=h;rfl
 ·obtain ⟨s,T0,P0,E,zr,ps,pl,ev,q0,rfl,hs,q⟩:=h
  refine ⟨_,‹A3 (A6 (D3 (C3 (a0a a6F) b2C ["_law_rule_here","_law_text"] [none,some 1]) (B9 (A8 a0j 0 A2)) (B2 0 (show Xv (["_law_rule_here","_law_text"]:List Str) by decide+kernel)) (D4 (C9 (D5 (B0 (a5W hr.units (K:=K) rfl) (D8 0) 1 (a0n _)) (E1 (B0 (b4E hr.units (K:=K) rfl) (D1 (C5 0 T.cl_Fact T.me_Fact_word (b1D T) T.b_z0z) (D1 (C5 0 T.cl_Sure T.me_Sure_word (b0Y T) T.b_z10) (D1 (C5 0 T.cl_Most T.me_Most_word (b1w T) T.b_z11) (C5 0 T.cl_Block T.me_Block_word (b0S T) T.b_z0o)))) B5 (a0n _)))))) 0))›,?_⟩
  rw [show a0r b2C [V.ref s,V.str q0]=[some (V.ref s),some (V.str q0)] from rfl]
  simp only [a0M,a0x,a1j,tOp,a0q,Qa,tC,a0b]
  refine a0m (SqL.of hs.s) rfl ⟨T0,rfl,⟨_,SqL.of hs.r.1⟩,?_⟩
  refine a1b zr hs.r.1 (by have:=hs.r.2.2.1;omega) hs.r.2.1 [some (V.str q0)] rfl (fun r=>decide (r.2.2.1=q0) && spk r) (fun p=>p.1) (fun x r H' R ho hr' s' hR=>?_) (fun x r H' R ho hr' s' hR=>?_) (fun D H' hD s' hD'=>?_)
  ·have CF:=a3Y T ho.1
   obtain ⟨dx,t0,g1,g2⟩:=id hr'
   simp only [a9X,a0O,tOp,a2Q,a0q,Qa,Qb,tC,a0b]
   refine ⟨x,_,dx,_,_,rfl,g1,CF.cl,CF.nh,a0R _ _ _,?_⟩
   simp only [a0W,a1v,decide_eq_true_eq]
   refine a0V (fun c=>?_) (fun c=>?_)
   ·refine b4c ho.1 (a1c rfl) hr' ⟨by decide+kernel,by decide+kernel,by decide+kernel⟩ ?_
    rw [a4U ho.1]
    simp only [a4m,a3L,a1v]
    have:=hR _ (a0h.refl _)
    rwa [decide_eq_true c,Xx,show spk r=_ from (a9J ho.1).symm] at this
   ·have:=hR _ (a0h.refl _)
    rwa [decide_eq_false c,Yy] at this
  ·simp only [a0q,Qa,a0b]
   exact hR _ (a0h.refl _)
  have hf:∀p∈zr.filter (fun p=>decide (p.2.2.2.1=q0) && spk p.2),p∈zr:=fun p hp=>(Xn.mp hp).1
  refine q D _ H' s' hD' (fun p hp=>(hs.r.2.1.same s') p (hf p hp)) (Qi (Qv _ _) hs.r.2.2.1) ?_
  unfold hdF
  rw [Uk,Yq]
  congr 1
  refine List.filter_congr fun p _=>?_
  show (_ && _)=(_ && _)
  exact Bool.and_comm _ _
theorem a5P (T:Txt K mg t):a0T P w K mg base CX0 1 t.f_z1b t.fd_z1b ["_law_rule_here","_law_held"] (a5A t a1B):=by
 refine T.F_z1b.ok b1K (fun vs H Q E h=>?_) (fun cdv A outer s H vs Q E hr h=>?_)
 ·obtain ⟨x,a,r,U,rfl,hru,ho,ha,q⟩:=h;rfl
 ·obtain ⟨x,a,r,U,rfl,hru,ho,ha,q⟩:=h
  refine ⟨_,‹A4 (C7 (E8 (C4 0)) (B2 2 b1K.nd) (A3 (B1 (B0 a4B 2 1 (by with_unfolding_all rfl)) (A3 (A6 B6)) B3))) (A3 (A6 B6))›,?_⟩
  rw [show a0r b3W [V.ref x,V.ref a]=[some (V.ref x),some (V.ref a),none] from rfl]
  obtain ⟨x',ex,dx,t0,g1,g2⟩:=hru
  cases ex
  have CF:=a3Y T ho.1
  simp only [a1p,a0K,b3K,a2Q,a0q,Qa,a0b]
  refine ⟨x,_,dx,_,_,rfl,g1,CF.cl,CF.nb,a1z _ _ _,t0,rfl,⟨_,SqT.of g2⟩,?_⟩
  refine a5n (K:=K) (a:=t0) (xs:=r.2.2.2.map V.str) (fun i σ H'=>H=H'∧(∀q∈r.2.2.2.take i,q∈U)∧∃y,σ=[some (V.ref x),some (V.ref a),y]) ⟨rfl,by simp,_,rfl⟩ (fun i σ H' _ h=>by rw [←h.1];exact SqT.of g2) ?_ ?_
  ·rintro i v σ H' hi ⟨rfl,hU,y,rfl⟩
   obtain ⟨hi',rfl⟩:=a1Q hi
   simp only [a0y,a1K,a0O,tOp,a0q,Qg,Qh,Qb,Qa,a0M,tC,a0P,a0b]
   refine a3F (SqL.of ha) ?_
   simp only [a1v,Xk,decide_eq_false_iff_not]
   refine a0V (fun c=>?_) (fun c=>⟨by trivial,fun q hq=>?_,_,rfl⟩)
   ·have:=q _ (a0h.refl _)
    rwa [show a1B r.2.2.2 U=false from ?_] at this
    refine Xw.mpr fun z=>c (a1C.mp z _ (Qx hi'))
   ·rw [Xc hi'] at hq
    rcases Xq.mp hq with z | z
    ·exact hU _ z
    ·rw [Qq.mp z];exact Vx c
  ·rintro σ H' ⟨rfl,hU,y,rfl⟩
   rw [Qd,Xz] at hU
   simp only [a0M,tC]
   have:=q _ (a0h.refl _)
   rwa [show a1B r.2.2.2 U=true from ?_] at this
   exact a1C.mpr hU
theorem b1t (T:Txt K mg t):a0T P w K mg base CX0 3 t.f_z0q t.fd_z0q ["_law_scene_here","_law_sures_here","_law_held","_law_refused","_law_text"] (b4r t a1w):=by
 refine T.F_z0q.ok a9u (fun vs H Q E h=>?_) (fun cdv A outer s H vs Q E hr h=>?_)
 ·obtain ⟨s,T0,P0,E,a1,a2,a3,zr,ps,pl,ev,S,U,D,q0,rfl,hs,hq,h1,h2,h3,q⟩:=h;rfl
 ·obtain ⟨s,T0,P0,E,a1,a2,a3,zr,ps,pl,ev,S,U,D,q0,rfl,hs,hq,h1,h2,h3,q⟩:=h
  refine ⟨_,‹A4 (B1 (B0 a1D 4 1 (by with_unfolding_all rfl)) (A3 (A6 B6)) B3) (A4 (E3 5 (C3 (a0a a7e) b2F ["_law_rule_here","_law_held"] [none,some 2]) (B9 (A7 (b1L T) T.g_z0p T.F_z0p.kp T.b_z0p (A0 0 (A0 4 A1)))) (B2 0 (show Xv (["_law_rule_here","_law_held"]:List Str) by decide+kernel)) (D4 (C2 (A7 (a5P T) T.g_z1b T.F_z1b.kp T.b_z1b (A0 0 (A0 1 A1))))) 0 a9u.nd) (D6 (B1 (C9 (D9 (B0 (a5B hr.units) 5 (B4 A1) (a0n _)) (E2 (B0 a1D (A7 (a6e T) T.g_z13 T.F_z13.kp T.b_z13 (A0 4 A1)) 1 (by with_unfolding_all rfl))))) (A3 (A6 B6)) B3) (A4 (C7 (B9 (A7 (b1N T) T.g_z15 T.F_z15.kp T.b_z15 (A0 0 (A0 4 A1)))) (B2 6 a9u.nd) (A3 (B1 (C9 (D5 (D7 (C2 (A7 (b1z T) T.g_z1j T.F_z1j.kp T.b_z1j (A0 6 (A0 3 A1))))) (E1 (D7 (C2 (A7 (b1n T) T.g_z1c T.F_z1c.kp T.b_z1c (A0 0 (A0 6 (A0 5 A1))))))))) (A3 (A6 B6)) B3))) (A3 (A6 B6)))))›,?_⟩
  rw [show a0r b2F [V.ref s,V.ref a1,V.ref a2,V.ref a3,V.str q0]=[some (V.ref s),some (V.ref a1),some (V.ref a2),some (V.ref a3),some (V.str q0),none,none] from rfl]
  obtain ⟨rs,ers⟩:∃rs,zr.map (·.2)=rs:=⟨_,rfl⟩
  rw [ers] at q
  simp only [a1p,a1K,a0O,tOp,a0q,Qb,Qa,a0M,tC,a0P,Qg,Qh,a0x,a1j,a0A,a0k,a0B,Qf,a0b]
  refine a1F (SqL.of h1) ⟨_,rfl,a0V (fun c0=>?_) (fun c0=>?_)⟩
  ·have:=q H (a0h.refl _)
   unfold a1w at this
   rwa [if_pos (by simpa using c0)] at this
  have c0':q0∉S:=by simpa using c0
  refine ⟨s,T0,P0,E,zr,ps,pl,ev,q0,rfl,hs,fun W zs H1 s1 hW1 hz1 hzl1 ez1=>?_⟩
  refine ⟨W,rfl,⟨_,SqL.of hW1⟩,?_⟩
  refine a1b zs hW1 ‹om› hz1 [some (V.ref a2)] rfl (fun r=>a1B r.2.2.2 U) (fun p=>p.1) (fun x r H' R ho hr' s' hR=>?_) (fun x r H' R ho hr' s' hR=>?_) (fun W2 H2 hW2n s2 hW2=>?_)
  ·simp only [tB,a0A,a0k,a0q,Qa,Qb,a0B,Qf,a0b]
   refine ⟨x,a2,r,U,rfl,⟨x,rfl,hr'⟩,ho,(s1.trans s') _ _ h2,fun H'' s''=>?_⟩
   simp only [a1v]
   exact hR _ s''
  ·simp only [a0q,Qa,a0b]
   exact hR _ (a0h.refl _)
  have s02:=s1.trans s2
  have hz2:a4b t H2 (zs.filter fun p=>a1B p.2.2.2.2 U):=fun p hp=>(hz1.same s2) p (Xn.mp hp).1
  have hzl2:(zs.filter fun p=>a1B p.2.2.2.2 U).length≤30:=Qi (Qv _ _) hzl1
  have est:(zs.filter fun p=>a1B p.2.2.2.2 U).map (·.2)=a1P rs U q0:=by
   unfold a1P
   rw [←ers,←ez1,Yq];rfl
  generalize (zs.filter fun p=>a1B p.2.2.2.2 U)=zw at hW2 hz2 hzl2 est
  have hneed:∀H',a0h H H'→(a1P rs U q0=[]∨a1Z q0∈S)→Q (.bl false) H':=fun H' s' hc=>by
   have:=q H' s'
   unfold a1w at this
   rwa [if_neg c0',if_pos hc] at this
  refine ⟨fun σ' H'=>σ'=[some (V.ref s),some (V.ref a1),some (V.ref a2),some (V.ref a3),some (V.str q0),some (V.ref W2),none]∧a0h H2 H'∧¬(a1P rs U q0=[]∨a1Z q0∈S),?_,?_⟩
  ·simp only [a1K,tOr,a0O,tOp,a0q,Qb,Qa,a2H,a0B,a0M,tC,a0P,a0A,a0k,Qf,a0b]
   refine ⟨by decide,fun N hN=>?_⟩
   obtain ⟨H3,e3,s3,h3'⟩:=a0F hN (.lst []);rw [e3]
   refine ⟨W2,N,_,rfl,rfl,SqL.of (s3 _ _ hW2),SqL.of h3',_,rfl,a0V (fun c1=>?_) (fun c1=>?_)⟩
   ·refine hneed _ (s02.trans s3) (.inl ?_)
    have:zw.map (·.1)=[]:=by simpa using c1
    rw [←est,Zu.mp this];rfl
   refine ⟨31,q0,rfl,hq,by decide,a1F (SqL.of ((s02.trans s3) _ _ h1)) ⟨_,rfl,a0V (fun c2=>hneed _ (s02.trans s3) (.inr (by simpa using c2))) (fun c2=>⟨(by trivial),s3,fun z=>z.elim (fun w=>c1 ?_) (fun w=>c2 (by simpa using w))⟩)⟩⟩
   rw [←est] at w
   have:zw=[]:=Zu.mp w
   rw [this];rfl
  rintro σ' H3 ⟨rfl,s23,hc⟩
  have s03:=s02.trans s23
  simp only [a1p,a0K,a1j,a0A,a0k,a0q,Qa,Qb,a0B,Qf,a0b]
  refine ⟨s,T0,P0,E,zr,ps,pl,ev,q0,rfl,hs.same s03,hq,fun B zb H4 s4 hB4 hzb hbl eb=>?_⟩
  rw [ers] at eb
  have s04:=s03.trans s4
  have s24:=s23.trans s4
  refine ⟨B,rfl,⟨_,SqL.of hB4⟩,?_⟩
  refine a0Z (K:=K) (a:=B) (xs:=zb.map (·.1)) (fun i σ H'=>a0h H4 H'∧(∀b∈zb.take i,a2s b.2.2.2.2 D=true∨btn pl (zw.map (·.2)) b.2=true)∧∃y,σ=[some (V.ref s),some (V.ref a1),some (V.ref a2),some (V.ref a3),some (V.str q0),some (V.ref W2),y]) ⟨a0h.refl _,(fun b hb=>by simp at hb),_,rfl⟩ (fun i σ H' _ h=>SqL.of (h.1 _ _ hB4)) ?_ ?_
  ·rintro i v σ H5 hi ⟨s5,hU,y,rfl⟩
   obtain ⟨hi',ev'⟩:=a1Q hi
   obtain ⟨⟨x,ex,hx⟩,ho⟩:=hzb _ (Qx hi')
   rw [ex] at ev'
   subst ev'
   have hmem:zb[i].2∈hdF rs (a1Z q0):=by rw [←eb];exact Xa.mpr ⟨_,Qx hi',rfl⟩
   have s05:=s04.trans s5
   simp only [a0y,a1K,a9X,a9B,tB,a0A,a0k,a0q,Qg,Qh,Qb,Qa,a0B,Qf,Xk,a0M,tC,a0P,a0b,a3A]
   refine ⟨x,a3,_,D,rfl,⟨x,rfl,hx.same s5⟩,ho,s05 _ _ h3,fun H6 s6=>?_⟩
   simp only [a1v]
   have s06:=s05.trans s6
   have s26:=(s24.trans s5).trans s6
   refine a0V (fun c1=>?_) (fun c1=>⟨s5.trans s6,fun b hb=>?_,_,rfl⟩)
   ·refine ⟨s,T0,P0,E,x,W2,zr,ps,pl,ev,_,zw,rfl,hs.same s06,⟨x,rfl,(hx.same s5).same s6⟩,ho,s26 _ _ hW2,hz2.same s26,hzl2,fun H7 s7=>⟨_,rfl,a0V (fun c2=>?_) (fun c2=>⟨(s5.trans s6).trans s7,fun b hb=>?_,_,rfl⟩)⟩⟩
    ·have:=q _ (s06.trans s7)
     unfold a1w at this
     rw [if_neg c0',if_neg hc,←est] at this
     rwa [show (List.all _ _)=false from ?_] at this
     refine Xw.mpr fun z=>?_
     have w:=Ze.mp z _ hmem
     rw [c1,c2] at w;cases w
    ·rcases (a1x hi' b).mp hb with z | z
     ·exact hU b z
     ·rw [z];right;simpa using c2
   ·rcases (a1x hi' b).mp hb with z | z
    ·exact hU b z
    ·rw [z];left;simpa using c1
  ·rintro σ H5 ⟨s5,hU,y,rfl⟩
   rw [Qd,Xz] at hU
   simp only [a0M,tC]
   have:=q _ (s04.trans s5)
   unfold a1w at this
   rw [if_neg c0',if_neg hc,←est,←eb] at this
   rwa [Ze.mpr fun r hr=>?_] at this
   obtain ⟨p,hp,rfl⟩:=Xa.mp hr
   rcases hU p hp with w | w
   ·rw [w];rfl
   ·rw [w];exact Bool.or_true _
theorem b1h (T:Txt K mg t):a0T P w K mg base CX0 3 t.f_z0b t.fd_z0b ["_law_scene_here","_law_sures_here","_law_held","_law_refused","_law_text"] (b4r t a5o):=by
 refine T.F_z0b.ok a8t (fun vs H Q E h=>?_) (fun cdv A outer s H vs Q E hr h=>?_)
 ·obtain ⟨s,T0,P0,E,a1,a2,a3,zr,ps,pl,ev,S,U,D,q0,rfl,hs,hq,h1,h2,h3,q⟩:=h;rfl
 ·obtain ⟨s,T0,P0,E,a1,a2,a3,zr,ps,pl,ev,S,U,D,q0,rfl,hs,hq,h1,h2,h3,q⟩:=h
  refine ⟨_,‹A4 (B1 (B0 a1D 4 1 (by with_unfolding_all rfl)) (A3 (A6 B6)) B3) (A4 (E3 5 (C3 (a0a a6V) b2y ["_law_rule_here","_law_refused"] [none,some 3]) (B9 (A7 (b1L T) T.g_z0p T.F_z0p.kp T.b_z0p (A0 0 (A0 4 A1)))) (B2 0 (show Xv (["_law_rule_here","_law_refused"]:List Str) by decide+kernel)) (D4 (D7 (C2 (A7 (b1z T) T.g_z1j T.F_z1j.kp T.b_z1j (A0 0 (A0 1 A1)))))) 0 a8t.nd) (D6 (B1 (C9 (D9 (B0 (a5B hr.units) 5 (B4 A1) (a0n _)) (E2 (B0 a1D (A7 (a6e T) T.g_z13 T.F_z13.kp T.b_z13 (A0 4 A1)) 1 (by with_unfolding_all rfl))))) (A3 (A6 B6)) B3) (A4 (C7 (B9 (A7 (b1N T) T.g_z15 T.F_z15.kp T.b_z15 (A0 0 (A0 4 A1)))) (B2 6 a8t.nd) (A3 (B1 (C9 (D5 (C2 (A7 (a5P T) T.g_z1b T.F_z1b.kp T.b_z1b (A0 6 (A0 2 A1)))) (E1 (D7 (C2 (A7 (b1n T) T.g_z1c T.F_z1c.kp T.b_z1c (A0 0 (A0 6 (A0 5 A1))))))))) (A3 (A6 B6)) B3))) (A3 (A6 B6)))))›,?_⟩
  rw [show a0r b2y [V.ref s,V.ref a1,V.ref a2,V.ref a3,V.str q0]=[some (V.ref s),some (V.ref a1),some (V.ref a2),some (V.ref a3),some (V.str q0),none,none] from rfl]
  obtain ⟨rs,ers⟩:∃rs,zr.map (·.2)=rs:=⟨_,rfl⟩
  rw [ers] at q
  simp only [a1p,a1K,a0O,tOp,a0q,Qb,Qa,a0M,tC,a0P,Qg,Qh,a0x,a1j,a0A,a0k,a0B,Qf,a0b]
  refine a1F (SqL.of h1) ⟨_,rfl,a0V (fun c0=>?_) (fun c0=>?_)⟩
  ·have:=q H (a0h.refl _)
   unfold a5o at this
   rwa [if_pos (by simpa using c0)] at this
  have c0':q0∉S:=by simpa using c0
  refine ⟨s,T0,P0,E,zr,ps,pl,ev,q0,rfl,hs,fun W zs H1 s1 hW1 hz1 hzl1 ez1=>?_⟩
  refine ⟨W,rfl,⟨_,SqL.of hW1⟩,?_⟩
  refine a1b zs hW1 ‹om› hz1 [some (V.ref a3)] rfl (fun r=>!a2s r.2.2.2 D) (fun p=>p.1) (fun x r H' R ho hr' s' hR=>?_) (fun x r H' R ho hr' s' hR=>?_) (fun W2 H2 hW2n s2 hW2=>?_)
  ·simp only [a9B,tB,a0A,a0k,a0q,Qa,Qb,a0B,Qf,a0b]
   refine ⟨x,a3,r,D,rfl,⟨x,rfl,hr'⟩,ho,(s1.trans s') _ _ h3,fun H'' s''=>?_⟩
   simp only [a1v]
   exact hR _ s''
  ·simp only [a0q,Qa,a0b]
   exact hR _ (a0h.refl _)
  have s02:=s1.trans s2
  have hz2:a4b t H2 (zs.filter fun p=>!a2s p.2.2.2.2 D):=fun p hp=>(hz1.same s2) p (Xn.mp hp).1
  have hzl2:(zs.filter fun p=>!a2s p.2.2.2.2 D).length≤30:=Qi (Qv _ _) hzl1
  have est:(zs.filter fun p=>!a2s p.2.2.2.2 D).map (·.2)=unf rs D q0:=by
   unfold unf
   rw [←ers,←ez1,Yq];rfl
  generalize (zs.filter fun p=>!a2s p.2.2.2.2 D)=zw at hW2 hz2 hzl2 est
  have hneed:∀H',a0h H H'→(unf rs D q0=[]∨a1Z q0∈S)→Q (.bl true) H':=fun H' s' hc=>by
   have:=q H' s'
   unfold a5o at this
   rwa [if_neg c0',if_pos hc] at this
  refine ⟨fun σ' H'=>σ'=[some (V.ref s),some (V.ref a1),some (V.ref a2),some (V.ref a3),some (V.str q0),some (V.ref W2),none]∧a0h H2 H'∧¬(unf rs D q0=[]∨a1Z q0∈S),?_,?_⟩
  ·simp only [a1K,tOr,a0O,tOp,a0q,Qb,Qa,a2H,a0B,a0M,tC,a0P,a0A,a0k,Qf,a0b]
   refine ⟨by decide,fun N hN=>?_⟩
   obtain ⟨H3,e3,s3,h3'⟩:=a0F hN (.lst []);rw [e3]
   refine ⟨W2,N,_,rfl,rfl,SqL.of (s3 _ _ hW2),SqL.of h3',_,rfl,a0V (fun c1=>?_) (fun c1=>?_)⟩
   ·refine hneed _ (s02.trans s3) (.inl ?_)
    have:zw.map (·.1)=[]:=by simpa using c1
    rw [←est,Zu.mp this];rfl
   refine ⟨31,q0,rfl,hq,by decide,a1F (SqL.of ((s02.trans s3) _ _ h1)) ⟨_,rfl,a0V (fun c2=>hneed _ (s02.trans s3) (.inr (by simpa using c2))) (fun c2=>⟨(by trivial),s3,fun z=>z.elim (fun w=>c1 ?_) (fun w=>c2 (by simpa using w))⟩)⟩⟩
   rw [←est] at w
   have:zw=[]:=Zu.mp w
   rw [this];rfl
  rintro σ' H3 ⟨rfl,s23,hc⟩
  have s03:=s02.trans s23
  simp only [a1p,a0K,a1j,a0A,a0k,a0q,Qa,Qb,a0B,Qf,a0b]
  refine ⟨s,T0,P0,E,zr,ps,pl,ev,q0,rfl,hs.same s03,hq,fun B zb H4 s4 hB4 hzb hbl eb=>?_⟩
  rw [ers] at eb
  have s04:=s03.trans s4
  have s24:=s23.trans s4
  refine ⟨B,rfl,⟨_,SqL.of hB4⟩,?_⟩
  refine a0Z (K:=K) (a:=B) (xs:=zb.map (·.1)) (fun i σ H'=>a0h H4 H'∧(∀b∈zb.take i,a1B b.2.2.2.2 U=false∨btn pl (zw.map (·.2)) b.2=true)∧∃y,σ=[some (V.ref s),some (V.ref a1),some (V.ref a2),some (V.ref a3),some (V.str q0),some (V.ref W2),y]) ⟨a0h.refl _,(fun b hb=>by simp at hb),_,rfl⟩ (fun i σ H' _ h=>SqL.of (h.1 _ _ hB4)) ?_ ?_
  ·rintro i v σ H5 hi ⟨s5,hU,y,rfl⟩
   obtain ⟨hi',ev'⟩:=a1Q hi
   obtain ⟨⟨x,ex,hx⟩,ho⟩:=hzb _ (Qx hi')
   rw [ex] at ev'
   subst ev'
   have hmem:zb[i].2∈hdF rs (a1Z q0):=by rw [←eb];exact Xa.mpr ⟨_,Qx hi',rfl⟩
   have s05:=s04.trans s5
   simp only [a0y,a1K,a9X,tB,a0A,a0k,a0q,Qg,Qh,Qb,Qa,a0B,Qf,a9B,Xk,a0M,tC,a0P,a0b,a3A]
   refine ⟨x,a2,_,U,rfl,⟨x,rfl,hx.same s5⟩,ho,s05 _ _ h2,fun H6 s6=>?_⟩
   simp only [a1v]
   have s06:=s05.trans s6
   have s26:=(s24.trans s5).trans s6
   refine a0V (fun c1=>?_) (fun c1=>⟨s5.trans s6,fun b hb=>?_,_,rfl⟩)
   ·refine ⟨s,T0,P0,E,x,W2,zr,ps,pl,ev,_,zw,rfl,hs.same s06,⟨x,rfl,(hx.same s5).same s6⟩,ho,s26 _ _ hW2,hz2.same s26,hzl2,fun H7 s7=>⟨_,rfl,a0V (fun c2=>?_) (fun c2=>⟨(s5.trans s6).trans s7,fun b hb=>?_,_,rfl⟩)⟩⟩
    ·have:=q _ (s06.trans s7)
     unfold a5o at this
     rw [if_neg c0',if_neg hc,←est] at this
     rwa [show (List.any _ _)=true from ?_] at this
     exact Xy.mpr ⟨_,hmem,by rw [c1,c2];rfl⟩
    ·rcases (a1x hi' b).mp hb with z | z
     ·exact hU b z
     ·rw [z];right;simpa using c2
   ·rcases (a1x hi' b).mp hb with z | z
    ·exact hU b z
    ·rw [z];left;simpa using c1
  ·rintro σ H5 ⟨s5,hU,y,rfl⟩
   rw [Qd,Xz] at hU
   simp only [a0M,tC]
   have:=q _ (s04.trans s5)
   unfold a5o at this
   rw [if_neg c0',if_neg hc,←est,←eb] at this
   rwa [show (List.any _ _)=false from ?_] at this
   refine Xw.mpr fun z=>?_
   obtain ⟨r,h1,h2⟩:=Xy.mp z
   obtain ⟨p,hp,rfl⟩:=Xa.mp h1
   rcases hU p hp with w | w
   ·rw [w] at h2;cases h2
   ·rw [w] at h2;simp at h2
theorem b1v (T:Txt K mg t):a0T P w K mg base CX0 2 t.f_z1p t.fd_z1p ["_law_rule_here"] (b6N t):=by
 refine T.F_z1p.ok b5V (fun vs H Q E h=>?_) (fun cdv A outer s H vs Q E hr h=>?_)
 ·obtain ⟨x,r,rfl,hx,ho,q⟩:=h;rfl
 ·obtain ⟨x,r,rfl,hx,ho,q⟩:=h
  refine ⟨_,‹A3 (A6 (E4 a1D (D1 (C5 0 T.cl_Fact T.me_Fact_word (b1D T) T.b_z0z) (D1 (C5 0 T.cl_Sure T.me_Sure_word (b0Y T) T.b_z10) (D1 (C5 0 T.cl_Most T.me_Most_word (b1w T) T.b_z11) (C5 0 T.cl_Block T.me_Block_word (b0S T) T.b_z0o)))) (D0 (A0 B5 (A0 B5 A1))) (by with_unfolding_all rfl)))›,?_⟩
  rw [show a0r b6e [V.ref x]=[some (V.ref x)] from rfl]
  obtain ⟨x',ex,hr⟩:=id hx
  cases ex
  simp only [a0M,tOp,a6c,a0k,tC,a0B]
  refine b4c ho.1 (a1c rfl) hr ⟨by decide+kernel,by decide+kernel,by decide+kernel⟩ ?_
  rw [a4U ho.1]
  simp only [a4m]
  refine ⟨by simp only [Qj,Qr];decide,fun p5 hp5=>?_⟩
  obtain ⟨H5,e5,s5,h5⟩:=a0F hp5 (.tup [V.str "fact",V.str "sure"]);rw [e5]
  refine b2c (r:=["fact","sure"]) (SqT.of h5) ?_
  rw [a8A ho.1]
  exact q H5 s5
theorem b1C (T:Txt K mg t):a0T P w K mg base CX0 3 t.f_z1k t.fd_z1k ["_law_scene_here"] (b0J t):=by
 refine T.F_z1k.ok a4X (fun vs H Q E h=>?_) (fun cdv A outer s H vs Q E hr h=>?_)
 ·obtain ⟨s,T0,P0,E,zr,ps,pl,ev,rfl,hs,q⟩:=h;rfl
 ·obtain ⟨s,T0,P0,E,zr,ps,pl,ev,rfl,hs,q⟩:=h
  refine ⟨_,‹A4 (A9 1 a4X.nd (B4 A1)) (A4 (A9 2 a4X.nd (F8 A2)) (A4 (F9 (B0 a3g 2 (B8 a0s T.z_len a0v (A0 1 A1)) (a0n _)) (A4 (A9 2 a4X.nd (B8 a0s T.z_len a0v (A0 1 A1))) (A3 (C7 (B9 (A8 a0j 0 A2)) (B2 3 a4X.nd) (A3 (B1 (C9 (D5 (C2 (A7 (b1v T) T.g_z1p T.F_z1p.kp T.b_z1p (A0 3 A1))) (D5 (B0 a4B (C4 3) 1 (by with_unfolding_all rfl)) (E1 (C2 (A7 (a5P T) T.g_z1b T.F_z1b.kp T.b_z1b (A0 3 (A0 1 A1)))))))) (A3 (D2 (C8 Xe Xg Xh a0C 1 (A0 (C4 3) A1)))) B3)))))) (A3 (A6 1))))›,?_⟩
  rw [show a0r b5p [V.ref s]=[some (V.ref s),none,none,none] from rfl]
  simp only [a1p,a1W,a2H,a0B,a0y,tUn,tC,Qg,Qh,b0Z]
  refine ⟨Xi _,fun D hD=>?_⟩
  have hrl:zr.length≤30:=hs.r.2.2.1
  have hfew:∀{L:List Str},a2a ((zr.map (·.2)).map srW) [] L=true→L.length≤zr.length:=fun h=>by have:=(a1U h).2.2;rwa [Qd] at this
  refine a9i (fun m σ H'=>∃(L:List Str) (z:Int) (x3:Option V),σ=[some (V.ref s),some (V.ref D),some (V.int z),x3]∧a0h H H'∧H' D=some (.lst (L.map V.str))∧a2a ((zr.map (·.2)).map srW) [] L=true∧z≤L.length∧(z=L.length→a5i ((zr.map (·.2)).map srW) L=true)∧m=if z < L.length then zr.length+1 - L.length else 0)
   (zr.length+1) ⟨[],-1,_,rfl,a0h.upd hD,a0g,rfl,by decide,fun z=>(by cases z),by rw [if_pos ‹dc›];rfl⟩ ?_
  rintro m σ H1 ⟨L,z,x3,rfl,s1,hD1,hO,hz,hc,rfl⟩
  simp only [a0O,tOp,a0q,Qb,Qa,tCB,a0k,a0B,a1p,a1W,a0y,Qg,Qh,a0K,a1j,tC,a0b,a0M]
  refine a0u (SqL.of hD1) ?_
  rw [Qd]
  simp only [a1J,a1v,decide_eq_true_eq]
  refine a0V (fun c1=>?_) (fun c1=>?_)
  ·rw [if_pos c1]
   have hT:H T0=some (.lst (zr.map (·.1))):=hs.r.1
   refine ⟨_,fun _ _ h=>h,?_⟩
   refine a0u (SqL.of hD1) ?_
   rw [Qd]
   refine a0m (SqL.of (s1 _ _ hs.s)) rfl ⟨T0,rfl,⟨_,SqL.of (s1 _ _ hT)⟩,?_⟩
   refine a0Z (K:=K) (a:=T0) (xs:=zr.map (·.1)) (fun j σ H'=>∃(L':List Str) (x3:Option V),σ=[some (V.ref s),some (V.ref D),some (V.int (L.length:Int)),x3]∧a0h H H'∧H' D=some (.lst (L'.map V.str))∧a2a ((zr.map (·.2)).map srW) [] L'=true∧((L'=L∧∀r∈(zr.take j).map (·.2),(srW r).1=true→a1B r.2.2.2 L=true→r.2.2.1∈L)∨L.length < L'.length))
    ⟨L,_,rfl,s1,hD1,hO,.inl ⟨rfl,fun r hr=>(by cases hr)⟩⟩ (fun i σ H' _ ⟨_,_,_,s',_⟩=>SqL.of (s' _ _ hT)) ?_ ?_
   ·rintro j x σ H2 hj ⟨L',y3,rfl,s2,hD2,hO2,hL2⟩
    obtain ⟨hj',rfl⟩:=a1Q hj
    have hsm:=hs.r.same s2
    obtain ⟨⟨x,ex,hx⟩,ho⟩:=hsm.2.1 _ (Qx hj')
    have etk:∀r,r∈(zr.take (j+1)).map (·.2)↔r∈(zr.take j).map (·.2)∨r=zr[j].2:=fun r=>by
     rw [Xc hj',Xo,Xq,Xp,Ux,Qq]
    have hmem:zr[j].2∈zr.map (·.2):=Xa.mpr ⟨_,Qx hj',rfl⟩
    rw [ex]
    generalize zr[j].2=r at hx ho etk hmem
    have CF:=a3Y T ho.1
    have hl2:=hfew hO2
    have stay:∀H',a0h H2 H'→(L'=L→(srW r).1=true→a1B r.2.2.2 L=true→r.2.2.1∈L)→∃(L':List Str) (x3:Option V),[some (V.ref s),some (V.ref D),some (V.int (L.length:Int)),some (V.ref x)]=[some (V.ref s),some (V.ref D),some (V.int (L.length:Int)),x3]∧a0h H H'∧H' D=some (.lst (L'.map V.str))∧a2a ((zr.map (·.2)).map srW) [] L'=true∧((L'=L∧∀r∈(zr.take (j+1)).map (·.2),(srW r).1=true→a1B r.2.2.2 L=true→r.2.2.1∈L)∨L.length < L'.length):=fun H' s' hc=>
     ⟨L',_,rfl,s2.trans s',s' _ _ hD2,hO2,hL2.elim (fun h=>.inl ⟨h.1,fun r' hr'=>((etk r').mp hr').elim (h.2 r') fun e=>by rw [e];exact hc h.1⟩) .inr⟩
    simp only [a0y,a1K,a9X,tB,a0A,a0k,a0q,Qg,Qh,Qb,Qa,a0B,Qf,a0O,tOp,a2Q,a3d,tBM,a0b,a0P,a3A]
    refine ⟨x,r,rfl,⟨x,rfl,hx⟩,ho,fun H3 s3=>⟨_,rfl,a0V (fun c2=>?_) (fun c2=>stay _ s3 fun _ z=>absurd z c2)⟩⟩
    obtain ⟨dx,t0,g1,g2⟩:=id (hx.same s3)
    refine ⟨x,_,dx,_,_,rfl,g1,CF.cl,CF.nh,a0R _ _ _,?_⟩
    refine a3F (SqL.of (s3 _ _ hD2)) ?_
    simp only [a1v,Xk,decide_eq_false_iff_not]
    refine a0V (fun c3=>?_) (fun c3=>stay _ s3 fun e _ _=>by rw [←e];exact Vx c3)
    refine ⟨x,D,r,L',rfl,⟨x,rfl,hx.same s3⟩,ho,s3 _ _ hD2,fun H4 s4=>⟨_,rfl,a0V (fun c4=>?_) (fun c4=>stay _ (s3.trans s4) fun e _ z=>absurd (by rw [←e] at z;exact z) c4)⟩⟩
    have s34:=s3.trans s4
    refine ⟨.inl ⟨rfl,_,SqL.of (s34 _ _ hD2)⟩,x,_,dx,_,_,rfl,s4 _ _ g1,CF.cl,CF.nh,a0R _ _ _,D,_,_,rfl,rfl,s34 _ _ hD2,Xm (show _≤1000 by rw [Qd];omega) ‹dc›,L'++[r.2.2.1],_,rfl,fun b o e=>?_,?_,?_,.inr ?_⟩
    ·rw [a0d (a0c e hD)];exact s34 _ _ (s2 _ _ e)
    ·rw [a0g,Xo];rfl
    ·rw [a2X,hO2,Zy,decide_eq_false c3,Xx,Bool.not_false,Xx]
     unfold a2B
     rw [Xy]
     refine ⟨srW r,Xa.mpr ⟨r,hmem,rfl⟩,?_⟩
     rw [c2,Xx,show (srW r).2.1=r.2.2.1 from rfl,decide_eq_true rfl,Xx]
     exact c4
    ·rw [Xl,Jt]
     rcases hL2 with ⟨rfl,_⟩ | h<;>omega
   ·rintro σ H2 ⟨L',y3,rfl,s2,hD2,hO2,hL2⟩
    rw [Qd,Xz] at hL2
    have hl2:=hfew hO2
    have hl1:=hfew hO
    rcases hL2 with ⟨rfl,h⟩ | h
    ·refine ⟨0,by omega,L',_,_,rfl,s2,hD2,hO2,Int.le_refl _,fun _=>?_,by rw [if_neg ‹om›]⟩
     rw [a1S]
     intro x b hr hb
     obtain ⟨r,hr,e⟩:=Xa.mp hr
     have e1:(srW r).1=true:=congrArg (·.1) e
     have e2:r.2.2.1=x:=congrArg (fun z:SR Str=>z.2.1) e
     have e3:r.2.2.2=b:=congrArg (fun z:SR Str=>z.2.2) e
     rw [←e2]
     exact h r hr e1 (a1C.mpr (by rw [e3];exact hb))
    ·exact ⟨zr.length+1 - L'.length,by omega,L',_,_,rfl,s2,hD2,hO2,by omega,fun z=>‹om›,by rw [if_pos ‹om›]⟩
  ·exact q D L H1 s1 hD hD1 (by unfold isS;rw [hO,hc ‹om›];rfl)
theorem b6V (T:Txt K mg t):a0T P w K mg base CX0 4 t.f_z0r t.fd_z0r ["_law_scene_here","_law_some"] (a9d t):=by
 refine T.F_z0r.ok a5x (fun vs H Q E h=>?_) (fun cdv A outer s H vs Q E hr h=>?_)
 ·obtain ⟨s,T0,P0,E,a,zr,ps,pl,ev,S,rfl,hs,ha,hSl,hSo,q⟩:=h;rfl
 ·obtain ⟨s,T0,P0,E,a,zr,ps,pl,ev,S,rfl,hs,ha,hSl,hSo,q⟩:=h
  refine ⟨_,‹A4 (A9 2 a5x.nd (B4 A1)) (A4 (C7 (B9 1) (B2 3 a5x.nd) (A4 (E3 4 (C3 (a0a a6B) b1Y ["_law_rule_here","_law_text","_law_there"] [none,some 3,some 2]) (B9 (A8 a0j 0 A2)) (B2 0 (show Xv (["_law_rule_here","_law_text","_law_there"]:List Str) by decide+kernel)) (D4 (C9 (D5 (B0 (a5W hr.units (K:=K) rfl) (D8 0) 1 (a0n _)) (D5 (C2 (A7 (b1v T) T.g_z1p T.F_z1p.kp T.b_z1p (A0 0 A1))) (E1 (C2 (A7 (a5P T) T.g_z1b T.F_z1b.kp T.b_z1b (A0 0 (A0 2 A1))))))))) 0 a5x.nd) (D6 (B1 (C9 (D9 (B0 a1D 3 2 (by with_unfolding_all rfl)) (E2 (B0 (a5B hr.units) 4 (B4 A1) (a0n _))))) (A3 (A6 B6)) B3) (A3 (D2 (C8 Xe Xg Xh a0C 2 (A0 3 A1))))))) (A3 (A6 (E4 (a0L hr.units) (B8 (a4D rfl) T.z_sorted a2x (A0 2 A1)) (B8 (a4D rfl) T.z_sorted a2x (A0 (A7 (b1C T) T.g_z1k T.F_z1k.kp T.b_z1k (A0 0 A1)) A1)) (a0n _)))))›,?_⟩
  rw [show a0r b1Y [V.ref s,V.ref a]=[some (V.ref s),some (V.ref a),none,none,none] from rfl]
  simp only [a1p,a1W,a2H,a0B,a0y,a0x,a1j,tOp,a0q,tC,Qg,Qh,a0K,Qb,Qa,a0b,a1t]
  refine ⟨Xi _,fun D hD=>?_⟩
  obtain ⟨H1,e1,s1,g1⟩:=a0F hD (.lst []);rw [e1]
  refine ⟨⟨_,SqL.of (s1 _ _ ha)⟩,?_⟩
  refine a0Z (K:=K) (a:=a) (xs:=S.map V.str) (fun j σ H'=>∃(x3 x4:Option V),σ=[some (V.ref s),some (V.ref a),some (V.ref D),x3,x4]∧a0h H H'∧H' D=some (.lst ((S.take j).map V.str))∧a2a ((zr.map (·.2)).map srW) [] (S.take j)=true)
   ⟨_,_,rfl,s1,g1,rfl⟩ (fun i σ H' _ ⟨_,_,_,s',_⟩=>SqL.of (s' _ _ ha)) ?_ ?_
  ·rintro j x σ H2 hj ⟨x3,x4,rfl,s2,hD2,hO2⟩
   obtain ⟨hj',rfl⟩:=a1Q hj
   have hbad:a2a ((zr.map (·.2)).map srW) [] (S.take (j+1))=false→∀H',a0h H H'→Q (.bl false) H':=fun hb H' s'=>by
    have:=q H' s'
    rwa [show isS (zr.map (·.2)) S=false from Xw.mpr fun z=>by
     unfold isS at z
     rw [Qp] at z
     rw [a4V (j+1) z.1] at hb;cases hb] at this
   have hstep:a2a ((zr.map (·.2)).map srW) [] (S.take (j+1))=(!decide (S[j]∈S.take j) && a2B ((zr.map (·.2)).map srW) (S.take j) S[j]):=by
    rw [Xc hj',a2X,hO2,Xx,Zy]
   have etk:=Xc hj'
   rw [etk] at hbad hstep ⊢
   clear etk
   have hlt:(S.take j).length≤60:=by rw [Xu];omega
   generalize S[j]=z at hbad hstep ⊢
   generalize S.take j=U at hbad hstep hD2 hO2 hlt ⊢
   simp only [a0y,a1p,Qg,Qh,Qa,a0b]
   refine a0m (SqL.of (s2 _ _ hs.s)) rfl ⟨T0,rfl,⟨_,SqL.of (s2 _ _ hs.r.1)⟩,?_⟩
   have hr2:=hs.r.same s2
   refine a1b zr hr2.1 (by have:=hs.r.2.2.1;omega) hr2.2.1 [some (V.str z),some (V.ref D)] rfl (fun r=>decide (r.2.2.1=z) && ((srW r).1 && a1B r.2.2.2 U)) (fun p=>p.1) (fun x r H' R ho hr' s' hR=>?_) (fun x r H' R ho hr' s' hR=>?_) (fun W H3 hWn s3 hW=>?_)
   ·have CF:=a3Y T ho.1
    obtain ⟨dx,t0,g1,g2⟩:=id hr'
    simp only [a9X,a0O,tOp,a2Q,a0q,Qa,Qb,tB,a0A,a0k,a0B,Qf,a0b]
    refine ⟨x,_,dx,_,_,rfl,g1,CF.cl,CF.nh,a0R _ _ _,?_⟩
    simp only [a0W,a1v,decide_eq_true_eq]
    refine a0V (fun c=>?_) (fun c=>?_)
    ·refine ⟨x,r,rfl,⟨x,rfl,hr'⟩,ho,fun H4 s4=>⟨_,rfl,a0V (fun c2=>?_) (fun c2=>?_)⟩⟩
     ·refine ⟨x,D,r,U,rfl,⟨x,rfl,hr'.same s4⟩,ho,s4 _ _ (s' _ _ hD2),fun H5 s5=>⟨_,rfl,?_⟩⟩
      have:=hR _ (s4.trans s5)
      rwa [decide_eq_true c,Xx,c2,Xx] at this
     ·have:=hR _ s4
      rwa [Xw.mpr c2,Yy,Vr] at this
    ·have:=hR _ (a0h.refl _)
     rwa [decide_eq_false c,Yy] at this
   ·simp only [a0q,Qa,a0b]
    exact hR _ (a0h.refl _)
   have hany:a2B ((zr.map (·.2)).map srW) U z=!decide ((zr.filter fun p=>decide (p.2.2.2.1=z) && ((srW p.2).1 && a1B p.2.2.2.2 U)).map (·.1)=[]):=by
    unfold a2B
    rw [Yw,Yw,Yl,Xy,Xk,decide_eq_false_iff_not,Zu,List.filter_eq_nil_iff]
    constructor
    ·rintro ⟨p,hp,h⟩ hall
     refine hall p hp ?_
     have h':(((srW p.2).1 && decide (p.2.2.2.1=z)) && a1B p.2.2.2.2 U)=true:=h
     rw [Qp,Qp] at h'
     rw [h'.1.2,h'.1.1,h'.2];rfl
    ·intro h
     refine Classical.byContradiction fun hn=>h fun p hp hc=>hn ⟨p,hp,?_⟩
     rw [Qp,Qp] at hc
     show (((srW p.2).1 && decide (p.2.2.2.1=z)) && a1B p.2.2.2.2 U)=true
     rw [hc.1,hc.2.1,hc.2.2];rfl
   have s23:=s2.trans s3
   refine ⟨fun σ' H'=>σ'=[some (V.ref s),some (V.ref a),some (V.ref D),some (V.str z),some (V.ref W)]∧a0h H3 H'∧(!decide (z∈U) && a2B ((zr.map (·.2)).map srW) U z)=true,?_,?_⟩
   ·simp only [a1K,tOr,a0O,tOp,a0q,Qb,Qa,a0M,tC,a0P,a2H,a0B,a0b]
    refine a1F (SqL.of (s3 _ _ hD2)) ⟨_,rfl,a0V (fun c=>?_) (fun c=>?_)⟩
    ·rw [if_pos trivial]
     exact hbad (by rw [hstep,c];rfl) _ s23
    ·refine ⟨Xi _,fun p hp=>?_⟩
     obtain ⟨H4,e4,s4,g4⟩:=a0F hp (.lst []);rw [e4]
     refine ⟨W,p,_,rfl,rfl,SqL.of (s4 _ _ hW),SqL.of g4,⟨_,rfl,a0V (fun c2=>?_) (fun c2=>⟨trivial,s4,?_⟩)⟩⟩
     ·exact hbad (by rw [hstep,hany,c2];simp) _ (s23.trans s4)
     ·rw [hany,Xw.mpr c,Xw.mpr c2];rfl
   ·rintro σ' H4 ⟨rfl,s4,hc⟩
    simp only [a3d,tBM,a0q,Qb,Qa,a0k,a0B,a0b]
    have hD4:=s4 _ _ (s3 _ _ hD2)
    refine ⟨.inl ⟨rfl,_,SqL.of hD4⟩,D,_,_,rfl,rfl,hD4,Xm (show _≤1000 by rw [Qd];omega) ‹dc›,_,_,rfl,fun b o e=>?_,?_,?_⟩
    ·rw [a0d (a0c e hD)];exact s4 _ _ (s23 _ _ e)
    ·rw [a0g,Xo];rfl
    ·rw [hstep];exact hc
  ·rintro σ H2 ⟨x3,x4,rfl,s2,hD2,hO2⟩
   rw [Qd,Xz] at hD2 hO2
   simp only [a0M,tOp,tCB,a0k,a0q,Qb,Qa,a0B,a0A,Qf,a0b]
   refine .inl ⟨D,S,rfl,SqL.of hD2,by omega,fun l s' hl p1 o1=>?_⟩
   obtain ⟨H3,e3,s3,g3⟩:=a0F hl (.lst (s'.map V.str));rw [e3]
   refine ⟨s,T0,P0,E,zr,ps,pl,ev,rfl,hs.same (s2.trans s3),fun D2 L H4 s4 hn hD2' hL=>?_⟩
   have hLf:L.length≤30∧∀z∈L,Xb z=true:=by
    have h0:=hL
    unfold isS at h0
    rw [Qp] at h0
    obtain ⟨_,b1,b2⟩:=a1U h0.1
    rw [Qd] at b2
    refine ⟨by have:=hs.r.2.2.1;omega,fun z hz=>?_⟩
    obtain ⟨r,hr,e⟩:=b1 z hz
    obtain ⟨p,hp,rfl⟩:=Xa.mp hr
    rw [←e];exact ((hs.eo _ (hs.ez p hp).1).ok ‹dc›).1
   refine .inl ⟨D2,L,rfl,SqL.of hD2',by omega,fun l2 l' hl2 p2 o2=>?_⟩
   obtain ⟨H5,e5,s5,g5⟩:=a0F hl2 (.lst (l'.map V.str));rw [e5]
   refine b0g (SqL.of (s5 _ _ (s4 _ _ g3))) (SqL.of g5) (fun z hz=>hSo z (p1.mem_iff.mp hz)) (fun z hz=>hLf.2 z (p2.mem_iff.mp hz)) ?_
   rw [a6E hL hO2 p1 p2 o1 o2]
   exact q _ (((s2.trans s3).trans s4).trans s5)
theorem b1B (T:Txt K mg t):a0T P w K mg base CX0 5 t.f_z1t t.fd_z1t ["_law_scene_here","_law_sures_here","_law_rows"] (b7u t):=by
 refine T.F_z1t.ok a4p (fun vs H Q E h=>?_) (fun cdv A outer s H vs Q E hr h=>?_)
 ·obtain ⟨s,T0,P0,E,a1,a2,zr,ps,pl,ev,S,R,rfl,hs,h1,hSl,hSo,hR,hRl,q⟩:=h;rfl
 ·obtain ⟨s,T0,P0,E,a1,a2,zr,ps,pl,ev,S,R,rfl,hs,h1,hSl,hSo,hR,hRl,q⟩:=h
  refine ⟨_,‹A4 (B1 (D7 (C2 (A7 (b6V T) T.g_z0r T.F_z0r.kp T.b_z0r (A0 0 (A0 1 A1))))) (A3 (A6 B6)) B3) (A4 (A9 3 a4p.nd (B4 A1)) (A4 (A9 4 a4p.nd (B4 A1)) (A4 (C7 (B9 2) (G4 rfl (E7 (B2 5 a4p.nd) (E7 (B2 6 a4p.nd) F7))) (A3 (B1 (B0 (a0L hr.units) 5 B5 (a0n _)) (A4 (B1 (D7 (C2 (A7 (b1t T) T.g_z0q T.F_z0q.kp T.b_z0q (A0 0 (A0 1 (A0 3 (A0 4 (A0 6 A1)))))))) (A3 (A6 B6)) B3) (A3 (D2 (C8 Xe Xg Xh a0C 3 (A0 6 A1))))) (A4 (B1 (D7 (C2 (A7 (b1h T) T.g_z0b T.F_z0b.kp T.b_z0b (A0 0 (A0 1 (A0 3 (A0 4 (A0 6 A1)))))))) (A3 (A6 B6)) B3) (A3 (D2 (C8 Xe Xg Xh a0C 4 (A0 6 A1)))))))) (A3 (A6 B6)))))›,?_⟩
  rw [show a0r b4f [V.ref s,V.ref a1,V.ref a2]=[some (V.ref s),some (V.ref a1),some (V.ref a2),none,none,none,none] from rfl]
  obtain ⟨qs,hD,hP,he⟩:=hR
  have hql:=a0o.len hP
  rw [Qd] at hql
  simp only [a1p,a1K,a9B,tB,a0A,a0k,a0q,Qa,Qb,a0B,Qf,Xk,a0M,tC,a0P,a1W,a2H,a0y,Qg,Qh,a0K,a1j,a0b,a1t]
  refine ⟨s,T0,P0,E,a1,zr,ps,pl,ev,S,rfl,hs,h1,hSl,hSo,fun H1 s1=>⟨_,rfl,?_⟩⟩
  by_cases hS:isS (zr.map (·.2)) S=true
  ·rw [hS,if_neg ‹dc›]
   rw [hS] at q
   refine ⟨Xi _,fun A1 hA1=>⟨Xi _,fun A2 hA2=>?_⟩⟩
   obtain ⟨H2,e2,s2,g2⟩:=a0F hA1 (.lst []);rw [e2] at hA2 ⊢
   obtain ⟨H3,e3,s3,g3⟩:=a0F hA2 (.lst []);rw [e3]
   have s13:=(s1.trans s2).trans s3
   have n12:A1≠A2:=fun z=>by rw [z] at g2;rw [g2] at hA2;cases hA2
   have f1:H A1=none:=none_of s1 hA1
   have f2:H A2=none:=none_of (s1.trans s2) hA2
   refine ⟨⟨_,SqL.of (s13 _ _ hD)⟩,?_⟩
   refine a0Z (K:=K) (a:=a2) (xs:=qs) (fun j σ H'=>∃(x5 x6:Option V),σ=[some (V.ref s),some (V.ref a1),some (V.ref a2),some (V.ref A1),some (V.ref A2),x5,x6]∧a0h H H'∧H' A1=some (.lst ((wOf ((R.take j).map cw) "held").map V.str))∧H' A2=some (.lst ((wOf ((R.take j).map cw) "refused").map V.str))∧a1u (zr.map (·.2)) pl S [] (R.take j)=true)
    ⟨_,_,rfl,s13,s3 _ _ g2,g3,rfl⟩ (fun i σ H' _ ⟨_,_,_,s',_⟩=>SqL.of (s' _ _ hD)) ?_ ?_
   ·rintro j x σ H4 hj ⟨x5,x6,rfl,s4,hU,hDn,hL⟩
    have hj':j < R.length:=by rw [←hql];exact (Qy.mp hj).1
    obtain ⟨x',ex,hx⟩:=a0o.at hP (i:=j) (by rw [Qd];exact hj')
    rw [hj] at ex
    cases ex
    rw [Zr] at hx
    have hce:=hs.eo _ (he _ (Qx hj'))
    have hbad:a1u (zr.map (·.2)) pl S [] (R.take (j+1))=false→∀H',a0h H H'→Q (.bl false) H':=fun hb H' s'=>by
     have:=q H' s'
     rwa [show a1u (zr.map (·.2)) pl S [] R=false from Xw.mpr fun z=>by rw [a4A (j+1) z] at hb;cases hb] at this
    have hw:∀w,(wOf ((R.take j).map cw) w).length≤1000:=fun w=>by
     unfold wOf
     rw [Qd]
     refine Qi (Qv _ _) ?_
     rw [Qd,Xu]
     omega
    rw [Xc hj'] at hbad ⊢
    have hstep:a1u (zr.map (·.2)) pl S [] (R.take j++[R[j]])=a1E (zr.map (·.2)) pl S (R.take j) R[j]:=by rw [a3e,hL,Xx,Zy]
    generalize R[j]=c at hx hce hbad hstep ⊢
    generalize R.take j=U at hbad hstep hU hDn hL hw ⊢
    simp only [b7A,b0n,a0y,b7I,a1K,a0O,tOp,a0q,Qg,Qh,Qb,Qa,tC,a1p,a9B,tB,a0A,a0k,a0B,Qf,Xk,a0M,a0P,a3d,tBM,a0b]
    refine ⟨x',_,rfl,SqT.of (s4 _ _ hx),rfl,_,_,rfl,_,_,rfl,rfl,?_⟩
    obtain ⟨b,z⟩:=c
    cases b
    ·refine a0W.mpr ⟨_,rfl,?_⟩
     rw [decide_eq_false (show ¬(cw (false,z)).1="held" from (by decide+kernel:¬clW false="held")),if_neg ‹dc›]
     refine ⟨s,T0,P0,E,a1,A1,A2,zr,ps,pl,ev,S,_,_,z,rfl,hs.same s4,hce,s4 _ _ h1,hU,hDn,fun H5 s5=>⟨_,rfl,?_⟩⟩
     have ed:a5o (zr.map (·.2)) pl S (wOf (U.map cw) "held") (wOf (U.map cw) "refused") z=a1E (zr.map (·.2)) pl S U (false,z):=rfl
     rw [ed]
     by_cases hd:a1E (zr.map (·.2)) pl S U (false,z)=true
     ·rw [hd,if_neg ‹dc›]
      have h5:=s5 _ _ hDn
      refine ⟨.inl ⟨rfl,_,SqL.of h5⟩,A2,_,_,rfl,rfl,h5,Xm (show _≤1000 by rw [Qd];exact hw _) ‹dc›,_,_,rfl,fun b o e=>?_,?_,?_,by rw [hstep];exact hd⟩
      ·rw [a0d (a0c e f2)];exact s5 _ _ (s4 _ _ e)
      ·rw [a0d n12,a3t,if_neg (show ¬clW false="held" by decide+kernel),Qf];exact s5 _ _ hU
      ·rw [a0g,a3t,if_pos (show clW false="refused" from rfl),Xo];rfl
     ·have hd':a1E (zr.map (·.2)) pl S U (false,z)=false:=Xw.mpr hd
      rw [hd',if_pos rfl]
      exact hbad (by rw [hstep];exact hd') _ (s4.trans s5)
    ·refine a0W.mpr ⟨_,rfl,?_⟩
     rw [decide_eq_true (show (cw (true,z)).1="held" from rfl),if_pos rfl]
     refine ⟨s,T0,P0,E,a1,A1,A2,zr,ps,pl,ev,S,_,_,z,rfl,hs.same s4,hce,s4 _ _ h1,hU,hDn,fun H5 s5=>⟨_,rfl,?_⟩⟩
     have ed:a1w (zr.map (·.2)) pl S (wOf (U.map cw) "held") (wOf (U.map cw) "refused") z=a1E (zr.map (·.2)) pl S U (true,z):=rfl
     rw [ed]
     by_cases hd:a1E (zr.map (·.2)) pl S U (true,z)=true
     ·rw [hd,if_neg ‹dc›]
      have h5:=s5 _ _ hU
      refine ⟨.inl ⟨rfl,_,SqL.of h5⟩,A1,_,_,rfl,rfl,h5,Xm (show _≤1000 by rw [Qd];exact hw _) ‹dc›,_,_,rfl,fun b o e=>?_,?_,?_,by rw [hstep];exact hd⟩
      ·rw [a0d (a0c e f1)];exact s5 _ _ (s4 _ _ e)
      ·rw [a0g,a3t,if_pos (show clW true="held" from rfl),Xo];rfl
      ·rw [a0d n12.symm,a3t,if_neg (show ¬clW true="refused" by decide+kernel),Qf];exact s5 _ _ hDn
     ·have hd':a1E (zr.map (·.2)) pl S U (true,z)=false:=Xw.mpr hd
      rw [hd',if_pos rfl]
      exact hbad (by rw [hstep];exact hd') _ (s4.trans s5)
   ·rintro σ H4 ⟨x5,x6,rfl,s4,_,_,hL⟩
    rw [hql,Xz] at hL
    simp only [a0M,tC]
    have:=q H4 s4
    rwa [hL] at this
  ·have hS':isS (zr.map (·.2)) S=false:=by simpa using hS
   rw [hS',if_pos rfl]
   have:=q H1 s1
   rwa [hS',Yy] at this
theorem b6U (T:Txt K mg t):a0T P w K mg base CX0 4 t.f_z1l t.fd_z1l ["_law_scene_here","_law_sures_here"] (b2m t):=by
 refine T.F_z1l.ok a3a (fun vs H Q E h=>?_) (fun cdv A outer s H vs Q E hr h=>?_)
 ·obtain ⟨s,T0,P0,E,a1,zr,ps,pl,ev,S,rfl,hs,h1,q⟩:=h;rfl
 ·obtain ⟨s,T0,P0,E,a1,zr,ps,pl,ev,S,rfl,hs,h1,q⟩:=h
  refine ⟨_,‹A4 (A9 2 a3a.nd (B4 A1)) (A4 (A9 3 a3a.nd (B4 A1)) (A4 (A9 4 a3a.nd (B4 A1)) (A4 (A9 5 a3a.nd (F8 A2)) (A4 (F9 (B0 a3g 5 (B8 a0s T.z_len a0v (A0 4 A1)) (a0n _)) (A4 (A9 5 a3a.nd (B8 a0s T.z_len a0v (A0 4 A1))) (A3 (C7 (B9 (A8 a0j 0 A2)) (B2 6 a3a.nd) (D6 (B1 (C9 (D9 (B0 a1D 6 2 (by with_unfolding_all rfl)) (E2 (B0 a1D 6 3 (by with_unfolding_all rfl))))) (A3 G5) B3) (A3 (B1 (C2 (A7 (b1t T) T.g_z0q T.F_z0q.kp T.b_z0q (A0 0 (A0 1 (A0 2 (A0 3 (A0 6 A1))))))) (A4 (D2 (C8 Xe Xg Xh a0C 2 (A0 6 A1))) (A3 (D2 (C8 Xe Xg Xh a0C 4 (A0 (D0 (A0 B5 (A0 6 A1))) A1))))) (A3 (B1 (C2 (A7 (b1h T) T.g_z0b T.F_z0b.kp T.b_z0b (A0 0 (A0 1 (A0 2 (A0 3 (A0 6 A1))))))) (A4 (D2 (C8 Xe Xg Xh a0C 3 (A0 6 A1))) (A3 (D2 (C8 Xe Xg Xh a0C 4 (A0 (D0 (A0 B5 (A0 6 A1))) A1))))) B3))))))))) (A3 (A6 4))))))›,?_⟩
  rw [show a0r b5G [V.ref s,V.ref a1]=[some (V.ref s),some (V.ref a1),none,none,none,none,none] from rfl]
  simp only [a1p,a1W,a2H,a0B,a0y,tUn,tC,Qg,Qh,b0Z]
  refine ⟨Xi _,fun A1 hA1=>⟨Xi _,fun A2 hA2=>⟨Xi _,fun A3 hA3=>?_⟩⟩⟩
  obtain ⟨H1,e1,s1,g1⟩:=a0F hA1 (.lst [])
  rw [e1] at hA2 hA3 ⊢
  obtain ⟨H2,e2,s2,g2⟩:=a0F hA2 (.lst [])
  rw [e2] at hA3 ⊢
  obtain ⟨H3,e3,s3,g3⟩:=a0F hA3 (.lst [])
  rw [e3]
  have s03:=(s1.trans s2).trans s3
  have n12:A1≠A2:=fun z=>by rw [z] at g1;rw [g1] at hA2;cases hA2
  have n13:A1≠A3:=fun z=>by rw [←z,s2 _ _ g1] at hA3;cases hA3
  have n23:A2≠A3:=fun z=>by rw [←z,g2] at hA3;cases hA3
  have f2:H A2=none:=none_of s1 hA2
  have f3:H A3=none:=none_of (s1.trans s2) hA3
  have hel:=hs.en.2
  refine a9i (fun m σ H'=>∃(G:List (Bool×Str)) (qs:List V) (z:Int) (x6:Option V),σ=[some (V.ref s),some (V.ref a1),some (V.ref A1),some (V.ref A2),some (V.ref A3),some (V.int z),x6]∧GrI H H' A1 A2 A3 (zr.map (·.2)) pl S ev G qs∧z≤G.length∧(z=G.length→GrC (zr.map (·.2)) pl S ev G)∧m=if z < G.length then ev.length+1 - G.length else 0)
   (ev.length+1) ⟨[],[],-1,_,rfl,⟨s03,s3 _ _ (s2 _ _ g1),s3 _ _ g2,g3,⟨[],rfl,rfl,fun i a p e=>(by cases e)⟩,⟨rfl,Uf,fun c hc=>(by cases hc)⟩⟩,by decide,fun z=>(by cases z),by rw [if_pos ‹dc›];rfl⟩ ?_
  rintro m σ H4 ⟨G,qs,z,x6,rfl,hI,hz,hc,rfl⟩
  have hql:qs.length=G.length:=by have:=a0o.len hI.p;rwa [Qd] at this
  simp only [a0O,tOp,a0q,Qb,Qa,tCB,a0k,a0B,a1p,a1W,a0y,Qg,Qh,a0K,a1j,tC,a0b,a0M]
  refine a0u (SqL.of hI.r) ?_
  rw [hql]
  simp only [a1J,a1v,decide_eq_true_eq]
  refine a0V (fun c1=>?_) (fun c1=>q A3 G qs H4 hI.s f3 hI.r hI.p hI.g (hc ‹om›))
  rw [if_pos c1]
  refine ⟨_,fun _ _ h=>h,?_⟩
  refine a0u (SqL.of hI.r) ?_
  rw [hql]
  refine a0m (SqL.of (hI.s _ _ hs.s)) rfl ⟨E,rfl,⟨_,SqL.of (hI.s _ _ hs.e)⟩,?_⟩
  refine a0Z (K:=K) (a:=E) (xs:=ev.map V.str) (fun j σ H'=>∃(G':List (Bool×Str)) (qs':List V) (x6:Option V),σ=[some (V.ref s),some (V.ref a1),some (V.ref A1),some (V.ref A2),some (V.ref A3),some (V.int (G.length:Int)),x6]∧GrI H H' A1 A2 A3 (zr.map (·.2)) pl S ev G' qs'∧((G'=G∧∀q∈ev.take j,q∉G.map (·.2)→a1E (zr.map (·.2)) pl S G (true,q)=false∧a1E (zr.map (·.2)) pl S G (false,q)=false)∨G.length < G'.length))
   ⟨G,qs,_,rfl,hI,.inl ⟨rfl,fun r hr=>(by cases hr)⟩⟩ (fun i σ H' _ ⟨_,_,_,_,h,_⟩=>SqL.of (h.s _ _ hs.e)) ?_ ?_
  ·rintro j x σ H5 hj ⟨G',qs',y6,rfl,hJ,hL⟩
   obtain ⟨hj',rfl⟩:=a1Q hj
   have hqo:ev[j]∈ev:=Qx hj'
   have etk:=a1x hj'
   generalize ev[j]=q0 at hqo etk
   have htx:=hs.eo q0 hqo
   have hl2:=hJ.g.len
   have hql':qs'.length=G'.length:=by have:=a0o.len hJ.p;rwa [Qd] at this
   have stay:∀H',a0h H5 H'→(G'=G→q0∉G.map (·.2)→a1E (zr.map (·.2)) pl S G (true,q0)=false∧a1E (zr.map (·.2)) pl S G (false,q0)=false)→∃(G':List (Bool×Str)) (qs':List V) (x6:Option V),[some (V.ref s),some (V.ref a1),some (V.ref A1),some (V.ref A2),some (V.ref A3),some (V.int (G.length:Int)),some (V.str q0)]=[some (V.ref s),some (V.ref a1),some (V.ref A1),some (V.ref A2),some (V.ref A3),some (V.int (G.length:Int)),x6]∧GrI H H' A1 A2 A3 (zr.map (·.2)) pl S ev G' qs'∧((G'=G∧∀q∈ev.take (j+1),q∉G.map (·.2)→a1E (zr.map (·.2)) pl S G (true,q)=false∧a1E (zr.map (·.2)) pl S G (false,q)=false)∨G.length < G'.length):=fun H' s' hc=>
    ⟨G',qs',_,rfl,hJ.same s',hL.elim (fun h=>.inl ⟨h.1,fun x hx=>((etk x).mp hx).elim (h.2 x) fun e=>by rw [e];exact hc h.1⟩) .inr⟩
   have put:∀(b:Bool) (Ab p:Addr) (H6:Hp),a0h H5 H6→(b=true∧Ab=A1)∨(b=false∧Ab=A2)→q0∉G'.map (·.2)→a1E (zr.map (·.2)) pl S G' (b,q0)=true→upd H6 Ab (.lst ((wOf (G'.map cw) (clW b)).map V.str++[V.str q0])) p=none→∃(G2:List (Bool×Str)) (qs2:List V) (x6:Option V),[some (V.ref s),some (V.ref a1),some (V.ref A1),some (V.ref A2),some (V.ref A3),some (V.int (G.length:Int)),some (V.str q0)]=[some (V.ref s),some (V.ref a1),some (V.ref A1),some (V.ref A2),some (V.ref A3),some (V.int (G.length:Int)),x6]∧GrI H (upd (upd (upd H6 Ab (.lst ((wOf (G'.map cw) (clW b)).map V.str++[V.str q0]))) p (.tup [.str (clW b),.str q0])) A3 (.lst (qs'++[.ref p]))) A1 A2 A3 (zr.map (·.2)) pl S ev G2 qs2∧((G2=G∧∀q∈ev.take (j+1),q∉G.map (·.2)→a1E (zr.map (·.2)) pl S G (true,q)=false∧a1E (zr.map (·.2)) pl S G (false,q)=false)∨G.length < G2.length):=fun b Ab p H6 s6 hb hn hd hp=>
    ⟨G'++[(b,q0)],qs'++[.ref p],_,rfl,(hJ.same s6).add n12 n13 n23 hA1 f2 f3 hb (hJ.g.snoc hqo hn hd) hp,.inr (by rw [Xl,Jt];rcases hL with ⟨rfl,_⟩ | h<;>omega)⟩
   refine ⟨fun σ' H'=>σ'=[some (V.ref s),some (V.ref a1),some (V.ref A1),some (V.ref A2),some (V.ref A3),some (V.int (G.length:Int)),some (V.str q0)]∧a0h H5 H'∧q0∉G'.map (·.2),?_,?_⟩
   ·simp only [a1K,tOr,a0O,tOp,a0q,Qg,Qh,Qb,Qa,b6A,a0P,a0b]
    refine a1F (SqL.of hJ.u) ?_
    simp only [a1v,decide_eq_true_eq]
    have no:∀b,(b,q0)∈G'→G'=G→q0∉G.map (·.2)→a1E (zr.map (·.2)) pl S G (true,q0)=false∧a1E (zr.map (·.2)) pl S G (false,q0)=false:=fun b h e hn=>absurd (Xa.mpr ⟨(b,q0),e ▸ h,rfl⟩) hn
    refine a0V (fun c=>?_) (fun c=>?_)
    ·rw [if_pos trivial]
     exact stay _ (a0h.refl _) (no true (a5O.mp c))
    refine a1F (SqL.of hJ.d) ?_
    simp only [a1v,decide_eq_true_eq]
    refine a0V (fun c'=>stay _ (a0h.refl _) (no false (a5X.mp c'))) (fun c'=>⟨trivial,a0h.refl _,fun h=>?_⟩)
    obtain ⟨⟨b,x⟩,hx,rfl⟩:=Xa.mp h
    cases b
    ·exact c' (a5X.mpr hx)
    ·exact c (a5O.mpr hx)
   ·rintro σ' H6 ⟨rfl,s6,hn⟩
    have h6:=hJ.same s6
    have hw:∀w,(wOf (G'.map cw) w).length≤G'.length:=fun w=>by
     unfold wOf
     rw [Qd]
     exact Qi (Qv _ _) (by rw [Qd];exact Qk _)
    simp only [a1K,tB,a0A,a0k,a0q,Qa,Qb,a0B,Qf,a1p,a3d,tBM,a6c,tC,a0b,a0P]
    refine ⟨s,T0,P0,E,a1,A1,A2,zr,ps,pl,ev,S,_,_,q0,rfl,hs.same h6.s,htx,h6.s _ _ h1,h6.u,h6.d,fun H7 s7=>⟨_,rfl,a0V (fun c2=>?_) (fun c2=>?_)⟩⟩
    ·have h7:=h6.same s7
     refine ⟨.inl ⟨rfl,_,SqL.of h7.u⟩,A1,_,_,rfl,rfl,h7.u,Xm (show _≤1000 by rw [Qd];have:=hw "held";omega) ‹dc›,?_⟩
     have h3:upd H7 A1 (.lst ((wOf (G'.map cw) "held").map V.str++[V.str q0])) A3=some (.lst qs'):=by rw [a0d n13.symm];exact h7.r
     refine ⟨.inl ⟨rfl,_,SqL.of h3⟩,by simp only [Qj,Qr];decide,fun p hp=>?_⟩
     exact ⟨A3,_,_,rfl,rfl,by rw [a0d (a0c h3 hp)];exact h3,Xm (show _≤1000 by omega) ‹dc›,put true A1 p H7 (s6.trans s7) (.inl ⟨rfl,rfl⟩) hn c2 hp⟩
    have h7':=h6.same s7
    refine ⟨s,T0,P0,E,a1,A1,A2,zr,ps,pl,ev,S,_,_,q0,rfl,hs.same h7'.s,htx,h7'.s _ _ h1,h7'.u,h7'.d,fun H7 s8=>⟨_,rfl,a0V (fun c3=>?_) (fun c3=>stay _ ((s6.trans s7).trans s8) fun e _=>?_)⟩⟩
    ·have h7:=h7'.same s8
     refine ⟨.inl ⟨rfl,_,SqL.of h7.d⟩,A2,_,_,rfl,rfl,h7.d,Xm (show _≤1000 by rw [Qd];have:=hw "refused";omega) ‹dc›,?_⟩
     have h3:upd H7 A2 (.lst ((wOf (G'.map cw) "refused").map V.str++[V.str q0])) A3=some (.lst qs'):=by rw [a0d n23.symm];exact h7.r
     refine ⟨.inl ⟨rfl,_,SqL.of h3⟩,by simp only [Qj,Qr];decide,fun p hp=>?_⟩
     exact ⟨A3,_,_,rfl,rfl,by rw [a0d (a0c h3 hp)];exact h3,Xm (show _≤1000 by omega) ‹dc›,put false A2 p H7 ((s6.trans s7).trans s8) (.inr ⟨rfl,rfl⟩) hn c3 hp⟩
    ·rw [←e]
     exact ⟨Xw.mpr c2,Xw.mpr c3⟩
  ·rintro σ H5 ⟨G',qs',y6,rfl,hJ,hL⟩
   rw [Qd,Xz] at hL
   have hl2:=hJ.g.len
   have hl1:=hI.g.len
   rcases hL with ⟨rfl,h⟩ | h
   ·exact ⟨0,by omega,G',qs',_,_,rfl,hJ,Int.le_refl _,fun _=>h,by rw [if_neg ‹om›]⟩
   ·exact ⟨ev.length+1 - G'.length,by omega,G',qs',_,_,rfl,hJ,by omega,fun z=>‹om›,by rw [if_pos ‹om›]⟩
theorem b1x (T:Txt K mg t):a0T P w K mg base CX0 1 t.f_z1m t.fd_z1m ["_law_some","_law_cell"] b2O:=by
 refine T.F_z1m.ok a5N (fun vs H Q E h=>?_) (fun cdv A outer s H vs Q E hr h=>?_)
 ·obtain ⟨a,c,P',n,rfl,hk,ha,hn,q⟩:=h;rfl
 ·obtain ⟨a,c,P',n,rfl,hk,ha,hn,q⟩:=h
  refine ⟨_,‹A4 (B1 (B0 (a5B hr.units) 0 (B4 A1) (a0n _)) (A3 (A6 (B4 A1))) B3) (A4 (A9 2 a5N.nd (A5 a0I 1 (B8 a0s T.z_len a0v (A0 0 A1)))) (A4 (A9 3 a5N.nd (A5 a0I (A5 a1G 1 A2) (B8 a0s T.z_len a0v (A0 0 A1)))) (A4 (A9 4 a5N.nd (A5 a0f (C0 a0D 0 C1 (B7 2)) (C0 a0D 0 (B7 (A5 a0f 2 A2)) C1))) (A3 (A6 (A5 a0f (A5 a0f (C0 a0D 4 C1 (B7 3)) (B4 (A0 (A8 a0j 0 2) A1))) (C0 a0D 4 (B7 3) C1)))))))›,?_⟩
  rw [show a0r b3Y [V.ref a,V.int c]=[some (V.ref a),some (V.int c),none,none,none] from rfl]
  obtain ⟨ys,ha0,hyl,hyP⟩:=id ha
  simp only [a1p,a1K,a0O,tOp,a0q,Qa,a2H,a0B,a0M,a0P,a1W,Qb,tCB,a0k,a0y,Qg,Qh,tC,tSl,a1r,a2e,a0b,a0U,a9H]
  refine ⟨Xi _,fun p hp=>?_⟩
  obtain ⟨H1,e1,s1,g1⟩:=a0F hp (.lst []);rw [e1]
  have ha1:=s1 _ _ ha0
  refine ⟨a,p,_,rfl,rfl,SqL.of ha1,SqL.of g1,_,rfl,a0V (fun c1=>?_) (fun c1=>?_)⟩
  ·refine ⟨Xi _,fun p2 hp2=>?_⟩
   obtain ⟨H2,e2,s2,g2⟩:=a0F hp2 (.lst []);rw [e2]
   exact q p2 H2 (s1.trans s2) ⟨[],g2,Xi _,fun v hv=>by cases hv⟩
  have hy0:ys≠[]:=by simpa using c1
  have hyp:0 < ys.length:=Wg.mpr hy0
  refine a0u (SqL.of ha1) ?_
  simp only [a0U,a0E,a2l]
  refine ⟨by omega,by decide,a0u (SqL.of ha1) ?_⟩
  simp only [a0U,a2l]
  refine ⟨by omega,?_⟩
  have hl1:LsP P' H1 a n:=ha.same hk s1
  have m1:=a1l (i:=c) (j:=(ys.length:Int)) ‹om›
  obtain ⟨v,e,hv,_⟩:=a2p (xs:=ys) (i:=c % (ys.length:Int)) m1.1 m1.2
  refine hl1.cut hk fun p2 H2 s2 l2=>(hl1.same hk s2).cut hk fun p3 H3 s3 l3=>LsP.add hk (l2.same hk s3) l3 ‹om› fun p4 H4 s4 l4=>LsP.cut hk l4 fun p5 H5 s5 l5=>?_
  have s15:=((s2.trans s3).trans s4).trans s5
  refine a0m (SqL.of (s15 _ _ ha1)) e ⟨by simp only [Qj,Qr];decide,fun p6 hp6=>?_⟩
  obtain ⟨H6,e6,s6,g6⟩:=a0F hp6 (.lst [v]);rw [e6]
  have l6:LsP P' H6 p6 1:=⟨[v],g6,Qk _,fun u hu=>by rw [Qq.mp hu];exact hk _ _ _ ((s1.trans s15).trans s6) (hyP v hv)⟩
  refine LsP.add hk (l5.same hk s6) l6 ‹om› fun p7 H7 s7 l7=>LsP.cut hk (l4.same hk ((s5.trans s6).trans s7)) fun p8 H8 s8 l8=>LsP.add hk (l7.same hk s8) l8 ‹om› fun p9 H9 s9 l9=>?_
  exact q p9 H9 (((((s1.trans s15).trans s6).trans s7).trans s8).trans s9) (l9.up ‹om›)
theorem b7s (T:Txt K mg t):a0T P w K mg base CX0 2 t.f_z0i t.fd_z0i ["_law_scene_here","_law_sures_here","_law_rows","_law_cell"] (b2a t):=by
 refine T.F_z0i.ok a2P (fun vs H Q E h=>?_) (fun cdv A outer s H vs Q E hr h=>?_)
 ·obtain ⟨s,T0,P0,E,a1,a2,c,zr,ps,pl,ev,rfl,hs,h1,h2,q⟩:=h;rfl
 ·obtain ⟨s,T0,P0,E,a1,a2,c,zr,ps,pl,ev,rfl,hs,h1,h2,q⟩:=h
  refine ⟨_,‹A4 (A9 4 a2P.nd (A5 a0I 3 A2)) (A4 (A9 5 a2P.nd (A5 a1G 3 A2)) (A4 (A9 6 a2P.nd (A5 a0I 5 (A5 a0f (B8 a0s T.z_len a0v (A0 2 A1)) A2))) (A4 (A9 7 a2P.nd (D0 (A0 (A8 a0j (B4 (A0 B5 (A0 B5 A1))) (A5 a0I (A5 a1G 5 A2) A2)) (A0 (A8 a0j (A8 a0j 0 A2) (A5 a0I (A5 a1G 5 A2) (B8 a0s T.z_len a0v (A0 (A8 a0j 0 A2) A1)))) A1)))) (A4 (B1 (B0 (a0L hr.units) 4 A2 (a0n _)) (A3 (A6 (B4 (A0 1 (A0 (A5 a0f (C0 a0D 2 C1 (B7 6)) (C0 a0D 2 (B7 (A5 a0f 6 A2)) C1)) A1))))) B3) (A4 (B1 (B0 (a0L hr.units) 4 A2 (a0n _)) (A3 (A6 (B4 (A0 1 (A0 (A5 a0f (A5 a0f (C0 a0D 2 C1 (B7 6)) (C0 a0D 2 (B7 6) (B7 (A5 a0f 6 A2)))) (C0 a0D 2 (B7 6) C1)) A1))))) B3) (A4 (B1 (B0 (a0L hr.units) 4 A2 (a0n _)) (A3 (A6 (B4 (A0 1 (A0 (A7 (b1x T) T.g_z1m T.F_z1m.kp T.b_z1m (A0 2 (A0 5 A1))) A1))))) B3) (A4 (B1 (B0 (a0L hr.units) 4 A2 (a0n _)) (A3 (A6 (B4 (A0 1 (A0 (A5 a0f (A5 a0f (C0 a0D 2 C1 (B7 6)) (B4 (A0 7 A1))) (C0 a0D 2 (B7 6) C1)) A1))))) B3) (D6 (B1 (C9 (D5 (B0 (a0L hr.units) 4 A2 (a0n _)) (E1 (B0 a3g 6 (B8 a0s T.z_len a0v (A0 2 A1)) (a0n _))))) (A4 (A9 8 a2P.nd (A8 a0j (B4 (A0 B5 (A0 B5 A1))) (C6 a4e T.z_int a4h (A0 (E4 (a0L hr.units) (A8 a0j (A8 a0j 2 6) A2) B5 (a0n _)) A1)))) (A3 (A6 (B4 (A0 1 (A0 (A5 a0f (A5 a0f (C0 a0D 2 C1 (B7 6)) (B4 (A0 (D0 (A0 8 (A0 (A8 a0j (A8 a0j 2 6) A2) A1))) A1))) (C0 a0D 2 (B7 (A5 a0f 6 A2)) C1)) A1)))))) B3) (A4 (B1 (B0 (a0L hr.units) 4 A2 (a0n _)) (A3 (A6 (B4 (A0 (A7 (b1x T) T.g_z1m T.F_z1m.kp T.b_z1m (A0 1 (A0 5 A1))) (A0 2 A1))))) B3) (A4 (B1 (B0 (a0L hr.units) 4 A2 (a0n _)) (A4 (A9 9 a2P.nd (A5 a0I 5 (A5 a0f (B8 a0s T.z_len a0v (A0 1 A1)) A2))) (A3 (A6 (B4 (A0 (A5 a0f (C0 a0D 1 C1 (B7 9)) (C0 a0D 1 (B7 (A5 a0f 9 A2)) C1)) (A0 2 A1)))))) B3) (A3 (A6 (B4 (A0 (A5 a0f 1 (B4 (A0 (A8 a0j 7 A2) A1))) (A0 2 A1)))))))))))))))›,?_⟩
  rw [show a0r b4l [V.ref s,V.ref a1,V.ref a2,V.int c]=[some (V.ref s),some (V.ref a1),some (V.ref a2),some (V.int c),none,none,none,none,none,none] from rfl]
  obtain ⟨us,hu0,hul,huP⟩:=id h1
  obtain ⟨ys,hy0,hyl,hyP⟩:=id h2
  have kt:=b8e ev
  have kc:=b8n ev
  have fin:∀b1 b2 Hx,a0h H Hx→LsP (b3e ev) Hx b1 57→LsP (b1F ev) Hx b2 57→([V.ref b1,V.ref b2].length≤sizeLine∧∀p,Hx p=none→Q (.ref p) (upd Hx p (.lst [V.ref b1,V.ref b2]))):=fun b1 b2 Hx sx l1 l2=>⟨by simp only [Qj,Qr];decide,fun p hp=>by
   obtain ⟨Hy,ey,sy,gy⟩:=a0F hp (.lst [V.ref b1,V.ref b2]);rw [ey]
   exact q p b1 b2 Hy (sx.trans sy) gy (l1.same kt sy) (l2.same kc sy)⟩
  have hen:=hs.en
  obtain ⟨b,eb⟩:∃b,atI [V.str "held",V.str "refused"] (c / 8 / 64 % 2)=some (V.str (clW b)):=by
   rcases (by omega:c / 8 / 64 % 2=0∨c / 8 / 64 % 2=1) with h | h<;>rw [h]
   ·exact ⟨true,rfl⟩
   ·exact ⟨false,rfl⟩
  have m1:=a1l (i:=c / 8 / 128) (j:=(ev.length:Int)) ‹om›
  obtain ⟨v,e,hv,_⟩:=a2p (xs:=ev.map V.str) (i:=c / 8 / 128 % (ev.length:Int)) m1.1 (by rw [Qd];exact m1.2)
  obtain ⟨z,hz,rfl⟩:=Xa.mp hv
  simp only [a1p,a1W,tOp,a0q,Qb,Qa,tC,a0y,Qg,Qh,tCB,a0k,a0B,a6c,a2H,a1K,a0O,a0M,tSl,a1r,a2e,a0b,a0P,a0A,Qf,a0U,a9H,a1h,a1v,decide_eq_true_eq]
  refine ⟨by decide,by decide,a0u (SqL.of hy0) ?_⟩
  simp only [a0E,a0U,a2l]
  refine ⟨by omega,by simp only [Qj,Qr];decide,fun p1 hp1=>⟨by decide,by decide,?_⟩⟩
  obtain ⟨H1,e1,s1,g1⟩:=a0F hp1 (.lst [V.str "held",V.str "refused"]);rw [e1]
  have hs1:=hs.same s1
  refine a0m (SqL.of g1) eb (a0m (SqL.of hs1.s) rfl ⟨by decide,a0m (SqL.of hs1.s) rfl (a0u (SqL.of hs1.e) ?_)⟩)
  rw [Qd]
  simp only [a0U]
  refine ⟨by omega,a0m (SqL.of hs1.e) e ⟨by simp only [Qj,Qr];decide,fun pc hpc=>?_⟩⟩
  obtain ⟨H2,e2,s2,g2⟩:=a0F hpc (.tup [V.str (clW b),V.str z]);rw [e2]
  have s02:=s1.trans s2
  have l1:=h1.same kt s02
  have l2:=h2.same kc s02
  have at0:=a1l (i:=c / 8) (j:=(ys.length:Int)+1) ‹om›
  try skip
  refine a0V (fun _=>?_) (fun _=>a0V (fun _=>?_) (fun _=>a0V (fun _=>?_) (fun _=>a0V (fun _=>?_) (fun _=>?_))))
  ·refine l2.cut kc fun p2 H3 s3 k3=>(l2.same kc s3).cut kc fun p3 H4 s4 k4=>LsP.add kc (k3.same kc s4) k4 ‹om› fun p4 H5 s5 k5=>?_
   have s25:=(s3.trans s4).trans s5
   exact fin a1 p4 H5 (s02.trans s25) ((l1.same kt s25).up ‹dc›) (k5.up ‹dc›)
  ·refine l2.cut kc fun p2 H3 s3 k3=>(l2.same kc s3).cut kc fun p3 H4 s4 k4=>LsP.add kc (k3.same kc s4) k4 ‹om› fun p4 H5 s5 k5=>(l2.same kc ((s3.trans s4).trans s5)).cut kc fun p5 H6 s6 k6=>LsP.add kc (k5.same kc s6) k6 ‹om› fun p6 H7 s7 k7=>?_
   have s27:=(((s3.trans s4).trans s5).trans s6).trans s7
   exact fin a1 p6 H7 (s02.trans s27) ((l1.same kt s27).up ‹dc›) (k7.up ‹dc›)
  ·refine ⟨a2,_,_,14,rfl,kc,l2,by decide,fun p2 H3 s3 k3=>?_⟩
   exact fin a1 p2 H3 (s02.trans s3) ((l1.same kt s3).up ‹dc›) (k3.up ‹dc›)
  ·refine l2.cut kc fun p2 H3 s3 k3=>⟨by simp only [Qj,Qr];decide,fun p3 hp3=>?_⟩
   obtain ⟨H4,e4,s4,g4⟩:=a0F hp3 (.lst [V.ref pc]);rw [e4]
   have s24:=s3.trans s4
   have k4:LsP (b1F ev) H4 p3 1:=⟨_,g4,Qk _,fun u hu=>by rw [Qq.mp hu];exact ⟨pc,(b,z),rfl,s24 _ _ g2,hz⟩⟩
   refine LsP.add kc (k3.same kc s4) k4 ‹om› fun p4 H5 s5 k5=>(l2.same kc (s24.trans s5)).cut kc fun p5 H6 s6 k6=>LsP.add kc (k5.same kc s6) k6 ‹om› fun p6 H7 s7 k7=>?_
   have s27:=((s24.trans s5).trans s6).trans s7
   exact fin a1 p6 H7 (s02.trans s27) ((l1.same kt s27).up ‹dc›) (k7.up ‹dc›)
  refine ⟨fun σ' H'=>σ'=[some (V.ref s),some (V.ref a1),some (V.ref a2),some (V.int c),some (V.int (c % 8)),some (V.int (c / 8)),some (V.int (c / 8 % ((ys.length:Int)+1))),some (V.ref pc),none,none]∧H'=H2,?_,?_⟩
  ·simp only [a1K,a9X,a0O,tOp,a0q,Qb,Qa,tC,tCB,a0k,a0B,a1p,a1W,a2H,a0y,a0M,Qg,Qh,tSl,a1r,a2e,a6c,a0b,a0E,a2l,a0P,a3A,a1h,a1v,decide_eq_true_eq]
   refine a0V (fun _=>a0u (SqL.of (s02 _ _ hy0)) ?_) (fun _=>⟨trivial,trivial⟩)
   simp only [a1J,a1v,decide_eq_true_eq]
   refine a0V (fun c4=>?_) (fun _=>⟨trivial,trivial⟩)
   obtain ⟨v4,e4',hv4,_⟩:=a2p (xs:=ys) (i:=c / 8 % ((ys.length:Int)+1)) at0.1 c4
   obtain ⟨x,d,rfl,hx,hde⟩:=hyP v4 hv4
   refine ⟨by simp only [Qj,Qr];decide,fun p2 hp2=>?_⟩
   obtain ⟨H3,e3,s3,g3⟩:=a0F hp2 (.lst [V.str "held",V.str "refused"]);rw [e3]
   have s03:=s02.trans s3
   obtain ⟨b4,eb4⟩:∃b,atI [V.str "held",V.str "refused"] (if decide (clW d.1="held")=true then 1 else 0)=some (V.str (clW b)):=by
    cases decide (clW d.1="held")
    ·exact ⟨true,rfl⟩
    ·exact ⟨false,rfl⟩
   refine a0m (SqL.of (s03 _ _ hy0)) e4' (a1d (i:=0) (v:=.str (clW d.1)) (SqT.of (s03 _ _ hx)) (by rfl) (a0W.mpr (a5y.mpr ?_)))
   refine a0m (SqL.of g3) eb4 ((l2.same kc s3).cut kc fun p3 H4 s4 k4=>?_)
   have s04:=s03.trans s4
   refine a0m (SqL.of (s04 _ _ hy0)) e4' (a1d (i:=1) (v:=.str d.2) (SqT.of (s04 _ _ hx)) (by rfl) ⟨by simp only [Qj,Qr];decide,fun p4 hp4=>⟨by simp only [Qj,Qr];decide,fun p5 hp5=>?_⟩⟩)
   obtain ⟨H5,e5,s5,g5⟩:=a0F hp4 (.tup [V.str (clW b4),V.str d.2]);rw [e5] at hp5 ⊢
   obtain ⟨H6,e6,s6,g6⟩:=a0F hp5 (.lst [V.ref p4]);rw [e6]
   have s56:=s5.trans s6
   have s26:=(s3.trans s4).trans s56
   have k6:LsP (b1F ev) H6 p5 1:=⟨_,g6,Qk _,fun u hu=>by rw [Qq.mp hu];exact ⟨p4,(b4,d.2),rfl,s6 _ _ g5,hde⟩⟩
   refine LsP.add kc (k4.same kc s56) k6 ‹om› fun p6 H7 s7 k7=>(l2.same kc (s26.trans s7)).cut kc fun p7 H8 s8 k8=>LsP.add kc (k7.same kc s8) k8 ‹om› fun p8 H9 s9 k9=>?_
   have s29:=((s26.trans s7).trans s8).trans s9
   exact fin a1 p8 H9 (s02.trans s29) ((l1.same kt s29).up ‹dc›) (k9.up ‹dc›)
  ·rintro σ' H' ⟨rfl,rfl⟩
   simp only [a1p,a1K,a0O,tOp,a0q,Qb,Qa,tC,a0M,a2H,a0k,a0A,a0B,Qf,a0b,a0P,a1W,tCB,a0y,tSl,Qg,Qh,a1r,a2e,a1h,a1v,decide_eq_true_eq]
   refine a0V (fun _=>?_) (fun _=>a0V (fun _=>?_) (fun _=>?_))
   ·refine ⟨a1,_,_,14,rfl,kt,l1,by decide,fun p2 H3 s3 k3=>?_⟩
    exact fin p2 a2 H3 (s02.trans s3) (k3.up ‹dc›) ((l2.same kc s3).up ‹dc›)
   ·refine a0u (SqL.of (s02 _ _ hu0)) ?_
    simp only [a0E,a0U,a2l]
    refine ⟨by omega,l1.cut kt fun p2 H3 s3 k3=>(l1.same kt s3).cut kt fun p3 H4 s4 k4=>LsP.add kt (k3.same kt s4) k4 ‹om› fun p4 H5 s5 k5=>?_⟩
    have s25:=(s3.trans s4).trans s5
    exact fin p4 a2 H5 (s02.trans s25) (k5.up ‹dc›) ((l2.same kc s25).up ‹dc›)
   ·refine a1d (i:=1) (v:=.str z) (SqT.of g2) (by rfl) ⟨by simp only [Qj,Qr];decide,fun p2 hp2=>?_⟩
    obtain ⟨H3,e3,s3,g3⟩:=a0F hp2 (.lst [V.str z]);rw [e3]
    have k3:LsP (b3e ev) H3 p2 1:=⟨_,g3,Qk _,fun u hu=>by rw [Qq.mp hu];exact ⟨z,hz,rfl⟩⟩
    refine LsP.add kt (l1.same kt s3) k3 ‹om› fun p4 H5 s5 k5=>?_
    have s25:=s3.trans s5
    exact fin p4 a2 H5 (s02.trans s25) (k5.up ‹dc›) ((l2.same kc s25).up ‹dc›)
theorem a3E (T:Txt K mg t):a0T P w K mg base CX0 1 t.f_z12 t.fd_z12 ["_law_script","_law_k"] (b6O K):=by
 refine T.F_z12.ok b7x (fun vs H Q E h=>?_) (fun cdv A outer s H vs Q E hr h=>?_)
 ·obtain ⟨a,ns,k,rfl,hS,hl,k0,k1,q⟩:=h;rfl
 ·obtain ⟨a,ns,k,rfl,hS,hl,k0,k1,q⟩:=h
  refine ⟨_,‹A4 (B1 (B0 a3g 1 (B8 a0s T.z_len a0v (A0 0 A1)) (a0n _)) (A3 (A6 (A8 a0j 0 1))) B3) (A3 (A6 A2))›,?_⟩
  rw [show a0r b5i [V.ref a,V.int k]=[some (V.ref a),some (V.int k)] from rfl]
  simp only [a1p,a1K,a0O,tOp,a0q,Qb,Qa,tCB,a0k,a0B,a0M,a0b,a0P,tC]
  refine a0u hS ?_
  simp only [a1J,a1v,decide_eq_true_eq]
  refine a0V (fun c=>?_) (fun c=>q 0)
  obtain ⟨v,e,hv,_⟩:=a2p (xs:=ns.map V.int) (i:=k) k0 (by simpa using c)
  obtain ⟨i,_,rfl⟩:=Xa.mp hv
  exact a0m hS e (q i)
theorem a3f (T:Txt K mg t):a0T P w K mg base CX0 1 t.f_z1s t.fd_z1s ["_law_cell","_law_k"] b6H:=by
 refine T.F_z1s.ok a5T (fun vs H Q E h=>?_) (fun cdv A outer s H vs Q E hr h=>?_)
 ·obtain ⟨c,k,rfl,q⟩:=h;rfl
 ·obtain ⟨c,k,rfl,q⟩:=h
  refine ⟨_,‹A4 (A9 2 a5T.nd (A5 a0I (A5 a0f (A5 a0f (A5 a0I 0 A2) (A5 a3s A2 1)) A2) A2)) (A4 (A9 2 a5T.nd (A5 a0I (A5 a3s 2 2) A2)) (A4 (A9 2 a5T.nd (A5 a0I (A5 a0f (A5 a3s 2 A2) 1) A2)) (A3 (A6 (A5 a0I (A5 a3s 2 2) A2)))))›,?_⟩
  rw [show a0r b4B [V.int c,V.int k]=[some (V.int c),some (V.int k),none] from rfl]
  simp only [a1p,a1W,tOp,a0q,Qa,tC,Qb,a0y,Qg,Qh,a0M,a0b,a0U,b3D,a0E]
  have h1:=a1l (i:=c % 2147483647+7919 * k+12345) (j:=2147483647) ‹dc›
  generalize (c % 2147483647+7919 * k+12345) % 2147483647=n at h1 ⊢
  have h2:=a1l (i:=n * n) (j:=2147483629) ‹dc›
  generalize n * n % 2147483629=m at h2 ⊢
  have h3:=a1l (i:=m * 48271+k) (j:=2147483647) ‹dc›
  generalize (m * 48271+k) % 2147483647=l at h3 ⊢
  exact ⟨by decide,.inl ‹dc›,by decide,.inl ‹om›,by decide,.inl ‹om›,by decide,.inl ‹om›,by decide,q _ (Int.emod_nonneg _ ‹dc›)⟩
theorem b6d (T:Txt K mg t):a0T P w K mg base CX0 2 t.f_z1h t.fd_z1h ["_law_rules","_law_cell"] (a7M t):=by
 refine T.F_z1h.ok a4j (fun vs H Q E h=>?_) (fun cdv A outer s H vs Q E hr h=>?_)
 ·obtain ⟨a,c,zr,rfl,hR,q⟩:=h;rfl
 ·obtain ⟨a,c,zr,rfl,hR,q⟩:=h
  refine ⟨_,‹A4 (A9 2 a4j.nd (B4 A1)) (A4 (C7 (E9 (A0 (B8 a0s T.z_len a0v (A0 0 A1)) A1)) (B2 3 a4j.nd) (A3 (C7 (G6 rfl T.z_range (A0 (A5 a0f 3 A2) (A0 (B8 a0s T.z_len a0v (A0 0 A1)) A1))) (B2 4 a4j.nd) (A3 (B1 (C9 (D5 (B0 (a0L hr.units) (C4 (A8 a0j 0 3)) (A7 (a6e T) T.g_z13 T.F_z13.kp T.b_z13 (A0 (C4 (A8 a0j 0 4)) A1)) (a0n _)) (D5 (B0 (a3w hr.units) (C4 (A8 a0j 0 3)) B5 (a0n _)) (E1 (B0 (a3w hr.units) (C4 (A8 a0j 0 4)) B5 (a0n _)))))) (A4 (A9 5 a4j.nd (A5 a0I (A7 (a3f T) T.g_z1s T.F_z1s.kp T.b_z1s (A0 1 (A0 (A5 a0f (A5 a3s A2 3) 4) A1))) A2)) (A3 (B1 (C9 (D5 (B0 a3g 5 A2 (a0n _)) (E1 (B0 a3g (B8 a0s T.z_len a0v (A0 2 A1)) A2 (a0n _))))) (A3 (D2 (C8 Xe Xg Xh a0C 2 (A0 (D0 (A0 (C4 (A8 a0j 0 3)) (A0 (C4 (A8 a0j 0 4)) A1))) A1)))) B3))) B3))))) (A3 (A6 2)))›,?_⟩
  rw [show a0r b5Z [V.ref a,V.int c]=[some (V.ref a),some (V.int c),none,none,none,none] from rfl]
  simp only [a1p,a1W,a2H,a0B,a0y,Qg,Qh,a0K,a8k,a0k,tCB,a0q,Qa,a0b]
  refine ⟨by decide,fun D hD=>?_⟩
  obtain ⟨H1,e1,s1,h1⟩:=a0F hD (.lst []);rw [e1]
  have hR1:=hR.same s1
  have hzl:=hR.2.2.1
  refine a0u (SqL.of hR1.1) ?_
  rw [Qd]
  refine ⟨_,rfl,by omega,by omega,?_⟩
  have inv0:a0o H1 [] []:=⟨[],rfl,rfl,fun i a p e=>by cases e⟩
  refine a2g (n:=(zr.length:Int).toNat) (lo:=0) (fun i σ H'=>∃(ps:List V) (pl:List (Str×Str)) (x3 x4 x5:Option V),σ=[some (V.ref a),some (V.int c),some (V.ref D),x3,x4,x5]∧a0h H H'∧H' D=some (.lst ps)∧a0o H' ps pl∧pl.length≤60∧b6Z pl)
   ⟨[],[],_,_,_,rfl,s1,h1,inv0,by decide,fun p hp=>absurd hp Yr⟩ ?_ ?_
  ·rintro i σ H2 hi ⟨ps,pl,x3,x4,x5,rfl,s2,hD2,hps,hpl,hpo⟩
   have hR2:=hR.same s2
   simp only [a0y,Qg,Qh,a0K,b5b,a0k,tOp,a0q,Qb,Qa,tC,tCB,a0B,a0b,a0E]
   refine a0u (SqL.of hR2.1) ?_
   rw [Qd]
   refine ⟨_,_,rfl,by omega,?_⟩
   obtain ⟨xa,ra,ea,hxa,hra⟩:=hR.at2 (k:=0+(i:Int)) ‹om› ‹om›
   have CA:=a3Y T hra.1.1
   obtain ⟨dxa,ta,fa1,fa2⟩:=hxa
   refine a2g (lo:=0+(i:Int)+1) (fun j σ H'=>∃(ps:List V) (pl:List (Str×Str)) (x4 x5:Option V),σ=[some (V.ref a),some (V.int c),some (V.ref D),some (V.int (0+(i:Int))),x4,x5]∧a0h H H'∧H' D=some (.lst ps)∧a0o H' ps pl∧pl.length≤60∧b6Z pl)
    ⟨ps,pl,_,_,rfl,s2,hD2,hps,hpl,hpo⟩ ?_ ?_
   ·clear hps hpl hpo hD2
    rintro j σ H3 hj ⟨ps,pl,x4,x5,rfl,s3,hD3,hps,hpl,hpo⟩
    obtain ⟨xb,rb,eb,hxb,hrb⟩:=hR.at2 (k:=0+(i:Int)+1+(j:Int)) ‹om› ‹om›
    have CB:=a3Y T hrb.1.1
    obtain ⟨dxb,tb,fb1,fb2⟩:=hxb
    have hR3:=(hR.same s3).1
    simp only [a0y,a1K,a9X,a0O,tOp,a2Q,a0q,Qg,Qh,Qa,Qb,a0A,a0k,a0B,Qf,tC,a1p,a1W,tCB,a3d,tBM,a6c,a0b,a0P,a3A,a0U,b3D,a0E,a1T,a1J,a1v,decide_eq_true_eq]
    refine a0m (SqL.of hR3) ea ⟨xa,_,dxa,_,_,rfl,s3 _ _ fa1,CA.cl,CA.nh,a0R _ _ _,?_⟩
    refine a0m (SqL.of hR3) eb ⟨xb,_,dxb,_,_,rfl,s3 _ _ fb1,CB.cl,CB.nh,a0R _ _ _,31,_,rfl,hrb.2.1,by decide,?_⟩
    simp only [a0W,a1v,decide_eq_true_eq]
    have keep:∀x5',∃(ps':List V) (pl':List (Str×Str)) (x4' x5'':Option V),[some (V.ref a),some (V.int c),some (V.ref D),some (V.int (0+(i:Int))),some (V.int (0+(i:Int)+1+(j:Int))),x5']=[some (V.ref a),some (V.int c),some (V.ref D),some (V.int (0+(i:Int))),x4',x5'']∧a0h H H3∧H3 D=some (.lst ps')∧a0o H3 ps' pl'∧pl'.length≤60∧b6Z pl':=fun x5'=>⟨ps,pl,_,_,rfl,s3,hD3,hps,hpl,hpo⟩
    refine a0V (fun _=>?_) (fun _=>keep _)
    refine a0m (SqL.of hR3) ea ⟨xa,_,dxa,_,_,rfl,s3 _ _ fa1,CA.cl,CA.nl,a1e _ _ _,?_⟩
    simp only [a3L,a1v,Xk,decide_eq_false_iff_not]
    refine a0V (fun _=>?_) (fun _=>keep _)
    refine a0m (SqL.of hR3) eb ⟨xb,_,dxb,_,_,rfl,s3 _ _ fb1,CB.cl,CB.nl,a1e _ _ _,?_⟩
    simp only [a3L,a1v,Xk,decide_eq_false_iff_not]
    refine a0V (fun _=>?_) (fun _=>keep _)
    refine ⟨.inl ‹dc›,fun r hr'=>⟨by decide,a0V (fun _=>?_) (fun _=>keep _)⟩⟩
    refine a0u (SqL.of hD3) ?_
    have hpn:=a0o.len hps
    simp only [a1J,a1v,decide_eq_true_eq]
    refine a0V (fun c60=>?_) (fun _=>keep _)
    refine ⟨.inl ⟨rfl,_,SqL.of hD3⟩,?_⟩
    refine a0m (SqL.of hR3) ea ⟨xa,_,dxa,_,_,rfl,s3 _ _ fa1,CA.cl,CA.nl,a1e _ _ _,?_⟩
    refine a0m (SqL.of hR3) eb ⟨xb,_,dxb,_,_,rfl,s3 _ _ fb1,CB.cl,CB.nl,a1e _ _ _,(show 2≤sizeLine by decide),fun Z hZ=>?_⟩
    obtain ⟨H4,e4,s4,h4⟩:=a0F hZ (.tup [V.str ra.2.1,V.str rb.2.1]);rw [e4]
    refine ⟨D,_,_,rfl,rfl,s4 _ _ hD3,Xm (show ps.length≤1000 by omega) ‹dc›,?_⟩
    have hZD:Z≠D:=fun z=>by rw [z,hD3] at hZ;cases hZ
    have hps4:a0o (upd H4 D (.lst (ps++[V.ref Z]))) ps pl:=b0p (a0o.same s4 hps) ⟨_,s4 _ _ hD3⟩ fun b o hb e=>by rw [a0d hb];exact e
    refine ⟨ps++[V.ref Z],pl++[(ra.2.1,rb.2.1)],_,_,rfl,fun b o e=>by rw [a0d (a0c e hD)];exact s4 _ _ (s3 _ _ e),a0g,a5C hps4 (by rw [a0d hZD];exact h4),?_,fun p hp=>?_⟩
    ·rw [Xl];simp;omega
    ·rcases Xq.mp hp with z | z
     ·exact hpo p z
     ·rw [Qq.mp z];exact ⟨hra.1.2.2.1.1,hrb.1.2.2.1.1⟩
   ·rintro σ H3 ⟨ps,pl,x4,x5,rfl,s3,hD3,hps,hpl,hpo⟩
    exact ⟨ps,pl,_,_,_,rfl,s3,hD3,hps,hpl,hpo⟩
  ·rintro σ H2 ⟨ps,pl,x3,x4,x5,rfl,s2,hD2,hps,hpl,hpo⟩
   simp only [a0M,a0q,Qb,Qa,a0b]
   exact q D ps pl H2 s2 hD hD2 hps hpl hpo
theorem b1g (T:Txt K mg t):a0T P w K mg base CX0 2 t.f_z1f t.fd_z1f ["_law_cell","_law_many"] b3v:=by
 refine T.F_z1f.ok a2z (fun vs H Q E h=>?_) (fun cdv A outer s H vs Q E hr h=>?_)
 ·obtain ⟨c,m,rfl,hm,q⟩:=h;rfl
 ·obtain ⟨c,m,rfl,hm,q⟩:=h
  refine ⟨_,‹A4 (A9 2 a2z.nd B5) (A4 (E3 3 (C3 (a0a a6r) b2s ["_law_k","_law_signs","_law_cell"] [none,some 2,some 0]) (E9 (A0 A2 A1)) (B2 0 (show Xv (["_law_k","_law_signs","_law_cell"]:List Str) by decide+kernel)) E0 (A8 (a3I (K:=K) rfl) 1 (A5 a0I (A7 (a3f T) T.g_z1s T.F_z1s.kp T.b_z1s (A0 2 (A0 (A5 (b2U (K:=K) rfl) A2 0) A1))) A2)) a2z.nd) (A4 (A9 4 a2z.nd (A5 a0f A2 (A5 a0I (A7 (a3f T) T.g_z1s T.F_z1s.kp T.b_z1s (A0 0 (A0 A2 A1))) A2))) (A4 (A9 5 a2z.nd (A5 a0I (A7 (a3f T) T.g_z1s T.F_z1s.kp T.b_z1s (A0 0 (A0 A2 A1))) 4)) (A4 (A9 6 a2z.nd (B4 A1)) (A4 (C7 (E9 (A0 1 A1)) (B2 7 a2z.nd) (A4 (A9 8 a2z.nd (C6 a0t T.z_list a0w (A0 3 A1))) (A4 (G0 (A8 a0j 2 (A5 a0I (A5 a0f (A7 (a3f T) T.g_z1s T.F_z1s.kp T.b_z1s (A0 0 (A0 A2 A1))) 7) A2)) (G7 8 5 b0A)) (A3 (B1 (B0 (a0L hr.units) (A5 a0I 0 A2) A2 (a0n _)) (A3 (D2 (C8 Xe Xg Xh a0C 6 (A0 (C8 Jn Vs Vt a8G B5 (A0 (C0 a0D 3 C1 (B7 (A5 a0f A2 7))) A1)) A1)))) (A3 (D2 (C8 Xe Xg Xh a0C 6 (A0 (C8 Jn Vs Vt a8G B5 (A0 (C0 a0D 8 C1 (B7 4)) A1)) A1))))))))) (A3 (A6 6)))))))›,?_⟩
  rw [show a0r b2s [V.int c,V.int m]=[some (V.int c),some (V.int m),none,none,none,none,none,none,none] from rfl]
  simp only [a1p,a1W,tC,a0y,Qg,Qh,tOp,a0A,a0k,a0q,Qa,a0B,Qf,Qb,a2H,a0K,a8k,a0b,a1T,a0U,a0E,a0x]
  rw [b4s]
  refine ⟨8,rfl,by decide,by decide,?_⟩
  refine a6k a4r (Qi (show (8:Int).toNat≤1000 by decide) ‹dc›) [some (V.str (mk a7g)),some (V.int c)] rfl (fun i v=>∃d,v=sv [d]∧d∈a7g) (fun _ _=>trivial) (fun i H' R hi s hR=>?_) (fun B H1 ys hBn s1 hB hl hv=>?_)
  ·simp only [tOp,a0q,Qb,Qa,a0A,a0k,tC,a0B,Qf,a0b,a0E,a1T,a0U,a5m]
   intro r hr
   have m26:=a1l (i:=r) (j:=26) ‹dc›
   obtain ⟨d,e,hd,_⟩:=a2p (xs:=a7g) m26.1 m26.2
   exact ⟨by decide,a2r (by rw [a1Y];decide),d,e,hR _ _ (a0h.refl _) ⟨d,rfl,hd⟩⟩
  obtain ⟨cs,rfl,hcs⟩:=b1j hv
  have hcl:cs.length=8:=by rw [Qd,a9c] at hl;exact hl
  intro r hr
  have m8:=a1l (i:=r) (j:=8) ‹dc›
  refine ⟨by decide,fun r1 hr1=>?_⟩
  have mz:=a1l (i:=r1) (j:=1+r % 8) ‹om›
  refine ⟨by omega,by decide,fun F hF=>⟨_,rfl,by omega,by omega,?_⟩⟩
  have hsz:1≤1+r % 8∧1+r % 8≤8:=by omega
  generalize 1+r % 8=sz at mz hsz ⊢
  generalize r1 % sz=at0 at mz ⊢
  obtain ⟨H2,e2,s2,h2⟩:=a0F hF (.lst []);rw [e2]
  have hFn:H F=none:=none_of s1 hF
  refine a2g (n:=m.toNat) (lo:=0) (fun i σ H'=>∃(ws:List (List Nat)) (x7 x8:Option V),σ=[some (V.int c),some (V.int m),some (V.str (mk a7g)),some (V.ref B),some (V.int sz),some (V.int at0),some (V.ref F),x7,x8]∧a0h H H'∧H' B=some (.lst (pv' (sgl cs)))∧H' F=some (.lst (pv' ws))∧ws.length=i∧∀w∈ws,IsW w)
   ⟨[],_,_,rfl,s1.trans s2,s2 _ _ hB,h2,rfl,by simp⟩ ?_ ?_
  ·rintro i σ H3 hi ⟨ws,x7,x8,rfl,s3,hB3,hF3,hwl,hww⟩
   have hBF:B≠F:=a0c hB hF
   simp only [a0y,a1p,a1W,tCB,a0k,a0q,Qg,Qh,Qb,Qa,a0B,tOp,a0A,tC,Qf,b9l,a1K,a0O,a3d,tBM,tSl,a1r,a2e,a0b,a0E,a2l,a7k,a0U,a1h,a1v,decide_eq_true_eq,a1T,a5m]
   refine ⟨B,_,rfl,.inl (SqL.of hB3),fun O hO=>?_⟩
   obtain ⟨H4,e4,s4,h4⟩:=a0F hO (.lst (pv' (sgl cs)));rw [e4]
   intro r2 hr2
   have m26:=a1l (i:=r2+(0+(i:Int))) (j:=26) ‹dc›
   obtain ⟨d,e,hd,_⟩:=a2p (xs:=a7g) m26.1 m26.2
   refine ⟨by decide,a2r (by rw [a1Y];decide),d,e,?_⟩
   refine a9O h4 mz.1 (by rw [Qd,a9c,hcl];omega) ?_
   rw [show (V.str (⟨#[d]⟩:Str))=sv [d] from rfl,b2L]
   obtain ⟨H5,e5,s5,h5⟩:∃H5,upd H4 O (.lst (pv' (sgl (cs.set at0.toNat d))))=H5∧a0h H3 H5∧H5 O=some (.lst (pv' (sgl (cs.set at0.toNat d)))):=⟨_,rfl,fun b o e=>by rw [a0d (a0c e hO)];exact s4 _ _ e,a0g⟩
   rw [e5]
   have hF5:=s5 _ _ hF3
   have hB5:=s5 _ _ hB3
   have fin:∀(H6:Hp) (w:List Nat),a0h H5 H6→IsW w→∃(ws':List (List Nat)) (x7' x8':Option V),[some (V.int c),some (V.int m),some (V.str (mk a7g)),some (V.ref B),some (V.int sz),some (V.int at0),some (V.ref F),some (V.int (0+(i:Int))),some (V.ref O)]=[some (V.int c),some (V.int m),some (V.str (mk a7g)),some (V.ref B),some (V.int sz),some (V.int at0),some (V.ref F),x7',x8']∧a0h H (upd H6 F (.lst (pv' ws++[sv w])))∧upd H6 F (.lst (pv' ws++[sv w])) B=some (.lst (pv' (sgl cs)))∧upd H6 F (.lst (pv' ws++[sv w])) F=some (.lst (pv' ws'))∧ws'.length=i+1∧∀w∈ws',IsW w:=fun H6 w s6 hw=>by
    refine ⟨ws++[w],_,_,rfl,fun b o e=>by rw [a0d (a0c e hFn)];exact s6 _ _ (s5 _ _ (s3 _ _ e)),by rw [a0d hBF];exact s6 _ _ hB5,by rw [a0g,b4N],by simp [hwl],fun x hx=>?_⟩
    rcases Xq.mp hx with z | z
    ·exact hww x z
    ·rw [Qq.mp z];exact hw
   have hj:∀(ds:List Nat),ds.length≤8→(((sgl ds).map mk).map (·.length)).sum+((sgl ds).map mk).length * ("":Str).length≤16777216:=fun ds hd=>by
    rw [a8N,show ("":Str).length=0 from rfl];omega
   have hwb:(pv' ws).length < sizeLine:=Xm (show _≤1000 by rw [Qd];omega) ‹dc›
   try skip
   refine ⟨by decide,a0V (fun c1=>?_) (fun c1=>?_)⟩
   ·refine ⟨.inl ⟨rfl,_,SqL.of hF5⟩,.inr (.inl ⟨B,_,rfl,SqL.of hB5,fun Z hZ=>?_⟩)⟩
    rw [a3P _ ‹om›,a9n,a5Y]
    obtain ⟨H6,e6,s6,h6⟩:=a0F hZ (.lst (pv' (sgl (cs.take (1+(0+(i:Int))).toNat))));rw [e6]
    have hw:=b1E hcl hcs (k:=(1+(0+(i:Int))).toNat) ‹om› ‹om›
    refine a5R (ys:=(sgl (cs.take (1+(0+(i:Int))).toNat)).map mk) (.inl (by rw [Yv];exact SqL.of h6)) (hj _ hw.2.1) ?_
    rw [show ("":Str)=mk [] from rfl,a7O,a5U]
    exact ⟨F,_,_,rfl,rfl,s6 _ _ hF5,hwb,fin H6 _ s6 hw⟩
   ·refine ⟨.inl ⟨rfl,_,SqL.of hF5⟩,.inr (.inl ⟨O,_,rfl,SqL.of h5,fun Z hZ=>?_⟩)⟩
    rw [a3P _ ‹om›,a9n,a5Y]
    obtain ⟨H6,e6,s6,h6⟩:=a0F hZ (.lst (pv' (sgl ((cs.set at0.toNat d).take sz.toNat))));rw [e6]
    have hw:=b1E (cs:=cs.set at0.toNat d) (by rw [List.length_set];exact hcl) (fun x hx=>by
     rcases List.mem_or_eq_of_mem_set hx with z | z
     ·exact hcs x z
     ·rw [z];exact hd) (k:=sz.toNat) ‹om› ‹om›
    refine a5R (ys:=(sgl ((cs.set at0.toNat d).take sz.toNat)).map mk) (.inl (by rw [Yv];exact SqL.of h6)) (hj _ hw.2.1) ?_
    rw [show ("":Str)=mk [] from rfl,a7O,a5U]
    exact ⟨F,_,_,rfl,rfl,s6 _ _ hF5,hwb,fin H6 _ s6 hw⟩
  ·rintro σ H3 ⟨ws,x7,x8,rfl,s3,hB3,hF3,hwl,hww⟩
   simp only [a0M,a0q,Qb,Qa,a0b]
   exact q F ws H3 s3 hFn hF3 hwl hww
theorem b7w (T:Txt K mg t):a0T P w K mg base CX0 3 t.f_z1n t.fd_z1n ["_law_script"] (b0m K):=by
 refine T.F_z1n.ok a4g (fun vs H Q E h=>?_) (fun cdv A outer s H vs Q E hr h=>?_)
 ·obtain ⟨a,ns,rfl,hS,hl,q⟩:=h;rfl
 ·obtain ⟨a,ns,rfl,hS,hl,q⟩:=h
  refine ⟨_,‹A4 (A9 1 a4g.nd (A7 (b1g T) T.g_z1f T.F_z1f.kp T.b_z1f (A0 (A7 (a3E T) T.g_z12 T.F_z12.kp T.b_z12 (A0 0 (A0 A2 A1))) (A0 A2 A1)))) (A4 (A9 2 a4g.nd (A7 (b1g T) T.g_z1f T.F_z1f.kp T.b_z1f (A0 (A7 (a3f T) T.g_z1s T.F_z1s.kp T.b_z1s (A0 (A7 (a3E T) T.g_z12 T.F_z12.kp T.b_z12 (A0 0 (A0 A2 A1))) (A0 A2 A1))) (A0 A2 A1)))) (A4 (A9 3 a4g.nd (B4 (A0 (A8 a0j 1 A2) (A0 (A5 a0f (A5 a0f (A5 a0f (A8 a0j 1 A2) B5) (A8 a0j 2 A2)) B5) (A0 (A5 a0f (A5 a0f (A5 a0f (A5 a0f (A5 a0f (A8 a0j 1 A2) B5) (A8 a0j 2 A2)) B5) (A8 a0j 2 A2)) B5) (A0 (A8 a0j 1 A2) A1)))))) (A4 (A9 3 a4g.nd (A5 a0f 3 (B4 (A0 (A5 a0f (A5 a0f (A5 a0f (A8 a0j 1 A2) B5) (A8 a0j 2 A2)) B5) (A0 (A8 a0j 1 A2) (A0 (A5 a0f (A5 a0f (A5 a0f (A5 a0f (A5 a0f (A8 a0j 1 A2) B5) (A8 a0j 2 A2)) B5) (A8 a0j 2 A2)) B5) A1)))))) (A3 (A6 (C0 a0D 3 C1 (B7 (A5 a0f A2 (A5 a0I (A7 (a3E T) T.g_z12 T.F_z12.kp T.b_z12 (A0 0 (A0 A2 A1))) A2)))))))))›,?_⟩
  rw [show a0r b6B [V.ref a]=[some (V.ref a),none,none,none] from rfl]
  simp only [a1p,a1W,a0A,a0k,a0q,Qa,tC,a0B,Qf,a0y,Qg,Qh,a2H,tOp,Qb,a0M,tSl,a1r,a2e,a0b]
  refine ⟨a,ns,0,rfl,hS,hl,by decide,by decide,fun c0=>?_⟩
  refine ⟨c0,3,rfl,by decide,fun Na nm H1 s1 hNn hNa hNl hNw=>?_⟩
  have hS1:SqL K H1 a (ns.map V.int):=s1.seq hS
  simp only []
  refine ⟨a,ns,0,rfl,hS1,hl,by decide,by decide,fun c1=>?_⟩
  simp only [a1T]
  intro r hr
  refine ⟨r,2,rfl,by decide,fun Ta th H2 s2 hTn hTa hTl hTw=>?_⟩
  have hN2:=s2 _ _ hNa
  obtain ⟨n0,n1,n2,rfl⟩:∃n0 n1 n2,nm=[n0,n1,n2]:=by
   match nm,hNl with
   | [x,y,z],_=>exact ⟨x,y,z,rfl⟩
  obtain ⟨t0,t1,rfl⟩:∃t0 t1,th=[t0,t1]:=by
   match th,hTl with
   | [x,y],_=>exact ⟨x,y,rfl⟩
  have w0:=hNw n0 (by simp)
  have w1:=hNw n1 (by simp)
  have w2:=hNw n2 (by simp)
  have u0:=hTw t0 (by simp)
  have u1:=hTw t1 (by simp)
  clear hNl hTl
  have b0:=w0.2.1
  have b1:=w1.2.1
  have b2:=w2.2.1
  have d0:=u0.2.1
  have d1:=u1.2.1
  have lw:∀{l:List Nat},IsW l→∀x∈l,x < 128:=fun h x hx=>b4u (h.2.2 x hx)
  have ne:∀{l:List Nat},IsW l→l≠[]:=fun h z=>by have:=h.1;rw [z] at this;simp at this
  have ap:∀{l m:List Nat},IsW l→m.length≤22→(∀x∈m,x < 128)→TxN 30 (mk (l++m)):=fun {l m} h h1 h2=>TxN.of (fun z=>ne h (List.append_eq_nil_iff.mp z).1) (by rw [Xl];have:=h.2.1;omega) (fun x hx=>(Xq.mp hx).elim (lw h x) (h2 x))
  simp only []
  rw [show (Xr "(")=mk [40] by decide+kernel,show (Xr ")")=mk [41] by decide+kernel,show (Xr ",")=mk [44] by decide+kernel]
  repeat (first | refine a0m (SqL.of hN2) rfl ?_ | refine a0m (SqL.of hTa) rfl ?_ | refine b1R (by simp only [Xl,Qj,Qr];omega) ?_)
  refine ⟨by simp only [Qj,Qr];decide,fun p1 hp1=>?_⟩
  obtain ⟨H3,e3,s3,h3⟩:=a0F hp1 (.lst ([mk n0,mk (n1++[40]++t0++[41]),mk (n0++[40]++t1++[44]++t0++[41]),mk n2].map V.str))
  have e3':upd H2 p1 (.lst [V.str (mk n0),sv (n1++[40]++t0++[41]),sv (n0++[40]++t1++[44]++t0++[41]),V.str (mk n2)])=H3:=e3
  rw [e3']
  have hN3:=s3 _ _ hN2
  have hT3:=s3 _ _ hTa
  repeat (first | refine a0m (SqL.of hN3) rfl ?_ | refine a0m (SqL.of hT3) rfl ?_ | refine b1R (by simp only [Xl,Qj,Qr];omega) ?_)
  refine ⟨by simp only [Qj,Qr];decide,fun p2 hp2=>?_⟩
  obtain ⟨H4,e4,s4,h4⟩:=a0F hp2 (.lst ([mk (n1++[40]++t1++[41]),mk n1,mk (n2++[40]++t0++[44]++t0++[41])].map V.str))
  have e4':upd H3 p2 (.lst [sv (n1++[40]++t1++[41]),V.str (mk n1),sv (n2++[40]++t0++[44]++t0++[41])])=H4:=e4
  rw [e4']
  refine b0e (s4 _ _ h3) h4 (by simp) fun p3 hp3=>?_
  obtain ⟨all,eall⟩:∃all:List Str,[mk n0,mk (n1++[40]++t0++[41]),mk (n0++[40]++t1++[44]++t0++[41]),mk n2]++[mk (n1++[40]++t1++[41]),mk n1,mk (n2++[40]++t0++[44]++t0++[41])]=all:=⟨_,rfl⟩
  have hall:∀z∈all,TxN 30 z:=by
   have one:∀{l:List Nat},IsW l→∀x∈[40]++l++[41],x < 128:=fun {l} h x hx=>by
    simp only [Xq,Qq] at hx
    rcases hx with (rfl | e) | rfl
    ·decide
    ·exact lw h x e
    ·decide
   have two:∀{l m:List Nat},IsW l→IsW m→∀x∈[40]++l++[44]++m++[41],x < 128:=fun {l m} h k x hx=>by
    simp only [Xq,Qq] at hx
    rcases hx with (((rfl | e) | rfl) | e) | rfl
    ·decide
    ·exact lw h x e
    ·decide
    ·exact lw k x e
    ·decide
   intro z hz
   rw [←eall] at hz
   simp only [Xq,Qw,Yr,or_false] at hz
   rcases hz with (rfl | rfl | rfl | rfl) | (rfl | rfl | rfl)
   ·exact TxN.of (ne w0) ‹om› (lw w0)
   ·have:=ap (l:=n1) (m:=[40]++t0++[41]) w1 (by simp;omega) (one u0);simpa [Yt] using this
   ·have:=ap (l:=n0) (m:=[40]++t1++[44]++t0++[41]) w0 (by simp;omega) (two u1 u0);simpa [Yt] using this
   ·exact TxN.of (ne w2) ‹om› (lw w2)
   ·have:=ap (l:=n1) (m:=[40]++t1++[41]) w1 (by simp;omega) (one u1);simpa [Yt] using this
   ·exact TxN.of (ne w1) ‹om› (lw w1)
   ·have:=ap (l:=n2) (m:=[40]++t0++[44]++t0++[41]) w2 (by simp;omega) (two u0 u0);simpa [Yt] using this
  have hal:all.length=7:=by rw [←eall];rfl
  rw [eall]
  obtain ⟨H5,e5,s5,h5⟩:=a0F hp3 (.lst (all.map V.str));rw [e5]
  have s25:=(s3.trans s4).trans s5
  have hS5:SqL K H5 a (ns.map V.int):=(s2.trans s25).seq hS1
  try skip
  refine ⟨a,ns,1,rfl,hS5,hl,by decide,by decide,fun c2=>?_⟩
  have m6:=a1l (i:=c2) (j:=6) ‹dc›
  simp only [a0U,a0E,a2l]
  refine ⟨by decide,.inr (.inl ⟨p3,_,rfl,SqL.of h5,fun p4 hp4=>?_⟩)⟩
  rw [a3P _ ‹om›,←Zw]
  obtain ⟨H6,e6,s6,h6⟩:=a0F hp4 (.lst ((all.take (2+c2 % 6).toNat).map V.str));rw [e6]
  have s06:=((s1.trans s2).trans s25)
  exact q p4 _ H6 (s06.trans s6) (none_of s06 hp4) h6 (by rw [Xu];omega) (by rw [Xu];omega) fun z hz=>hall z (Jw hz)
theorem a5M (T:Txt K mg t):a0T P w K mg base CX0 1 t.f_z0w t.fd_z0w ["self","label","head","body"] (b3R K):=by
 refine T.F_z0w.ok b3V (fun vs H Q E h=>?_) (fun cdv A outer s H vs Q E hr h=>?_)
 ·obtain ⟨x,C,dx,lb,hd,b,bs,rfl,hx,hC,hb,q⟩:=h;rfl
 ·obtain ⟨x,C,dx,lb,hd,b,bs,rfl,hx,hC,hb,q⟩:=h
  refine ⟨_,‹A4 (E6 0 1) (A4 (E6 0 2) (A3 (E6 0 (C6 a3u T.z_tuple a3h (A0 3 A1)))))›,?_⟩
  rw [show a0r b6M [V.ref x,lb,hd,V.ref b]=[some (V.ref x),some (lb),some (hd),some (V.ref b)] from rfl]
  obtain ⟨cl,n1,n2,n3⟩:=hC
  simp only [a1p,b7D,a0q,Qb,Qa,tCB,a0k,a0B,a0b]
  have cut:∀(H0:Hp),(∀c o,H c=some o→c≠x→H0 c=some o)→H0 x=some (.ins C dx (a1s "head" hd (a1s "label" lb [])))→∀t,H0 t=some (.tup bs)→t≠x→(∀c o,H c=some o→c≠x→upd H0 x (.ins C dx (a7h lb hd t)) c=some o)∧a1A (upd H0 x (.ins C dx (a7h lb hd t))) x C lb hd bs:=fun H0 k0 h0 t ht htx=>
   ⟨fun c o e hc=>by rw [a0d hc];exact k0 c o e hc,dx,t,a0g,by rw [a0d htx];exact ht⟩
  refine ⟨x,C,dx,_,rfl,hx,cl,n1,by show 0 < 1000;decide,x,C,dx,_,rfl,a0g,cl,n2,by show 1 < 1000;decide,?_⟩
  rw [b2w]
  obtain ⟨H1,e1,k1,h1⟩:∃H',upd H x (.ins C dx (a1s "head" hd (a1s "label" lb [])))=H'∧(∀c o,H c=some o→c≠x→H' c=some o)∧H' x=some (.ins C dx (a1s "head" hd (a1s "label" lb []))):=⟨_,rfl,fun c o e hc=>by rw [a0d hc];exact e,a0g⟩
  rw [e1]
  have hlen:(a1s "head" hd (a1s "label" lb [])).length < 1000:=by
   rw [show a1s "head" hd (a1s "label" lb [])=([("label",lb),("head",hd)]:List (Str×V)) from by
    show (if ("label":Str)="head" then _ else _)=_
    rw [if_neg ‹dk›];rfl]
   show 2 < 1000;decide
  rcases hb with hb | ⟨hb,hb'⟩
  ·have hb1:SqL K H1 b bs:=by
    rcases hb with (hb | ⟨o,hb⟩) | hb
    ·exact .inl (.inl (k1 _ _ hb (a1O hb hx ‹iz›)))
    ·exact .inl (.inr ⟨o,k1 _ _ hb (a1O hb hx ‹iz›)⟩)
    ·exact .inr hb
   refine ⟨b,bs,rfl,.inl ⟨hb1,fun t ht=>?_⟩⟩
   have htx:t≠x:=fun z=>by rw [z,h1] at ht;cases ht
   obtain ⟨H2,e2,s2,h2⟩:=a0F ht (.tup bs);rw [e2]
   obtain ⟨a1,a2⟩:=cut H2 (fun c o e hc=>s2 _ _ (k1 c o e hc)) (s2 _ _ h1) t h2 htx
   exact ⟨x,C,dx,_,rfl,s2 _ _ h1,cl,n3,hlen,q _ a1 a2⟩
  ·have hbx:b≠x:=a1O hb' hx ‹iz›
   have hb1:=k1 _ _ hb' hbx
   refine ⟨b,bs,rfl,.inr ⟨SqT.of hb1,?_⟩⟩
   obtain ⟨a1,a2⟩:=cut H1 k1 h1 b hb1 hbx
   exact ⟨x,C,dx,_,rfl,h1,cl,n3,hlen,q _ a1 a2⟩
theorem b4k (T:Txt K mg t):a0T P w K mg base CX0 2 t.f_z0y t.fd_z0y ["self","head"] (b1W K t.C_Fact):=by
 refine T.F_z0y.ok b6l (fun vs H Q E h=>?_) (fun cdv A outer s H vs Q E hr h=>?_)
 ·obtain ⟨x,dx,hd,rfl,hx,q⟩:=h;rfl
 ·obtain ⟨x,dx,hd,rfl,hx,q⟩:=h
  refine ⟨_,‹A3 (D2 (G8 (F0 (.ref t.C_Rule) T.g_Rule rfl) T.cm_Rule (a5M T) (hr.mono ‹dc›) T.b_z0w .nil a8R (A0 0 (A0 B5 (A0 1 (A0 (D0 A1) A1))))))›,?_⟩
  rw [show a0r b5F [V.ref x,hd]=[some (V.ref x),some (hd)] from rfl]
  simp only [a3d,b1u,tC,a0k,a0q,Qa,Qb,a6c,a0B,Qf,a0b]
  refine ⟨(by trivial),by decide,fun b hb=>?_⟩
  obtain ⟨H1,e1,s1,h1⟩:=a0F hb (.tup []);rw [e1]
  refine ⟨x,t.C_Fact,dx,_,hd,b,[],rfl,s1 _ _ hx,⟨T.cl_Fact,T.nf_Fact_label,T.nf_Fact_head,T.nf_Fact_body⟩,.inr ⟨SqT.of h1,h1⟩,fun H' k r=>?_⟩
  exact q _ (fun c o e hc=>k c o (s1 _ _ e) hc) r
theorem b4o (T:Txt K mg t):a0T P w K mg base CX0 1 t.f_z1g t.fd_z1g ["_law_pool_here","_law_number"] b2D:=by
 refine T.F_z1g.ok b1m (fun vs H Q E h=>?_) (fun cdv A outer s H vs Q E hr h=>?_)
 ·obtain ⟨P0,n,pl,rfl,hP,hp1,hp7,hpo,q⟩:=h;rfl
 ·obtain ⟨P0,n,pl,rfl,hP,hp1,hp7,hpo,q⟩:=h
  refine ⟨_,‹A4 (A9 2 b1m.nd (A8 a0j 0 (A5 a0I (A5 a1G 1 A2) (B8 a0s T.z_len a0v (A0 0 A1))))) (A4 (B1 (B0 (a0L hr.units) (A5 a0I 1 A2) A2 (a0n _)) (A3 (A6 (A5 a0f B5 2))) B3) (A3 (A6 2)))›,?_⟩
  rw [show a0r b3Z [V.ref P0,V.int n]=[some (V.ref P0),some (V.int n),none] from rfl]
  simp only [a1p,a1W,tOp,a0q,Qa,Qb,tC,tCB,a0k,a0B,a0y,a1K,a0O,Qg,Qh,a0M,a0b,a0P,a0U,a1h,a1v,decide_eq_true_eq,a9H]
  refine ⟨⟨by decide,by decide⟩,a0u (SqL.of hP) ?_⟩
  rw [Qd]
  simp only [a0U]
  have m1:=a1l (i:=n / 3) (j:=(pl.length:Int)) ‹om›
  obtain ⟨v,e,hv,_⟩:=a2p (xs:=pl.map V.str) (i:=n / 3 % (pl.length:Int)) m1.1 (by rw [Qd];exact m1.2)
  obtain ⟨z,hz,rfl⟩:=Xa.mp hv
  have hzo:=hpo z hz
  have hzl:=hzo.len
  refine ⟨by omega,a0m (SqL.of hP) e ⟨by decide,a0V (fun _=>?_) (fun _=>q z (hzo.up ‹dc›) (b7V hz))⟩⟩
  rw [a1H]
  exact ⟨Qi (Ui (show (Xr "-").length≤1 by decide+kernel) hzl) ‹dc›,q _ hzo.neg (b6c hz)⟩
theorem b6G (T:Txt K mg t):a0T P w K mg base CX0 2 t.f_z14 t.fd_z14 ["_law_cell","_law_many","_law_size","_law_plain"] a8m:=by
 refine T.F_z14.ok a4u (fun vs H Q E h=>?_) (fun cdv A outer s H vs Q E hr h=>?_)
 ·obtain ⟨c,m,sz,p,rfl,hm,hsz,q⟩:=h;rfl
 ·obtain ⟨c,m,sz,p,rfl,hm,hsz,q⟩:=h
  refine ⟨_,‹A4 (A9 4 a4u.nd (B4 A1)) (A4 (A9 5 a4u.nd (A5 a1G 0 A2)) (A4 (C7 (E9 (A0 1 A1)) (B2 6 a4u.nd) (A3 (B1 (C2 3) (A4 (D2 (C8 Xe Xg Xh a0C 4 (A0 (A5 a0I 5 2) A1))) (A3 (A9 5 a4u.nd (A5 a1G 5 2)))) (A3 (D2 (C8 Xe Xg Xh a0C 4 (A0 (A7 (a3f T) T.g_z1s T.F_z1s.kp T.b_z1s (A0 0 (A0 (A5 a0f A2 6) A1))) A1))))))) (A3 (A6 4))))›,?_⟩
  rw [show a0r b7z [V.int c,V.int m,V.int sz,V.bl p]=[some (V.int c),some (V.int m),some (V.int sz),some (V.bl p),none,none,none] from rfl]
  simp only [a1p,a1W,a2H,a0B,a0y,tOp,a0q,Qg,Qh,Qa,tC,a0K,a8k,a0k,Qb,a0b,a0U,a9H]
  refine ⟨by decide,fun D hD=>⟨⟨by decide,by decide⟩,_,rfl,by omega,by omega,?_⟩⟩
  obtain ⟨H1,e1,s1,h1⟩:=a0F hD (.lst []);rw [e1]
  refine a2g (n:=m.toNat) (lo:=0) (fun i σ H'=>∃(is:List Int) (a3n:Int) (x6:Option V),σ=[some (V.int c),some (V.int m),some (V.int sz),some (V.bl p),some (V.ref D),some (V.int a3n),x6]∧a0h H H'∧H' D=some (.lst (is.map V.int))∧is.length=i)
   ⟨[],_,_,rfl,s1,h1,rfl⟩ ?_ ?_
  ·rintro i σ H2 hi ⟨is,a3n,x6,rfl,s2,hD2,hil⟩
   have hb:(is.map V.int).length < sizeLine:=Xm (show _≤1000 by rw [Qd];omega) ‹dc›
   have fin:∀y:Int,a0h H (upd H2 D (.lst (is.map V.int++[V.int y])))∧upd H2 D (.lst (is.map V.int++[V.int y])) D=some (.lst ((is++[y]).map V.int))∧(is++[y]).length=i+1:=fun y=>
    ⟨fun b o e=>by rw [a0d (a0c e hD)];exact s2 _ _ e,by rw [a0g,Xo];rfl,by simp [hil]⟩
   simp only [a0y,a1K,tB,a0q,Qg,Qh,Qb,Qa,a1p,a3d,tBM,a0k,tOp,a0B,a1W,a0b,a0U,a9H,a0A,tC,Qf,a0E,a1T,a1v]
   refine a0V (fun _=>?_) (fun _=>?_)
   ·refine ⟨.inl ⟨rfl,_,SqL.of hD2⟩,by omega,D,_,_,rfl,rfl,hD2,hb,⟨by omega,by omega⟩,is++[a3n % sz],_,_,rfl,(fin _).1,(fin _).2.1,(fin _).2.2⟩
   ·refine ⟨.inl ⟨rfl,_,SqL.of hD2⟩,fun r hr=>⟨D,_,_,rfl,rfl,hD2,hb,is++[r],_,_,rfl,(fin _).1,(fin _).2.1,(fin _).2.2⟩⟩
  ·rintro σ H2 ⟨is,a3n,x6,rfl,s2,hD2,hil⟩
   simp only [a0M,a0q,Qb,Qa,a0b]
   exact q D is H2 s2 hD hD2 hil
theorem b5f (T:Txt K mg t):a0T P w K mg base CX0 4 t.f_z1o t.fd_z1o ["_law_pool_here","_law_cell","_law_k","_law_plain"] (a9S t):=by
 refine T.F_z1o.ok a4k (fun vs H Q E h=>?_) (fun cdv A outer s H vs Q E hr h=>?_)
 ·obtain ⟨P0,c,k,p,pl,rfl,hP,hp1,hp7,hpo,hk,q⟩:=h;rfl
 ·obtain ⟨P0,c,k,p,pl,rfl,hP,hp1,hp7,hpo,hk,q⟩:=h
  refine ⟨_,‹A4 (A9 4 a4k.nd (A8 a0j (B4 (A0 A2 (A0 A2 (A0 A2 (A0 A2 (A0 A2 (A0 A2 (A0 A2 (A0 A2 A1))))))))) (A5 a0I 1 A2))) (A4 (E3 5 (C3 (a0a a6S) b2Z ["_law_number","_law_pool_here"] [none,some 0]) (B9 (A7 (b6G T) T.g_z14 T.F_z14.kp T.b_z14 (A0 1 (A0 (A5 a0f A2 4) (A0 (A5 a3s A2 (B8 a0s T.z_len a0v (A0 0 A1))) (A0 3 A1)))))) (B2 0 (show Xv (["_law_number","_law_pool_here"]:List Str) by decide+kernel)) E0 (A7 (b4o T) T.g_z1g T.F_z1g.kp T.b_z1g (A0 1 (A0 0 A1))) a4k.nd) (A4 (A9 6 a4k.nd (A5 a0I (A5 a1G 1 A2) A2)) (A4 (A9 7 a4k.nd (A5 a0f B5 (C6 a4s T.z_str a9t (A0 2 A1)))) (D6 (B1 (C9 (D5 (B0 (a0L hr.units) 6 A2 (a0n _)) (E1 (B0 (a0L hr.units) 4 A2 (a0n _))))) (A3 (A6 (F1 T.mk_Fact (b4k T) T.g_Fact T.b_z0y (A0 (A8 a0j 5 A2) A1)))) B3) (A4 (B1 (B0 a3g 6 A2 (a0n _)) (A3 (A6 (F1 T.mk_Sure (a5M T) T.g_Sure T.b_z0w (A0 7 (A0 (A8 a0j 5 A2) (A0 (C0 a0D 5 (B7 A2) C1) A1)))))) B3) (A4 (B1 (B0 (a0L hr.units) 6 A2 (a0n _)) (A3 (A6 (F1 T.mk_Block (a5M T) T.g_Block T.b_z0w (A0 7 (A0 (A8 a0j 5 A2) (A0 (C0 a0D 5 (B7 A2) C1) A1)))))) B3) (A3 (A6 (F1 T.mk_Most (a5M T) T.g_Most T.b_z0w (A0 7 (A0 (A8 a0j 5 A2) (A0 (C0 a0D 5 (B7 A2) C1) A1))))))))))))›,?_⟩
  rw [show a0r b2Z [V.ref P0,V.int c,V.int k,V.bl p]=[some (V.ref P0),some (V.int c),some (V.int k),some (V.bl p),none,none,none,none] from rfl]
  simp only [a1p,a1W,tOp,a2H,a0k,tC,a0B,a0q,Qb,Qa,a0y,Qg,Qh,tCB,a1H,a0b,a0U,a9H,a0x,a1j,a0A,Qf]
  refine ⟨by simp only [Qj,Qr];decide,fun p1 hp1'=>?_⟩
  obtain ⟨H1,e1,s1,h1⟩:=a0F hp1' (.lst [V.int 0,V.int 1,V.int 1,V.int 1,V.int 2,V.int 2,V.int 3,V.int 4]);rw [e1]
  have m8:=a1l (i:=c) (j:=8) ‹dc›
  obtain ⟨v8,e8,hv8,_⟩:=a2p (xs:=[V.int 0,V.int 1,V.int 1,V.int 1,V.int 2,V.int 2,V.int 3,V.int 4]) m8.1 m8.2
  obtain ⟨mn,rfl,hmn⟩:∃n:Int,v8=.int n∧(0≤n∧n≤4):=by
   simp only [Qw,Yr,or_false] at hv8
   rcases hv8 with rfl | rfl | rfl | rfl | rfl | rfl | rfl | rfl<;>exact ⟨_,rfl,by decide⟩
  refine ⟨by decide,a0m (SqL.of h1) e8 ?_⟩
  simp only [a0E]
  have hP1:=s1 _ _ hP
  refine a0u (SqL.of hP1) ?_
  rw [Qd]
  simp only [a0U,b3D]
  refine ⟨.inl ‹dc›,?_⟩
  refine ⟨c,1+mn,_,p,rfl,by omega,by omega,fun D is H2 s2 hDn hD hil=>?_⟩
  have hP2:=s2 _ _ hP1
  simp only [a1t]
  refine ⟨⟨_,SqL.of hD⟩,?_⟩
  refine a6k (a3N (xs:=is.map V.int)) (Qi (show (is.map V.int).length≤1000 by rw [Qd];omega) ‹dc›) [some (V.ref P0)] rfl (fun i v=>∃z,v=V.str z∧(TxN 31 z∧z∈a9E pl)) (fun H' s=>SqL.of (s _ _ hD)) (fun i H' R hi s hR=>?_) (fun X H3 ys hXn s3 hX hyl hv=>?_)
  ·have hi':i < is.length:=by simpa using hi
   have e2:((is.map V.int)[i]?).getD .non=V.int is[i]:=by rw [Qz,Qe hi'];rfl
   rw [e2]
   simp only [a0A,a0k,a0q,Qb,Qa,a0B,Qf,a0b]
   exact ⟨P0,is[i],pl,rfl,s _ _ hP2,hp1,hp7,hpo,fun z hz hz2=>hR _ _ (a0h.refl _) ⟨z,rfl,hz,hz2⟩⟩
  obtain ⟨zs,rfl,hzo⟩:=b1l hv
  have hzl:zs.length=(1+mn).toNat:=by rw [Qd,Qd] at hyl;omega
  obtain ⟨z0,zr,rfl⟩:∃z0 zr,zs=z0::zr:=by
   cases zs with
   | nil=>simp at hzl;omega
   | cons z0 zr=>exact ⟨z0,zr,rfl⟩
  have hzr:zr.length≤4:=by simp at hzl;omega
  have s03:=(s1.trans s2).trans s3
  have o0:=(hzo z0 Qu).1
  have or:∀q∈zr,TxN 31 q:=fun q hq=>(hzo q (Qs _ hq)).1
  have eR:∀k lb,RwE (a9E pl) (k,lb,z0,zr):=fun _ _=>⟨(hzo z0 Qu).2,fun q hq=>(hzo q (Qs _ hq)).2⟩
  obtain ⟨kn,rfl⟩:∃kn:Nat,k=(kn:Int):=⟨k.toNat,by omega⟩
  have hlab:=b4O kn ‹om›
  try skip
  refine ⟨⟨by decide,by decide⟩,by decide,_,rfl,?_,?_,?_⟩
  ·show kn.log2 < 1920
   by_cases h0:kn=0
   ·rw [h0];decide
   ·exact (Nat.log2_lt h0).mpr (Xj (show kn < 2 ^ 6 by omega) (Nat.pow_le_pow_right ‹dc› ‹dc›))
  ·have:=hlab.2
   rw [b0t] at this
   exact Qi this ‹dc›
  obtain ⟨lb,elb⟩:∃lb,Xr "r"++Xr (toString (kn:Int))=lb:=⟨_,rfl⟩
  rw [elb] at hlab ⊢
  have okR:∀k,0 < k→k < 4→RwT (k,lb,z0,zr):=fun k h0 h4=>⟨⟨h4,fun z=>absurd (show k=0 from z) ‹om›,hlab,o0.ok ‹dc›,fun q hq=>(or q hq).ok ‹dc›,hzr⟩,o0,or⟩
  have okF:RwT (0,"",z0,[]):=⟨⟨show 0 < 4 by decide,fun _=>⟨rfl,rfl⟩,(⟨by decide+kernel,by decide+kernel⟩:OkS ""),o0.ok ‹dc›,(fun q hq=>absurd hq Yr),show 0≤4 by decide⟩,o0,(fun q hq=>absurd hq Yr)⟩
  generalize hw:c / 8 % 6=w0
  refine ⟨fun σ' H'=>σ'=[some (V.ref P0),some (V.int c),some (V.int kn),some (V.bl p),some (V.int mn),some (V.ref X),some (V.int w0),some (V.str lb)]∧H'=H3,?_,?_⟩
  ·simp only [a1K,a9X,a0O,tOp,a0q,Qb,Qa,tC,a0M,b0w,a0k,a0B,Qf,a0b,a0P,a1h,a1v,decide_eq_true_eq,a3A]
   refine a0V (fun _=>?_) (fun _=>⟨by trivial,by trivial⟩)
   refine a0V (fun _=>?_) (fun _=>⟨by trivial,by trivial⟩)
   refine a0m (SqL.of hX) (a3b _ _) ?_
   intro x dx nx ndx ne
   obtain ⟨s,hx⟩:=b4T (C:=t.C_Fact) nx ndx
   exact ⟨x,dx,_,rfl,hx,fun H' k r=>⟨rfl,q x (0,"",z0,[]) H' (fun c o e=>k c o (s _ _ (s03 _ _ e)) (a0c (s03 _ _ e) nx)) okF ⟨(eR 0 "").1,fun q hq=>absurd hq Yr⟩ r⟩⟩
  rintro σ' H' ⟨rfl,rfl⟩
  simp only [a1p,a1K,a0O,tOp,a0q,Qb,Qa,tC,a0M,b0w,a0k,tSl,a2e,a1r,a0B,Qf,a2l,a0b,a0P,a1h,a1v,decide_eq_true_eq,a1J]
  refine a0V (fun _=>?_) (fun _=>a0V (fun _=>?_) (fun _=>?_))
  ·refine a0m (SqL.of hX) (a3b _ _) (.inr (.inl ⟨X,_,rfl,SqL.of hX,fun Z hZ=>?_⟩))
   rw [show a3c (Wv V.str (z0::zr)) (some 1) none=zr.map V.str from b0L _ _]
   obtain ⟨H4,e4,s4,h4⟩:=a0F hZ (.lst (zr.map V.str));rw [e4]
   intro x dx nx ndx ne
   obtain ⟨s,hx⟩:=b4T (C:=t.C_Sure) nx ndx
   exact ⟨x,t.C_Sure,dx,_,_,Z,_,rfl,hx,⟨T.cl_Sure,T.nf_Sure_label,T.nf_Sure_head,T.nf_Sure_body⟩,.inl (SqL.of (s _ _ h4)),fun H' k r=>⟨rfl,q x (1,lb,z0,zr) H' (fun c o e=>k c o (s _ _ (s4 _ _ (s03 _ _ e))) (a0c (s4 _ _ (s03 _ _ e)) nx)) (okR 1 ‹dc› ‹dc›) (eR _ _) r⟩⟩
  ·refine a0m (SqL.of hX) (a3b _ _) (.inr (.inl ⟨X,_,rfl,SqL.of hX,fun Z hZ=>?_⟩))
   rw [show a3c (Wv V.str (z0::zr)) (some 1) none=zr.map V.str from b0L _ _]
   obtain ⟨H4,e4,s4,h4⟩:=a0F hZ (.lst (zr.map V.str));rw [e4]
   intro x dx nx ndx ne
   obtain ⟨s,hx⟩:=b4T (C:=t.C_Block) nx ndx
   exact ⟨x,t.C_Block,dx,_,_,Z,_,rfl,hx,⟨T.cl_Block,T.nf_Block_label,T.nf_Block_head,T.nf_Block_body⟩,.inl (SqL.of (s _ _ h4)),fun H' k r=>⟨rfl,q x (3,lb,z0,zr) H' (fun c o e=>k c o (s _ _ (s4 _ _ (s03 _ _ e))) (a0c (s4 _ _ (s03 _ _ e)) nx)) (okR 3 ‹dc› ‹dc›) (eR _ _) r⟩⟩
  ·refine a0m (SqL.of hX) (a3b _ _) (.inr (.inl ⟨X,_,rfl,SqL.of hX,fun Z hZ=>?_⟩))
   rw [show a3c (Wv V.str (z0::zr)) (some 1) none=zr.map V.str from b0L _ _]
   obtain ⟨H4,e4,s4,h4⟩:=a0F hZ (.lst (zr.map V.str));rw [e4]
   intro x dx nx ndx ne
   obtain ⟨s,hx⟩:=b4T (C:=t.C_Most) nx ndx
   exact ⟨x,t.C_Most,dx,_,_,Z,_,rfl,hx,⟨T.cl_Most,T.nf_Most_label,T.nf_Most_head,T.nf_Most_body⟩,.inl (SqL.of (s _ _ h4)),fun H' k r=>⟨rfl,q x (2,lb,z0,zr) H' (fun c o e=>k c o (s _ _ (s4 _ _ (s03 _ _ e))) (a0c (s4 _ _ (s03 _ _ e)) nx)) (okR 2 ‹dc› ‹dc›) (eR _ _) r⟩⟩
theorem b6w (T:Txt K mg t):a0T P w K mg base CX0 1 t.f_z1a t.fd_z1a ["_law_rules","_law_cell"] (b0I t):=by
 refine T.F_z1a.ok b4j (fun vs H Q E h=>?_) (fun cdv A outer s H vs Q E hr h=>?_)
 ·obtain ⟨a,c,zr,rfl,hR,q⟩:=h;rfl
 ·obtain ⟨a,c,zr,rfl,hR,q⟩:=h
  refine ⟨_,‹A4 (B1 (B0 (a0L hr.units) (A5 a0I (A5 a1G 1 A2) A2) A2 (a0n _)) (A3 (A6 (G9 rfl rfl T.z_list rfl T.z_reversed 0))) B3) (A3 (A6 (C6 a0t T.z_list a0w (A0 0 A1))))›,?_⟩
  rw [show a0r b5M [V.ref a,V.int c]=[some (V.ref a),some (V.int c)] from rfl]
  have fin:∀(p:Addr) (zs:List VR),H p=none→(∀x∈zs,x∈zr)→zs.length=zr.length→Q (.ref p) (upd H p (.lst (zs.map (·.1)))):=fun p zs hp hm hl=>by
   obtain ⟨H1,e1,s1,h1⟩:=a0F hp (.lst (zs.map (·.1)));rw [e1]
   exact q p zs H1 s1 hp ⟨h1,fun x hx=>(hR.2.1.same s1) x (hm x hx),by rw [hl];exact hR.2.2.1,fun x hx=>hR.2.2.2 x (hm x hx)⟩ hm
  simp only [a1p,a1K,a0O,tOp,a0q,Qb,Qa,tC,a0M,a0P,tCB,a0k,a0B,a0b,a0U,a9H,a1h,a1v,decide_eq_true_eq]
  refine ⟨⟨by decide,by decide⟩,by decide,a0V (fun _=>?_) (fun _=>?_)⟩
  ·refine ⟨V.ref a,rfl,a,_,rfl,SqL.of hR.1,fun p hp=>?_⟩
   rw [←List.map_reverse]
   exact fin p zr.reverse hp (fun x hx=>List.mem_reverse.mp hx) (Wc)
  ·exact ⟨a,_,rfl,.inl (SqL.of hR.1),fun p hp=>fin p zr hp (fun x hx=>hx) rfl⟩
theorem b7e (T:Txt K mg t):a0T P w K mg base CX0 5 t.f_z1i t.fd_z1i ["_law_script","_law_many"] (b3l K t):=by
 refine T.F_z1i.ok a2A (fun vs H Q E h=>?_) (fun cdv A outer s H vs Q E hr h=>?_)
 ·obtain ⟨a,ns,rfl,hS,hl,q⟩:=h;rfl
 ·obtain ⟨a,ns,rfl,hS,hl,q⟩:=h
  refine ⟨_,‹A4 (A9 2 a2A.nd (A7 (b7w T) T.g_z1n T.F_z1n.kp T.b_z1n (A0 0 A1))) (A4 (A9 3 a2A.nd (C0 a0D 0 (B7 A2) (B7 (A5 a0f A2 1)))) (A4 (A9 4 a2A.nd (E4 (a0L hr.units) (A5 a0I (A5 a1G (A7 (a3E T) T.g_z12 T.F_z12.kp T.b_z12 (A0 0 (A0 A2 A1))) A2) A2) A2 (a0n _))) (A4 (E3 5 (C3 (a0a a6v) b2R ["_law_k","_law_pool_here","_law_plain","_law_cells"] [none,some 2,some 4,some 3]) (E9 (A0 (B8 a0s T.z_len a0v (A0 3 A1)) A1)) (B2 0 (show Xv (["_law_k","_law_pool_here","_law_plain","_law_cells"]:List Str) by decide+kernel)) E0 (A7 (b5f T) T.g_z1o T.F_z1o.kp T.b_z1o (A0 1 (A0 (A8 (a3I (K:=K) rfl) 3 0) (A0 0 (A0 2 A1))))) a2A.nd) (A4 (A9 6 a2A.nd (A7 (b6d T) T.g_z1h T.F_z1h.kp T.b_z1h (A0 5 (A0 (A7 (a3E T) T.g_z12 T.F_z12.kp T.b_z12 (A0 0 (A0 A2 A1))) A1)))) (A4 (A9 7 a2A.nd (B4 A1)) (A4 (C7 (B9 2) (B2 8 a2A.nd) (A3 (D2 (C8 Xe PySem.F.slot_list_extend PySem.F.type_list_extend a7T 7 (A0 (B4 (A0 8 (A0 (A5 a0f B5 8) A1))) A1))))) (A3 (A6 (B4 (A0 (A7 (b6w T) T.g_z1a T.F_z1a.kp T.b_z1a (A0 5 (A0 (A7 (a3E T) T.g_z12 T.F_z12.kp T.b_z12 (A0 0 (A0 A2 A1))) A1))) (A0 6 (A0 7 A1))))))))))))›,?_⟩
  rw [show a0r b2R [V.ref a,V.int 30]=[some (V.ref a),some (V.int 30),none,none,none,none,none,none,none] from rfl]
  simp only [a1p,a1W,a0A,a0k,a0q,Qa,a0B,Qf,a0y,tSl,Qg,Qh,a2e,tC,tOp,Qb,a2H,a0K,a1j,a0b,a0x,a8k,tCB,a0E,a2l]
  refine ⟨a,ns,rfl,hS,hl,fun Pa pl H1 s1 hPn hP1 hp1 hp7 hpo=>?_⟩
  have hS1:SqL K H1 a (ns.map V.int):=s1.seq hS
  refine .inr (.inl ⟨a,_,rfl,hS1,fun Ca hCa=>?_⟩)
  obtain ⟨cs,ecs,hcl⟩:=b8p ns
  rw [ecs]
  obtain ⟨H2,e2,s2,h2⟩:=a0F hCa (.lst (cs.map V.int));rw [e2]
  have hS2:SqL K H2 a (ns.map V.int):=s2.seq hS1
  refine ⟨a,ns,1,rfl,hS2,hl,by decide,by decide,fun c1=>?_⟩
  simp only [a1t,a0U,a9H,a1h]
  refine ⟨by decide,by decide,a0u (SqL.of h2) ?_⟩
  rw [Qd]
  refine ⟨_,rfl,by omega,by omega,?_⟩
  have hP2:=s2 _ _ hP1
  refine b3f a4r (Qi (show (cs.length:Int).toNat≤1000 by omega) ‹dc›) [some (V.ref Pa),some (V.bl (decide (c1 / 12 % 2=1))),some (V.ref Ca)] rfl (fun D i v H'=>∃r,(RwT r∧RwE (a9E pl) r)∧RuD t D v r H') ?_ (fun _ _=>trivial) (fun D i H' R hi hDn s hD hR=>?_) (fun Ru H3 ys hRn s3 hR3 hyl hv=>?_)
  ·rintro D i v Ha Hb up ⟨r,hr,p,dx,t0,e,n1,n2,g1,g2⟩
   exact ⟨r,hr,p,dx,t0,e,n1,n2,up _ _ n1 g1,up _ _ n2 g2⟩
  ·obtain ⟨zs,hD⟩:=hD
   have hi':i < cs.length:=by omega
   obtain ⟨v,e,hv,_⟩:=a2p (xs:=cs.map V.int) (i:=(0+(i:Int))) ‹om› (by rw [Qd];omega)
   obtain ⟨n,_,rfl⟩:=Xa.mp hv
   simp only [a0A,a0k,a0q,Qb,Qa,tOp,a0B,Qf,a0b]
   refine a0m (SqL.of (s _ _ h2)) e ⟨Pa,n,_,_,pl,rfl,s _ _ hP2,hp1,hp7,hpo,by omega,fun x r H' s' hr hr2 hx=>?_⟩
   obtain ⟨dx,t0,f1,f2⟩:=hx
   have hD':=s' _ _ hD
   exact hR _ _ s' ⟨r,⟨hr,hr2⟩,x,dx,t0,rfl,a1O f1 hD' ‹iz›,a1O f2 hD' ‹iz›,f1,f2⟩
  obtain ⟨zr,ezr,hzw,hzt⟩:=b5W hv
  have hzl:zr.length≤30:=by rw [←ezr,Qd] at hyl;omega
  clear hv hyl
  subst ezr
  have hR:a1M t H3 Ru zr:=⟨hR3,hzw,hzl,fun p hp=>(hzt p hp).1⟩
  have hS3:SqL K H3 a (ns.map V.int):=s3.seq hS2
  refine ⟨a,ns,2,rfl,hS3,hl,by decide,by decide,fun c2=>?_⟩
  refine ⟨Ru,c2,zr,rfl,hR,fun Pr ps prl H4 s4 hPrn hPr4 hprs hprl hpro=>?_⟩
  refine ⟨by decide,fun E hE=>?_⟩
  obtain ⟨H5,e5,s5,h5⟩:=a0F hE (.lst []);rw [e5]
  have s25:=(s3.trans s4).trans s5
  have hP5:=s25 _ _ hP2
  refine ⟨⟨_,SqL.of hP5⟩,?_⟩
  refine a0Z (K:=K) (a:=Pa) (xs:=pl.map V.str) (fun i σ H'=>∃(ev:List Str) (x8:Option V),σ=[some (V.ref a),some (V.int 30),some (V.ref Pa),some (V.ref Ca),some (V.bl (decide (c1 / 12 % 2=1))),some (V.ref Ru),some (V.ref Pr),some (V.ref E),x8]∧a0h H4 H'∧H' E=some (.lst (ev.map V.str))∧ev.length=2 * i∧(∀z∈ev,TxN 31 z)∧ev=a9E (pl.take i))
   ⟨[],_,rfl,s5,h5,rfl,(fun z hz=>absurd hz Yr),rfl⟩ (fun i σ H' _ h=>by obtain ⟨_,_,_,s,_⟩:=h;exact SqL.of (s _ _ (s4 _ _ (s3 _ _ hP2)))) ?_ ?_
  ·rintro i v σ H6 hi ⟨ev,x8,rfl,s6,hE6,hel,heo,hee⟩
   obtain ⟨hi',rfl⟩:=a1Q hi
   have hz:=hpo _ (Qx hi')
   simp only [a0y,a3d,tBM,a0q,Qg,Qh,Qb,Qa,a0k,a2H,tOp,tC,a0B,a0b,a1H]
   refine ⟨.inl ⟨rfl,_,SqL.of hE6⟩,?_⟩
   refine ⟨Qi (Ui (show (Xr "-").length≤1 by decide+kernel) hz.len) ‹dc›,(show 2≤sizeLine by decide),fun Z hZ=>?_⟩
   obtain ⟨H7,e7,s7,h7⟩:=a0F hZ (.lst [V.str pl[i],V.str (Xr "-"++pl[i])]);rw [e7]
   refine ⟨E,Z,_,_,rfl,rfl,s7 _ _ hE6,h7,Qi (show _≤1000 by rw [Qd];simp;omega) ‹dc›,?_⟩
   refine ⟨ev++[pl[i],"-"++pl[i]],_,rfl,fun b o e=>by rw [a0d (a0c e hE)];exact s7 _ _ (s6 _ _ e),by rw [a0g,Xo];rfl,by simp;omega,fun z hz'=>?_,by rw [hee,Xc hi'];unfold a9E;rw [List.flatMap_append];simp⟩
   rcases Xq.mp hz' with w | w
   ·exact heo z w
   ·rcases Qw.mp w with w | w
    ·rw [w];exact hz.up ‹dc›
    ·rw [Qq.mp w];exact hz.neg
  ·rintro σ H6 ⟨ev,x8,rfl,s6,hE6,hel,heo,hee⟩
   rw [Qd,Xz] at hee
   have s36:=s4.trans s6
   simp only [a0M,a2H,a0k,a0A,a0q,Qb,Qa,tC,a0B,Qf,a0b]
   refine ⟨a,ns,1,rfl,s36.seq hS3,hl,by decide,by decide,fun c3=>?_⟩
   refine ⟨Ru,c3,zr,rfl,hR.same s36,fun T0 zr' H7 s7 hTn hT hTm=>?_⟩
   refine ⟨(show 3≤sizeLine by decide),fun Z hZ=>?_⟩
   obtain ⟨H8,e8,s8,h8⟩:=a0F hZ (.lst [V.ref T0,V.ref Pr,V.ref E]);rw [e8]
   have s78:=s7.trans s8
   have s68:=s6.trans s78
   rw [Qd] at hel
   exact q Z T0 Pr E zr' ps prl ev H8 ((((s1.trans s2).trans s3).trans s4).trans s68) ⟨h8,hT.same s8,s68 _ _ hPr4,a0o.same s68 hprs,hpro,hprl,s78 _ _ hE6,heo,by omega,fun p hp=>by rw [hee];exact (hzt p (hTm p hp)).2⟩
theorem a9b (T:Txt K mg t):a0T P w K mg base CX0 1 t.f_z03 t.fd_z03 ["self","statement"] (a7a t):=by
 refine T.F_z03.ok b6y (fun vs H Q E h=>?_) (fun cdv A outer s H vs Q E hr h=>?_)
 ·obtain ⟨g,h,rs,pl,rfl,hG,q⟩:=h;rfl
 ·obtain ⟨g,h,rs,pl,rfl,hG,q⟩:=h
  refine ⟨_,‹A3 (A6 (C6 a0t T.z_list a0w (A0 (H0 (a3k hr) (C4 0) 1 (B4 A1) ⟨rfl,rfl,rfl,rfl⟩) A1)))›,?_⟩
  rw [show a0r b5z [V.ref g,V.str h]=[some (V.ref g),some (V.str h)] from rfl]
  obtain ⟨dx,io,bh,pr,xs,kvs,kps,h1,h2,h3,h4,h5,_⟩:=hG
  simp only [a0M,tCB,a0k,b0U,a2Q,a0q,Qa,Qb,a2H,a0B,a0b]
  refine ⟨g,_,dx,_,_,rfl,h1,T.cl_Ground,T.nf_Ground_by_head,b4R _ _ _,?_⟩
  simp only [a1t]
  refine ⟨b1i h4,by decide,fun N hN=>?_⟩
  obtain ⟨H6,e6,s6,h6⟩:=a0F hN (.lst []);rw [e6]
  refine ⟨_,a5H.k (k:=(Sum.inr h:Key)) (s6 _ _ h4),?_⟩
  rcases h5 h with ⟨e,g5⟩ | ⟨L,ys,e,g2,g4⟩
  ·rw [e]
   refine ⟨N,_,rfl,.inl (SqL.of h6),fun l hl=>?_⟩
   obtain ⟨H7,e7,s7,h7⟩:=a0F hl (.lst []);rw [e7]
   refine q l [] _ (s6.trans s7) (none_of s6 hl) h7 ?_
   rw [g5];exact ⟨rfl,fun i r e=>by simp at e⟩
  ·rw [e]
   refine ⟨L,_,rfl,.inl (SqL.of (s6 _ _ g2)),fun l hl=>?_⟩
   obtain ⟨H7,e7,s7,h7⟩:=a0F hl (.lst ys);rw [e7]
   exact q l ys _ (s6.trans s7) (none_of s6 hl) h7 (g4.same (s6.trans s7))
theorem a4v (T:Txt K mg t):a0T P w K mg base CX0 1 t.f_z16 t.fd_z16 ["statement"] b7M:=by
 refine T.F_z16.ok b6K (fun vs H Q E h=>?_) (fun cdv A outer s H vs Q E hr h=>?_)
 ·obtain ⟨z,rfl,hz,q⟩:=h;rfl
 ·obtain ⟨z,rfl,hz,q⟩:=h
  refine ⟨_,‹A3 (A6 (H1 (C2 (C8 Jn PySem.F.slot_str_startswith PySem.F.type_str_startswith a8S 0 (A0 B5 A1))) (C0 a0D 0 (B7 A2) C1) (A5 a0f B5 0)))›,?_⟩
  rw [show a0r b7l [V.str z]=[some (V.str z)] from rfl]
  unfold a1Z at q
  simp only [a0M,tIf,tB,tBM,a0q,Qa,a0k,tC,a0B,tSl,a2e,a1r,a2l,a0b,a5D,tOp,a1H,a6T,a1v,a7k]
  refine a0V (fun c=>?_) (fun c=>?_)
  ·rw [if_pos c] at q
   exact ⟨a2r ‹om›,q⟩
  ·rw [if_neg c] at q
   exact ⟨Qi (Ui (show (Xr "-").length≤1 by decide+kernel) hz) ‹dc›,q⟩
theorem b1c (T:Txt K mg t):a0T P w K mg base CX0 2 t.f_z02 t.fd_z02 ["self","statement"] (a9m t):=by
 refine T.F_z02.ok b4S (fun vs H Q E h=>?_) (fun cdv A outer s H vs Q E hr h=>?_)
 ·obtain ⟨g,h,rs,pl,rfl,hG,hO,hhl,q⟩:=h;rfl
 ·obtain ⟨g,h,rs,pl,rfl,hG,hO,hhl,q⟩:=h
  refine ⟨_,‹A3 (A6 (E5 0 T.me_Ground_ruling (a9b T) T.b_z03 (A0 (A7 (a4v T) T.g_z16 T.F_z16.kp T.b_z16 (A0 1 A1)) A1)))›,?_⟩
  rw [show a0r b3Q [V.ref g,V.str h]=[some (V.ref g),some (V.str h)] from rfl]
  obtain ⟨dx,io,bh,pr,_,_,_,hg1,_⟩:=id hG
  simp only [a0M,a2n,a0q,Qa,a0k,a0A,Qb,a0B,Qf,a0b]
  refine ⟨g,dx,_,rfl,hg1,a2k _ _ _ ‹dk› ‹dk› ‹dk›,h,rfl,hhl,?_⟩
  refine ⟨g,a1Z h,rs,pl,rfl,hG,fun W ys H3 s3 hWn hW3 hR3=>?_⟩
  obtain ⟨zr,ez1,ez2,hz⟩:=hR3.zip (fun r hr=>hO r (Xn.mp hr).1)
  subst ez1
  exact q W zr H3 s3 hWn hW3 hz ez2
theorem b7h (T:Txt K mg t):a0T P w K mg base CX0 1 t.f_z08 t.fd_z08 ["self"] (a0S false):=by
 refine T.F_z08.ok b4z (fun vs H Q E h=>?_) (fun cdv A outer s H vs Q E hr h=>?_)
 ·obtain ⟨x,rfl,q⟩:=h;rfl
 ·obtain ⟨x,rfl,q⟩:=h
  refine ⟨_,‹A3 (A6 B6)›,?_⟩
  rw [show a0r b4h [x]=[some (x)] from rfl]
  simp only [a0M,tC]
  exact q
theorem a7B (T:Txt K mg t):a0T P w K mg base CX0 1 t.f_z0d t.fd_z0d ["self"] (a0S true):=by
 refine T.F_z0d.ok b6W (fun vs H Q E h=>?_) (fun cdv A outer s H vs Q E hr h=>?_)
 ·obtain ⟨x,rfl,q⟩:=h;rfl
 ·obtain ⟨x,rfl,q⟩:=h
  refine ⟨_,‹A3 (A6 B6)›,?_⟩
  rw [show a0r b5X [x]=[some (x)] from rfl]
  simp only [a0M,tC]
  exact q
theorem b1r (T:Txt K mg t):a0T P w K mg base CX0 2 t.f_z01 t.fd_z01 ["self","statement"] (a6w t):=by
 refine T.F_z01.ok b5Y (fun vs H Q E h=>?_) (fun cdv A outer s H vs Q E hr h=>?_)
 ·obtain ⟨g,h,rs,pl,rfl,hG,hO,hrl,q⟩:=h;rfl
 ·obtain ⟨g,h,rs,pl,rfl,hG,hO,hrl,q⟩:=h
  refine ⟨_,‹A3 (A6 (D3 (C3 (a0a a6o) b2t ["rule"] [none]) (B9 (E5 0 T.me_Ground_ruling (a9b T) T.b_z03 (A0 1 A1))) (B2 0 (show Xv (["rule"]:List Str) by decide+kernel)) (D4 (C2 (D1 (C5 0 T.cl_Fact T.me_Fact_speaks (a7B T) T.b_z0d) (D1 (C5 0 T.cl_Sure T.me_Sure_speaks (a7B T) T.b_z0d) (D1 (C5 0 T.cl_Most T.me_Most_speaks (a7B T) T.b_z0d) (C5 0 T.cl_Block T.me_Block_speaks (b7h T) T.b_z08)))))) 0))›,?_⟩
  rw [show a0r b2t [V.ref g,V.str h]=[some (V.ref g),some (V.str h)] from rfl]
  obtain ⟨dx,io,bh,pr,_,_,_,hg1,_⟩:=id hG
  simp only [a0M,a0x,a1j,a2n,a0q,Qa,a0k,Qb,a0B,Qf,a0b]
  refine ⟨g,dx,_,rfl,hg1,a2k _ _ _ ‹dk› ‹dk› ‹dk›,g,h,rs,pl,rfl,hG,fun W ys H3 s3 hWn hW3 hR3=>?_⟩
  obtain ⟨zr,ez1,ez2,hz⟩:=hR3.zip (fun r hr=>hO r (Xn.mp hr).1)
  subst ez1
  have hzl:zr.length≤63:=by
   have:=congrArg Za ez2
   rw [Qd] at this
   rw [this];exact Qi (Qv _ _) hrl
  simp only [a1t]
  refine ⟨⟨_,SqL.of hW3⟩,?_⟩
  refine a1b zr hW3 ‹om› hz [] rfl spk (fun p=>p.1) (fun x r H' R ho hr s' hR=>?_) (fun x r H' R ho hr s' hR=>?_) (fun W2 H4 hW2n s4 hW4=>?_)
  ·simp only [tB]
   refine b4c ho.1 (a1c rfl) hr ⟨by decide+kernel,by decide+kernel,by decide+kernel⟩ ?_
   rw [a5d ho.1]
   simp only [a2v,a1v]
   exact hR _ (a0h.refl _)
  ·simp only [a0q,Qa,a0b]
   exact hR _ (a0h.refl _)
  refine q W2 (zr.filter fun p=>spk p.2) H4 (s3.trans s4) (none_of s3 hW2n) hW4 (fun p hp=>(hz.same s4) p (Xn.mp hp).1) ?_
  rw [←ez2,Yq];rfl
theorem a5I (T:Txt K mg t):a0T P w K mg base CX0 1 t.f_z0s t.fd_z0s ["statements","some"] a5z:=by
 refine T.F_z0s.ok b4g (fun vs H Q E h=>?_) (fun cdv A outer s H vs Q E hr h=>?_)
 ·obtain ⟨t0,v,bd,S,rfl,ht,hl,hD,q⟩:=h;rfl
 ·obtain ⟨t0,v,bd,S,rfl,ht,hl,hD,q⟩:=h
  refine ⟨_,‹A3 (A6 (B8 (a1o rfl) T.z_all a2m (A0 (D3 (C3 (a0a a6J) b3n ["statement","some"] [none,some 1]) (E8 0) (B2 0 (show Xv (["statement","some"]:List Str) by decide+kernel)) E0 (D1 (F3 (a2j (a3k hr) ‹0› ‹1›)) (E4 (b1e (K:=K) rfl) 0 1 (by with_unfolding_all rfl)))) A1)))›,?_⟩
  rw [show a0r b3n [V.ref t0,v]=[some (V.ref t0),some (v)] from rfl]
  simp only [a0M,tCB,a0k,a0B,a0x,b3K,a0q,Qa,a0b,a1t]
  refine ⟨⟨_,SqT.of ht⟩,?_⟩
  refine a6k (a7X (xs:=bd.map V.str)) (Qi (show (bd.map V.str).length≤1000 by simpa using hl) ‹dc›) [some v] rfl (fun i v=>∃hi:i < bd.length,v=.bl (decide (bd[i]∈S))) (fun H' s=>SqT.of (s _ _ ht)) (fun i H' R hi s hR=>?_) (fun E1 H1 ys hEn s1 hE hl1 hv1=>?_)
  ·have hi':i < bd.length:=by simpa using hi
   have e2:((bd.map V.str)[i]?).getD .non=V.str bd[i]:=by rw [Qz,Qe hi'];rfl
   rw [e2]
   exact a8E (hD.same s) (a1c rfl) (a1c rfl) (hR _ _ (a0h.refl _) ⟨hi',rfl⟩)
  have eys:ys=(bd.map fun q=>decide (q∈S)).map V.bl:=by
   refine Jl fun i=>?_
   rw [Qz,Qz]
   by_cases hi:i < ys.length
   ·obtain ⟨hi',e⟩:=hv1 i _ (Qe hi)
    rw [Qe hi,e,Qe hi'];rfl
   ·rw [Yo ‹om›,Yo (by rw [Qd] at hl1;omega)];rfl
  subst eys
  refine ⟨E1,_,rfl,SqL.of hE,?_⟩
  have:=q _ s1
  rw [Jj];exact this
theorem b0R (T:Txt K mg t):a0T P w K mg base CX0 1 t.f_z0t t.fd_z0t ["statements","some"] b5J:=by
 refine T.F_z0t.ok b5a (fun vs H Q E h=>?_) (fun cdv A outer s H vs Q E hr h=>?_)
 ·obtain ⟨t0,v,bd,S,rfl,ht,hl,hD,q⟩:=h;rfl
 ·obtain ⟨t0,v,bd,S,rfl,ht,hl,hD,q⟩:=h
  refine ⟨_,‹A3 (A6 (B8 (a1n rfl) T.z_any a2o (A0 (D3 (C3 (a0a a6Y) b2g ["statement","some"] [none,some 1]) (E8 0) (B2 0 (show Xv (["statement","some"]:List Str) by decide+kernel)) E0 (D1 (F3 (a2j (a3k hr) ‹0› ‹1›)) (E4 (b1e (K:=K) rfl) 0 1 (by with_unfolding_all rfl)))) A1)))›,?_⟩
  rw [show a0r b2g [V.ref t0,v]=[some (V.ref t0),some (v)] from rfl]
  simp only [a0M,tCB,a0k,a0B,a0x,b3K,a0q,Qa,a0b,a1t]
  refine ⟨⟨_,SqT.of ht⟩,?_⟩
  refine a6k (a7X (xs:=bd.map V.str)) (Qi (show (bd.map V.str).length≤1000 by simpa using hl) ‹dc›) [some v] rfl (fun i v=>∃hi:i < bd.length,v=.bl (decide (bd[i]∈S))) (fun H' s=>SqT.of (s _ _ ht)) (fun i H' R hi s hR=>?_) (fun E1 H1 ys hEn s1 hE hl1 hv1=>?_)
  ·have hi':i < bd.length:=by simpa using hi
   have e2:((bd.map V.str)[i]?).getD .non=V.str bd[i]:=by rw [Qz,Qe hi'];rfl
   rw [e2]
   exact a8E (hD.same s) (a1c rfl) (a1c rfl) (hR _ _ (a0h.refl _) ⟨hi',rfl⟩)
  have eys:ys=(bd.map fun q=>decide (q∈S)).map V.bl:=by
   refine Jl fun i=>?_
   rw [Qz,Qz]
   by_cases hi:i < ys.length
   ·obtain ⟨hi',e⟩:=hv1 i _ (Qe hi)
    rw [Qe hi,e,Qe hi'];rfl
   ·rw [Yo ‹om›,Yo (by rw [Qd] at hl1;omega)];rfl
  subst eys
  refine ⟨E1,_,rfl,SqL.of hE,?_⟩
  have:=q _ s1
  rw [Yw];exact this
theorem b3N (T:Txt K mg t):a0T P w K mg base CX0 1 t.f_z0a t.fd_z0a ["self","one","other"] (b2E t):=by
 refine T.F_z0a.ok b4m (fun vs H Q E h=>?_) (fun cdv A outer s H vs Q E hr h=>?_)
 ·obtain ⟨g,x,y,rs,pl,r1,r2,rfl,hG,h1,h2,o1,o2,q⟩:=h;rfl
 ·obtain ⟨g,x,y,rs,pl,r1,r2,rfl,hG,h1,h2,o1,o2,q⟩:=h
  refine ⟨_,‹A3 (A6 (F3 (a2j (a3k hr) ‹D0 (A0 (C4 1) (A0 (C4 2) A1))› ‹C4 0›)))›,?_⟩
  rw [show a0r b5r [V.ref g,V.ref x,V.ref y]=[some (V.ref g),some (V.ref x),some (V.ref y)] from rfl]
  obtain ⟨dx,io,bh,pr,_,_,kps,hg1,_,_,_,_,hk,hp⟩:=id hG
  obtain ⟨_,e1,dx1,t1,a1,b1⟩:=h1
  cases e1
  obtain ⟨_,e2,dx2,t2,a2,b2⟩:=h2
  cases e2
  have C1:=a3Y T o1.1
  have C2:=a3Y T o2.1
  simp only [a0M,b3J,a6c,a0k,a2Q,a0q,Qb,Qa,a0B,a0b]
  refine ⟨x,_,dx1,_,_,rfl,a1,C1.cl,C1.nl,a1e _ _ _,y,_,dx2,_,_,rfl,a2,C2.cl,C2.nl,a1e _ _ _,by simp only [Qj,Qr];decide,fun c hc=>?_⟩
  obtain ⟨H1,e1,s1,h1⟩:=a0F hc (.tup [V.str r1.2.1,V.str r2.2.1]);rw [e1]
  refine ⟨g,_,dx,_,_,rfl,s1 _ _ hg1,T.cl_Ground,T.nf_Ground_pairs,b1G _ _ _,pr,_,rfl,a5H.t (k:=[Sum.inr r1.2.1,Sum.inr r2.2.1]) (s1 _ _ hk) h1,?_⟩
  have:=q _ s1
  rw [hp]
  by_cases z:(r1.2.1,r2.2.1)∈pl
  ·rw [if_pos z];rw [decide_eq_true z] at this;exact this
  ·rw [if_neg z];rw [decide_eq_false z] at this;exact this
theorem b1A (T:Txt K mg t):a0T P w K mg base CX0 2 t.f_z0u t.fd_z0u ["ground","rule","beaters"] (a9Q t):=by
 refine T.F_z0u.ok b7f (fun vs H Q E h=>?_) (fun cdv A outer s H vs Q E hr h=>?_)
 ·obtain ⟨g,x,L,rs,pl,r,zr,rfl,hG,hx,hro,hL,hz,hzl,q⟩:=h;rfl
 ·obtain ⟨g,x,L,rs,pl,r,zr,rfl,hG,hx,hro,hL,hz,hzl,q⟩:=h
  refine ⟨_,‹A3 (A6 (B8 (a1n rfl) T.z_any a2o (A0 (D3 (C3 (a0a a6R) b2H ["beater","rule","ground"] [none,some 1,some 0]) (B9 2) (B2 0 (show Xv (["beater","rule","ground"]:List Str) by decide+kernel)) E0 (E5 2 T.me_Ground_beats (b3N T) T.b_z0a (A0 0 (A0 1 A1)))) A1)))›,?_⟩
  rw [show a0r b2H [V.ref g,V.ref x,V.ref L]=[some (V.ref g),some (V.ref x),some (V.ref L)] from rfl]
  simp only [a0M,tCB,a0k,a0B,a0x,a1j,a0q,Qb,Qa,a0b,a1t]
  refine ⟨⟨_,SqL.of hL⟩,?_⟩
  refine a1b zr hL ‹om› hz [some (V.ref x),some (V.ref g)] rfl (fun _=>true) (fun p=>V.bl (decide ((p.2.2.1,r.2.1)∈pl))) (fun y r' H' R ho hr s' hR=>hR _ (a0h.refl _)) (fun y r' H' R ho hr s' hR=>?_) (fun B H5 hBn s5 hB5=>?_)
  ·obtain ⟨dx,io,bh,pr,_,_,_,hg1,_⟩:=id (hG.same s')
   simp only [a2n,a0q,Qb,Qa,a0k,a0B,Qf,a0b]
   exact ⟨g,dx,_,rfl,hg1,a2k _ _ _ ‹dk› ‹dk› ‹dk›,g,y,x,rs,pl,r',r,rfl,hG.same s',⟨y,rfl,hr⟩,hx.same s',ho,hro,fun H'' s''=>hR _ s''⟩
  have hB5':H5 B=some (.lst ((zr.map fun p=>decide ((p.2.2.1,r.2.1)∈pl)).map V.bl)):=by
   rw [hB5,Je.mpr (fun _ _=>rfl),Yv];rfl
  refine ⟨B,_,rfl,SqL.of hB5',?_⟩
  have:=q _ s5
  rw [show ((zr.map fun p=>decide ((p.2.2.1,r.2.1)∈pl)).any id)=btn pl (zr.map (·.2)) r from by unfold btn;rw [Yw,Yw];rfl]
  exact this
theorem b4x (T:Txt K mg t):a0T P w K mg base CX0 3 t.f_z17 t.fd_z17 ["ground","sures","held","refused","q"] (a7S t a1w):=by
 refine T.F_z17.ok b1S (fun vs H Q E h=>?_) (fun cdv A outer s H vs Q E hr h=>?_)
 ·obtain ⟨g,v1,v2,v3,q0,rs,pl,S,U,D,rfl,hG,hO,hrl,h1,h2,h3,hql,q⟩:=h;rfl
 ·obtain ⟨g,v1,v2,v3,q0,rs,pl,S,U,D,rfl,hG,hO,hrl,h1,h2,h3,hql,q⟩:=h
  refine ⟨_,‹A4 (B1 (F4 (F2 (a2j (a3k hr) ‹4› ‹1›)) (B0 a1D 4 1 (by with_unfolding_all rfl))) (A3 (A6 B6)) B3) (A4 (A9 5 b1S.nd (D3 (C3 (a0a a5a) b0v ["rule","held"] [none,some 2]) (B9 (E5 0 T.me_Ground_speaking (b1r T) T.b_z01 (A0 4 A1))) (B2 0 (show Xv (["rule","held"]:List Str) by decide+kernel)) (D4 (C2 (A7 (a5I T) T.g_z0s T.F_z0s.kp T.b_z0s (A0 (D8 0) (A0 1 A1))))) 0)) (D6 (B1 (C9 (D9 (B0 (a0L hr.units) (B8 a0s T.z_len a0v (A0 5 A1)) A2 (a0n _)) (E2 (F4 (F2 (a2j (a3k hr) ‹A7 (a4v T) T.g_z16 T.F_z16.kp T.b_z16 (A0 4 A1)› ‹1›)) (B0 a1D (A7 (a4v T) T.g_z16 T.F_z16.kp T.b_z16 (A0 4 A1)) 1 (by with_unfolding_all rfl)))))) (A3 (A6 B6)) B3) (A3 (A6 (B8 (a1o rfl) T.z_all a2m (A0 (D3 (C3 (a0a a5a) b0v ["rule","refused","ground","standing"] [none,some 3,some 0,some 5]) (B9 (E5 0 T.me_Ground_against (b1c T) T.b_z02 (A0 4 A1))) (B2 0 (show Xv (["rule","refused","ground","standing"]:List Str) by decide+kernel)) E0 (H2 (A7 (b0R T) T.g_z0t T.F_z0t.kp T.b_z0t (A0 (D8 0) (A0 1 A1))) (G1 (A7 (b1A T) T.g_z0u T.F_z0u.kp T.b_z0u (A0 2 (A0 0 (A0 3 A1))))))) A1))))))›,?_⟩
  rw [show a0r b0v [V.ref g,v1,v2,v3,V.str q0]=[some (V.ref g),some (v1),some (v2),some (v3),some (V.str q0),none] from rfl]
  obtain ⟨dx,io,bh,pr,_,_,_,hg1,_⟩:=id hG
  simp only [a1p,a1K,a0M,tC,a0P,a1W,a0y,Qg,Qh,a0x,a1j,a2n,a0q,Qa,a0k,Qb,a0B,Qf,a0b]
  refine a2J h1 (a1c rfl) (a1c rfl) ?_
  simp only [decide_eq_true_eq]
  refine a0V (fun c0=>?_) (fun c0=>?_)
  ·have:=q H (a0h.refl _)
   unfold a1w at this
   rw [if_pos c0] at this
   exact this
  refine ⟨g,dx,_,rfl,hg1,a2k _ _ _ ‹dk› ‹dk› ‹dk›,g,q0,rs,pl,rfl,hG,hO,hrl,fun W zr H3 s3 hWn hW3 hz ez=>?_⟩
  have hzl:zr.length≤63:=by
   have:=congrArg Za ez
   rw [Qd] at this
   rw [this];exact Qi (Qv _ _) (Qi (Qv _ _) hrl)
  simp only [a1t]
  refine ⟨⟨_,SqL.of hW3⟩,?_⟩
  refine a1b zr hW3 ‹om› hz [some v2] rfl (fun r=>a1B r.2.2.2 U) (fun p=>p.1) (fun x r H' R ho hr s' hR=>?_) (fun x r H' R ho hr s' hR=>?_) (fun W2 H4 hW2n s4 hW4=>?_)
  ·have CF:=a3Y T ho.1
   obtain ⟨dx',t0,g1,g2⟩:=hr
   simp only [tB,a0A,a0k,a2Q,a0q,Qa,Qb,a0B,Qf,a0b]
   refine ⟨x,_,dx',_,_,rfl,g1,CF.cl,CF.nb,a1z _ _ _,t0,v2,r.2.2.2,U,rfl,g2,by have:=ho.2.2.2.2.2;omega,h2.same (s3.trans s'),fun H'' s''=>?_⟩
   simp only [a1v]
   exact hR _ s''
  ·simp only [a0q,Qa,a0b]
   exact hR _ (a0h.refl _)
  have s04:=s3.trans s4
  have hz4:a4b t H4 (zr.filter fun p=>a1B p.2.2.2.2 U):=fun p hp=>(hz.same s4) p (Xn.mp hp).1
  have hzl4:(zr.filter fun p=>a1B p.2.2.2.2 U).length≤63:=Qi (Qv _ _) hzl
  have est:(zr.filter fun p=>a1B p.2.2.2.2 U).map (·.2)=a1P rs U q0:=by
   unfold a1P
   rw [←ez,Yq];rfl
  generalize (zr.filter fun p=>a1B p.2.2.2.2 U)=zs at hW4 hz4 hzl4 est
  have hneed:∀H',a0h H H'→(a1P rs U q0=[]∨a1Z q0∈S)→Q (.bl false) H':=fun H' s' hc=>by
   have:=q H' s'
   unfold a1w at this
   rw [if_neg c0,if_pos hc] at this
   exact this
  refine ⟨fun σ' H'=>σ'=[some (V.ref g),some v1,some v2,some v3,some (V.str q0),some (V.ref W2)]∧H'=H4∧¬(a1P rs U q0=[]∨a1Z q0∈S),?_,?_⟩
  ·simp only [a1K,tOr,a0O,tOp,tCB,a0k,a0q,Qb,Qa,a0B,tC,a0M,a0P,a0b]
   refine a0u (SqL.of hW4) ?_
   simp only [a1h,a1v,decide_eq_true_eq]
   refine a0V (fun c1=>?_) (fun c1=>?_)
   ·refine hneed _ s04 (.inl ?_)
    rw [←est]
    have:zs.length=0:=by rw [Qd] at c1;omega
    rw [Zv.mp this];rfl
   refine a2J (h1.same s04) (x:=a1Z q0) (fun R hR=>?_) (a1c rfl) ?_
   ·simp only [a0A,a0k,a0q,Qb,Qa,a0B,Qf,a0b]
    exact ⟨q0,rfl,hql,hR⟩
   simp only [decide_eq_true_eq]
   refine a0V (fun c2=>hneed _ s04 (.inr c2)) (fun c2=>⟨(by trivial),(by trivial),fun z=>z.elim (fun w=>c1 ?_) c2⟩)
   rw [←est] at w
   have:zs.length=0:=by have:=congrArg Za w;rw [Qd] at this;exact this
   rw [Qd,this];rfl
  rintro σ' H5 ⟨rfl,rfl,hc⟩
  simp only [a0M,tCB,a0k,a0B,a0x,a1j,a2n,a0q,Qa,Qb,Qf,a0b]
  refine ⟨g,dx,_,rfl,s04 _ _ hg1,a2k _ _ _ ‹dk› ‹dk› ‹dk›,g,q0,rs,pl,rfl,hG.same s04,hO,hql,fun B zb H6 s6 hBn hB6 hzb eb=>?_⟩
  have hbl:zb.length≤63:=by
   have:=congrArg Za eb
   rw [Qd] at this
   rw [this];exact Qi (Qv _ _) hrl
  have s06:=s04.trans s6
  simp only [a1t]
  refine ⟨⟨_,SqL.of hB6⟩,?_⟩
  refine a1b zb hB6 ‹om› hzb [some v3,some (V.ref g),some (V.ref W2)] rfl (fun _=>true) (fun p=>V.bl (a2s p.2.2.2.2 D || btn pl (zs.map (·.2)) p.2)) (fun x r H' R ho hr s' hR=>hR _ (a0h.refl _)) (fun x r H' R ho hr s' hR=>?_) (fun C H7 hCn s7 hC7=>?_)
  ·have CF:=a3Y T ho.1
   have hru:a6d t H' (.ref x) r:=⟨x,rfl,hr⟩
   obtain ⟨dx',t0,g1,g2⟩:=hr
   simp only [c1j,a0A,a0k,a2Q,a0q,Qa,Qb,a0B,Qf,a0b]
   refine ⟨x,_,dx',_,_,rfl,g1,CF.cl,CF.nb,a1z _ _ _,t0,v3,r.2.2.2,D,rfl,g2,by have:=ho.2.2.2.2.2;omega,h3.same (s06.trans s'),fun H'' s''=>?_⟩
   have s48:=(s6.trans s').trans s''
   have hh:=fun H'' s''=>hR H'' s''
   simp only [a1v]
   refine a0V (fun c5=>?_) (fun c5=>?_)
   ·have:=hR _ s''
    rw [c5,Bool.true_or] at this;exact this
   ·have c6:a2s r.2.2.2 D=false:=by simpa using c5
    rw [c6] at hR
    exact ⟨g,x,W2,rs,pl,r,zs,rfl,(hG.same s04).same s48,hru.same s'',ho,s48 _ _ hW4,hz4.same s48,hzl4,fun H9 s9=>hR _ (s''.trans s9)⟩
  have hC7':H7 C=some (.lst ((zb.map fun p=>(a2s p.2.2.2.2 D || btn pl (zs.map (·.2)) p.2)).map V.bl)):=by
   rw [hC7,Je.mpr (fun _ _=>rfl),Yv];rfl
  refine ⟨C,_,rfl,SqL.of hC7',?_⟩
  have:=q _ (s06.trans s7)
  unfold a1w at this
  rw [if_neg c0,if_neg hc,←eb,Jj,←est] at this
  rw [Jj]
  exact this
theorem b6L (T:Txt K mg t):a0T P w K mg base CX0 3 t.f_z0j t.fd_z0j ["ground","sures","held","refused","q"] (a7S t a5o):=by
 refine T.F_z0j.ok b0X (fun vs H Q E h=>?_) (fun cdv A outer s H vs Q E hr h=>?_)
 ·obtain ⟨g,v1,v2,v3,q0,rs,pl,S,U,D,rfl,hG,hO,hrl,h1,h2,h3,hql,q⟩:=h;rfl
 ·obtain ⟨g,v1,v2,v3,q0,rs,pl,S,U,D,rfl,hG,hO,hrl,h1,h2,h3,hql,q⟩:=h
  refine ⟨_,‹A4 (B1 (F4 (F2 (a2j (a3k hr) ‹4› ‹1›)) (B0 a1D 4 1 (by with_unfolding_all rfl))) (A3 (A6 B6)) B3) (A4 (A9 5 b0X.nd (D3 (C3 (a0a a5q) a9T ["rule","refused"] [none,some 3]) (B9 (E5 0 T.me_Ground_speaking (b1r T) T.b_z01 (A0 4 A1))) (B2 0 (show Xv (["rule","refused"]:List Str) by decide+kernel)) (D4 (D7 (C2 (A7 (b0R T) T.g_z0t T.F_z0t.kp T.b_z0t (A0 (D8 0) (A0 1 A1)))))) 0)) (D6 (B1 (C9 (D9 (B0 (a0L hr.units) (B8 a0s T.z_len a0v (A0 5 A1)) A2 (a0n _)) (E2 (F4 (F2 (a2j (a3k hr) ‹A7 (a4v T) T.g_z16 T.F_z16.kp T.b_z16 (A0 4 A1)› ‹1›)) (B0 a1D (A7 (a4v T) T.g_z16 T.F_z16.kp T.b_z16 (A0 4 A1)) 1 (by with_unfolding_all rfl)))))) (A3 (A6 B6)) B3) (A3 (A6 (B8 (a1n rfl) T.z_any a2o (A0 (D3 (C3 (a0a a5q) a9T ["rule","held","ground","unfallen"] [none,some 2,some 0,some 5]) (B9 (E5 0 T.me_Ground_against (b1c T) T.b_z02 (A0 4 A1))) (B2 0 (show Xv (["rule","held","ground","unfallen"]:List Str) by decide+kernel)) E0 (H3 (A7 (a5I T) T.g_z0s T.F_z0s.kp T.b_z0s (A0 (D8 0) (A0 1 A1))) (G1 (H4 (A7 (b1A T) T.g_z0u T.F_z0u.kp T.b_z0u (A0 2 (A0 0 (A0 3 A1)))))))) A1))))))›,?_⟩
  rw [show a0r a9T [V.ref g,v1,v2,v3,V.str q0]=[some (V.ref g),some (v1),some (v2),some (v3),some (V.str q0),none] from rfl]
  obtain ⟨dx,io,bh,pr,_,_,_,hg1,_⟩:=id hG
  simp only [a1p,a1K,a0M,tC,a0P,a1W,a0y,Qg,Qh,a0x,a1j,a2n,a0q,Qa,a0k,Qb,a0B,Qf,a0b]
  refine a2J h1 (a1c rfl) (a1c rfl) ?_
  simp only [decide_eq_true_eq]
  refine a0V (fun c0=>?_) (fun c0=>?_)
  ·have:=q H (a0h.refl _)
   unfold a5o at this
   rw [if_pos c0] at this
   exact this
  refine ⟨g,dx,_,rfl,hg1,a2k _ _ _ ‹dk› ‹dk› ‹dk›,g,q0,rs,pl,rfl,hG,hO,hrl,fun W zr H3 s3 hWn hW3 hz ez=>?_⟩
  have hzl:zr.length≤63:=by
   have:=congrArg Za ez
   rw [Qd] at this
   rw [this];exact Qi (Qv _ _) (Qi (Qv _ _) hrl)
  simp only [a1t]
  refine ⟨⟨_,SqL.of hW3⟩,?_⟩
  refine a1b zr hW3 ‹om› hz [some v3] rfl (fun r=>!a2s r.2.2.2 D) (fun p=>p.1) (fun x r H' R ho hr s' hR=>?_) (fun x r H' R ho hr s' hR=>?_) (fun W2 H4 hW2n s4 hW4=>?_)
  ·have CF:=a3Y T ho.1
   obtain ⟨dx',t0,g1,g2⟩:=hr
   simp only [a9B,tB,a0A,a0k,a2Q,a0q,Qa,Qb,a0B,Qf,a0b]
   refine ⟨x,_,dx',_,_,rfl,g1,CF.cl,CF.nb,a1z _ _ _,t0,v3,r.2.2.2,D,rfl,g2,by have:=ho.2.2.2.2.2;omega,h3.same (s3.trans s'),fun H'' s''=>?_⟩
   simp only [a1v]
   exact hR _ s''
  ·simp only [a0q,Qa,a0b]
   exact hR _ (a0h.refl _)
  have s04:=s3.trans s4
  have hz4:a4b t H4 (zr.filter fun p=>!a2s p.2.2.2.2 D):=fun p hp=>(hz.same s4) p (Xn.mp hp).1
  have hzl4:(zr.filter fun p=>!a2s p.2.2.2.2 D).length≤63:=Qi (Qv _ _) hzl
  have est:(zr.filter fun p=>!a2s p.2.2.2.2 D).map (·.2)=unf rs D q0:=by
   unfold unf
   rw [←ez,Yq];rfl
  generalize (zr.filter fun p=>!a2s p.2.2.2.2 D)=zs at hW4 hz4 hzl4 est
  have hneed:∀H',a0h H H'→(unf rs D q0=[]∨a1Z q0∈S)→Q (.bl true) H':=fun H' s' hc=>by
   have:=q H' s'
   unfold a5o at this
   rw [if_neg c0,if_pos hc] at this
   exact this
  refine ⟨fun σ' H'=>σ'=[some (V.ref g),some v1,some v2,some v3,some (V.str q0),some (V.ref W2)]∧H'=H4∧¬(unf rs D q0=[]∨a1Z q0∈S),?_,?_⟩
  ·simp only [a1K,tOr,a0O,tOp,tCB,a0k,a0q,Qb,Qa,a0B,tC,a0M,a0P,a0b]
   refine a0u (SqL.of hW4) ?_
   simp only [a1h,a1v,decide_eq_true_eq]
   refine a0V (fun c1=>?_) (fun c1=>?_)
   ·refine hneed _ s04 (.inl ?_)
    rw [←est]
    have:zs.length=0:=by rw [Qd] at c1;omega
    rw [Zv.mp this];rfl
   refine a2J (h1.same s04) (x:=a1Z q0) (fun R hR=>?_) (a1c rfl) ?_
   ·simp only [a0A,a0k,a0q,Qb,Qa,a0B,Qf,a0b]
    exact ⟨q0,rfl,hql,hR⟩
   simp only [decide_eq_true_eq]
   refine a0V (fun c2=>hneed _ s04 (.inr c2)) (fun c2=>⟨(by trivial),(by trivial),fun z=>z.elim (fun w=>c1 ?_) c2⟩)
   rw [←est] at w
   have:zs.length=0:=by have:=congrArg Za w;rw [Qd] at this;exact this
   rw [Qd,this];rfl
  rintro σ' H5 ⟨rfl,rfl,hc⟩
  simp only [a0M,tCB,a0k,a0B,a0x,a1j,a2n,a0q,Qa,Qb,Qf,a0b]
  refine ⟨g,dx,_,rfl,s04 _ _ hg1,a2k _ _ _ ‹dk› ‹dk› ‹dk›,g,q0,rs,pl,rfl,hG.same s04,hO,hql,fun B zb H6 s6 hBn hB6 hzb eb=>?_⟩
  have hbl:zb.length≤63:=by
   have:=congrArg Za eb
   rw [Qd] at this
   rw [this];exact Qi (Qv _ _) hrl
  have s06:=s04.trans s6
  simp only [a1t]
  refine ⟨⟨_,SqL.of hB6⟩,?_⟩
  refine a1b zb hB6 ‹om› hzb [some v2,some (V.ref g),some (V.ref W2)] rfl (fun _=>true) (fun p=>V.bl (a1B p.2.2.2.2 U && !btn pl (zs.map (·.2)) p.2)) (fun x r H' R ho hr s' hR=>hR _ (a0h.refl _)) (fun x r H' R ho hr s' hR=>?_) (fun C H7 hCn s7 hC7=>?_)
  ·have CF:=a3Y T ho.1
   have hru:a6d t H' (.ref x) r:=⟨x,rfl,hr⟩
   obtain ⟨dx',t0,g1,g2⟩:=hr
   simp only [b7q,a0A,a0k,a2Q,a0q,Qa,Qb,a0B,Qf,b4M,a0b]
   refine ⟨x,_,dx',_,_,rfl,g1,CF.cl,CF.nb,a1z _ _ _,t0,v2,r.2.2.2,U,rfl,g2,by have:=ho.2.2.2.2.2;omega,h2.same (s06.trans s'),fun H'' s''=>?_⟩
   have s48:=(s6.trans s').trans s''
   simp only [a1v]
   refine a0V (fun c5=>?_) (fun c5=>?_)
   ·rw [c5,Xx] at hR
    refine ⟨g,x,W2,rs,pl,r,zs,rfl,(hG.same s04).same s48,hru.same s'',ho,s48 _ _ hW4,hz4.same s48,hzl4,fun H9 s9=>?_⟩
    simp only [a1v]
    exact hR _ (s''.trans s9)
   ·have c6:a1B r.2.2.2 U=false:=by simpa using c5
    have:=hR _ s''
    rw [c6,Yy] at this
    exact this
  have hC7':H7 C=some (.lst ((zb.map fun p=>(a1B p.2.2.2.2 U && !btn pl (zs.map (·.2)) p.2)).map V.bl)):=by
   rw [hC7,Je.mpr (fun _ _=>rfl),Yv];rfl
  refine ⟨C,_,rfl,SqL.of hC7',?_⟩
  have:=q _ (s06.trans s7)
  unfold a5o at this
  rw [if_neg c0,if_neg hc,←eb,Yw,←est] at this
  rw [Yw]
  exact this
theorem b4q (T:Txt K mg t):a0T P w K mg base CX0 1 t.f_z1r t.fd_z1r ["some"] b3p:=by
 refine T.F_z1r.ok a7z (fun vs H Q E h=>?_) (fun cdv A outer s H vs Q E hr h=>?_)
 ·obtain ⟨a,zs,rfl,ha,hl,q⟩:=h;rfl
 ·obtain ⟨a,zs,rfl,ha,hl,q⟩:=h
  refine ⟨_,‹A4 (A9 1 a7z.nd F5) (A4 (C7 (B9 0) (B2 2 a7z.nd) (A3 (F6 1 2 B6))) (A3 (A6 1)))›,?_⟩
  rw [show a0r b6f [V.ref a]=[some (V.ref a),none,none] from rfl]
  simp only [a1p,a1W,a6g,a0y,Qg,Qh,a0K,a1j,a0q,Qa,a0b,a1t]
  intro D hD
  obtain ⟨H1,e1,s1,h1⟩:=a0F hD (.dK []);rw [e1]
  refine ⟨⟨_,SqL.of (s1 _ _ ha)⟩,?_⟩
  refine a0Z (K:=K) (a:=a) (xs:=zs.map V.str) (fun i σ H'=>∃(kvs:List (Key×V)) (y:Option V),σ=[some (V.ref a),some (V.ref D),y]∧a0h H H'∧H' D=some (.dK kvs)∧kvs.length≤i∧∀x:Str,(a1I kvs (Sum.inr x:Key)).isSome=decide (x∈zs.take i))
   ⟨[],_,rfl,s1,h1,Qk _,fun x=>by simp [a1I]⟩ (fun i σ H' _ h=>by obtain ⟨_,_,_,s,_⟩:=h;exact SqL.of (s _ _ ha)) ?_ ?_
  ·rintro i v σ H5 hi ⟨kvs,y,rfl,s5,h5,hkl,hF⟩
   obtain ⟨hi',rfl⟩:=a1Q hi
   simp only [a0y,a9Y,tC,a0q,Qg,Qh,Qb,Qa,a0b]
   refine ⟨D,_,rfl,a9C.k (k:=(Sum.inr zs[i]:Key)) h5 (Xm (show kvs.length≤1000 by omega) ‹dc›),a3m kvs (Sum.inr zs[i]) (V.bl true),_,rfl,fun b o e=>by rw [a0d (a0c e hD)];exact s5 _ _ e,a0g,?_,fun x=>?_⟩
   ·have:=a1m kvs (Sum.inr zs[i]:Key) (V.bl true);omega
   ·rw [a2L,Yl,decide_eq_true_iff,a1x hi']
    by_cases z:(Sum.inr x:Key)=Sum.inr zs[i]
    ·rw [if_pos z,Sum.inr.inj z];exact ⟨fun _=>.inr rfl,fun _=>rfl⟩
    ·rw [if_neg z,hF,decide_eq_true_iff]
     exact ⟨.inl,fun h=>h.elim id fun w=>absurd (by rw [w]) z⟩
  ·rintro σ H5 ⟨kvs,y,rfl,s5,h5,hkl,hF⟩
   simp only [a0M,a0q,Qb,Qa,a0b]
   rw [Qd,Xz] at hF
   exact q D H5 s5 ⟨kvs,h5,hF⟩
theorem b1Q (T:Txt K mg t):a0T P w K mg base CX0 2 t.f_z0v t.fd_z0v ["rows","word"] a6s:=by
 refine T.F_z0v.ok b7o (fun vs H Q E h=>?_) (fun cdv A outer s H vs Q E hr h=>?_)
 ·obtain ⟨a,w,ps,rl,rfl,ha,hP,hl,q⟩:=h;rfl
 ·obtain ⟨a,w,ps,rl,rfl,ha,hP,hl,q⟩:=h
  refine ⟨_,‹A3 (A6 (A7 (b4q T) T.g_z1r T.F_z1r.kp T.b_z1r (A0 (D3 (C3 (a0a a6L) b2e ["row","word"] [none,some 1]) (B9 0) (B2 0 (show Xv (["row","word"]:List Str) by decide+kernel)) (D4 (B0 (a5W hr.units (K:=K) rfl) (A8 (a3I (K:=K) rfl) 0 A2) 1 (a0n _))) (A8 (a3I (K:=K) rfl) 0 A2)) A1)))›,?_⟩
  rw [show a0r b2e [V.ref a,V.str w]=[some (V.ref a),some (V.str w)] from rfl]
  simp only [a0M,a0A,a0k,a0B,Qf,a0x,a1j,a0q,Qa,a0b,a1t]
  refine ⟨⟨_,SqL.of ha⟩,?_⟩
  refine b0h ha hP ‹om› [some (V.str w)] rfl (fun p=>decide (p.1=w)) (fun p=>V.str p.2) (fun x p H' R hx s' hR=>?_) (fun x p H' R hx s' hR=>?_) (fun D H' hD s' hD'=>?_)
  ·simp only [a0O,tOp,a0q,Qa,tC,Qb,a0b]
   refine a1d (SqT.of hx) rfl ?_
   simp only [a0W,a1v]
   exact hR _ (a0h.refl _)
  ·simp only [tOp,a0q,Qa,tC,a0b]
   exact a1d (SqT.of hx) rfl (hR _ (a0h.refl _))
  refine ⟨D,wOf rl w,rfl,by rw [hD'];unfold wOf;rw [Yv];rfl,?_,fun D' H'' s'' hk=>q D' H'' (s'.trans s'') hk⟩
  unfold wOf
  rw [Qd]
  exact Qi (Qv _ _) ‹om›
theorem b4J (T:Txt K mg t):a0T P w K mg base CX0 4 t.f_z1d t.fd_z1d ["ground","sures","rows","claim"] (a8l t):=by
 refine T.F_z1d.ok a9j (fun vs H Q E h=>?_) (fun cdv A outer s H vs Q E hr h=>?_)
 ·obtain ⟨g,a,c,v1,rs,pl,rl,ps,S,b,q0,rfl,hG,hO,hrl,h1,ha,hP,hl,hc,hql,q⟩:=h;rfl
 ·obtain ⟨g,a,c,v1,rs,pl,rl,ps,S,b,q0,rfl,hG,hO,hrl,h1,ha,hP,hl,hc,hql,q⟩:=h
  obtain ⟨_,k_HELD⟩:=T.k_HELD
  obtain ⟨_,k_REFUSED⟩:=T.k_REFUSED
  refine ⟨_,‹A4 (A9 4 a9j.nd (A7 (b1Q T) T.g_z0v T.F_z0v.kp T.b_z0v (A0 2 (A0 (F0 (.str "held") k_HELD ⟨_,rfl⟩) A1)))) (A4 (A9 5 a9j.nd (A7 (b1Q T) T.g_z0v T.F_z0v.kp T.b_z0v (A0 2 (A0 (F0 (.str "refused") k_REFUSED ⟨_,rfl⟩) A1)))) (A4 (B1 (B0 (a0L hr.units) (A8 a0j 3 A2) (F0 (.str "held") k_HELD ⟨_,rfl⟩) (a0n _)) (A3 (A6 (A7 (b4x T) T.g_z17 T.F_z17.kp T.b_z17 (A0 0 (A0 1 (A0 4 (A0 5 (A0 (A8 a0j 3 A2) A1)))))))) B3) (A4 (B1 (B0 (a0L hr.units) (A8 a0j 3 A2) (F0 (.str "refused") k_REFUSED ⟨_,rfl⟩) (a0n _)) (A3 (A6 (A7 (b6L T) T.g_z0j T.F_z0j.kp T.b_z0j (A0 0 (A0 1 (A0 4 (A0 5 (A0 (A8 a0j 3 A2) A1)))))))) B3) (A3 (A6 B6)))))›,?_⟩
  rw [show a0r b4G [V.ref g,v1,V.ref a,V.ref c]=[some (V.ref g),some (v1),some (V.ref a),some (V.ref c),none,none] from rfl]
  simp only [a1p,a1W,a0A,a0k,a0q,Qb,Qa,tC,a0B,Qf,a0y,Qg,Qh,a1K,a0O,tOp,a0M,a0b,a0P]
  refine ⟨a,_,ps,rl,rfl,ha,hP,hl,fun D1 H1 s1 k1=>?_⟩
  refine ⟨a,_,ps,rl,rfl,s1 _ _ ha,a0o.same s1 hP,hl,fun D2 H2 s2 k2=>?_⟩
  have s02:=s1.trans s2
  have hc2:=s02 _ _ hc
  refine a1d (SqT.of hc2) rfl ?_
  simp only [a0W,a1v,decide_eq_true_eq]
  cases b with
  | true=>
   refine a0V (fun _=>?_) (fun c=>absurd rfl c)
   exact a1d (SqT.of hc2) rfl ⟨g,_,_,_,q0,rs,pl,S,_,_,rfl,hG.same s02,hO,hrl,h1.same s02,(k1.same s2).some,k2.some,hql,fun H' s'=>q H' (s02.trans s')⟩
  | false=>
   refine a0V (fun c=>absurd c ‹dk›) (fun _=>?_)
   refine a1d (SqT.of hc2) rfl ?_
   simp only [a0W,a1v,decide_eq_true_eq]
   refine a0V (fun _=>?_) (fun c=>absurd rfl c)
   exact a1d (SqT.of hc2) rfl ⟨g,_,_,_,q0,rs,pl,S,_,_,rfl,hG.same s02,hO,hrl,h1.same s02,(k1.same s2).some,k2.some,hql,fun H' s'=>q H' (s02.trans s')⟩
theorem b1p (T:Txt K mg t):a0T P w K mg base CX0 1 t.f_z06 t.fd_z06 ["self"] (a0S true):=by
 refine T.F_z06.ok b5q (fun vs H Q E h=>?_) (fun cdv A outer s H vs Q E hr h=>?_)
 ·obtain ⟨x,rfl,q⟩:=h;rfl
 ·obtain ⟨x,rfl,q⟩:=h
  refine ⟨_,‹A3 (A6 B6)›,?_⟩
  rw [show a0r b6D [x]=[some (x)] from rfl]
  simp only [a0M,tC]
  exact q
theorem b6S (T:Txt K mg t):a0T P w K mg base CX0 1 t.f_z09 t.fd_z09 ["self"] (a8s t):=by
 refine T.F_z09.ok b7t (fun vs H Q E h=>?_) (fun cdv A outer s H vs Q E hr h=>?_)
 ·obtain ⟨g,rs,pl,rfl,hG,q⟩:=h;rfl
 ·obtain ⟨g,rs,pl,rfl,hG,q⟩:=h
  refine ⟨_,‹A3 (A6 (C6 a0t T.z_list a0w (A0 (C4 0) A1)))›,?_⟩
  rw [show a0r b4H [V.ref g]=[some (V.ref g)] from rfl]
  obtain ⟨dx,io,bh,pr,xs,kvs,kps,h1,h2,h3,h4,h5,h6',h7'⟩:=hG
  simp only [a0M,tCB,a0k,a2Q,a0q,Qa,a0B,a0b]
  refine ⟨g,_,dx,_,_,rfl,h1,T.cl_Ground,T.nf_Ground_in_order,b6Q _ _ _,io,_,rfl,.inr (SqT.of h2),fun l hl=>?_⟩
  obtain ⟨H6,e6,s6,h6⟩:=a0F hl (.lst xs);rw [e6]
  exact q l xs _ s6 hl h6 (h3.same s6)
theorem a6a (T:Txt K mg t):a0T P w K mg base CX0 1 t.f_z04 t.fd_z04 ["self"] (a0S false):=by
 refine T.F_z04.ok b5s (fun vs H Q E h=>?_) (fun cdv A outer s H vs Q E hr h=>?_)
 ·obtain ⟨x,rfl,q⟩:=h;rfl
 ·obtain ⟨x,rfl,q⟩:=h
  refine ⟨_,‹A3 (A6 B6)›,?_⟩
  rw [show a0r b5R [x]=[some (x)] from rfl]
  simp only [a0M,tC]
  exact q
theorem b1J (T:Txt K mg t):a0T P w K mg base CX0 1 t.f_z07 t.fd_z07 ["self"] (a0S true):=by
 refine T.F_z07.ok b3S (fun vs H Q E h=>?_) (fun cdv A outer s H vs Q E hr h=>?_)
 ·obtain ⟨x,rfl,q⟩:=h;rfl
 ·obtain ⟨x,rfl,q⟩:=h
  refine ⟨_,‹A3 (A6 B6)›,?_⟩
  rw [show a0r b6s [x]=[some (x)] from rfl]
  simp only [a0M,tC]
  exact q
theorem b5B (T:Txt K mg t):a0T P w K mg base CX0 2 t.f_z0c t.fd_z0c ["ground","some"] (c3c t):=by
 refine T.F_z0c.ok a4P (fun vs H Q E h=>?_) (fun cdv A outer s H vs Q E hr h=>?_)
 ·obtain ⟨g,s,rs,pl,l,rfl,hG,hO,hrl,hs,hl,q⟩:=h;rfl
 ·obtain ⟨g,s,rs,pl,l,rfl,hG,hO,hrl,hs,hl,q⟩:=h
  refine ⟨_,‹A4 (A9 2 a4P.nd F5) (A4 (C7 (B9 1) (B2 3 a4P.nd) (A4 (E3 4 (C3 (a0a a3X) a6I ["rule"] [none]) (B9 (E5 0 T.me_Ground_ruling (a9b T) T.b_z03 (A0 3 A1))) (B2 0 (show Xv (["rule"]:List Str) by decide+kernel)) (D4 (C2 (D1 (C5 0 T.cl_Fact T.me_Fact_is_sure (b1p T) T.b_z06) (D1 (C5 0 T.cl_Sure T.me_Sure_is_sure (b1J T) T.b_z07) (D1 (C5 0 T.cl_Most T.me_Most_is_sure (a6a T) T.b_z04) (C5 0 T.cl_Block T.me_Block_is_sure (a6a T) T.b_z04)))))) 0 a4P.nd) (D6 (B1 (C9 (D9 (F2 (a2j (a3k hr) ‹3› ‹2›)) (E2 (D7 (C2 (B8 (a1n rfl) T.z_any a2o (A0 (D3 (C3 (a0a a3X) a6I ["rule","ahead"] [none,some 2]) (B9 4) (B2 0 (show Xv (["rule","ahead"]:List Str) by decide+kernel)) E0 (A7 (a5I T) T.g_z0s T.F_z0s.kp T.b_z0s (A0 (D8 0) (A0 1 A1)))) A1))))))) (A3 (A6 B6)) B3) (A3 (F6 2 3 B6))))) (A4 (E3 5 (C3 (a0a a3X) a6I ["rule"] [none]) (B9 (C5 0 T.cl_Ground T.me_Ground_rules (b6S T) T.b_z09)) (B2 0 (show Xv (["rule"]:List Str) by decide+kernel)) (D4 (C2 (D1 (C5 0 T.cl_Fact T.me_Fact_is_sure (b1p T) T.b_z06) (D1 (C5 0 T.cl_Sure T.me_Sure_is_sure (b1J T) T.b_z07) (D1 (C5 0 T.cl_Most T.me_Most_is_sure (a6a T) T.b_z04) (C5 0 T.cl_Block T.me_Block_is_sure (a6a T) T.b_z04)))))) 0 a4P.nd) (A3 (A6 (B8 (a1o rfl) T.z_all a2m (A0 (D3 (C3 (a0a a3X) a6I ["rule","ahead"] [none,some 2]) (B9 5) (B2 0 (show Xv (["rule","ahead"]:List Str) by decide+kernel)) (D4 (C2 (A7 (a5I T) T.g_z0s T.F_z0s.kp T.b_z0s (A0 (D8 0) (A0 1 A1))))) (F3 (a2j (a3k hr) ‹D8 0› ‹1›))) A1))))))›,?_⟩
  rw [show a0r a6I [V.ref g,V.ref s]=[some (V.ref g),some (V.ref s),none,none,none,none] from rfl]
  unfold isS at q
  simp only [a1p,a1W,a6g,a0y,a0x,a1j,a2n,a0q,a0k,a0B,Qf,Qg,Qh,a0K,Qb,Qa,a0b,a1t]
  intro A hA0
  obtain ⟨H1,e1,s1,h1⟩:=a0F hA0 (.dK []);rw [e1]
  have sureE:∀r:Rw,decide ((r.1:Int) < 2)=(srW r).1:=fun r=>by
   show _=decide (r.1 < 2)
   rw [Yl,decide_eq_true_eq,decide_eq_true_eq];omega
  have hAm:∀(S:List Str) (x:Addr) (r:Rw) (H':Hp) (R:V→Hp→Prop),a3G r→a1A H' x (a2T t r.1) (.str r.2.1) (.str r.2.2.1) (r.2.2.2.map V.str)→H' A=some (.dK (bv S))→(∀H'',a0h H' H''→R (V.bl (a1B (srW r).2.2 S)) H'')→a0A a5z [] E0 (a0k (a2Q K (a0q 0) "body") (a0k (a0q 1) a0B)) [some (V.ref x),some (V.ref A)] H' R:=by
   intro S x r H' R ho hr hD' hR
   have CF:=a3Y T ho.1
   obtain ⟨dx,t0,h1,h2⟩:=hr
   simp only [a0A,a0k,a2Q,a0q,Qa,Qb,a0B,Qf,a0b]
   refine ⟨x,_,dx,_,_,rfl,h1,CF.cl,CF.nb,a1z _ _ _,?_⟩
   exact ⟨t0,.ref A,r.2.2.2,S,rfl,h2,by have:=ho.2.2.2.2.2;omega,.inr ⟨A,_,rfl,hD',fun x=>by rw [a4a];by_cases c:x∈S<;>simp [c]⟩,fun H'' s''=>hR _ s''⟩
  refine ⟨⟨_,SqL.of (s1 _ _ hs)⟩,?_⟩
  refine a0Z (K:=K) (a:=s) (xs:=l.map V.str) (fun i σ H'=>∃(x3 x4:Option V),σ=[some (V.ref g),some (V.ref s),some (V.ref A),x3,x4,none]∧a0h H H'∧H' A=some (.dK (bv (l.take i)))∧a2a (rs.map srW) [] l=a2a (rs.map srW) (l.take i) (l.drop i))
   ⟨_,_,rfl,s1,h1,by rw [List.take_zero,Uh]⟩ (fun i σ H' _ h=>by obtain ⟨_,_,_,s',_⟩:=h;exact SqL.of (s' _ _ hs)) ?_ ?_
  ·rintro i v σ H2 hi ⟨x3,x4,rfl,s2,hA2,ho2⟩
   have hil:i < l.length:=by simpa using (Qy.mp hi).1
   have ev:v=V.str l[i]:=by
    rw [Qz,Qe hil] at hi
    exact (Option.some.inj hi).symm
   subst ev
   rw [Ur hil] at ho2
   have etk:l.take (i+1)=l.take i++[l[i]]:=Xc hil
   have hSl:(l.take i).length≤100:=by rw [Xu];omega
   have hG2:=hG.same s2
   obtain ⟨dx,io,bh,pr,_,_,_,hg1,_⟩:=id hG2
   have hAn:H A=none:=hA0
   generalize l.take i=S at hA2 ho2 etk hSl
   simp only [a0y,a1p,Qg,Qh,Qa,Qb,a0b]
   refine ⟨g,dx,_,rfl,hg1,a2k _ _ _ ‹dk› ‹dk› ‹dk›,g,l[i],rs,pl,rfl,hG2,fun W ys H3 s3 hWn hW3 hR3=>?_⟩
   obtain ⟨zr,ez1,ez2,hz⟩:=hR3.zip (fun r hr=>hO r (Xn.mp hr).1)
   subst ez1
   have hzl:zr.length≤63:=by
    have:=congrArg Za ez2
    rw [Qd] at this
    rw [this];exact Qi (Qv _ _) hrl
   simp only [a1t]
   refine ⟨⟨_,SqL.of hW3⟩,?_⟩
   refine a1b zr hW3 ‹om› hz [] rfl (fun r=>(srW r).1) (fun p=>p.1) (fun x r H' R ho hr s' hR=>?_) (fun x r H' R ho hr s' hR=>?_) (fun W2 H4 hW2n s4 hW4=>?_)
   ·simp only [tB]
    refine b4c ho.1 (a1c rfl) hr ⟨by decide+kernel,by decide+kernel,by decide+kernel⟩ ?_
    rw [a4c ho.1]
    simp only [a2v,a1v]
    rw [sureE]
    exact hR _ (a0h.refl _)
   ·simp only [a0q,Qa,a0b]
    exact hR _ (a0h.refl _)
   have s24:=s3.trans s4
   have hA4:=s24 _ _ hA2
   have hz4:a4b t H4 (zr.filter fun p=>(srW p.2).1):=fun p hp=>(hz.same s4) p (Xn.mp hp).1
   try skip
   refine ⟨fun σ' H'=>σ'=[some (V.ref g),some (V.ref s),some (V.ref A),some (V.str l[i]),some (V.ref W2),none]∧a0h H4 H'∧l[i]∉S∧a2B (rs.map srW) S l[i]=true,?_,?_⟩
   ·simp only [a1K,tOr,tB,b3J,a0q,Qb,Qa,a0M,tC,a0P,a9B,tCB,a0k,a0B,Xk,a1v,a0x,a1j,a0b,a1t]
    refine ⟨A,_,rfl,c1V hA4 _,?_⟩
    have qf:∀H',a0h H4 H'→((!decide (l[i]∈S) && a2B (rs.map srW) S l[i])=false)→Q (.bl false) H':=fun H' s' hf=>by
     have:=q H' ((s2.trans s24).trans s')
     rw [ho2,show a2a (rs.map srW) S (l[i]::l.drop (i+1))=((!decide (l[i]∈S) && a2B (rs.map srW) S l[i]) && a2a (rs.map srW) (S++[l[i]]) (l.drop (i+1))) from rfl,hf,Yy,Yy] at this
     exact this
    by_cases c:l[i]∈S
    ·rw [if_pos c]
     try skip
     exact qf _ (a0h.refl _) (by rw [decide_eq_true c];rfl)
    rw [if_neg c]
    try skip
    refine ⟨⟨_,SqL.of hW4⟩,?_⟩
    refine a1b (zr.filter fun p=>(srW p.2).1) hW4 (Qi (Qv _ _) ‹om›) hz4 [some (V.ref A)] rfl (fun _=>true) (fun p=>V.bl (a1B (srW p.2).2.2 S)) (fun x r H' R ho hr s' hR=>hR _ (a0h.refl _)) (fun x r H' R ho hr s' hR=>hAm S x r H' R ho hr (s' _ _ hA4) hR) (fun B H5 hBn s5 hB5=>?_)
    have eany:((zr.filter fun p=>(srW p.2).1).map fun p=>a1B (srW p.2).2.2 S).any id=a2B (rs.map srW) S l[i]:=by
     rw [←b6t,←ez2,Yq,Yw,Yw];rfl
    have hB5':H5 B=some (.lst (((zr.filter fun p=>(srW p.2).1).map fun p=>a1B (srW p.2).2.2 S).map V.bl)):=by
     rw [hB5,Je.mpr (fun _ _=>rfl),Yv];rfl
    refine ⟨B,_,rfl,SqL.of hB5',?_⟩
    rw [eany]
    try skip
    refine a0V (fun c2=>?_) (fun c2=>?_)
    ·exact qf _ s5 (by rw [show a2B (rs.map srW) S l[i]=false from by simpa using c2,Vr])
    ·exact ⟨(by trivial),s5,c,by simpa using c2⟩
   ·rintro σ' H5 ⟨rfl,s5,hc1,hc2⟩
    have hA5:=s5 _ _ hA4
    simp only [a9Y,tC,a0q,Qb,Qa,a0b]
    refine ⟨A,_,rfl,c2c hA5 ‹om› l[i],_,_,rfl,?_,?_,?_⟩
    ·intro b o e;rw [a0d (a0c e hAn)];exact s5 _ _ (s24 _ _ (s2 _ _ e))
    ·rw [a0g,a9N hc1,etk]
    ·rw [ho2,etk,show a2a (rs.map srW) S (l[i]::l.drop (i+1))=((!decide (l[i]∈S) && a2B (rs.map srW) S l[i]) && a2a (rs.map srW) (S++[l[i]]) (l.drop (i+1))) from rfl,hc2,decide_eq_false hc1]
     rfl
  ·rintro σ H2 ⟨x3,x4,rfl,s2,hA2,ho2⟩
   rw [Qd,Xz] at hA2 ho2
   rw [List.drop_length] at ho2
   have hor:a2a (rs.map srW) [] l=true:=ho2
   have hG2:=hG.same s2
   obtain ⟨dx,io,bh,pr,_,_,_,hg1,_⟩:=id hG2
   simp only [a1p,Qa,a0M,tCB,a0k,Qg,Qh,a0B,a0x,a1j,a0q,Qb,a0b]
   refine ⟨g,dx,_,rfl,hg1,a2k _ _ _ ‹dk› ‹dk› ‹dk›,g,rs,pl,rfl,hG2,fun W ys H3 s3 hWn hW3 hR3=>?_⟩
   obtain ⟨zr,ez1,ez2,hz⟩:=hR3.zip hO
   subst ez1
   have hzl:zr.length≤63:=by
    have:=congrArg Za ez2
    rw [Qd] at this
    rw [this];exact hrl
   simp only [a1t]
   refine ⟨⟨_,SqL.of hW3⟩,?_⟩
   refine a1b zr hW3 ‹om› hz [] rfl (fun r=>(srW r).1) (fun p=>p.1) (fun x r H' R ho hr s' hR=>?_) (fun x r H' R ho hr s' hR=>?_) (fun W2 H4 hW2n s4 hW4=>?_)
   ·simp only [tB]
    refine b4c ho.1 (a1c rfl) hr ⟨by decide+kernel,by decide+kernel,by decide+kernel⟩ ?_
    rw [a4c ho.1]
    simp only [a2v,a1v]
    rw [sureE]
    exact hR _ (a0h.refl _)
   ·simp only [a0q,Qa,a0b]
    exact hR _ (a0h.refl _)
   have s24:=s3.trans s4
   have hA4:=s24 _ _ hA2
   have hz4:a4b t H4 (zr.filter fun p=>(srW p.2).1):=fun p hp=>(hz.same s4) p (Xn.mp hp).1
   simp only [a1t]
   refine ⟨⟨_,SqL.of hW4⟩,?_⟩
   refine a1b (zr.filter fun p=>(srW p.2).1) hW4 (Qi (Qv _ _) ‹om›) hz4 [some (V.ref A)] rfl (fun r=>a1B (srW r).2.2 l) (fun p=>V.bl (decide ((srW p.2).2.1∈l))) (fun x r H' R ho hr s' hR=>?_) (fun x r H' R ho hr s' hR=>?_) (fun B H5 hBn s5 hB5=>?_)
   ·refine hAm l x r H' _ ho hr (s' _ _ hA4) fun H'' s''=>?_
    exact ⟨_,rfl,hR _ s''⟩
   ·have CF:=a3Y T ho.1
    obtain ⟨dx',t0,h1,h2⟩:=hr
    simp only [b3J,a2Q,a0q,Qa,Qb,a0b]
    refine ⟨x,_,dx',_,_,rfl,h1,CF.cl,CF.nh,a0R _ _ _,A,_,rfl,c1V (s' _ _ hA4) _,?_⟩
    have:=hR _ (a0h.refl _)
    by_cases h:r.2.2.1∈l
    ·rw [if_pos h];rw [decide_eq_true (show (srW r).2.1∈l from h)] at this;exact this
    ·rw [if_neg h];rw [decide_eq_false (show ¬(srW r).2.1∈l from h)] at this;exact this
   have eall:(((zr.filter fun p=>(srW p.2).1).filter fun p=>a1B (srW p.2).2.2 l).map fun p=>decide ((srW p.2).2.1∈l)).all id=a5i (rs.map srW) l:=by
    rw [←b4U,←ez2,Yq,Yq,Jj,Jj];rfl
   have hB5':H5 B=some (.lst ((((zr.filter fun p=>(srW p.2).1).filter fun p=>a1B (srW p.2).2.2 l).map fun p=>decide ((srW p.2).2.1∈l)).map V.bl)):=by
    rw [hB5,Yv];rfl
   refine ⟨B,_,rfl,SqL.of hB5',?_⟩
   rw [eall]
   have:=q H5 ((s2.trans s24).trans s5)
   rw [hor,Xx] at this
   exact this
theorem a4W (T:Txt K mg t):a0T P w K mg base CX0 5 t.f_z1e t.fd_z1e ["ground","paper"] (b1O t):=by
 refine T.F_z1e.ok a8y (fun vs H Q E h=>?_) (fun cdv A outer s H vs Q E hr h=>?_)
 ·obtain ⟨g,p,a1,a2,rs,pl,S,ps,cl,rfl,hG,hO,hrl,hp,h1,hSl,h2,hP,hcl,hcq,q⟩:=h;rfl
 ·obtain ⟨g,p,a1,a2,rs,pl,S,ps,cl,rfl,hG,hO,hrl,hp,h1,hSl,h2,hP,hcl,hcq,q⟩:=h
  refine ⟨_,‹A4 (A9 2 a8y.nd (A8 a0j 1 A2)) (A4 (A9 3 a8y.nd (A8 a0j 1 A2)) (A4 (B1 (D7 (C2 (A7 (b5B T) T.g_z0c T.F_z0c.kp T.b_z0c (A0 0 (A0 2 A1))))) (A3 (A6 B6)) B3) (A3 (A6 (B8 (a1o rfl) T.z_all a2m (A0 (D3 (C3 (a0a a6C) b3B ["place","row","ground","sures","rows"] [none,none,some 0,some 2,some 3]) (H5 rfl T.z_enumerate (A0 3 A1)) (H6 K 2 rfl rfl (E7 (B2 0 (show Xv (["place","row","ground","sures","rows"]:List Str) by decide+kernel)) (E7 (B2 1 (show Xv (["place","row","ground","sures","rows"]:List Str) by decide+kernel)) F7))) E0 (A7 (b4J T) T.g_z1d T.F_z1d.kp T.b_z1d (A0 2 (A0 3 (A0 (C0 (b3c (K:=K) rfl) 4 C1 (B7 0)) (A0 1 A1)))))) A1))))))›,?_⟩
  rw [show a0r b3B [V.ref g,V.ref p]=[some (V.ref g),some (V.ref p),none,none] from rfl]
  simp only [a1p,a1W,tOp,a0q,Qb,Qa,tC,a0y,Qg,Qh,a1K,a9B,tB,a0A,a0k,a0B,Qf,Xk,a0M,a0P,tCB,a0x,b5T,a0b]
  refine a1d (i:=0) (v:=.ref a1) (SqT.of hp) (by rfl) (a1d (i:=1) (v:=.ref a2) (SqT.of hp) (by rfl) ?_)
  refine ⟨g,a1,rs,pl,S,rfl,hG,hO,hrl,h1,hSl,fun H1 s1=>⟨_,rfl,?_⟩⟩
  by_cases hS:isS rs S=true
  ·rw [hS,if_neg ‹dc›]
   rw [hS] at q
   refine ⟨a2,rfl,⟨_,SqL.of (s1 _ _ h2)⟩,?_⟩
   have hpl:ps.length=cl.length:=by have:=a0o.len hP;rw [Qd] at this;exact this
   refine b7k (xs:=ps) (Qi (show ps.length≤1000 by omega) ‹dc›) [some (V.ref g),some (V.ref a1),some (V.ref a2)] rfl (fun D i v H'=>v=V.bl (b3E rs pl S [] cl i)) (fun _ _ _ _ _ _ h=>h) (SqL.of (s1 _ _ h2)) (fun D i H' R hi hDn s hD hR=>?_) (fun B H2 ys hBn s2 hB2 hyl hv=>?_)
   ·have hi':i < cl.length:=by omega
    obtain ⟨x,ex,hx⟩:=a0o.at hP (i:=i) (by rw [Qd];exact hi')
    rw [Qe hi] at ex
    have ex':ps[i]=.ref x:=Option.some.inj ex
    rw [Zr] at hx
    have s0:=s1.trans s
    rw [ex']
    simp only [a0A,a0k,a0q,Qb,Qa,tSl,a1r,a2e,a0B,Qf,a0b,a2l]
    refine .inr (.inl ⟨a2,_,rfl,SqL.of (s0 _ _ h2),fun W hW=>?_⟩)
    have ec:a3c ps none (some (i:Int))=ps.take i:=by
     unfold a3c
     rw [HT.sIx_nat]
     show (ps.drop 0).take (min i ps.length - 0)=_
     rw [Uh,Wn,Vh ‹om›]
    rw [ec]
    obtain ⟨H3,e3,s3,h3⟩:=a0F hW (.lst (ps.take i));rw [e3]
    have s03:=s0.trans s3
    have hc:cl[i]∈cl:=Qx hi'
    refine ⟨g,W,x,.ref a1,rs,pl,(cl.take i).map cw,ps.take i,S,cl[i].1,cl[i].2,rfl,hG.same s03,hO,hrl,.inl ⟨a1,rfl,s03 _ _ h1⟩,h3,by rw [Zw];exact a9F (a0o.same s03 hP) i,by rw [Qd,Xu];omega,s03 _ _ hx,hcq _ hc,fun H4 s4=>?_⟩
    refine hR _ _ (s3.trans s4) ?_
    unfold b3E
    rw [Qe hi'];rfl
   have ey:ys=((Yi cl.length).map (b3E rs pl S [] cl)).map V.bl:=by
    refine Uz (by rw [hyl,Qd,Qd,Up,hpl]) fun i h1 h2=>?_
    rw [hv i _ (Qe h1),Zr,Zr,List.getElem_range]
   refine ⟨B,_,rfl,by rw [←ey];exact SqL.of hB2,?_⟩
   rw [a6i]
   exact q H2 (s1.trans s2)
  ·have hS':isS rs S=false:=by simpa using hS
   rw [hS',if_pos rfl]
   have:=q H1 s1
   rw [hS',Yy] at this
   exact this
theorem b0x (T:Txt K mg t):a0T P w K mg base CX0 8 t.f_d_law t.fd_d_law ["_law_script"] (b2T K):=by
 refine T.F_d_law.ok a0Y (fun vs H Q E h=>?_) (fun cdv A outer s H vs Q E hr h=>?_)
 ·obtain ⟨a,ns,rfl,hS,hl,q⟩:=h;rfl
 ·obtain ⟨a,ns,rfl,hS,hl,q⟩:=h
  refine ⟨_,‹A4 (A9 1 a0Y.nd (A7 (b7e T) T.g_z1i T.F_z1i.kp T.b_z1i (A0 0 (A0 A2 A1)))) (A4 (A9 2 a0Y.nd (F1 T.mk_Ground (b7b T) T.g_Ground T.b_z0g (A0 (C6 a0t T.z_list a0w (A0 (A8 a0j 1 A2) A1)) (A0 (C6 a0t T.z_list a0w (A0 (A8 a0j 1 A2) A1)) A1)))) (A4 (A9 3 a0Y.nd (A7 (b1C T) T.g_z1k T.F_z1k.kp T.b_z1k (A0 1 A1))) (A4 (A9 4 a0Y.nd (A7 (b6U T) T.g_z1l T.F_z1l.kp T.b_z1l (A0 1 (A0 3 A1)))) (D6 (B1 (C9 (D9 (B0 a4J (A7 (a4W T) T.g_z1e T.F_z1e.kp T.b_z1e (A0 2 (A0 (D0 (A0 (C6 a0t T.z_list a0w (A0 3 A1)) (A0 (C6 a0t T.z_list a0w (A0 4 A1)) A1))) A1))) B6 (a0n _)) (E2 (B0 a4J (A7 (a4W T) T.g_z1e T.F_z1e.kp T.b_z1e (A0 2 (A0 (D0 (A0 (C6 a0t T.z_list a0w (A0 3 A1)) (A0 (B4 A1) A1))) A1))) B6 (a0n _))))) (A3 (A6 B6)) B3) (A4 (C7 (B9 (C0 a0D 0 (B7 A2) (B7 A2))) (B2 5 a0Y.nd) (A4 (G0 (A7 (b7s T) T.g_z0i T.F_z0i.kp T.b_z0i (A0 1 (A0 3 (A0 4 (A0 5 A1))))) (H7 rfl (E7 (B2 6 a0Y.nd) (E7 (B2 7 a0Y.nd) F7)))) (A4 (A9 8 a0Y.nd (D0 (A0 (C6 a0t T.z_list a0w (A0 6 A1)) (A0 (C6 a0t T.z_list a0w (A0 7 A1)) A1)))) (A4 (A9 9 a0Y.nd (A7 (a4W T) T.g_z1e T.F_z1e.kp T.b_z1e (A0 2 (A0 8 A1)))) (A3 (B1 (C9 (D9 (D7 (C2 (B8 a5r T.z_isinstance a2G (A0 9 (A0 (H8 (.ty "bool") rfl T.z_bool a6t rfl) A1))))) (D9 (B0 (a3w hr.units) 9 (A7 (b1B T) T.g_z1t T.F_z1t.kp T.b_z1t (A0 1 (A0 6 (A0 7 A1)))) (a0n _)) (E2 (B0 (a3w hr.units) 8 (D0 (A0 6 (A0 7 A1))) (a0n _)))))) (A3 (A6 B6)) B3)))))) (D6 (B1 (B0 (b6X hr.units) 4 (B4 A1) (a0n _)) (A4 (A9 10 a0Y.nd (A8 a0j (B4 (A0 B5 (A0 B5 A1))) (C6 a4e T.z_int a4h (A0 (E4 (a0L hr.units) (A8 a0j (A8 a0j 4 A2) A2) B5 (a0n _)) A1)))) (A4 (A9 11 a0Y.nd (A5 a0f (C0 a0D 4 C1 (B7 A2)) (B4 (A0 (D0 (A0 10 (A0 (A8 a0j (A8 a0j 4 A2) A2) A1))) A1)))) (A3 (B1 (B0 (a3w hr.units) (A7 (a4W T) T.g_z1e T.F_z1e.kp T.b_z1e (A0 2 (A0 (D0 (A0 (C6 a0t T.z_list a0w (A0 3 A1)) (A0 (A5 a0f (A5 b4F (C0 a0D 4 C1 (B7 A2)) A2) (C0 a0D 11 (B7 A2) C1)) A1))) A1))) (A7 (b1B T) T.g_z1t T.F_z1t.kp T.b_z1t (A0 1 (A0 3 (A0 11 A1)))) (a0n _)) (A3 (A6 B6)) B3)))) B3) (A3 (A6 (E4 b6n (A7 (a4W T) T.g_z1e T.F_z1e.kp T.b_z1e (A0 2 (A0 (D0 (A0 (C6 a0t T.z_list a0w (A0 3 A1)) (A0 (C6 a0t T.z_list a0w (A0 4 A1)) A1))) A1))) B6 (a0n _))))))))))›,?_⟩
  rw [show a0r a8j [V.ref a]=[some (V.ref a),none,none,none,none,none,none,none,none,none,none,none] from rfl]
  simp only [a1p,a1W,a0A,a0k,a0q,Qa,tC,a0B,Qf,a0y,b0w,tCB,tOp,Qg,Qh,Qb,a0b]
  refine ⟨a,ns,rfl,hS,hl,fun s T0 P0 E zr ps pl ev H1 s1 hs=>?_⟩
  have hS1:SqL K H1 a (ns.map V.int):=s1.seq hS
  refine a0m (SqL.of hs.s) rfl ⟨T0,_,rfl,.inl (SqL.of hs.r.1),fun Rl hRl=>?_⟩
  obtain ⟨H2,e2,s2,h2⟩:=a0F hRl (.lst (zr.map (·.1)));rw [e2]
  refine a0m (SqL.of (s2 _ _ hs.s)) rfl ⟨P0,_,rfl,.inl (SqL.of (s2 _ _ hs.p)),fun Pl hPl=>?_⟩
  obtain ⟨H3,e3,s3,h3⟩:=a0F hPl (.lst ps);rw [e3]
  have s13:=s2.trans s3
  intro g dx ng ndx ne
  obtain ⟨s4,h4⟩:=b4T (C:=t.C_Ground) ng ndx
  obtain ⟨H4,e4⟩:∃H4,upd (upd H3 dx (.own g)) g (.ins t.C_Ground dx [])=H4:=⟨_,rfl⟩
  rw [e4] at s4 h4 ⊢
  have hU:a1L t H1 (zr.map (·.1)) (zr.map (·.2)):=⟨by simp,fun i r e=>by
   rw [Qz] at e
   obtain ⟨p,ep,rfl⟩:=Vn.mp e
   exact ⟨p.1,by rw [Qz,ep];rfl,(hs.r.2.1 p (Zl ep)).1⟩⟩
  have s14:=s13.trans s4
  have hO:∀r∈zr.map (·.2),a3G r:=fun r hr=>by
   obtain ⟨p,hp,rfl⟩:=Xa.mp hr
   exact (hs.r.2.2.2 p hp).1
  have hrl:=hs.r.2.2.1
  have hrm:(zr.map (·.2)).length≤63:=by rw [Qd];omega
  refine ⟨g,dx,Rl,Pl,_,_,ps,pl,rfl,h4,s4 _ _ (s3 _ _ h2),hU.same s14,hO,hrm,s4 _ _ h3,a0o.same s14 hs.prs,by have:=hs.pn;omega,fun H5 k5 hG5=>⟨rfl,?_⟩⟩
  have s35:a0h H3 H5:=fun b o e=>k5 b o (s4 _ _ e) (a0c e ng)
  have s15:=s13.trans s35
  have hS5:SqL K H5 a (ns.map V.int):=s15.seq hS1
  have hs5:=hs.same s15
  clear s1 s2 s3 s4 s13 s14 s15 s35 h2 h3 h4 hU hS1 hS k5 e4 e2 e3
  have hen:=hs.en
  have sok:∀z∈ev,Xb z=true:=fun z hz=>((hs.eo z hz).ok ‹dc›).1
  refine ⟨s,T0,P0,E,zr,ps,pl,ev,rfl,hs5,fun Su S H6 s6 hSun hSu hiS=>?_⟩
  have hSf:S.length≤30∧∀z∈S,z∈ev:=by
   have h0:=hiS
   unfold isS at h0
   rw [Qp] at h0
   obtain ⟨_,b1,b2⟩:=a1U h0.1
   rw [Qd] at b2
   refine ⟨by omega,fun z hz=>?_⟩
   obtain ⟨r,hr,e⟩:=b1 z hz
   obtain ⟨p,hp,rfl⟩:=Xa.mp hr
   rw [←e];exact (hs.ez p hp).1
  refine ⟨s,T0,P0,E,Su,zr,ps,pl,ev,S,rfl,hs5.same s6,hSu,fun Cl G qG H7 s7 hCln hCl hPG hG hGC=>?_⟩
  have hGl:=hG.len
  have hqG:=a0o.len hPG
  rw [Qd] at hqG
  have s57:=s6.trans s7
  have hG7:=hG5.same s57
  have hs7:=hs5.same s57
  have hSu7:=s7 _ _ hSu
  have hSn:S.length≤14:=by
   have h0:=hiS
   unfold isS at h0
   rw [Qp] at h0
   have:=a2U (a1U h0.1).1 hSf.2
   omega
  have hSo:∀z∈S,Xb z=true:=fun z hz=>sok z (hSf.2 z hz)
  have hGe:∀c∈G,c.2.length≤100:=fun c hc=>Qi (hs.eo _ (hG.e c hc)).len ‹dc›
  have all:∀(Hx:Hp),a0h H7 Hx→∀Q':VK,(∀Hy,a0h Hx Hy→Q' (.bl true) Hy)→a4Y K [V.ref Su] Hx fun x H1=>a4Y K [V.ref Cl] H1 fun x_1 H1=>[x,x_1].length≤sizeLine∧∀p,H1 p=none→b1O t [V.ref g,V.ref p] (upd H1 p (.tup [x,x_1])) Q' E0:=fun Hx sx Q' hq=>by
   refine ⟨Su,_,rfl,.inl (SqL.of (sx _ _ hSu7)),fun p1 hp1=>?_⟩
   obtain ⟨Ha,ea,sa,ga⟩:=a0F hp1 (.lst (S.map V.str));rw [ea]
   refine ⟨Cl,_,rfl,.inl (SqL.of (sa _ _ (sx _ _ hCl))),fun p2 hp2=>?_⟩
   obtain ⟨Hb,eb,sb,gb⟩:=a0F hp2 (.lst qG);rw [eb]
   refine ⟨by simp only [Qj,Qr];decide,fun p3 hp3=>?_⟩
   obtain ⟨Hc,ec,sc,gc⟩:=a0F hp3 (.tup [V.ref p1,V.ref p2]);rw [ec]
   have sab:=(sa.trans sb).trans sc
   refine ⟨g,p3,p1,p2,_,pl,S,qG,G,rfl,hG7.same (sx.trans sab),hO,hrm,gc,sc _ _ (sb _ _ ga),by omega,sc _ _ gb,a0o.same (sx.trans sab) hPG,by omega,hGe,fun Hd sd=>?_⟩
   rw [hiS,hG.l]
   exact hq Hd (sab.trans sd)
  refine ⟨fun σ' H'=>σ'=[some (V.ref a),some (V.ref s),some (V.ref g),some (V.ref Su),some (V.ref Cl),none,none,none,none,none,none,none]∧a0h H7 H',?_,?_⟩
  ·simp only [a1K,tOr,a0O,tOp,a0A,a0k,a0q,Qb,Qa,a6c,tCB,a0B,Qf,tC,a0M,a0P,a2H,a0b]
   refine all H7 (a0h.refl _) _ fun H8 s8=>?_
   refine a5u.mpr ⟨_,rfl,?_⟩
   rw [if_neg ‹dc›]
   refine ⟨Su,_,rfl,.inl (SqL.of (s8 _ _ hSu7)),fun p1 hp1=>?_⟩
   obtain ⟨H9,e9,s9,g9⟩:=a0F hp1 (.lst (S.map V.str));rw [e9]
   refine ⟨Xi _,fun p2 hp2=>⟨by simp only [Qj,Qr];decide,fun p3 hp3=>?_⟩⟩
   obtain ⟨H10,e10,s10,g10⟩:=a0F hp2 (.lst []);rw [e10] at hp3 ⊢
   obtain ⟨H11,e11,s11,g11⟩:=a0F hp3 (.tup [V.ref p1,V.ref p2]);rw [e11]
   have s711:=((s8.trans s9).trans s10).trans s11
   refine ⟨g,p3,p1,p2,_,pl,S,[],[],rfl,hG7.same s711,hO,hrm,g11,s11 _ _ (s10 _ _ g9),by omega,s11 _ _ g10,⟨[],rfl,rfl,fun i a p e=>(by cases e)⟩,Xi _,fun c hc=>(by cases hc),fun H12 s12=>a5u.mpr ⟨_,rfl,?_⟩⟩
   rw [hiS,show a1u (zr.map (·.2)) pl S [] []=true from rfl,if_neg ‹dc›]
   exact ⟨trivial,s711.trans s12⟩
  rintro σ' H8 ⟨rfl,s8⟩
  simp only [a1p,a0K,a1j,tSl,a0q,Qa,a2e,tC,a2l,a0b]
  refine .inr (.inl ⟨a,_,rfl,(s57.trans s8).seq hS5,fun W1 hW1=>?_⟩)
  obtain ⟨c0,ec0,hc0⟩:=b2Y ns (some 33) (some 41)
  rw [ec0]
  obtain ⟨H9,e9,s9,g9⟩:=a0F hW1 (.lst (c0.map V.int));rw [e9]
  have s79:=s8.trans s9
  refine ⟨W1,rfl,⟨_,SqL.of g9⟩,?_⟩
  refine a0Z (K:=K) (a:=W1) (xs:=c0.map V.int) (fun j σ H'=>∃(x5 x6 x7 x8 x9:Option V),σ=[some (V.ref a),some (V.ref s),some (V.ref g),some (V.ref Su),some (V.ref Cl),x5,x6,x7,x8,x9,none,none]∧a0h H9 H') ⟨_,_,_,_,_,rfl,a0h.refl _⟩ (fun i σ H' _ ⟨_,_,_,_,_,_,s'⟩=>SqL.of (s' _ _ g9)) ?_ ?_
  ·rintro j x σ H10 hj ⟨x5,x6,x7,x8,x9,rfl,s10⟩
   obtain ⟨hj',rfl⟩:=a1Q hj
   have s710:=s79.trans s10
   simp only [a0y,a1p,a1W,a0A,a0k,a0q,Qg,Qh,Qb,Qa,a0B,Qf,a0b]
   refine ⟨s,T0,P0,E,Su,Cl,c0[j],zr,ps,pl,ev,rfl,hs7.same s710,b8r (s710 _ _ hSu7) hSn hSf.2,b5N ⟨qG,s710 _ _ hCl,a0o.same s710 hPG,hG.e⟩ ‹om›,fun D b1 b2 H11 s11 hD l1 l2=>?_⟩
   obtain ⟨S',hS',hSl',hSe⟩:=b7R l1
   obtain ⟨cl,hcl,hcn⟩:=b6C l2
   obtain ⟨qc,hq1,hq2,hqe⟩:=id hcl
   have hSo':∀z∈S',Xb z=true:=fun z hz=>sok z (hSe z hz)
   refine ⟨D,_,rfl,SqL.of hD,rfl,_,_,rfl,_,_,rfl,rfl,?_⟩
   simp only [a1p,a1W,a6c,a0k,tCB,a0q,Qg,Qh,Qb,Qa,a0B,a0y,a0A,Qf,a1K,tOr,a9B,tB,tC,Xk,a0M,a0P,a0O,tOp,a0b]
   refine ⟨b1,_,rfl,.inl (SqL.of hS'),fun p1 hp1=>?_⟩
   obtain ⟨H12,e12,s12,g12⟩:=a0F hp1 (.lst (S'.map V.str));rw [e12]
   refine ⟨b2,_,rfl,.inl (SqL.of (s12 _ _ hq1)),fun p2 hp2=>?_⟩
   obtain ⟨H13,e13,s13,g13⟩:=a0F hp2 (.lst qc);rw [e13]
   refine ⟨by simp only [Qj,Qr];decide,fun p3 hp3=>?_⟩
   obtain ⟨H14,e14,s14,g14⟩:=a0F hp3 (.tup [V.ref p1,V.ref p2]);rw [e14]
   have s1114:=(s12.trans s13).trans s14
   have s714:=(s710.trans s11).trans s1114
   refine ⟨g,p3,p1,p2,_,pl,S',qc,cl,rfl,hG7.same s714,hO,hrm,g14,s14 _ _ (s13 _ _ g12),by omega,s14 _ _ g13,a0o.same s1114 hq2,by omega,fun c hc=>Qi (hs.eo _ (hqe c hc)).len ‹dc›,fun H15 s15=>?_⟩
   simp only [a4N,a1v,b6u]
   have s1115:=s1114.trans s15
   have s715:=s714.trans s15
   refine ⟨s,T0,P0,E,b1,b2,zr,ps,pl,ev,S',cl,rfl,hs7.same s715,s1115 _ _ hS',by omega,hSo',hcl.same s1115,by omega,fun H16 s16=>?_⟩
   refine a9a rfl ⟨_,rfl,?_⟩
   rw [if_neg Qn]
   refine ⟨by simp only [Qj,Qr];decide,fun p4 hp4=>?_⟩
   obtain ⟨H17,e17,s17,g17⟩:=a0F hp4 (.tup [V.ref b1,V.ref b2]);rw [e17]
   have s1417:=(s15.trans s16).trans s17
   have s1117:=s1114.trans s1417
   refine b1U (s1417 _ _ g14) (s1417 _ _ (s14 _ _ (s13 _ _ g12))) (s1417 _ _ (s14 _ _ g13)) (a0o.same s1117 hq2) g17 (s1117 _ _ hS') (s1117 _ _ hq1) (a0o.same s1117 hq2) hSo' (fun p hp=>?_) ⟨_,rfl,?_⟩
   ·obtain ⟨d,hd,rfl⟩:=Xa.mp hp
    exact ⟨b6h _,sok _ (hqe d hd)⟩
   ·rw [if_neg Qn]
    exact ⟨_,_,_,_,_,rfl,(s10.trans s11).trans s1117⟩
  ·rintro σ H10 ⟨x5,x6,x7,x8,x9,rfl,s10⟩
   have s710:=s79.trans s10
   refine ⟨fun σ' H'=>∃(x10 x11:Option V),σ'=[some (V.ref a),some (V.ref s),some (V.ref g),some (V.ref Su),some (V.ref Cl),x5,x6,x7,x8,x9,x10,x11]∧a0h H7 H',?_,?_⟩
   ·simp only [a1K,a0O,tOp,a0q,Qb,Qa,a2H,a0B,a1p,a1W,a0k,tC,tCB,a0y,tSl,Qg,Qh,a1r,a2e,a6c,a0A,Qf,a0M,a0P,a0b,a2l]
    refine ⟨Xi _,fun p1 hp1=>?_⟩
    obtain ⟨H11,e11,s11,g11⟩:=a0F hp1 (.lst []);rw [e11]
    have s711:=s710.trans s11
    refine ⟨Cl,p1,_,rfl,rfl,SqL.of (s711 _ _ hCl),SqL.of g11,⟨_,rfl,a0V (fun c1=>?_) (fun _=>⟨_,_,rfl,s711⟩)⟩⟩
    have hq0:qG≠[]:=by simpa using c1
    have hG0:0 < G.length:=by rw [←hqG];exact Wg.mpr hq0
    obtain ⟨x,ex,hx⟩:=a0o.at hPG (i:=0) (by rw [Qd];exact hG0)
    rw [Zr] at hx
    have hce:=hG.e _ (Qx hG0)
    generalize G[0]=c at hx hce
    have ex0:atI qG 0=some (.ref x):=by
     unfold atI ixN
     rw [if_pos ‹om›,if_pos ‹om›]
     exact ex
    have hcut:a3c qG none (some 1)=[V.ref x]:=by
     cases qG with
     | nil=>exact absurd rfl hq0
     | cons v r=>
      cases ex
      unfold a3c
      rw [show (some (1:Int))=some ((1:Nat):Int) from rfl,HT.sIx_nat]
      show ((V.ref x::r).drop 0).take (min 1 (r.length+1) - 0)=_
      rw [Uh,Wn,Vh ‹om›];rfl
    refine ⟨by simp only [Qj,Qr];decide,fun p2 hp2=>?_⟩
    obtain ⟨H12,e12,s12,g12⟩:=a0F hp2 (.lst [V.str "held",V.str "refused"]);rw [e12]
    have s712:=s711.trans s12
    obtain ⟨b4,eb4⟩:∃b,atI [V.str "held",V.str "refused"] (if decide (clW c.1="held")=true then 1 else 0)=some (V.str (clW b)):=by
     cases decide (clW c.1="held")
     ·exact ⟨true,rfl⟩
     ·exact ⟨false,rfl⟩
    refine a0m (SqL.of (s712 _ _ hCl)) ex0 (a1d (i:=0) (v:=.str (clW c.1)) (SqT.of (s712 _ _ hx)) (by rfl) (a0W.mpr (a5y.mpr ?_)))
    refine a0m (SqL.of g12) eb4 (.inr (.inl ⟨Cl,_,rfl,SqL.of (s712 _ _ hCl),fun p3 hp3=>?_⟩))
    rw [hcut]
    obtain ⟨H13,e13,s13,g13⟩:=a0F hp3 (.lst [V.ref x]);rw [e13]
    have s713:=s712.trans s13
    refine a0m (SqL.of (s713 _ _ hCl)) ex0 (a1d (i:=1) (v:=.str c.2) (SqT.of (s713 _ _ hx)) (by rfl) ⟨by simp only [Qj,Qr];decide,fun p4 hp4=>⟨by simp only [Qj,Qr];decide,fun p5 hp5=>?_⟩⟩)
    obtain ⟨H14,e14,s14,g14⟩:=a0F hp4 (.tup [V.str (clW b4),V.str c.2]);rw [e14] at hp5 ⊢
    obtain ⟨H15,e15,s15,g15⟩:=a0F hp5 (.lst [V.ref p4]);rw [e15]
    refine .inr (.inr (.inl ⟨p3,p5,_,_,rfl,rfl,s15 _ _ (s14 _ _ g13),g15,Qi (show _≤1000 by simp only [Qj,Qr];omega) ‹dc›,fun Ba hBa=>?_⟩))
    obtain ⟨H16,e16,s16,g16⟩:=a0F hBa (.lst ([V.ref x]++[V.ref p4]));rw [e16]
    have s716:=((s713.trans s14).trans s15).trans s16
    have hy16:=s16 _ _ (s15 _ _ g14)
    have prs1:∀{Hx:Hp},Hx p4=some (.tup [V.str (clW b4),V.str c.2])→a0o Hx [V.ref p4] [cw (b4,c.2)]:=fun h=>⟨[p4],rfl,rfl,fun i a p e1 e2=>by
     cases i with
     | zero=>cases e1;cases e2;exact h
     | succ i=>cases e1⟩
    try skip
    refine ⟨Su,_,rfl,.inl (SqL.of (s716 _ _ hSu7)),fun p6 hp6=>?_⟩
    obtain ⟨H17,e17,s17,g17⟩:=a0F hp6 (.lst (S.map V.str));rw [e17]
    refine .inr (.inl ⟨Cl,_,rfl,SqL.of (s17 _ _ (s716 _ _ hCl)),fun p7 hp7=>?_⟩)
    rw [hcut]
    obtain ⟨H18,e18,s18,g18⟩:=a0F hp7 (.lst [V.ref x]);rw [e18]
    refine ⟨p7,300,_,rfl,rfl,g18,by decide,by decide,(show 1 * 300≤sizeLine by decide),fun p8 hp8=>?_⟩
    rw [show (Xd (300:Int).toNat [V.ref x]).flatten=Xd 300 (V.ref x) from List.flatten_replicate_singleton]
    obtain ⟨H19,e19,s19,g19⟩:=a0F hp8 (.lst (Xd 300 (V.ref x)));rw [e19]
    have s1619:=(s17.trans s18).trans s19
    refine .inr (.inl ⟨Ba,_,rfl,SqL.of (s1619 _ _ g16),fun p9 hp9=>?_⟩)
    rw [show a3c ([V.ref x]++[V.ref p4]) (some 1) none=[V.ref p4] from b0L _ _]
    obtain ⟨H20,e20,s20,g20⟩:=a0F hp9 (.lst [V.ref p4]);rw [e20]
    refine .inr (.inr (.inl ⟨p8,p9,_,_,rfl,rfl,s20 _ _ g19,g20,Qi (show _≤1000 by rw [Zj];simp only [Qj,Qr];omega) ‹dc›,fun p10 hp10=>?_⟩))
    obtain ⟨H21,e21,s21,g21⟩:=a0F hp10 (.lst (Xd 300 (V.ref x)++[V.ref p4]));rw [e21]
    refine ⟨by simp only [Qj,Qr];decide,fun p11 hp11=>?_⟩
    obtain ⟨H22,e22,s22,g22⟩:=a0F hp11 (.tup [V.ref p6,V.ref p10]);rw [e22]
    have s1722:=(((s18.trans s19).trans s20).trans s21).trans s22
    have s1622:=s17.trans s1722
    have s722:=s716.trans s1622
    refine ⟨g,p11,p6,p10,_,pl,S,_,Xd 300 c++[(b4,c.2)],rfl,hG7.same s722,hO,hrm,g22,s1722 _ _ g17,by omega,s22 _ _ g21,?_,by rw [Xl,Zj];simp only [Qj,Qr];omega,fun d hd=>?_,fun H23 s23=>?_⟩
    ·rw [Xo,Wo]
     exact a3y (a7w (p:=cw c) (s722 _ _ hx) 300) (prs1 (s1622 _ _ hy16))
    ·have e:d.2=c.2:=by
      rcases Xq.mp hd with m | m
      ·rw [List.eq_of_mem_replicate m]
      ·rw [Qq.mp m]
     rw [e];exact Qi (hs.eo _ hce).len ‹dc›
    have s723:=s722.trans s23
    have s1623:=s1622.trans s23
    refine ⟨s,T0,P0,E,Su,Ba,zr,ps,pl,ev,S,[c,(b4,c.2)],rfl,hs7.same s723,s723 _ _ hSu7,by omega,hSo,⟨_,s1623 _ _ g16,?_,fun d hd=>?_⟩,by simp,fun H24 s24=>?_⟩
    ·exact a3y (a:=[cw c]) (a7w (p:=cw c) (s723 _ _ hx) 1) (prs1 (s1623 _ _ hy16))
    ·rcases Qw.mp hd with e | e
     ·rw [e];exact hce
     ·rw [Qq.mp e];exact hce
    refine a9a (by rw [a8H 299]) ⟨_,rfl,?_⟩
    rw [if_neg Qn]
    exact ⟨_,_,rfl,s723.trans s24⟩
   ·rintro σ' H11 ⟨x10,x11,rfl,s11⟩
    simp only [a0M,tOp,a0A,a0k,a0q,Qb,Qa,a6c,tCB,a0B,Qf,tC,a0b]
    exact all H11 s11 _ fun Hy sy=>b2v.mpr (q _)
end
end K52
open PySem PySem.W PyProof.Rows
namespace K52
open PySem PySem.W L2
noncomputable def adr:Adr:=⟨28,kG "keyed" "keyed" a8v m1 27,33,kG "all_among" "all_among" a6J m1 32,38,kG "any_among" "any_among" a6Y m1 37,45,kG "opposite" "opposite" a7q m2 44,50,kG "is_sure_set" "is_sure_set" a3X m3 49,55,kG "is_beaten" "is_beaten" a6R m4 54,60,kG "holds_by" "holds_by" a5a m4 59,65,kG "refused_by" "refused_by" a5q m4 64,70,kG "with_word" "with_word" a6L m5 69,77,kG "follows" "follows" a8i m5 76,82,kG "lets_by" "lets_by" a6C m5 81,96,kG "__init__" "Rule.__init__" a7W m6 95,110,kG "speaks" "Rule.speaks" a9p m6 109,117,kG "is_sure" "Rule.is_sure" a9g m6 116,166,kG "__init__" "Fact.__init__" a7Q m6 165,173,kG "word" "Fact.word" a9w m6 172,180,kG "is_sure" "Fact.is_sure" a9f m6 179,213,kG "word" "Sure.word" a7s m6 212,220,kG "is_sure" "Sure.is_sure" a8w m6 219,246,kG "word" "Most.word" a8C m6 245,272,kG "word" "Block.word" a8x m6 271,279,kG "speaks" "Block.speaks" a8p m6 278,305,kG "__init__" "Ground.__init__" a7m m7 304,312,kG "rules" "Ground.rules" a8K m7 311,319,kG "ruling" "Ground.ruling" a9l m7 318,324,kG "speaking" "Ground.speaking" a6o m7 323,331,kG "against" "Ground.against" a7i m7 330,338,kG "beats" "Ground.beats" a8B m7 337,366,kG "_law_cell_at" "_law_cell_at" a7u m8 365,373,kG "_law_mix" "_law_mix" a8M m8 372,378,kG "_law_words" "_law_words" a6r m8 377,385,kG "_law_opposed" "_law_opposed" a7Y m8 384,392,kG "_law_pool" "_law_pool" a9q m8 391,399,kG "_law_drawn" "_law_drawn" a7V m8 398,406,kG "_law_numbers" "_law_numbers" a9h m8 405,411,kG "_law_rule" "_law_rule" a6S m8 410,418,kG "_law_pairs" "_law_pairs" a7E m8 417,425,kG "_law_turned" "_law_turned" a7C m8 424,430,kG "_law_scene" "_law_scene" a6v m8 429,437,kG "_law_firm" "_law_firm" a8r m8 436,444,kG "_law_stands" "_law_stands" a9o m8 443,451,kG "_law_falls" "_law_falls" a8u m8 450,456,kG "_law_speaking" "_law_speaking" a6F m8 455,461,kG "_law_against" "_law_against" a6x m8 460,468,kG "_law_beaten" "_law_beaten" a7I m8 467,473,kG "_law_may_hold" "_law_may_hold" a7e m8 472,478,kG "_law_may_refuse" "_law_may_refuse" a6V m8 477,485,kG "_law_sures" "_law_sures" a7K m8 484,492,kG "_law_grown" "_law_grown" a8g m8 491,497,kG "_law_sure_set" "_law_sure_set" a6B m8 496,504,kG "_law_due" "_law_due" a8X m8 503,511,kG "_law_moved" "_law_moved" a7v m8 510,518,kG "_law_otherwise" "_law_otherwise" a7U m8 517,525,kG "law" "law" a3l m8 524,148,197,230,256,289,355⟩
theorem b6k {K:Qc} {n q:String} {s:Stmt} {m:Value} {f c:Nat} (l:K.lookup f=some (kF n q s m c)) (e:Ue K (.ref c) q=true) (k:Zn K (.ref f)=true):Fun K n q s f (kG n q s m c):=b5u l e k
theorem txt (P:Params) {h:Heap} {mg:Str→Option Value} (X:(a4T P).In h) (G:h.Ns mainGlobals mg):Txt (a4T P) mg adr:=by
 constructor
 case k_HELD=>exact ⟨236,Wb X G (by kernel_rfl)⟩
 case k_REFUSED=>exact ⟨238,Wb X G (by kernel_rfl)⟩
 all_goals first
  | exact b6k (by kernel_rfl) (by kernel_rfl) (by kernel_rfl)
  | exact .all fun us hl=>match us,hl with | [_],_=>rfl
  | exact .all fun us hl=>match us,hl with | [_,_],_=>rfl
  | exact .all fun us hl=>match us,hl with | [_,_,_],_=>rfl
  | exact .all fun us hl=>match us,hl with | [_,_,_,_],_=>rfl
  | exact .all fun us hl=>match us,hl with | [_,_,_,_,_],_=>rfl
  | exact Wb X G (by kernel_rfl)
  | exact PySem.W.mg_none_of X G (by kernel_rfl)
  | kernel_rfl
  | exact ⟨by kernel_rfl,by kernel_rfl,by kernel_rfl⟩
  | exact ⟨by kernel_rfl,by kernel_rfl,by kernel_rfl,by kernel_rfl⟩
  | exact (by kernel_rfl:Yn _ _ _=_)
  | exact b3L (by k_is) (by kernel_rfl) (by kernel_rfl) (by kernel_rfl)
end K52
theorem K52.said0:PySem.Challenge.rw_mostwise_k52_papers_let_by.wellSaid=true:=by kernel_rfl
set_option maxRecDepth 100000 in
set_option maxHeartbeats 0 in
theorem PySem.Challenge.cw_mostwise_k52_papers_let_by_holds : PySem.Challenge.rw_mostwise_k52_papers_let_by.Holds := by
 w_on;refine PySem.W.holds_law K52.said0 fun said=>?_
 refine PySem.W.holds_open (q:=K52.b3d) (loose:=[]) (Xt:=fun s=>PySem.W.xlAt K52.b3d [] s && PySem.W.recOk (PySem.W.RowW.records (PySem.W.OpenRow.toRowW PySem.Challenge.rw_mostwise_k52_papers_let_by.row)) s) (XP:=PySem.W.XL K52.b3d []) (Yf:=Jy.obs (Jp K52.a4T K52.a6p K52.a9A)) (Ya:=Jy.val (Jp K52.a4T K52.a6p K52.a9A)) (YP:=Jy.says (Jp K52.a4T K52.a6p K52.a9A)) (N:=6872) ?hl (Jy.of (Jp K52.a4T K52.a6p K52.a9A)) (Jy.keeps (Jp K52.a4T K52.a6p K52.a9A)) (fun s e=>PySem.W.xl_of s (Vy.mp e).1) PySem.W.XL.keeps (by rfl) (by rfl) (by rfl) (fun s e=>PySem.W.recFacts_of (Vy.mp e).2) (by rfl) (by first | assumption | decide+kernel) ‹dk› ⟨rfl,rfl,rfl,rfl,rfl,by decide+kernel⟩ ?hw ?hc
 (case hl=>refine PySem.W.LeftO.of_pieces (H₀:=K52.H0) (H₁:=K52.H1) (gs₀:=#[]) (gs₁:=#[]) (d₀:={}) (d₁:={}) (k₀:=181) (k₁:=870) (m₀:=11) (ann:=(some (.ref 6))) (M:=3391) K52.b7m ?_ K52.b8h rfl ?_<;>(intro w;kernel_rfl))
 (case hw=>w_witness2)
 k_fill
 refine L2.b0o (l:=PySem.Challenge.rw_mostwise_k52_papers_let_by) (n:=63) (k:=8) (x:="_law_script") (CX:=L2.CX0) (sp:=K52.b2T) rfl ‹dc› rfl ⟨rfl,by decide,by decide⟩ (fun w h Y=>PySem.W.kIn_of Y) ?F (fun K H a ns hl hO hS=>K52.a9V hl hO hS) (fun _ _ _ _ z=>z)
 case F=>
  intro w mg fa h KX G hmg
  have T:K52.Txt (L2.KOf KX) mg K52.adr:=K52.txt w.params KX G
  obtain ⟨_,_,_,_,_,_,_,_,_,e2,_,_⟩:=T.F_d_law.ex
  have e0:=hmg.symm.trans T.g_d_law
  cases e0
  exact ⟨K52.adr.fd_d_law,fun s u=>by rw [e2];exact .of_eq rfl,fun base kb nb=>K52.b0x T⟩
