import PyProof.Rows.All
import Wide.All
import OpenK.AllK
import Wide.FinOn
import Lean
import PyProof.EqAt
import PyProof.EqKinds
import PyProof.TupleCall
import PyProof.StrLawsChain
import PyProof.StrLawsIn
import PyProof.Rows.StrNews2
import PyProof.StrBlockL
import PyProof.Rows.StrClose3
import PyProof.Rows.StrClose5
import PyProof.Rows.StrFirst
import PyProof.WalkInts
import PyProof.StrOps
import PyProof.WalksEnum
import PyProof.EnumMake
import PyProof.NeKinds
import KE.KEqDict
import KE.KRevIter
import PyProof.DictWalks
import PyProof.DictValues
import PyProof.ListRange
import PyProof.CollectIter
import PyProof.ZipIter
import PyProof.Rows.ZipGen
import PyProof.FString5
import KE.KDictLaws
import KE.KDictSum
import KE.KSortTup
import PyProof.Rows.SortStr
import PyProof.DictItems
import KE.KPairComp
import KE.KUnpack
import PyProof.P3Eq
import PyProof.Rows.SetFrom
import PySem.Challenge.RW_mostwise_k54_whole_no_paper_lies
set_option Elab.async false
set_option linter.all false
set_option maxRecDepth 100000
set_option maxHeartbeats 4000000
open List renaming getElem?_cons_zero → Qa, getElem?_cons_succ → Qb, length_map → Qc, getElem?_eq_getElem → Qe, append_nil → Qf, set_cons_succ → Qg, set_cons_zero → Qh, length_cons → Qj, size_toArray → Ql, mem_map → Qn, getElem_mem → Qq, length_nil → Qr, mem_singleton → Qt, mem_cons_of_mem → Qu, getElem?_eq_some_iff → Qv, length_filter_le → Qw, mem_cons → Qx, getElem?_map → Qy, length_append → Xa, mem_cons_self → Xg, mem_filter → Xi, take_succ_eq_append_getElem → Xl, map_cons → Xm, mem_append → Xn, map_append → Xo, length_take → Xp, Nodup → Xq, mem_append_right → Xu, any_eq_true → Xv, getElem?_append_right → Xw, getElem?_append_left → Xy, take_length → Xz, lookup_cons → Yc, getElem?_eq_none → Ye, filter_map → Yh, not_mem_nil → Yi, append_assoc → Yl, map_map → Ym, map_take → Yn, range → Yq, any_map → Yt, all_eq_true → Yu, length → Yv, nodup_cons → Yx, length_singleton → Yy, mem_append_left → Yz, lookup → Za, filter_cons → Ze, getElem_map → Zg, length_eq_zero_iff → Zh, find?_cons → Zi, drop_zero → Zl, mem_of_mem_take → Zm, getElem_of_mem → Zo, map_eq_nil_iff → Zp, filter_eq_self → Zq, nil_append → Zs, filter_append → Zw, all_map → Zx, nodup_nil → Zy, ext_getElem? → Zz, any_cons → Jc, length_drop → Jf, mem_of_getElem? → Ji, filterMap_cons → Jm, filter_filter → Jw, length_eraseIdx_of_lt → Jx, drop_eq_getElem_cons → Ub, map_nil → Ui, of_mem_zip → Ur, getElem?_set_self → Uu, take_of_length_le → Uy, getElem?_set_ne → Ve, getElem?_append → Vf, map → Vg, all_cons → Vj, length_reverse → Vn, map_congr_left → Vo, mem_filterMap → Vt, toArray → Vx
open PySem.W renaming Frag → Qd, kitOne → Yd, findIn → Yj, emptyDict → Yk, instObj → Ys, keepIn → Zc, callWith_K → Zt, fnOf → Zu, kHook → Jd, plainGet → Je, methodCall_KW → Jg, Hook → Jl, plainGet_of → Jo, lookIn → Jp, codeIn → Jr, methodObj → Jy, hasDictIn → Jz, takerIn → Uq, cellsFrom_some → Uv, typeIn → Va, subIn → Vk, mg_of → Vm, isFn → Vu, plainOver → Vy, specialIn → Wa, handedIn → Wb, makesIn → Wd, OpenLaw → We
open Nat renaming le_trans → Qi, le_refl → Qk, ne_of_lt → Xc, lt_of_lt_of_le → Xd, lt_of_le_of_lt → Xj, zero_le → Xr, le_succ → Zj, lt_irrefl → Zn, sub_zero → Jj, min_eq_left → Jk, add_le_add → Jt, le_of_eq → Ue, lt_succ_self → Uf, min_le_left → Us, le_of_lt → Vr, ne_of_gt → Vs, sub_self → Vw
open PySem.Heap renaming get?_push_of_some → Qm, lt_size → Qo, get?_push_size → Xh, get?_update_other → Ja, size_push → Jq, SameBut → Ud, get?_update_self → Vb
open Bool renaming false_ne_true → Qp, and_eq_true → Qs, not_eq_true' → Xb, eq_iff_iff → Yg, true_and → Yo, eq_false_iff → Yp, false_and → Zb, false_eq_true → Ju, and_eq_true_iff → Vi, and_true → Vl, or_eq_true_iff → Vp
open PySem.F renaming plainAttrs_list → Qz, slot_list_append → Xe, type_list_append → Xf, plainAttrs_str → Jb, slot_dict_get → Jh, slot_dict_setdefault → Js, args_tuple_add_2 → Uh, slot_list_extend → Uk, type_list_extend → Ul, entry_tuple_add → Um, args_dict_get_3 → Uo, plainAttrs_dict → Up, slot_tuple_add → Uw, entry_dict_get → Ux, slot_str_join → Vc, type_str_join → Vd
open PySem.PyData renaming strOk → Xk, keyHash → Yb, eqv → Yw, canLay0 → Zd, depth → Zf, str → Uc, depthAll → Ut
open PySem.Str renaming ofString → Xs
open PySem.SeqAt renaming EqAt → Xx, shaped → Zv, notIn_listAt → Vv
open Option renaming getD_some → Yr, map_some → Zr, isSome_iff_exists → Ug, map_eq_some_iff → Uz, isSome_map → Vz, getD_none → Wc
open PySem.Txt renaming startswith → Zk, slice → Jv, slice_le → Uj
open Array renaming length_toList → Jn, append_assoc → Vq
open Int renaming toNat_natCast → Ua
open Decidable renaming of_not_not → Vh
local macro_rules
 | `(‹sk›)=>`(⟨rfl,rfl,rfl,by decide+kernel,rfl,by decide+kernel,by decide+kernel⟩)
 | `(‹dk›)=>`(by decide+kernel)
 | `(‹iz›)=>`(by intro z;cases z)
 | `(‹dc›)=>`(by decide)
 | `(‹om›)=>`(by omega)
set_option compiler.extract_closed false
set_option bootstrap.genMatcherCode false
noncomputable section
namespace L2
open PySem PySem.Spec PyProof.Rows
def a0a (s:Stmt):Scope:=match s with
 | .FunctionDef _ _ _ _ _ _ sc _ _ _=>sc
 | _=>{kind:=.function,names:=[],isGenerator:=false,isCoroutine:=false}
def a0j (s:Stmt) (j:Nat):Stmt:=match s with
 | .ClassDef _ _ _ body _ _ _ _ _ _ _=>body.getD j (.Pass ⟨0,0,0,0⟩)
 | _=>.Pass ⟨0,0,0,0⟩
def a2R (s:Stmt):Arguments:=match s with
 | .FunctionDef _ a _ _ _ _ _ _ _ _=>a
 | _=>{posonlyargs:=[],args:=[],vararg:=none,kwonlyargs:=[],kw_defaults:=[],kwarg:=none,defaults:=[]}
def a2n (s:Stmt):List Stmt:=match s with
 | .FunctionDef _ _ b _ _ _ _ _ _ _=>b
 | _=>[]
end L2
namespace Tx
end Tx
namespace K54
open PySem L2 Tx
noncomputable def top (i:Nat):Stmt:=PySem.Challenge.pw_mostwise_k54_whole_no_paper_lies.main.body.getD i (.Pass ⟨0,0,0,0⟩)
abbrev a8i:Stmt:=top 2
abbrev a6I:Stmt:=top 3
abbrev a6c:Stmt:=top 4
abbrev a7N:Stmt:=top 6
abbrev a3H:Stmt:=top 8
abbrev a6z:Stmt:=top 12
abbrev a5l:Stmt:=top 13
abbrev a5n:Stmt:=top 14
abbrev a6w:Stmt:=top 16
abbrev a7f:Stmt:=top 17
abbrev a6i:Stmt:=top 18
abbrev a7R:Stmt:=a0j (top 20) 0
abbrev a8w:Stmt:=a0j (top 20) 2
abbrev a8J:Stmt:=a0j (top 20) 3
abbrev a7Q:Stmt:=a0j (top 21) 0
abbrev a6W:Stmt:=a0j (top 21) 1
abbrev a8B:Stmt:=a0j (top 21) 2
abbrev a8U:Stmt:=a0j (top 22) 0
abbrev a8A:Stmt:=a0j (top 22) 1
abbrev a7m:Stmt:=a0j (top 23) 0
abbrev a8D:Stmt:=a0j (top 24) 0
abbrev a8m:Stmt:=a0j (top 24) 1
abbrev a7n:Stmt:=a0j (top 26) 0
abbrev a7u:Stmt:=a0j (top 26) 1
abbrev a7W:Stmt:=a0j (top 26) 2
abbrev a6m:Stmt:=a0j (top 26) 3
abbrev a8K:Stmt:=a0j (top 26) 4
abbrev a8H:Stmt:=a0j (top 26) 5
abbrev a8p:Stmt:=top 28
abbrev a8r:Stmt:=top 29
abbrev a6h:Stmt:=top 30
abbrev a7V:Stmt:=top 31
abbrev a8b:Stmt:=top 32
abbrev a8h:Stmt:=top 33
abbrev a7C:Stmt:=top 34
abbrev a5Y:Stmt:=top 35
abbrev a7O:Stmt:=top 36
abbrev a7r:Stmt:=top 37
abbrev a6q:Stmt:=top 38
abbrev a7D:Stmt:=top 39
abbrev a7S:Stmt:=top 40
abbrev a7h:Stmt:=top 41
abbrev a5U:Stmt:=top 42
abbrev a6x:Stmt:=top 43
abbrev a7e:Stmt:=top 44
abbrev a6e:Stmt:=top 45
abbrev a6D:Stmt:=top 46
abbrev a8j:Stmt:=top 47
abbrev a8n:Stmt:=top 48
abbrev a5V:Stmt:=top 49
abbrev a7x:Stmt:=top 50
abbrev a5k:Stmt:=top 51
abbrev a2r:Stmt:=top 52
end K54
namespace K54
open PySem PySem.W L2
noncomputable section
noncomputable abbrev kE (P:Params) (x:String) (t:Nat) (v:Value):DictEntry:=⟨Yb P x,.str x t,v⟩
noncomputable abbrev kC (n q:String) (s:Stmt):Obj:=⟨.none,none,(.func ⟨n,q,a2R s,.stmts (a2n s),a0a s,0,[],.none,.none,.none,.none,none,.none,.none,0⟩),#[]⟩
noncomputable abbrev kD1 (n q:String) (t l a r u:Nat):Obj:=⟨.type "code",none,.fields #[.str n t,.str q (t+1),.str "/claim/cut.py" (t+2),.int l 0,.int a 0,.int 0 0,.int 0 0,.int 3 0,.ref r,.bool true,.int 181 0,.ref (r+1),.none,.ref (r+2),.ref (r+3),.ref (r+4),.int u 0,.int l 0,.str "/claim/cut.py" (u+1)],#[]⟩
noncomputable abbrev kD2 (n q:String) (t l a r u:Nat):Obj:=⟨.type "code",none,.fields #[.str n t,.str q (t+1),.str "/claim/cut.py" (t+2),.int l 0,.int a 0,.int 0 0,.int 0 0,.int 3 0,.ref r,.bool true,.int 181 0,.ref (r+1),.none,.none,.none,.ref (r+2),.int u 0,.int l 0,.str "/claim/cut.py" (u+1)],#[]⟩
noncomputable abbrev kG (n q:String) (s:Stmt) (m:Value) (c:Nat):FuncData:=Zu n q (a2R s) (a2n s) (a0a s) .none .none .none m none (.ref c) .none
noncomputable abbrev kF (n q:String) (s:Stmt) (m:Value) (c:Nat):Obj:=⟨.type "function",none,.func (kG n q s m c),#[]⟩
noncomputable abbrev kTs:Nat→List String→List Value
 | _,[]=>[]
 | t,x::l=>.str x t::kTs (t+1) l
noncomputable abbrev kT (t:Nat) (l:List String):Obj:=⟨.type "tuple",none,.seq ⟨kTs t l⟩ 0,#[]⟩
noncomputable abbrev kBs (f:String→Value) (P:Params):Nat→List String→List DictEntry
 | _,[]=>[]
 | t,x::l=>kE P x t (f x)::kBs f P (t+1) l
noncomputable abbrev kLs:List (Nat×Nat×Nat)→List Value
 | []=>[]
 | (a,b,c)::l=>.int a 0::.int b 0::.ref c::kLs l
noncomputable abbrev kL (l:List (Nat×Nat×Nat)):Obj:=⟨.none,none,.fields ⟨kLs l⟩,#[]⟩
noncomputable abbrev kQ (l:List DictEntry) (n:Nat):Obj:=⟨.type "dict",none,.dict ⟨l⟩ n,#[]⟩
noncomputable def kU:Obj:=⟨.type "tuple",none,.seq #[] 0,#[]⟩
noncomputable def kN:Obj:=⟨.none,none,.fields #[],#[]⟩
noncomputable abbrev m0:Value:=.str "__main__" 164
noncomputable abbrev m1:Value:=.str "mostwise.among" 194
noncomputable abbrev m2:Value:=.str "mostwise.words" 217
noncomputable abbrev m3:Value:=.str "mostwise.sure" 226
noncomputable abbrev m4:Value:=.str "mostwise.mostly" 234
noncomputable abbrev m5:Value:=.str "mostwise.papers" 258
noncomputable abbrev m6:Value:=.str "mostwise.rules" 284
noncomputable abbrev m7:Value:=.str "mostwise.ground" 536
noncomputable abbrev m8:Value:=.str "law_mostwise_k54_whole_no_paper_lies" 628
def o0 (P:Params):Obj:=kQ ([kE P "__name__" 1 (.str "builtins" 160),kE P "__doc__" 2 (.builtin "builtins.__doc__:str#opaque"),kE P "__package__" 3 (.builtin "builtins.__package__:str#opaque"),kE P "__loader__" 4 (.builtin "builtins.__loader__:shared#opaque"),kE P "__spec__" 5 (.builtin "builtins.__spec__#opaque")]++kBs .builtin P 6 ["__build_class__","__import__","abs","all","any","ascii","bin","breakpoint","callable","chr","compile","delattr","dir","divmod","eval","exec","format","getattr","globals","hasattr","hash","hex","id","input","isinstance","issubclass","iter","aiter","len","locals","max","min","next","anext","oct","ord","pow","print","repr","round","setattr","sorted","sum","vars"]++[kE P "None" 50 .none,kE P "Ellipsis" 51 .ellipsis,kE P "NotImplemented" 52 .notImplemented,kE P "False" 53 (.bool false),kE P "True" 54 (.bool true)]++kBs .type P 55 ["bool","memoryview","bytearray","bytes","classmethod","complex","dict","enumerate","filter","float","frozenset","property","int","list","map","object","range","reversed","set","slice","staticmethod","str","super","tuple","type","zip"]++[kE P "__debug__" 81 (.bool true)]++kBs .type P 82 ["BaseException","BaseExceptionGroup","Exception","GeneratorExit","KeyboardInterrupt","SystemExit","ArithmeticError","AssertionError","AttributeError","BufferError","EOFError","ImportError","LookupError","MemoryError","NameError","OSError","ReferenceError","RuntimeError","StopAsyncIteration","StopIteration","SyntaxError","SystemError","TypeError","ValueError","Warning","FloatingPointError","OverflowError","ZeroDivisionError","BytesWarning","DeprecationWarning","EncodingWarning","FutureWarning","ImportWarning","PendingDeprecationWarning","ResourceWarning","RuntimeWarning","SyntaxWarning","UnicodeWarning","UserWarning","BlockingIOError","ChildProcessError","ConnectionError","FileExistsError","FileNotFoundError","InterruptedError","IsADirectoryError","NotADirectoryError","PermissionError","ProcessLookupError","TimeoutError"]++kBs .type P 132 ["IndentationError","_IncompleteInputError","IndexError","KeyError","ModuleNotFoundError","NotImplementedError","PythonFinalizationError","RecursionError","UnboundLocalError","UnicodeError","BrokenPipeError","ConnectionAbortedError","ConnectionRefusedError","ConnectionResetError","TabError","UnicodeDecodeError","UnicodeEncodeError","UnicodeTranslateError","ExceptionGroup"]++[kE P "EnvironmentError" 151 (.type "OSError"),kE P "IOError" 152 (.type "OSError"),kE P "open" 153 (.builtin "open"),kE P "quit" 154 (.builtin "builtins.quit#opaque"),kE P "exit" 155 (.builtin "builtins.exit#opaque"),kE P "copyright" 156 (.builtin "builtins.copyright#opaque"),kE P "credits" 157 (.builtin "builtins.credits#opaque"),kE P "license" 158 (.builtin "builtins.license#opaque"),kE P "help" 159 (.builtin "builtins.help#opaque")]) 159
def o1 (P:Params):Obj:=kQ [kE P "builtins" 162 (.ref 4),kE P "__main__" 163 (.ref 5)] 2
noncomputable def o2:Obj:=⟨.none,none,(.dict #[] 0),#[]⟩
def o3 (P:Params):Obj:=kQ ([kE P "__name__" 165 (.str "law_mostwise_k54_whole_no_paper_lies" 628),kE P "__doc__" 166 .none,kE P "__package__" 167 .none,kE P "__loader__" 168 (.builtin "__main__.__loader__#opaque"),kE P "__spec__" 169 .none,kE P "__annotations__" 170 (.ref 6),kE P "__builtins__" 171 (.ref 4),kE P "__file__" 173 (.str "/claim/cut.py" 172),kE P "__cached__" 174 .none,kE P "_wall" 193 (.ref 21),kE P "keyed" 204 (.ref 28),kE P "all_among" 210 (.ref 33),kE P "any_among" 216 (.ref 38),kE P "opposite" 225 (.ref 45),kE P "is_sure_set" 233 (.ref 50),kE P "HELD" 237 (.str "held" 236),kE P "REFUSED" 239 (.str "refused" 238),kE P "is_beaten" 245 (.ref 55),kE P "holds_by" 251 (.ref 60),kE P "refused_by" 257 (.ref 65),kE P "with_word" 265 (.ref 70),kE P "follows" 277 (.ref 77),kE P "lets_by" 283 (.ref 82),kE P "Rule" 371 (.ref 148),kE P "Fact" 425 (.ref 197),kE P "Sure" 464 (.ref 230),kE P "Most" 496 (.ref 256),kE P "Block" 535 (.ref 289),kE P "Ground" 627 (.ref 355),kE P "_law_cell_at" 637 (.ref 366),kE P "_law_mix" 646 (.ref 373),kE P "_law_words" 652 (.ref 378),kE P "_law_opposed" 659 (.ref 385),kE P "_law_pool" 669 (.ref 392),kE P "_law_drawn" 678 (.ref 399),kE P "_law_numbers" 691 (.ref 406),kE P "_law_rule" 697 (.ref 411),kE P "_law_pairs" 709 (.ref 418),kE P "_law_turned" 717 (.ref 425),kE P "_law_scene" 723 (.ref 430),kE P "_law_firm" 730 (.ref 437),kE P "_law_stands" 739 (.ref 444),kE P "_law_falls" 748 (.ref 451),kE P "_law_speaking" 754 (.ref 456),kE P "_law_against" 760 (.ref 461),kE P "_law_beaten" 770 (.ref 468),kE P "_law_may_hold" 776 (.ref 473),kE P "_law_may_refuse" 782 (.ref 478),kE P "_law_sures" 792 (.ref 485),kE P "_law_grown" 805 (.ref 492)]++[kE P "_law_drawn_claims" 811 (.ref 497),kE P "_law_written" 825 (.ref 504),kE P "_law_follows" 831 (.ref 509),kE P "law" 837 (.ref 514)]) 54
noncomputable def o4:Obj:=⟨(.type "module"),(some 0),.plain,#[]⟩
noncomputable def o5:Obj:=⟨(.type "module"),(some 3),.plain,#[]⟩
noncomputable def o6:Obj:=⟨(.type "dict"),none,(.dict #[] 0),#[]⟩
noncomputable def o9:Obj:=⟨(.type "code"),none,(.fields #[(.str "<module>" 176),(.str "<module>" 177),(.str "/claim/cut.py" 178),(.int (1) 0),(.int (0) 0),(.int (0) 0),(.int (0) 0),(.int (0) 0),(.ref 7),(.bool false),(.int (175) 0),(.ref 8),.none,.none,.none,.none,(.int (179) 0),(.int (1) 0),(.str "/claim/cut.py" 180)]),#[]⟩
noncomputable def o10:Obj:=⟨(.type "frame"),none,.plain,#[(some (.ref 9)),(some (.ref 3)),(some (.ref 3)),none,(some (.str "__main__" 164)),none,(some (.ref 0))]⟩
def o12:Obj:=kL [(1,0,20),(5,0,27),(10,0,32),(12,0,37),(15,0,44),(18,0,49),(30,0,54),(32,0,59),(39,0,64),(47,0,69),(49,0,76),(57,0,81),(64,0,88),(94,0,158),(110,0,205),(120,0,238),(127,0,264),(138,0,297),(175,0,365),(179,0,372),(184,0,377),(198,0,384),(202,0,391),(208,0,398),(213,0,405),(223,0,410),(235,0,417),(244,0,424),(248,0,429),(258,0,436),(260,0,443),(265,0,450),(270,0,455),(272,0,460),(274,0,467),(279,0,472),(289,0,477),(299,0,484),(308,0,491),(325,0,496),(335,0,503),(343,0,508),(353,0,513)]
noncomputable def o13:Obj:=⟨(.type "code"),none,(.fields #[(.str "<module>" 182),(.str "<module>" 183),(.str "/claim/cut.py" 184),(.int (1) 0),(.int (0) 0),(.int (0) 0),(.int (0) 0),(.int (0) 0),(.ref 11),(.bool false),(.int (181) 0),(.ref 12),.none,.none,.none,.none,(.int (185) 0),(.int (1) 0),(.str "/claim/cut.py" 186)]),#[]⟩
noncomputable def o14:Obj:=⟨(.type "frame"),none,.plain,#[(some (.ref 13)),(some (.ref 3)),(some (.ref 3)),none,(some (.str "__main__" 164)),none,(some (.ref 0))]⟩
def o17:Obj:=kT 190 ["k"]
def o19:Obj:=kC "_wall" "_wall" (top 0)
def o20:Obj:=kD1 "_wall" "_wall" 187 1 1 15 191
def o21:Obj:=kF "_wall" "_wall" (top 0) m0 20
def o24:Obj:=kT 199 ["some","told","statement"]
def o26:Obj:=kC "keyed" "keyed" a8i
def o27:Obj:=kD1 "keyed" "keyed" 196 5 1 22 202
def o28:Obj:=kF "keyed" "keyed" a8i m1 27
def o31:Obj:=kC "all_among" "all_among" a6I
def o32:Obj:=kD2 "all_among" "all_among" 205 10 2 29 208
def o33:Obj:=kF "all_among" "all_among" a6I m1 32
def o36:Obj:=kC "any_among" "any_among" a6c
def o37:Obj:=kD2 "any_among" "any_among" 211 12 2 34 214
def o38:Obj:=kF "any_among" "any_among" a6c m1 37
def o41:Obj:=kT 222 ["statement"]
def o43:Obj:=kC "opposite" "opposite" a7N
def o44:Obj:=kD1 "opposite" "opposite" 219 15 1 39 223
def o45:Obj:=kF "opposite" "opposite" a7N m2 44
def o48:Obj:=kC "is_sure_set" "is_sure_set" a3H
def o49:Obj:=kD2 "is_sure_set" "is_sure_set" 228 18 2 46 231
def o50:Obj:=kF "is_sure_set" "is_sure_set" a3H m3 49
def o53:Obj:=kC "is_beaten" "is_beaten" a6z
def o54:Obj:=kD2 "is_beaten" "is_beaten" 240 30 3 51 243
def o55:Obj:=kF "is_beaten" "is_beaten" a6z m4 54
def o58:Obj:=kC "holds_by" "holds_by" a5l
def o59:Obj:=kD2 "holds_by" "holds_by" 246 32 5 56 249
def o60:Obj:=kF "holds_by" "holds_by" a5l m4 59
def o63:Obj:=kC "refused_by" "refused_by" a5n
def o64:Obj:=kD2 "refused_by" "refused_by" 252 39 5 61 255
def o65:Obj:=kF "refused_by" "refused_by" a5n m4 64
def o68:Obj:=kC "with_word" "with_word" a6w
def o69:Obj:=kD2 "with_word" "with_word" 260 47 2 66 263
def o70:Obj:=kF "with_word" "with_word" a6w m5 69
def o73:Obj:=kT 269 ["ground","sures","rows","claim","held","refused"]
def o75:Obj:=kC "follows" "follows" a7f
def o76:Obj:=kD1 "follows" "follows" 266 49 4 71 275
def o77:Obj:=kF "follows" "follows" a7f m5 76
def o80:Obj:=kC "lets_by" "lets_by" a6i
def o81:Obj:=kD2 "lets_by" "lets_by" 278 57 2 78 281
def o82:Obj:=kF "lets_by" "lets_by" a6i m5 81
noncomputable def o84:Obj:=⟨(.type "builtin_function_or_method"),none,(.fields #[(.builtin "type.__prepare__"),(.type "type")]),#[]⟩
def o85 (P:Params):Obj:=kQ [kE P "__module__" 293 (.str "mostwise.rules" 284),kE P "__qualname__" 295 (.str "Rule" 294),⟨Yb P "__firstlineno__",(.str "__firstlineno__" 297),(.int (64) 296)⟩,kE P "__init__" 307 (.ref 96),kE P "word" 314 (.ref 103),kE P "speaks" 321 (.ref 110),kE P "is_sure" 328 (.ref 117),kE P "letters" 335 (.ref 124),kE P "again" 344 (.ref 131),kE P "filled" 352 (.ref 138),kE P "row" 360 (.ref 145),kE P "__static_attributes__" 364 (.ref 146)] 12
def o87:Obj:=kL [(66,4,95),(71,4,102),(74,4,109),(77,4,116),(80,4,123),(83,4,130),(86,4,137),(89,4,144)]
noncomputable def o88:Obj:=⟨(.type "code"),none,(.fields #[(.str "Rule" 288),(.str "Rule" 289),(.str "/claim/cut.py" 290),(.int (64) 0),(.int (0) 0),(.int (0) 0),(.int (0) 0),(.int (0) 0),(.ref 86),(.bool false),(.int (181) 0),(.ref 87),.none,.none,.none,.none,(.int (291) 0),(.int (64) 0),(.str "/claim/cut.py" 292)]),#[]⟩
noncomputable def o89:Obj:=⟨(.type "frame"),none,.plain,#[(some (.ref 88)),(some (.ref 3)),(some (.ref 85)),none,(some (.str "mostwise.rules" 284)),none,(some (.ref 0))]⟩
def o92:Obj:=kT 301 ["self","label","head","body"]
def o94:Obj:=kC "__init__" "Rule.__init__" a7R
def o95:Obj:=kD1 "__init__" "Rule.__init__" 298 66 4 90 305
def o96:Obj:=kF "__init__" "Rule.__init__" a7R m6 95
def o99:Obj:=kT 311 ["self"]
def c2H:Obj:=kC "word" "Rule.word" (a0j (top 20) 1)
def b7J:Obj:=kD1 "word" "Rule.word" 308 71 1 97 312
def c0K:Obj:=kF "word" "Rule.word" (a0j (top 20) 1) m6 102
def b9q:Obj:=kT 318 ["self"]
def c0R:Obj:=kC "speaks" "Rule.speaks" a8w
def b9N:Obj:=kD1 "speaks" "Rule.speaks" 315 74 1 104 319
def b8R:Obj:=kF "speaks" "Rule.speaks" a8w m6 109
def c0b:Obj:=kT 325 ["self"]
def c2F:Obj:=kC "is_sure" "Rule.is_sure" a8J
def c0x:Obj:=kD1 "is_sure" "Rule.is_sure" 322 77 1 111 326
def b8d:Obj:=kF "is_sure" "Rule.is_sure" a8J m6 116
def b9R:Obj:=kT 332 ["self"]
def c1y:Obj:=kC "letters" "Rule.letters" (a0j (top 20) 4)
def b7k:Obj:=kD1 "letters" "Rule.letters" 329 80 1 118 333
def c2l:Obj:=kF "letters" "Rule.letters" (a0j (top 20) 4) m6 123
def b8G:Obj:=kT 339 ["self","head","body"]
def c2G:Obj:=kC "again" "Rule.again" (a0j (top 20) 5)
def b7D:Obj:=kD1 "again" "Rule.again" 336 83 3 125 342
def c2L:Obj:=kF "again" "Rule.again" (a0j (top 20) 5) m6 130
def b9u:Obj:=kT 348 ["self","given"]
def c1o:Obj:=kC "filled" "Rule.filled" (a0j (top 20) 6)
def b9i:Obj:=kD1 "filled" "Rule.filled" 345 86 2 132 350
def c2d:Obj:=kF "filled" "Rule.filled" (a0j (top 20) 6) m6 137
def b9E:Obj:=kT 356 ["self","words"]
def c2n:Obj:=kC "row" "Rule.row" (a0j (top 20) 7)
def b7G:Obj:=kD1 "row" "Rule.row" 353 89 1 139 358
def c2j:Obj:=kF "row" "Rule.row" (a0j (top 20) 7) m6 144
def b7W:Obj:=kT 361 ["body","head","label"]
def b7C (P:Params):Obj:=kQ [kE P "__module__" 293 (.str "mostwise.rules" 284),⟨Yb P "__firstlineno__",(.str "__firstlineno__" 297),(.int (64) 296)⟩,kE P "__init__" 307 (.ref 96),kE P "word" 314 (.ref 103),kE P "speaks" 321 (.ref 110),kE P "is_sure" 328 (.ref 117),kE P "letters" 335 (.ref 124),kE P "again" 344 (.ref 131),kE P "filled" 352 (.ref 138),kE P "row" 360 (.ref 145),kE P "__static_attributes__" 364 (.ref 146),kE P "__dict__" 366 (.ref 149),kE P "__weakref__" 368 (.ref 150),kE P "__doc__" 369 .none] 4
noncomputable def b8W:Obj:=⟨(.type "type"),none,(.cls ⟨"Rule",[(.type "object")],[(.ref 148),(.type "object")],147,"Rule",true,[],[(.ref 197),(.ref 230),(.ref 256),(.ref 289)],false,none,false⟩),#[none,none,(some (.str "Rule" 286)),(some (.str "Rule" 294)),(some (.builtin "object.__new__")),(some (.bool true))]⟩
noncomputable def c0s:Obj:=⟨(.type "getset_descriptor"),none,(.fields #[(.str "__dict__" 365),(.ref 148),(.builtin "function.__dict__"),(.builtin "function.__dict__#set")]),#[]⟩
noncomputable def b7M:Obj:=⟨(.type "getset_descriptor"),none,(.fields #[(.str "__weakref__" 367),(.ref 148),(.builtin "ExceptionGroup.__weakref__"),.none]),#[]⟩
noncomputable def c0D:Obj:=⟨(.type "super"),none,(.fields #[(.ref 148),(.ref 148),(.ref 148)]),#[]⟩
noncomputable def c1c:Obj:=⟨(.type "builtin_function_or_method"),none,(.fields #[(.builtin "object.__init_subclass__"),(.ref 148)]),#[]⟩
noncomputable def b9b:Obj:=⟨(.type "tuple"),none,(.seq #[(.ref 148)] 0),#[]⟩
noncomputable def c2D:Obj:=⟨(.type "builtin_function_or_method"),none,(.fields #[(.builtin "type.__prepare__"),(.type "type")]),#[]⟩
def c1Z (P:Params):Obj:=kQ [kE P "__module__" 379 (.str "mostwise.rules" 284),kE P "__qualname__" 381 (.str "Fact" 380),⟨Yb P "__firstlineno__",(.str "__firstlineno__" 383),(.int (94) 382)⟩,kE P "__init__" 391 (.ref 166),kE P "word" 398 (.ref 173),kE P "is_sure" 405 (.ref 180),kE P "again" 414 (.ref 187),kE P "row" 421 (.ref 194),kE P "__static_attributes__" 422 (.ref 195)] 9
def c0C:Obj:=kL [(96,4,165),(99,4,172),(102,4,179),(105,4,186),(108,4,193)]
noncomputable def c1r:Obj:=⟨(.type "code"),none,(.fields #[(.str "Fact" 374),(.str "Fact" 375),(.str "/claim/cut.py" 376),(.int (94) 0),(.int (0) 0),(.int (0) 0),(.int (0) 0),(.int (0) 0),(.ref 156),(.bool false),(.int (181) 0),(.ref 157),.none,.none,.none,.none,(.int (377) 0),(.int (94) 0),(.str "/claim/cut.py" 378)]),#[]⟩
noncomputable def c1D:Obj:=⟨(.type "frame"),none,.plain,#[(some (.ref 158)),(some (.ref 3)),(some (.ref 155)),none,(some (.str "mostwise.rules" 284)),none,(some (.ref 0))]⟩
def c0o:Obj:=kT 387 ["self","head"]
def c0E:Obj:=kC "__init__" "Fact.__init__" a7Q
def b8h:Obj:=kD1 "__init__" "Fact.__init__" 384 96 2 160 389
def c0e:Obj:=kF "__init__" "Fact.__init__" a7Q m6 165
def b8D:Obj:=kT 395 ["self"]
def c0Y:Obj:=kC "word" "Fact.word" a6W
def c0f:Obj:=kD1 "word" "Fact.word" 392 99 1 167 396
def b7Y:Obj:=kF "word" "Fact.word" a6W m6 172
def b9j:Obj:=kT 402 ["self"]
def c1O:Obj:=kC "is_sure" "Fact.is_sure" a8B
def b9L:Obj:=kD1 "is_sure" "Fact.is_sure" 399 102 1 174 403
def c0h:Obj:=kF "is_sure" "Fact.is_sure" a8B m6 179
def b9T:Obj:=kT 409 ["self","head","body"]
def c2a:Obj:=kC "again" "Fact.again" (a0j (top 21) 3)
def b7S:Obj:=kD1 "again" "Fact.again" 406 105 3 181 412
def c1m:Obj:=kF "again" "Fact.again" (a0j (top 21) 3) m6 186
def b7Q:Obj:=kT 418 ["self"]
def c0J:Obj:=kC "row" "Fact.row" (a0j (top 21) 4)
def b7y:Obj:=kD1 "row" "Fact.row" 415 108 1 188 419
def c1N:Obj:=kF "row" "Fact.row" (a0j (top 21) 4) m6 193
def b7i (P:Params):Obj:=kQ [kE P "__module__" 379 (.str "mostwise.rules" 284),⟨Yb P "__firstlineno__",(.str "__firstlineno__" 383),(.int (94) 382)⟩,kE P "__init__" 391 (.ref 166),kE P "word" 398 (.ref 173),kE P "is_sure" 405 (.ref 180),kE P "again" 414 (.ref 187),kE P "row" 421 (.ref 194),kE P "__static_attributes__" 422 (.ref 195),kE P "__doc__" 423 .none] 2
noncomputable def b8L:Obj:=⟨(.type "type"),none,(.cls ⟨"Fact",[(.ref 148)],[(.ref 197),(.ref 148),(.type "object")],196,"Fact",true,[],[],false,none,false⟩),#[(some (.ref 153)),none,(some (.str "Fact" 372)),(some (.str "Fact" 380)),(some (.builtin "object.__new__")),(some (.bool true))]⟩
noncomputable def c1F:Obj:=⟨(.type "super"),none,(.fields #[(.ref 197),(.ref 197),(.ref 197)]),#[]⟩
noncomputable def c0W:Obj:=⟨(.type "builtin_function_or_method"),none,(.fields #[(.builtin "object.__init_subclass__"),(.ref 197)]),#[]⟩
noncomputable def b9p:Obj:=⟨(.type "tuple"),none,(.seq #[(.ref 148)] 0),#[]⟩
noncomputable def c0B:Obj:=⟨(.type "builtin_function_or_method"),none,(.fields #[(.builtin "type.__prepare__"),(.type "type")]),#[]⟩
def c1E (P:Params):Obj:=kQ [kE P "__module__" 433 (.str "mostwise.rules" 284),kE P "__qualname__" 435 (.str "Sure" 434),⟨Yb P "__firstlineno__",(.str "__firstlineno__" 437),(.int (110) 436)⟩,kE P "word" 444 (.ref 213),kE P "is_sure" 451 (.ref 220),kE P "again" 460 (.ref 227),kE P "__static_attributes__" 461 (.ref 228)] 7
def c2w:Obj:=kL [(112,4,212),(115,4,219),(118,4,226)]
noncomputable def c0O:Obj:=⟨(.type "code"),none,(.fields #[(.str "Sure" 428),(.str "Sure" 429),(.str "/claim/cut.py" 430),(.int (110) 0),(.int (0) 0),(.int (0) 0),(.int (0) 0),(.int (0) 0),(.ref 203),(.bool false),(.int (181) 0),(.ref 204),.none,.none,.none,.none,(.int (431) 0),(.int (110) 0),(.str "/claim/cut.py" 432)]),#[]⟩
noncomputable def c1T:Obj:=⟨(.type "frame"),none,.plain,#[(some (.ref 205)),(some (.ref 3)),(some (.ref 202)),none,(some (.str "mostwise.rules" 284)),none,(some (.ref 0))]⟩
def b8C:Obj:=kT 441 ["self"]
def c2o:Obj:=kC "word" "Sure.word" a8U
def b8e:Obj:=kD1 "word" "Sure.word" 438 112 1 207 442
def b8S:Obj:=kF "word" "Sure.word" a8U m6 212
def b9h:Obj:=kT 448 ["self"]
def c2S:Obj:=kC "is_sure" "Sure.is_sure" a8A
def b7w:Obj:=kD1 "is_sure" "Sure.is_sure" 445 115 1 214 449
def b7t:Obj:=kF "is_sure" "Sure.is_sure" a8A m6 219
def b9n:Obj:=kT 455 ["self","head","body"]
def c2O:Obj:=kC "again" "Sure.again" (a0j (top 22) 2)
def b9C:Obj:=kD1 "again" "Sure.again" 452 118 3 221 458
def c1d:Obj:=kF "again" "Sure.again" (a0j (top 22) 2) m6 226
def c0t (P:Params):Obj:=kQ [kE P "__module__" 433 (.str "mostwise.rules" 284),⟨Yb P "__firstlineno__",(.str "__firstlineno__" 437),(.int (110) 436)⟩,kE P "word" 444 (.ref 213),kE P "is_sure" 451 (.ref 220),kE P "again" 460 (.ref 227),kE P "__static_attributes__" 461 (.ref 228),kE P "__doc__" 462 .none] 2
noncomputable def b8N:Obj:=⟨(.type "type"),none,(.cls ⟨"Sure",[(.ref 148)],[(.ref 230),(.ref 148),(.type "object")],229,"Sure",true,[],[],false,none,false⟩),#[(some (.ref 200)),none,(some (.str "Sure" 426)),(some (.str "Sure" 434)),(some (.builtin "object.__new__")),(some (.bool true))]⟩
noncomputable def c1h:Obj:=⟨(.type "super"),none,(.fields #[(.ref 230),(.ref 230),(.ref 230)]),#[]⟩
noncomputable def c2g:Obj:=⟨(.type "builtin_function_or_method"),none,(.fields #[(.builtin "object.__init_subclass__"),(.ref 230)]),#[]⟩
noncomputable def b8s:Obj:=⟨(.type "tuple"),none,(.seq #[(.ref 148)] 0),#[]⟩
noncomputable def c2N:Obj:=⟨(.type "builtin_function_or_method"),none,(.fields #[(.builtin "type.__prepare__"),(.type "type")]),#[]⟩
def c0L (P:Params):Obj:=kQ [kE P "__module__" 472 (.str "mostwise.rules" 284),kE P "__qualname__" 474 (.str "Most" 473),⟨Yb P "__firstlineno__",(.str "__firstlineno__" 476),(.int (120) 475)⟩,kE P "word" 483 (.ref 246),kE P "again" 492 (.ref 253),kE P "__static_attributes__" 493 (.ref 254)] 6
def c2h:Obj:=kL [(122,4,245),(125,4,252)]
noncomputable def c2y:Obj:=⟨(.type "code"),none,(.fields #[(.str "Most" 467),(.str "Most" 468),(.str "/claim/cut.py" 469),(.int (120) 0),(.int (0) 0),(.int (0) 0),(.int (0) 0),(.int (0) 0),(.ref 236),(.bool false),(.int (181) 0),(.ref 237),.none,.none,.none,.none,(.int (470) 0),(.int (120) 0),(.str "/claim/cut.py" 471)]),#[]⟩
noncomputable def c2v:Obj:=⟨(.type "frame"),none,.plain,#[(some (.ref 238)),(some (.ref 3)),(some (.ref 235)),none,(some (.str "mostwise.rules" 284)),none,(some (.ref 0))]⟩
def b7I:Obj:=kT 480 ["self"]
def c0T:Obj:=kC "word" "Most.word" a7m
def b7l:Obj:=kD1 "word" "Most.word" 477 122 1 240 481
def b8r:Obj:=kF "word" "Most.word" a7m m6 245
def b8p:Obj:=kT 487 ["self","head","body"]
def c1t:Obj:=kC "again" "Most.again" (a0j (top 23) 1)
def b9H:Obj:=kD1 "again" "Most.again" 484 125 3 247 490
def c1L:Obj:=kF "again" "Most.again" (a0j (top 23) 1) m6 252
def b8o (P:Params):Obj:=kQ [kE P "__module__" 472 (.str "mostwise.rules" 284),⟨Yb P "__firstlineno__",(.str "__firstlineno__" 476),(.int (120) 475)⟩,kE P "word" 483 (.ref 246),kE P "again" 492 (.ref 253),kE P "__static_attributes__" 493 (.ref 254),kE P "__doc__" 494 .none] 2
noncomputable def b7m:Obj:=⟨(.type "type"),none,(.cls ⟨"Most",[(.ref 148)],[(.ref 256),(.ref 148),(.type "object")],255,"Most",true,[],[],false,none,false⟩),#[(some (.ref 233)),none,(some (.str "Most" 465)),(some (.str "Most" 473)),(some (.builtin "object.__new__")),(some (.bool true))]⟩
noncomputable def c2E:Obj:=⟨(.type "super"),none,(.fields #[(.ref 256),(.ref 256),(.ref 256)]),#[]⟩
noncomputable def c2c:Obj:=⟨(.type "builtin_function_or_method"),none,(.fields #[(.builtin "object.__init_subclass__"),(.ref 256)]),#[]⟩
noncomputable def b8B:Obj:=⟨(.type "tuple"),none,(.seq #[(.ref 148)] 0),#[]⟩
noncomputable def c2A:Obj:=⟨(.type "builtin_function_or_method"),none,(.fields #[(.builtin "type.__prepare__"),(.type "type")]),#[]⟩
def c0F (P:Params):Obj:=kQ [kE P "__module__" 504 (.str "mostwise.rules" 284),kE P "__qualname__" 506 (.str "Block" 505),⟨Yb P "__firstlineno__",(.str "__firstlineno__" 508),(.int (127) 507)⟩,kE P "word" 515 (.ref 272),kE P "speaks" 522 (.ref 279),kE P "again" 531 (.ref 286),kE P "__static_attributes__" 532 (.ref 287)] 7
def c1H:Obj:=kL [(129,4,271),(132,4,278),(135,4,285)]
noncomputable def c1V:Obj:=⟨(.type "code"),none,(.fields #[(.str "Block" 499),(.str "Block" 500),(.str "/claim/cut.py" 501),(.int (127) 0),(.int (0) 0),(.int (0) 0),(.int (0) 0),(.int (0) 0),(.ref 262),(.bool false),(.int (181) 0),(.ref 263),.none,.none,.none,.none,(.int (502) 0),(.int (127) 0),(.str "/claim/cut.py" 503)]),#[]⟩
noncomputable def c2B:Obj:=⟨(.type "frame"),none,.plain,#[(some (.ref 264)),(some (.ref 3)),(some (.ref 261)),none,(some (.str "mostwise.rules" 284)),none,(some (.ref 0))]⟩
def b7Z:Obj:=kT 512 ["self"]
def c1C:Obj:=kC "word" "Block.word" a8D
def b8Z:Obj:=kD1 "word" "Block.word" 509 129 1 266 513
def b9I:Obj:=kF "word" "Block.word" a8D m6 271
def b7P:Obj:=kT 519 ["self"]
def c2s:Obj:=kC "speaks" "Block.speaks" a8m
def b8n:Obj:=kD1 "speaks" "Block.speaks" 516 132 1 273 520
def b8w:Obj:=kF "speaks" "Block.speaks" a8m m6 278
def b9x:Obj:=kT 526 ["self","head","body"]
def c1G:Obj:=kC "again" "Block.again" (a0j (top 24) 2)
def b9O:Obj:=kD1 "again" "Block.again" 523 135 3 280 529
def c2J:Obj:=kF "again" "Block.again" (a0j (top 24) 2) m6 285
def b8Q (P:Params):Obj:=kQ [kE P "__module__" 504 (.str "mostwise.rules" 284),⟨Yb P "__firstlineno__",(.str "__firstlineno__" 508),(.int (127) 507)⟩,kE P "word" 515 (.ref 272),kE P "speaks" 522 (.ref 279),kE P "again" 531 (.ref 286),kE P "__static_attributes__" 532 (.ref 287),kE P "__doc__" 533 .none] 2
noncomputable def b7g:Obj:=⟨(.type "type"),none,(.cls ⟨"Block",[(.ref 148)],[(.ref 289),(.ref 148),(.type "object")],288,"Block",true,[],[],false,none,false⟩),#[(some (.ref 259)),none,(some (.str "Block" 497)),(some (.str "Block" 505)),(some (.builtin "object.__new__")),(some (.bool true))]⟩
noncomputable def c1K:Obj:=⟨(.type "super"),none,(.fields #[(.ref 289),(.ref 289),(.ref 289)]),#[]⟩
noncomputable def c1Q:Obj:=⟨(.type "builtin_function_or_method"),none,(.fields #[(.builtin "object.__init_subclass__"),(.ref 289)]),#[]⟩
noncomputable def c1a:Obj:=⟨(.type "builtin_function_or_method"),none,(.fields #[(.builtin "type.__prepare__"),(.type "type")]),#[]⟩
def c0A (P:Params):Obj:=kQ [kE P "__module__" 545 (.str "mostwise.ground" 536),kE P "__qualname__" 547 (.str "Ground" 546),⟨Yb P "__firstlineno__",(.str "__firstlineno__" 549),(.int (138) 548)⟩,kE P "__init__" 560 (.ref 305),kE P "rules" 567 (.ref 312),kE P "ruling" 575 (.ref 319),kE P "speaking" 581 (.ref 324),kE P "against" 589 (.ref 331),kE P "beats" 598 (.ref 338),kE P "statements" 608 (.ref 345),kE P "part" 616 (.ref 352),kE P "__static_attributes__" 620 (.ref 353)] 12
def c2q:Obj:=kL [(140,4,304),(149,4,311),(152,4,318),(155,4,323),(158,4,330),(161,4,337),(164,4,344),(172,4,351)]
noncomputable def c2C:Obj:=⟨(.type "code"),none,(.fields #[(.str "Ground" 540),(.str "Ground" 541),(.str "/claim/cut.py" 542),(.int (138) 0),(.int (0) 0),(.int (0) 0),(.int (0) 0),(.int (0) 0),(.ref 295),(.bool false),(.int (181) 0),(.ref 296),.none,.none,.none,.none,(.int (543) 0),(.int (138) 0),(.str "/claim/cut.py" 544)]),#[]⟩
noncomputable def c1j:Obj:=⟨(.type "frame"),none,.plain,#[(some (.ref 297)),(some (.ref 3)),(some (.ref 294)),none,(some (.str "mostwise.ground" 536)),none,(some (.ref 0))]⟩
def b7N:Obj:=kT 553 ["self","rules","pairs","rule","pair"]
def c2b:Obj:=kC "__init__" "Ground.__init__" a7n
def b8I:Obj:=kD1 "__init__" "Ground.__init__" 550 140 3 299 558
def c0v:Obj:=kF "__init__" "Ground.__init__" a7n m7 304
def c0d:Obj:=kT 564 ["self"]
def c2e:Obj:=kC "rules" "Ground.rules" a7u
def b7f:Obj:=kD1 "rules" "Ground.rules" 561 149 1 306 565
def b7z:Obj:=kF "rules" "Ground.rules" a7u m7 311
def b9A:Obj:=kT 571 ["self","statement"]
def c1n:Obj:=kC "ruling" "Ground.ruling" a7W
def b9y:Obj:=kD1 "ruling" "Ground.ruling" 568 152 2 313 573
def c0q:Obj:=kF "ruling" "Ground.ruling" a7W m7 318
def c1A:Obj:=kC "speaking" "Ground.speaking" a6m
def b9D:Obj:=kD2 "speaking" "Ground.speaking" 576 155 2 320 579
def b8f:Obj:=kF "speaking" "Ground.speaking" a6m m7 323
def c0n:Obj:=kT 585 ["self","statement"]
def c2z:Obj:=kC "against" "Ground.against" a8K
def b9o:Obj:=kD1 "against" "Ground.against" 582 158 2 325 587
def b8q:Obj:=kF "against" "Ground.against" a8K m7 330
def c0a:Obj:=kT 593 ["self","one","other"]
def c1l:Obj:=kC "beats" "Ground.beats" a8H
def b9m:Obj:=kD1 "beats" "Ground.beats" 590 161 3 332 596
def b8O:Obj:=kF "beats" "Ground.beats" a8H m7 337
def b7H:Obj:=kT 602 ["self","told","rule","statement"]
def c0V:Obj:=kC "statements" "Ground.statements" (a0j (top 26) 6)
def b7L:Obj:=kD1 "statements" "Ground.statements" 599 164 1 339 606
def c2k:Obj:=kF "statements" "Ground.statements" (a0j (top 26) 6) m7 344
def b7q:Obj:=kT 612 ["self","some"]
def c1X:Obj:=kC "part" "Ground.part" (a0j (top 26) 7)
def b9S:Obj:=kD1 "part" "Ground.part" 609 172 2 346 614
def c1z:Obj:=kF "part" "Ground.part" (a0j (top 26) 7) m7 351
def b7O:Obj:=kT 617 ["by_head","in_order","pairs"]
def c0w (P:Params):Obj:=kQ [kE P "__module__" 545 (.str "mostwise.ground" 536),⟨Yb P "__firstlineno__",(.str "__firstlineno__" 549),(.int (138) 548)⟩,kE P "__init__" 560 (.ref 305),kE P "rules" 567 (.ref 312),kE P "ruling" 575 (.ref 319),kE P "speaking" 581 (.ref 324),kE P "against" 589 (.ref 331),kE P "beats" 598 (.ref 338),kE P "statements" 608 (.ref 345),kE P "part" 616 (.ref 352),kE P "__static_attributes__" 620 (.ref 353),kE P "__dict__" 622 (.ref 356),kE P "__weakref__" 624 (.ref 357),kE P "__doc__" 625 .none] 4
noncomputable def b8b:Obj:=⟨(.type "type"),none,(.cls ⟨"Ground",[(.type "object")],[(.ref 355),(.type "object")],354,"Ground",true,[],[],false,none,false⟩),#[none,none,(some (.str "Ground" 538)),(some (.str "Ground" 546)),(some (.builtin "object.__new__")),(some (.bool true))]⟩
noncomputable def b9v:Obj:=⟨(.type "getset_descriptor"),none,(.fields #[(.str "__dict__" 621),(.ref 355),(.builtin "function.__dict__"),(.builtin "function.__dict__#set")]),#[]⟩
noncomputable def b8A:Obj:=⟨(.type "getset_descriptor"),none,(.fields #[(.str "__weakref__" 623),(.ref 355),(.builtin "ExceptionGroup.__weakref__"),.none]),#[]⟩
noncomputable def c2m:Obj:=⟨(.type "super"),none,(.fields #[(.ref 355),(.ref 355),(.ref 355)]),#[]⟩
noncomputable def c2P:Obj:=⟨(.type "builtin_function_or_method"),none,(.fields #[(.builtin "object.__init_subclass__"),(.ref 355)]),#[]⟩
def b9l:Obj:=kT 633 ["_law_script","_law_k"]
def c2p:Obj:=kC "_law_cell_at" "_law_cell_at" a8p
def b7K:Obj:=kD1 "_law_cell_at" "_law_cell_at" 630 175 2 360 635
def b9U:Obj:=kF "_law_cell_at" "_law_cell_at" a8p m8 365
def c0k:Obj:=kT 641 ["_law_cell","_law_k","_law_number"]
def c1M:Obj:=kC "_law_mix" "_law_mix" a8r
def b7R:Obj:=kD1 "_law_mix" "_law_mix" 638 179 2 367 644
def c0j:Obj:=kF "_law_mix" "_law_mix" a8r m8 372
def c1s:Obj:=kC "_law_words" "_law_words" a6h
def b9B:Obj:=kD2 "_law_words" "_law_words" 647 184 2 374 650
def b8Y:Obj:=kF "_law_words" "_law_words" a6h m8 377
def b7u:Obj:=kT 656 ["_law_text"]
def c2u:Obj:=kC "_law_opposed" "_law_opposed" a7V
def b8i:Obj:=kD1 "_law_opposed" "_law_opposed" 653 198 1 379 657
def b8k:Obj:=kF "_law_opposed" "_law_opposed" a7V m8 384
def b8K:Obj:=kT 663 ["_law_script","_law_names","_law_things","_law_some"]
def c1B:Obj:=kC "_law_pool" "_law_pool" a8b
def b7B:Obj:=kD1 "_law_pool" "_law_pool" 660 202 1 386 667
def c0i:Obj:=kF "_law_pool" "_law_pool" a8b m8 391
def b8J:Obj:=kT 673 ["_law_pool_here","_law_number","_law_text"]
def c0U:Obj:=kC "_law_drawn" "_law_drawn" a8h
def b7o:Obj:=kD1 "_law_drawn" "_law_drawn" 670 208 2 393 676
def b7T:Obj:=kF "_law_drawn" "_law_drawn" a8h m8 398
def c0l:Obj:=kT 682 ["_law_cell","_law_many","_law_size","_law_plain","_law_found","_law_rest","_law_j"]
def c2f:Obj:=kC "_law_numbers" "_law_numbers" a7C
def c0y:Obj:=kD1 "_law_numbers" "_law_numbers" 679 213 4 400 689
def c0g:Obj:=kF "_law_numbers" "_law_numbers" a7C m8 405
def c1S:Obj:=kC "_law_rule" "_law_rule" a5Y
def b9W:Obj:=kD2 "_law_rule" "_law_rule" 692 223 4 407 695
def b7F:Obj:=kF "_law_rule" "_law_rule" a5Y m8 410
def b7n:Obj:=kT 701 ["_law_rules","_law_cell","_law_pairs_here","_law_k","_law_j","_law_way"]
def c2I:Obj:=kC "_law_pairs" "_law_pairs" a7O
def c0p:Obj:=kD1 "_law_pairs" "_law_pairs" 698 235 2 412 707
def b9K:Obj:=kF "_law_pairs" "_law_pairs" a7O m8 417
def b9c:Obj:=kT 713 ["_law_rules","_law_cell"]
def c2t:Obj:=kC "_law_turned" "_law_turned" a7r
def b9Y:Obj:=kD1 "_law_turned" "_law_turned" 710 244 2 419 715
def b7A:Obj:=kF "_law_turned" "_law_turned" a7r m8 424
def c1w:Obj:=kC "_law_scene" "_law_scene" a6q
def b9g:Obj:=kD2 "_law_scene" "_law_scene" 718 248 2 426 721
def b7h:Obj:=kF "_law_scene" "_law_scene" a6q m8 429
def b7U:Obj:=kT 727 ["_law_rule_here"]
def c2K:Obj:=kC "_law_firm" "_law_firm" a7D
def b9e:Obj:=kD1 "_law_firm" "_law_firm" 724 258 1 431 728
def b8l:Obj:=kF "_law_firm" "_law_firm" a7D m8 436
def b8V:Obj:=kT 734 ["_law_rule_here","_law_held","_law_text"]
def c2R:Obj:=kC "_law_stands" "_law_stands" a7S
def b7c:Obj:=kD1 "_law_stands" "_law_stands" 731 260 2 438 737
def b7E:Obj:=kF "_law_stands" "_law_stands" a7S m8 443
def b9Z:Obj:=kT 743 ["_law_rule_here","_law_refused","_law_text"]
def c1v:Obj:=kC "_law_falls" "_law_falls" a7h
def b8X:Obj:=kD1 "_law_falls" "_law_falls" 740 265 2 445 746
def c0c:Obj:=kF "_law_falls" "_law_falls" a7h m8 450
def c1f:Obj:=kC "_law_speaking" "_law_speaking" a5U
def b9M:Obj:=kD2 "_law_speaking" "_law_speaking" 749 270 2 452 752
def b7b:Obj:=kF "_law_speaking" "_law_speaking" a5U m8 455
def c1R:Obj:=kC "_law_against" "_law_against" a6x
def b8U:Obj:=kD2 "_law_against" "_law_against" 755 272 2 457 758
def b8v:Obj:=kF "_law_against" "_law_against" a6x m8 460
def b8j:Obj:=kT 764 ["_law_scene_here","_law_rule_here","_law_others","_law_other"]
def c1U:Obj:=kC "_law_beaten" "_law_beaten" a7e
def b8x:Obj:=kD1 "_law_beaten" "_law_beaten" 761 274 3 462 768
def b8P:Obj:=kF "_law_beaten" "_law_beaten" a7e m8 467
def c1Y:Obj:=kC "_law_may_hold" "_law_may_hold" a6e
def b9w:Obj:=kD2 "_law_may_hold" "_law_may_hold" 771 279 5 469 774
def b7j:Obj:=kF "_law_may_hold" "_law_may_hold" a6e m8 472
def c2Q:Obj:=kC "_law_may_refuse" "_law_may_refuse" a6D
def b9r:Obj:=kD2 "_law_may_refuse" "_law_may_refuse" 777 289 5 474 780
def b7s:Obj:=kF "_law_may_refuse" "_law_may_refuse" a6D m8 477
def b8F:Obj:=kT 786 ["_law_scene_here","_law_found","_law_last","_law_rule_here"]
def c1q:Obj:=kC "_law_sures" "_law_sures" a8j
def b8a:Obj:=kD1 "_law_sures" "_law_sures" 783 299 1 479 790
def b7V:Obj:=kF "_law_sures" "_law_sures" a8j m8 484
def b8E:Obj:=kT 796 ["_law_scene_here","_law_sures_here","_law_held","_law_refused","_law_rows","_law_last","_law_text"]
def c1i:Obj:=kC "_law_grown" "_law_grown" a8n
def b8u:Obj:=kD1 "_law_grown" "_law_grown" 793 308 2 486 803
def b8y:Obj:=kF "_law_grown" "_law_grown" a8n m8 491
def c1u:Obj:=kC "_law_drawn_claims" "_law_drawn_claims" a5V
def b7d:Obj:=kD2 "_law_drawn_claims" "_law_drawn_claims" 806 325 2 493 809
def b8g:Obj:=kF "_law_drawn_claims" "_law_drawn_claims" a5V m8 496
def b9J:Obj:=kT 815 ["_law_world","_law_cells","_law_ground","_law_scene_here","_law_firm_here","_law_rows","_law_cell","_law_claim"]
def c0X:Obj:=kC "_law_written" "_law_written" a7x
def b9P:Obj:=kD1 "_law_written" "_law_written" 812 335 2 498 823
def b7v:Obj:=kF "_law_written" "_law_written" a7x m8 503
def c0N:Obj:=kC "_law_follows" "_law_follows" a5k
def b9Q:Obj:=kD2 "_law_follows" "_law_follows" 826 343 3 505 829
def b9s:Obj:=kF "_law_follows" "_law_follows" a5k m8 508
def c1P:Obj:=kC "law" "law" a2r
def b9z:Obj:=kD2 "law" "law" 832 353 1 510 835
def b7e:Obj:=kF "law" "law" a2r m8 513
def p3 (P:Params):Obj:=kQ [kE P "__name__" 165 (.str "__main__" 164),kE P "__doc__" 166 .none,kE P "__package__" 167 .none,kE P "__loader__" 168 (.builtin "__main__.__loader__#opaque"),kE P "__spec__" 169 .none,kE P "__annotations__" 170 (.ref 6),kE P "__builtins__" 171 (.ref 4),kE P "__file__" 173 (.str "/claim/cut.py" 172),kE P "__cached__" 174 .none] 9
noncomputable def H0 (P:Params):Heap:=⟨⟨o0 P::o1 P::o2::p3 P::o4::o5::o6::kU::kN::o9::o10::[]⟩,{}⟩
noncomputable abbrev S0 (P:Params):List Obj:=o4::o5::o6::kU::kN::o9::o10::kU::[]
noncomputable abbrev S1 (P:Params):List Obj:=o13::o14::kU::kN::o17::kU::o19::o20::o21::kU::kN::o24::kU::o26::o27::o28::kU::kN::o31::o32::o33::kU::kN::o36::o37::o38::kU::kN::o41::kU::o43::o44::o45::kU::kN::o48::o49::o50::kU::kN::o53::o54::o55::kU::kN::o58::o59::o60::kU::kN::o63::o64::o65::kU::kN::o68::o69::o70::kU::kN::o73::kU::o75::o76::o77::kU::kN::o80::o81::o82::kU::o84::o85 P::kU::o87::o88::o89::kU::kN::o92::kU::o94::o95::o96::kU::kN::o99::kU::c2H::b7J::c0K::kU::kN::b9q::kU::c0R::b9N::b8R::kU::kN::c0b::kU::c2F::c0x::b8d::kU::kN::b9R::kU::c1y::b7k::c2l::kU::kN::b8G::kU::c2G::b7D::c2L::kU::kN::b9u::kU::c1o::b9i::c2d::kU::kN::b9E::kU::c2n::b7G::c2j::b7W::b7C P::[]
noncomputable abbrev S2 (P:Params):List Obj:=c0s::b7M::c0D::c1c::b9b::c2D::c1Z P::kU::c0C::c1r::c1D::kU::kN::c0o::kU::c0E::b8h::c0e::kU::kN::b8D::kU::c0Y::c0f::b7Y::kU::kN::b9j::kU::c1O::b9L::c0h::kU::kN::b9T::kU::c2a::b7S::c1m::kU::kN::b7Q::kU::c0J::b7y::c1N::kU::b7i P::b8L::c1F::c0W::b9p::c0B::c1E P::kU::c2w::c0O::c1T::kU::kN::b8C::kU::c2o::b8e::b8S::kU::kN::b9h::kU::c2S::b7w::b7t::kU::kN::b9n::kU::c2O::b9C::c1d::kU::c0t P::b8N::c1h::c2g::b8s::c2N::c0L P::kU::c2h::c2y::c2v::kU::kN::b7I::kU::c0T::b7l::b8r::kU::kN::b8p::kU::c1t::b9H::c1L::kU::b8o P::b7m::c2E::c2c::[]
noncomputable abbrev S3 (P:Params):List Obj:=b8B::c2A::c0F P::kU::c1H::c1V::c2B::kU::kN::b7Z::kU::c1C::b8Z::b9I::kU::kN::b7P::kU::c2s::b8n::b8w::kU::kN::b9x::kU::c1G::b9O::c2J::kU::b8Q P::b7g::c1K::c1Q::kU::c1a::c0A P::kU::c2q::c2C::c1j::kU::kN::b7N::kU::c2b::b8I::c0v::kU::kN::c0d::kU::c2e::b7f::b7z::kU::kN::b9A::kU::c1n::b9y::c0q::kU::kN::c1A::b9D::b8f::kU::kN::c0n::kU::c2z::b9o::b8q::kU::kN::c0a::kU::c1l::b9m::b8O::kU::kN::b7H::kU::c0V::b7L::c2k::kU::kN::b7q::kU::c1X::b9S::c1z::b7O::c0w P::b8b::b9v::b8A::c2m::c2P::kU::kN::b9l::kU::c2p::b7K::b9U::kU::kN::c0k::kU::c1M::b7R::c0j::kU::kN::c1s::b9B::b8Y::kU::kN::b7u::kU::c2u::b8i::b8k::kU::kN::b8K::kU::c1B::b7B::c0i::kU::kN::b8J::kU::c0U::b7o::b7T::kU::kN::c0l::kU::c2f::c0y::c0g::kU::kN::c1S::b9W::b7F::kU::kN::b7n::kU::c2I::c0p::b9K::kU::kN::b9c::kU::c2t::b9Y::b7A::kU::kN::c1w::b9g::b7h::kU::kN::b7U::kU::c2K::b9e::b8l::kU::kN::b8V::kU::c2R::b7c::b7E::kU::kN::b9Z::kU::c1v::b8X::c0c::kU::kN::c1f::b9M::b7b::kU::kN::c1R::b8U::b8v::kU::kN::b8j::kU::c1U::b8x::b8P::kU::kN::c1Y::b9w::b7j::kU::kN::c2Q::b9r::b7s::kU::kN::b8F::kU::c1q::b8a::b7V::kU::kN::b8E::kU::c1i::b8u::b8y::kU::kN::c1u::b7d::b8g::kU::kN::b9J::kU::c0X::b9P::b7v::kU::kN::c0N::b9Q::b9s::kU::kN::c1P::b9z::b7e::[]
noncomputable def H1 (P:Params):Heap:=⟨⟨[o0 P,o1 P,o2,o3 P]++S0 P++[o12]++S1 P++[b8W]++S2 P++S3 P⟩,{}⟩
noncomputable def a3Z:Params→Qd:=fun P=>
(nat_lit 2,o2)::(nat_lit 3,o3 P)::(nat_lit 15,kU)::(nat_lit 17,o17)::(nat_lit 18,kU)::(nat_lit 20,o20)::(nat_lit 22,kU)::(nat_lit 24,o24)::(nat_lit 25,kU)::(nat_lit 27,o27)::(nat_lit 28,o28)::(nat_lit 29,kU)::(nat_lit 32,o32)::(nat_lit 33,o33)::(nat_lit 34,kU)::(nat_lit 37,o37)::(nat_lit 38,o38)::(nat_lit 39,kU)::(nat_lit 41,o41)::(nat_lit 42,kU)::(nat_lit 44,o44)::(nat_lit 45,o45)::(nat_lit 46,kU)::(nat_lit 49,o49)::(nat_lit 50,o50)::(nat_lit 51,kU)::(nat_lit 54,o54)::(nat_lit 55,o55)::(nat_lit 56,kU)::(nat_lit 59,o59)::(nat_lit 60,o60)::(nat_lit 61,kU)::(nat_lit 64,o64)::(nat_lit 65,o65)::(nat_lit 66,kU)::(nat_lit 69,o69)::(nat_lit 70,o70)::(nat_lit 71,kU)::(nat_lit 73,o73)::(nat_lit 74,kU)::(nat_lit 76,o76)::(nat_lit 77,o77)::(nat_lit 78,kU)::(nat_lit 81,o81)::(nat_lit 82,o82)::(nat_lit 90,kU)::(nat_lit 92,o92)::(nat_lit 93,kU)::(nat_lit 95,o95)::(nat_lit 96,o96)::(nat_lit 97,kU)::(nat_lit 99,o99)::(nat_lit 100,kU)::(nat_lit 102,b7J)::(nat_lit 104,kU)::(nat_lit 106,b9q)::(nat_lit 107,kU)::(nat_lit 109,b9N)::(nat_lit 110,b8R)::(nat_lit 111,kU)::(nat_lit 113,c0b)::(nat_lit 114,kU)::(nat_lit 116,c0x)::(nat_lit 117,b8d)::(nat_lit 118,kU)::(nat_lit 120,b9R)::(nat_lit 121,kU)::(nat_lit 123,b7k)::(nat_lit 125,kU)::(nat_lit 127,b8G)::(nat_lit 128,kU)::(nat_lit 130,b7D)::(nat_lit 132,kU)::(nat_lit 134,b9u)::(nat_lit 135,kU)::(nat_lit 137,b9i)::(nat_lit 139,kU)::(nat_lit 141,b9E)::(nat_lit 142,kU)::(nat_lit 144,b7G)::(nat_lit 146,b7W)::(nat_lit 147,b7C P)::(nat_lit 148,b8W)::(nat_lit 149,c0s)::(nat_lit 150,b7M)::(nat_lit 153,b9b)::(nat_lit 160,kU)::(nat_lit 162,c0o)::(nat_lit 163,kU)::(nat_lit 165,b8h)::(nat_lit 166,c0e)::(nat_lit 167,kU)::(nat_lit 169,b8D)::(nat_lit 170,kU)::(nat_lit 172,c0f)::(nat_lit 173,b7Y)::(nat_lit 174,kU)::(nat_lit 176,b9j)::(nat_lit 177,kU)::(nat_lit 179,b9L)::(nat_lit 180,c0h)::(nat_lit 181,kU)::(nat_lit 183,b9T)::(nat_lit 184,kU)::(nat_lit 186,b7S)::(nat_lit 188,kU)::(nat_lit 190,b7Q)::(nat_lit 191,kU)::(nat_lit 193,b7y)::(nat_lit 195,kU)::(nat_lit 196,b7i P)::(nat_lit 197,b8L)::(nat_lit 200,b9p)::(nat_lit 207,kU)::(nat_lit 209,b8C)::(nat_lit 210,kU)::(nat_lit 212,b8e)::(nat_lit 213,b8S)::(nat_lit 214,kU)::(nat_lit 216,b9h)::(nat_lit 217,kU)::(nat_lit 219,b7w)::(nat_lit 220,b7t)::(nat_lit 221,kU)::(nat_lit 223,b9n)::(nat_lit 224,kU)::(nat_lit 226,b9C)::(nat_lit 228,kU)::(nat_lit 229,c0t P)::(nat_lit 230,b8N)::(nat_lit 233,b8s)::(nat_lit 240,kU)::(nat_lit 242,b7I)::(nat_lit 243,kU)::(nat_lit 245,b7l)::(nat_lit 246,b8r)::(nat_lit 247,kU)::(nat_lit 249,b8p)::(nat_lit 250,kU)::(nat_lit 252,b9H)::(nat_lit 254,kU)::(nat_lit 255,b8o P)::(nat_lit 256,b7m)::(nat_lit 259,b8B)::(nat_lit 266,kU)::(nat_lit 268,b7Z)::(nat_lit 269,kU)::(nat_lit 271,b8Z)::(nat_lit 272,b9I)::(nat_lit 273,kU)::(nat_lit 275,b7P)::(nat_lit 276,kU)::(nat_lit 278,b8n)::(nat_lit 279,b8w)::(nat_lit 280,kU)::(nat_lit 282,b9x)::(nat_lit 283,kU)::(nat_lit 285,b9O)::(nat_lit 287,kU)::(nat_lit 288,b8Q P)::(nat_lit 289,b7g)::(nat_lit 299,kU)::(nat_lit 301,b7N)::(nat_lit 302,kU)::(nat_lit 304,b8I)::(nat_lit 305,c0v)::(nat_lit 306,kU)::(nat_lit 308,c0d)::(nat_lit 309,kU)::(nat_lit 311,b7f)::(nat_lit 312,b7z)::(nat_lit 313,kU)::(nat_lit 315,b9A)::(nat_lit 316,kU)::(nat_lit 318,b9y)::(nat_lit 319,c0q)::(nat_lit 320,kU)::(nat_lit 323,b9D)::(nat_lit 324,b8f)::(nat_lit 325,kU)::(nat_lit 327,c0n)::(nat_lit 328,kU)::(nat_lit 330,b9o)::(nat_lit 331,b8q)::(nat_lit 332,kU)::(nat_lit 334,c0a)::(nat_lit 335,kU)::(nat_lit 337,b9m)::(nat_lit 338,b8O)::(nat_lit 339,kU)::(nat_lit 341,b7H)::(nat_lit 342,kU)::(nat_lit 344,b7L)::(nat_lit 346,kU)::(nat_lit 348,b7q)::(nat_lit 349,kU)::(nat_lit 351,b9S)::(nat_lit 353,b7O)::(nat_lit 354,c0w P)::(nat_lit 355,b8b)::(nat_lit 356,b9v)::(nat_lit 357,b8A)::(nat_lit 360,kU)::(nat_lit 362,b9l)::(nat_lit 363,kU)::(nat_lit 365,b7K)::(nat_lit 366,b9U)::(nat_lit 367,kU)::(nat_lit 369,c0k)::(nat_lit 370,kU)::(nat_lit 372,b7R)::(nat_lit 373,c0j)::(nat_lit 374,kU)::(nat_lit 377,b9B)::(nat_lit 378,b8Y)::(nat_lit 379,kU)::(nat_lit 381,b7u)::(nat_lit 382,kU)::(nat_lit 384,b8i)::(nat_lit 385,b8k)::(nat_lit 386,kU)::(nat_lit 388,b8K)::(nat_lit 389,kU)::(nat_lit 391,b7B)::(nat_lit 392,c0i)::(nat_lit 393,kU)::(nat_lit 395,b8J)::(nat_lit 396,kU)::(nat_lit 398,b7o)::(nat_lit 399,b7T)::(nat_lit 400,kU)::(nat_lit 402,c0l)::(nat_lit 403,kU)::(nat_lit 405,c0y)::(nat_lit 406,c0g)::(nat_lit 407,kU)::(nat_lit 410,b9W)::(nat_lit 411,b7F)::(nat_lit 412,kU)::(nat_lit 414,b7n)::(nat_lit 415,kU)::(nat_lit 417,c0p)::(nat_lit 418,b9K)::(nat_lit 419,kU)::(nat_lit 421,b9c)::(nat_lit 422,kU)::(nat_lit 424,b9Y)::(nat_lit 425,b7A)::(nat_lit 426,kU)::(nat_lit 429,b9g)::(nat_lit 430,b7h)::(nat_lit 431,kU)::(nat_lit 433,b7U)::(nat_lit 434,kU)::(nat_lit 436,b9e)::(nat_lit 437,b8l)::(nat_lit 438,kU)::(nat_lit 440,b8V)::(nat_lit 441,kU)::(nat_lit 443,b7c)::(nat_lit 444,b7E)::(nat_lit 445,kU)::(nat_lit 447,b9Z)::(nat_lit 448,kU)::(nat_lit 450,b8X)::(nat_lit 451,c0c)::(nat_lit 452,kU)::(nat_lit 455,b9M)::(nat_lit 456,b7b)::(nat_lit 457,kU)::(nat_lit 460,b8U)::(nat_lit 461,b8v)::(nat_lit 462,kU)::(nat_lit 464,b8j)::(nat_lit 465,kU)::(nat_lit 467,b8x)::(nat_lit 468,b8P)::(nat_lit 469,kU)::(nat_lit 472,b9w)::(nat_lit 473,b7j)::(nat_lit 474,kU)::(nat_lit 477,b9r)::(nat_lit 478,b7s)::(nat_lit 479,kU)::(nat_lit 481,b8F)::(nat_lit 482,kU)::(nat_lit 484,b8a)::(nat_lit 485,b7V)::(nat_lit 486,kU)::(nat_lit 488,b8E)::(nat_lit 489,kU)::(nat_lit 491,b8u)::(nat_lit 492,b8y)::(nat_lit 493,kU)::(nat_lit 496,b7d)::(nat_lit 497,b8g)::(nat_lit 498,kU)::(nat_lit 500,b9J)::(nat_lit 501,kU)::(nat_lit 503,b9P)::(nat_lit 504,b7v)::(nat_lit 505,kU)::(nat_lit 508,b9Q)::(nat_lit 509,b9s)::(nat_lit 510,kU)::(nat_lit 513,b9z)::(nat_lit 514,b7e)::[]
noncomputable abbrev a6b:List Addr:=[2,3,15,17,18,20,22,24,25,27,28,29,32,33,34,37,38,39,41,42,44,45,46,49,50,51,54,55,56,59,60,61,64,65,66,69,70,71,73,74,76,77,78,81,82,90,92,93,95,96,97,99,100,102,104,106,107,109,110,111,113,114,116,117,118,120,121,123,125,127,128,130,132,134,135,137,139,141,142,144,146,147,148,149,150,153,160,162,163,165,166,167,169,170,172,173,174,176,177,179,180,181,183,184,186,188,190,191,193,195,196,197,200,207,209,210,212,213,214,216,217,219,220,221,223,224,226,228,229,230,233,240,242,243,245,246,247,249,250,252,254,255,256,259,266,268,269,271,272,273,275,276,278,279,280,282,283,285,287,288,289,299,301,302,304,305,306,308,309,311,312,313,315,316,318,319,320,323,324,325,327,328,330,331,332,334,335,337,338,339,341,342,344,346,348,349,351,353,354,355,356,357,360,362,363,365,366,367,369,370,372,373,374,377,378,379,381,382,384,385,386,388,389,391,392,393,395,396,398,399,400,402,403,405,406,407,410,411,412,414,415,417,418,419,421,422,424,425,426,429,430,431,433,434,436,437,438,440,441,443,444,445,447,448,450,451,452,455,456,457,460,461,462,464,465,467,468,469,472,473,474,477,478,479,481,482,484,485,486,488,489,491,492,493,496,497,498,500,501,503,504,505,508,509,510,513,514]
theorem a8c:∀P,a6b=(a3Z P).map (·.1):=fun _=>by kernel_rfl
noncomputable def b1d:Program:=PySem.W.view PySem.Challenge.pw_mostwise_k54_whole_no_paper_lies [0,2,3,4,6,8,10,11,12,13,14,16,17,18,20,21,22,23,24,26,28,29,30,31,32,33,34,35,36,37,38,39,40,41,42,43,44,45,46,47,48,49,50,51,52]
theorem b4B:∀w:World,(fencedOpening treeTable PySem.Challenge.pw_mostwise_k54_whole_no_paper_lies w 6756).map (fun s=>(s.heap,s.gens,s.drawn,s.toks))=some (H0 w.params,#[],{},181):=fun w=>by kernel_rfl
theorem a6p {tb:String→Option Builtin} {p:Program} {w:World} {n₀:Nat} {ann:Option Value} {env:Env} {q:Pos} {n N a l:Nat} {s s' r:Shared} {b:List Stmt} {c:Code} {pos p':Pos} (h:segRun tb p w n₀ ann 1 n s (piecesOf ((b.drop a).take l) env c pos [topFrame q])=some (.next,s',c,p'))
  (k:topRun tb p w n₀ ann N s' (restOf (b.drop (a+l)) env c p' [topFrame q])=some r):topRun tb p w n₀ ann (n+N) s (restOf (b.drop a) env c pos [topFrame q])=some r:=by
 have e:=piece_app h k
 rwa [←List.drop_drop,List.take_append_drop] at e
noncomputable def b3M (P:Params):Heap:=⟨⟨o0 P::o1 P::o2::p3 P::o4::o5::o6::kU::kN::o9::o10::kU::kN::o13::o14::[]⟩,{}⟩
noncomputable def a8G (P:Params):Heap:=⟨⟨o0 P::o1 P::o2::p3 P::o4::o5::o6::kU::kN::o9::o10::kU::kN::o13::o14::[]⟩,{}⟩
noncomputable def b6q:Env:={scope:=PySem.Challenge.pw_mostwise_k54_whole_no_paper_lies.main.scope,locals:=mainNs,globals:=mainNs,cells:=[],code:=(.ref 13),frame:=some 14}
noncomputable def a5o:Code:=.body (behindTheImports PySem.Challenge.pw_mostwise_k54_whole_no_paper_lies) b6q
noncomputable abbrev tFr:List Frame:=[topFrame ⟨0,0,0,0⟩]
noncomputable abbrev b6v (i:Nat) (q:Pos):Thread:=restOf ((behindTheImports PySem.Challenge.pw_mostwise_k54_whole_no_paper_lies).drop i) b6q a5o q tFr
theorem b6E:∀(w:World) (os:OsState),topGo treeTable PySem.Challenge.pw_mostwise_k54_whole_no_paper_lies w 11 (some (.ref 6)) 12 ⟨H0 w.params,#[],{},181,os⟩ (topStub PySem.Challenge.pw_mostwise_k54_whole_no_paper_lies)=some (⟨b3M w.params,#[],{},187,os⟩,⟨denote treeTable a5o,a5o,⟨0,0,0,0⟩,tFr⟩):=fun w os=>by kernel_rfl
theorem b1g:∀(w:World) (os:OsState),segRun treeTable PySem.Challenge.pw_mostwise_k54_whole_no_paper_lies w 11 (some (.ref 6)) 1 1 ⟨b3M w.params,#[],{},187,os⟩ (blockOf (behindTheImports PySem.Challenge.pw_mostwise_k54_whole_no_paper_lies) b6q a5o ⟨0,0,0,0⟩ tFr)=some (.next,⟨a8G w.params,#[],{},187,os⟩,a5o,⟨0,0,0,0⟩):=fun w os=>by kernel_rfl
def g13 (P:Params):Obj:=kQ [kE P "__name__" 165 (.str "mostwise.rules" 284),kE P "__doc__" 166 .none,kE P "__package__" 167 .none,kE P "__loader__" 168 (.builtin "__main__.__loader__#opaque"),kE P "__spec__" 169 .none,kE P "__annotations__" 170 (.ref 6),kE P "__builtins__" 171 (.ref 4),kE P "__file__" 173 (.str "/claim/cut.py" 172),kE P "__cached__" 174 .none,kE P "_wall" 193 (.ref 21),kE P "keyed" 204 (.ref 28),kE P "all_among" 210 (.ref 33),kE P "any_among" 216 (.ref 38),kE P "opposite" 225 (.ref 45),kE P "is_sure_set" 233 (.ref 50),kE P "HELD" 237 (.str "held" 236),kE P "REFUSED" 239 (.str "refused" 238),kE P "is_beaten" 245 (.ref 55),kE P "holds_by" 251 (.ref 60),kE P "refused_by" 257 (.ref 65),kE P "with_word" 265 (.ref 70),kE P "follows" 277 (.ref 77),kE P "lets_by" 283 (.ref 82),kE P "Rule" 371 (.ref 148),kE P "Fact" 425 (.ref 197),kE P "Sure" 464 (.ref 230),kE P "Most" 496 (.ref 256)] 27
def c0Z:Obj:=kL [(1,0,20),(5,0,27),(10,0,32),(12,0,37),(15,0,44),(18,0,49),(30,0,54),(32,0,59),(39,0,64),(47,0,69),(49,0,76),(57,0,81),(64,0,88),(94,0,158),(110,0,205),(120,0,238)]
noncomputable def b6D:Obj:=⟨(.type "type"),none,(.cls ⟨"Rule",[(.type "object")],[(.ref 148),(.type "object")],147,"Rule",true,[],[(.ref 197),(.ref 230),(.ref 256)],false,none,false⟩),#[none,none,(some (.str "Rule" 286)),(some (.str "Rule" 294)),(some (.builtin "object.__new__")),(some (.bool true))]⟩
noncomputable def b9k (P:Params):Heap:=⟨⟨[o0 P,o1 P,o2,g13 P]++S0 P++[c0Z]++S1 P++[b6D]++S2 P⟩,{}⟩
theorem c2M:∀(w:World) (os:OsState),segRun treeTable PySem.Challenge.pw_mostwise_k54_whole_no_paper_lies w 11 (some (.ref 6)) 1 1804 ⟨a8G w.params,#[],{},187,os⟩ (piecesOf (((behindTheImports PySem.Challenge.pw_mostwise_k54_whole_no_paper_lies).drop 0).take 24) b6q a5o ⟨0,0,0,0⟩ tFr)=some (.next,⟨b9k w.params,#[],{},497,os⟩,a5o,⟨120,0,126,16⟩):=fun w os=>by kernel_rfl
theorem b6J:∀(w:World) (os:OsState),topRun treeTable PySem.Challenge.pw_mostwise_k54_whole_no_paper_lies w 11 (some (.ref 6)) 1515 ⟨b9k w.params,#[],{},497,os⟩ (b6v 24 ⟨120,0,126,16⟩)=some ⟨H1 w.params,#[],{},838,os⟩:=fun w os=>by kernel_rfl
theorem b6I:∀(w:World) (os:OsState),topRun treeTable PySem.Challenge.pw_mostwise_k54_whole_no_paper_lies w 11 (some (.ref 6)) 3332 ⟨H0 w.params,#[],{},181,os⟩ (topStub PySem.Challenge.pw_mostwise_k54_whole_no_paper_lies)=some ⟨H1 w.params,#[],{},838,os⟩:=fun w os=>go_top (n:=12) (b6E w os) (piece_block (n:=1) (b1g w os) (a6p (c2M w os) (b6J w os)))
end
end K54
namespace L2
open PySem PySem.Spec PyProof.Rows
abbrev Key:=Sum Int Str
def a6s:Key→Value→Bool
 | .inl k,v=>Value.isInt k v
 | .inr x,v=>Value.isStrOf x v
def c1x (w:World):Key→Int
 | .inl k=>hashInt k
 | .inr x=>hashStr w x
theorem a0G:∀{k:Key} {v:Value},a6s k v=true→(∃i t,k=Sum.inl i∧v=Value.int i t)∨(∃x t,k=Sum.inr x∧v=Value.str x t)
 | .inl i,v,h=>by
  obtain ⟨t,e⟩:=Value.isInt_shape (k:=i) (v:=v) h
  exact .inl ⟨i,t,rfl,e⟩
 | .inr x,v,h=>by
  obtain ⟨t,e⟩:=Value.isStrOf_shape (x:=x) (v:=v) h
  exact .inr ⟨x,t,rfl,e⟩
theorem a7B (i:Int) (t:Tok):a6s (.inl i) (.int i t)=true:=by simp [a6s,Value.isInt]
theorem a7T (x:Str) (t:Tok):a6s (.inr x) (.str x t)=true:=by simp [a6s,Value.isStrOf]
theorem b6f (a b:Int):decide ((Sum.inl a:Key)=Sum.inl b)=(a == b):=by
 by_cases e:a=b
 ·subst e;simp
 ·have h:¬(Sum.inl a:Key)=Sum.inl b:=fun q=>e (Sum.inl.inj q)
  rw [decide_eq_false h]
  exact (beq_eq_false_iff_ne.mpr e).symm
theorem b5b (a b:Str):decide ((Sum.inr a:Key)=Sum.inr b)=decide (a=b):=by
 by_cases e:a=b
 ·subst e;simp
 ·have h:¬(Sum.inr a:Key)=Sum.inr b:=fun q=>e (Sum.inr.inj q)
  rw [decide_eq_false h,decide_eq_false e]
theorem b5C (a:Int) (b:Str):decide ((Sum.inl a:Key)=Sum.inr b)=false:=decide_eq_false (fun q=>nomatch q)
theorem b5K (a:Str) (b:Int):decide ((Sum.inr a:Key)=Sum.inl b)=false:=decide_eq_false (fun q=>nomatch q)
def a0R (prog:Program) (w:World):PySem.KeyKind prog w Key where
 is:=a6s
 hash:=c1x w
 inj:=fun v a b ha hb=>by
  rcases a0G ha with ⟨i,t,rfl,rfl⟩ | ⟨x,t,rfl,rfl⟩
  ·rcases a0G hb with ⟨j,u,rfl,e⟩ | ⟨y,u,rfl,e⟩
   ·injection e with e1 _;rw [e1]
   ·exact nomatch e
  ·rcases a0G hb with ⟨j,u,rfl,e⟩ | ⟨y,u,rfl,e⟩
   ·exact nomatch e
   ·injection e with e1 _;rw [e1]
 byValue:=fun k v h=>by
  rcases a0G h with ⟨i,t,rfl,rfl⟩ | ⟨x,t,rfl,rfl⟩<;>rfl
 pyHash:=fun hv h=>by
  rcases a0G hv with ⟨i,t,rfl,rfl⟩ | ⟨x,t,rfl,rfl⟩
  ·exact wpAny_pyHash_int h
  ·exact wpAny_pyHash_str h
 eqBool:=fun hu hv h=>by
  rcases a0G hu with ⟨i,t,rfl,rfl⟩ | ⟨x,t,rfl,rfl⟩
  ·rcases a0G hv with ⟨j,u,rfl,rfl⟩ | ⟨y,u,rfl,rfl⟩
   ·rw [b6f] at h;exact wpAny_eqBool_int h
   ·rw [b5C] at h;exact Xx.int_str i t y u _ _ _ _ h
  ·rcases a0G hv with ⟨j,u,rfl,rfl⟩ | ⟨y,u,rfl,rfl⟩
   ·rw [b5K] at h;exact Xx.str_int x t j u _ _ _ _ h
   ·rw [b5b] at h;exact wpAny_eqBool_str h
 «strs»:=fun k x t v h=>by
  rcases a0G h with ⟨i,u,rfl,e⟩ | ⟨y,u,rfl,e⟩
  ·exact nomatch e
  ·injection e with e1 _
   subst e1
   cases v<;>rfl
theorem a5i (prog:Program) (w:World) (i:Int) (t:Tok):(a0R prog w).is (.inl i) (.int i t)=true:=a7B i t
theorem a4Y (prog:Program) (w:World) (x:Str) (t:Tok):(a0R prog w).is (.inr x) (.str x t)=true:=a7T x t
inductive V where
 | non | bl (b:Bool) | int (i:Int) | str (x:Str) | byt (b:Array UInt8) | flt (b:UInt64) | ref (a:Addr) | ty (n:String)
 deriving DecidableEq
def a0O:V→Value→Prop
 | .non,u=>u=Value.none
 | .bl b,u=>u=Value.bool b
 | .int i,u=>∃t,u=Value.int i t
 | .str x,u=>∃t,u=Value.str x t
 | .byt b,u=>∃t,u=Value.bytes b t
 | .flt b,u=>∃t,u=Value.float b t
 | .ref a,u=>u=Value.ref a
 | .ty n,u=>u=Value.type n
abbrev a0H:List V→List Value→Prop:=Paired a0O
theorem a0H.length {xs:List V} {us:List Value} (r:a0H xs us):xs.length=us.length:=Paired.length r
theorem a0H.get:∀{xs:List V} {us:List Value} {i:Nat} {x:V},a0H xs us→xs[i]?=some x→∃u,us[i]?=some u∧a0O x u
 | _,_,_,_,.nil,e=>by simp at e
 | _,_,0,_,.cons r _,e=>by simp at e;subst e;exact ⟨_,rfl,r⟩
 | _,_,i+1,x,.cons _ t,e=>by
  obtain ⟨u,h1,h2⟩:=a0H.get (i:=i) (x:=x) t (by simpa using e)
  exact ⟨u,by simpa using h1,h2⟩
theorem a0H.set {x:V} {u:Value} (r:a0O x u):∀{xs:List V} {us:List Value} (i:Nat),a0H xs us→a0H (xs.set i x) (us.set i u)
 | _,_,_,.nil=>.nil
 | _,_,0,.cons _ t=>.cons r t
 | _,_,i+1,.cons q t=>.cons q (a0H.set r i t)
theorem a0H.append:∀{xs ys:List V} {us ws:List Value},a0H xs us→a0H ys ws→a0H (xs++ys) (us++ws)
 | _,_,_,_,.nil,s=>s
 | _,_,_,_,.cons r t,s=>.cons r (a0H.append t s)
theorem a0H.take:∀{xs:List V} {us:List Value} (n:Nat),a0H xs us→a0H (xs.take n) (us.take n)
 | _,_,0,_=>.nil
 | _,_,_+1,.nil=>.nil
 | _,_,n+1,.cons r t=>.cons r (a0H.take n t)
theorem a0H.drop:∀{xs:List V} {us:List Value} (n:Nat),a0H xs us→a0H (xs.drop n) (us.drop n)
 | _,_,0,r=>r
 | _,_,_+1,.nil=>.nil
 | _,_,n+1,.cons _ t=>a0H.drop n t
def a3N:Option V→Option Value→Prop
 | some v,some u=>a0O v u
 | none,none=>True
 | _,_=>False
def KV {κ:Type}:List (κ×V)→List (κ×Value)→Prop:=Paired fun (p:κ×V) (q:κ×Value)=>p.1=q.1∧a0O p.2 q.2
def kV:Key→V
 | .inl i=>.int i
 | .inr x=>.str x
inductive HO where
 | lst (xs:List V)
 | tup (xs:List V)
 | dK (kvs:List (Key×V)) | dT (kvs:List (List Key×V))
 | set (S:Int→Bool) (n:Nat)
 | ins (C dx:Addr) (fs:List (Str×V))
 | own (x:Addr)
 | xd (fs:List (Str×V))
 | met (f x:Addr)
 | rng (lo hi:Int)
 | frz (o:Obj) (u:HO)
 | tbl (ps:Array Value)
 | ext (φ:Heap→Prop)
abbrev Hp:=Addr→Option HO
def upd (H:Hp) (a:Addr) (o:HO):Hp:=fun b=>if b=a then some o else H b
theorem a0f {H:Hp} {a:Addr} {o:HO}:upd H a o a=some o:=by unfold upd;rw [if_pos rfl]
theorem a0d {H:Hp} {a b:Addr} {o:HO} (h:b≠a):upd H a o b=H b:=by unfold upd;rw [if_neg h]
theorem b2n {H:Hp} {a:Addr} {o u:HO}:upd (upd H a o) a u=upd H a u:=by
 funext b;unfold upd;split<;>rfl
theorem a1O {H:Hp} {a b:Addr} {o u:HO} (h:H a=some o) (h':H b=some u) (d:o≠u):a≠b:=by
 intro e;subst e;rw [h] at h';exact d (Option.some.inj h')
theorem a0c {H:Hp} {a b:Addr} {o:HO} (h:H a=some o) (h':H b=none):a≠b:=by
 intro e;subst e;rw [h] at h';cases h'
section
variable (P:Program) (w:World)
def a1z (H:Hp) (h:Heap) (a:Addr):HO→Prop
 | .lst xs=>xs.length≤sizeLine∧∃(its:List Value) (n:Nat),a0H xs its∧h.get? a=some {cls:=.type "list",data:=.seq its.toArray n}
 | .tup xs=>xs.length≤sizeLine∧∃its:List Value,a0H xs its∧IsTup h a its.toArray
 | .dK kvs=>kvs.length≤sizeLine∧(a == sysModules)=false∧∃vs,KV kvs vs∧h.DictOf (a0R P w) a vs
 | .dT kvs=>kvs.length≤sizeLine∧(a == sysModules)=false∧∃xs:List (List Key×Addr×Value),
   Paired (fun (p:List Key×V) (q:List Key×Addr×Value)=>p.1=q.1∧H q.2.1=some (.tup (p.1.map kV))∧a0O p.2 q.2.2) kvs xs∧
   ∃o es ep,h.get? a=some o∧o.ExactDict∧o.data=.dict es ep∧es.toList=xs.map (entryOfKey (tupleKind (a0R P w)))∧(xs.map (·.1)).Nodup
 | .set S n=>h.SetOf (intKind P w) a S n
 | .ins C dx fs=>H dx=some (.own a)∧fs.length≤1000∧dx≠a∧h.get? a=some (Ys C dx)∧
   ∃mA,h.Ns1 dx mA∧(∀f,a3N (fs.lookup f) (mA f))∧PySem.Within mA (fs.map (·.1))
 | .own _=>∃o,h.get? a=some o
 | .xd fs=>∃mA,h.Ns1 a mA∧∀f,a3N (fs.lookup f) (mA f)
 | .rng lo hi=>∃t u v,h.get? a=some {cls:=.type "range",data:=.fields #[.int lo t,.int hi u,.int 1 v]}
 | .frz o u=>h.get? a=some o∧a1z H h a u
 | .tbl ps=>h.get? a=some {cls:=.none,data:=.fields ps}
 | .met f x=>h.get? a=some (Jy (.ref f) (.ref x))
 | .ext φ=>φ h∧(∃o,h.get? a=some o)∧∀h1 h2:Heap,φ h1→(∀o,h1.get? a=some o→h2.get? a=some o)→φ h2
def HOk (H:Hp) (h:Heap):Prop:=∀a o,H a=some o→a1z P w H h a o
end
section
variable {P:Program} {w:World} {H H':Hp} {h h':Heap} {a:Addr} {o:HO}
theorem a1z.lt (x:a1z P w H h a o):a < h.objs.size:=by
 cases o with
 | lst xs=>obtain ⟨_,_,_,_,e⟩:=x;exact Qo e
 | tup xs=>obtain ⟨_,_,_,p⟩:=x;exact p.lt
 | dK kvs=>obtain ⟨_,_,_,_,o,_,_,e,_⟩:=x;exact Qo e
 | dT kvs=>obtain ⟨_,_,_,_,o,_,_,e,_⟩:=x;exact Qo e
 | set S n=>obtain ⟨o,_,_,_,e,_⟩:=x;exact Qo e
 | ins C dx fs=>obtain ⟨_,_,_,e,_⟩:=x;exact Qo e
 | own y=>obtain ⟨_,e⟩:=x;exact Qo e
 | xd fs=>obtain ⟨_,⟨_,_,_,e,_⟩,_⟩:=x;exact Qo e
 | rng lo hi=>obtain ⟨_,_,_,e⟩:=x;exact Qo e
 | frz ob u=>obtain ⟨e,_⟩:=x;exact Qo e
 | tbl ps=>exact Qo (show h.get? a=some _ from x)
 | met f y=>exact Qo (show h.get? a=some _ from x)
 | ext φ=>obtain ⟨_,⟨_,e⟩,_⟩:=x;exact Qo e
theorem Paired.mapP {α β:Type} {F G:α→β→Prop}:∀{l₁:List α} {l₂:List β},Paired F l₁ l₂→(∀a b,F a b→G a b)→Paired G l₁ l₂
 | _,_,.nil,_=>.nil
 | _,_,.cons r t,f=>.cons (f _ _ r) (Paired.mapP t f)
theorem a1z.stay (x:a1z P w H h a o) (k:∀b u,(b=a∨H b=some (.own a))→h.get? b=some u→h'.get? b=some u)
  (ho:∀b,H b=some (.own a)→H' b=some (.own a)) (ht:∀b xs,H b=some (.tup xs)→H' b=some (.tup xs)):a1z P w H' h' a o:=by
 induction o with
 | lst xs=>obtain ⟨z,its,n,r,e⟩:=x;exact ⟨z,its,n,r,k _ _ (.inl rfl) e⟩
 | tup xs=>obtain ⟨z,its,r,ob,e,c⟩:=x;exact ⟨z,its,r,ob,k _ _ (.inl rfl) e,c⟩
 | dK kvs=>obtain ⟨z,y,vs,r,ob,es,ep,e,c⟩:=x;exact ⟨z,y,vs,r,ob,es,ep,k _ _ (.inl rfl) e,c⟩
 | dT kvs=>
  obtain ⟨z,y,xs,r,ob,es,ep,e,c⟩:=x
  exact ⟨z,y,xs,Paired.mapP r fun p q z=>⟨z.1,ht _ _ z.2.1,z.2.2⟩,ob,es,ep,k _ _ (.inl rfl) e,c⟩
 | set S n=>obtain ⟨ob,es,ep,t,e,c⟩:=x;exact ⟨ob,es,ep,t,k _ _ (.inl rfl) e,c⟩
 | ins C dx fs=>
  obtain ⟨d,z,ne,e,mA,⟨od,es,ep,e2,c⟩,r⟩:=x
  exact ⟨ho _ d,z,ne,k _ _ (.inl rfl) e,mA,⟨od,es,ep,k _ _ (.inr d) e2,c⟩,r⟩
 | own y=>obtain ⟨ob,e⟩:=x;exact ⟨ob,k _ _ (.inl rfl) e⟩
 | xd fs=>obtain ⟨mA,⟨od,es,ep,e,c⟩,r⟩:=x;exact ⟨mA,⟨od,es,ep,k _ _ (.inl rfl) e,c⟩,r⟩
 | rng lo hi=>obtain ⟨t,u,v,e⟩:=x;exact ⟨t,u,v,k _ _ (.inl rfl) e⟩
 | frz ob u ih=>obtain ⟨e,q⟩:=x;exact ⟨k _ _ (.inl rfl) e,ih q⟩
 | tbl ps=>
  have e:h.get? a=some {cls:=.none,data:=.fields ps}:=x
  show h'.get? a=some {cls:=.none,data:=.fields ps}
  exact k a _ (.inl rfl) e
 | met f y=>
  have e:h.get? a=some (Jy (.ref f) (.ref y)):=x
  show h'.get? a=some (Jy (.ref f) (.ref y))
  exact k a _ (.inl rfl) e
 | ext φ=>obtain ⟨p,⟨o,e⟩,st⟩:=x;exact ⟨st _ _ p fun o q=>k _ _ (.inl rfl) q,⟨o,k _ _ (.inl rfl) e⟩,st⟩
theorem HOk.lt (x:HOk P w H h) (e:H a=some o):a < h.objs.size:=(x a o e).lt
theorem HOk.fresh (x:HOk P w H h) (e:h.objs.size≤a):H a=none:=by
 cases q:H a with
 | none=>rfl
 | some u=>exact absurd (Xd (x.lt q) e) (Zn _)
theorem HOk.kept (x:HOk P w H h) (k:∀b u,h.get? b=some u→h'.get? b=some u):HOk P w H h':=fun a o e=>
 (x a o e).stay (fun b u _ q=>k b u q) (fun _ q=>q) fun _ _ q=>q
theorem HOk.laid (x:HOk P w H h) (k:∀b u,h.get? b=some u→h'.get? b=some u) (hp:h.objs.size≤a) (new:a1z P w (upd H a o) h' a o):HOk P w (upd H a o) h':=fun b u e=>by
 have hn:=x.fresh hp
 by_cases hb:b=a
 ·subst hb;rw [a0f] at e;cases e;exact new
 ·rw [a0d hb] at e
  exact (x b u e).stay (fun c v _ q=>k c v q) (fun c q=>by rw [a0d (a0c q hn)];exact q) fun c xs q=>by rw [a0d (a0c q hn)];exact q
end
def Rd (H:Hp) (a:Addr) (u:HO):Prop:=H a=some u∨∃o,H a=some (.frz o u)
theorem Rd.ok {P:Program} {w:World} {H:Hp} {h:Heap} {a:Addr} {u:HO} (r:Rd H a u) (x:HOk P w H h):a1z P w H h a u:=by
 rcases r with r | ⟨o,r⟩
 ·exact x a u r
 ·obtain ⟨_,q⟩:=x a _ r
  exact q
def Mut:Option HO→Prop
 | some (.lst _)=>True
 | some (.dK _)=>True
 | some (.dT _)=>True
 | some (.set _ _)=>True
 | some (.ins _ _ _)=>True
 | some (.ext _)=>True
 | _=>False
section
variable {P:Program} {w:World} {H:Hp} {h h':Heap} {x e:Addr} {o':HO}
theorem HOk.write (ok:HOk P w H h) (mu:Mut (H x)) (he:e=x∨H e=some (.own x)) (k:∀b u,b≠e→h.get? b=some u→h'.get? b=some u) (heo:∃u,h'.get? e=some u)
  (new:a1z P w (upd H x o') h' x o'):HOk P w (upd H x o') h':=fun b u q=>by
 have nown:∀c y,H c=some (.own y)→c≠x:=fun c y r z=>by subst z;rw [r] at mu;exact mu
 have ntup:∀c xs,H c=some (.tup xs)→c≠x:=fun c xs r z=>by subst z;rw [r] at mu;exact mu
 by_cases hb:b=x
 ·subst hb;rw [a0f] at q;cases q;exact new
 ·rw [a0d hb] at q
  by_cases hbe:b=e
  ·have q':H b=some (.own x):=by
    rcases he with z | z
    ·exact absurd (hbe.trans z) hb
    ·rw [hbe];exact z
   rw [q] at q';cases q'
   obtain ⟨v,hv⟩:=heo
   exact ⟨v,by rw [hbe];exact hv⟩
  ·refine (ok b u q).stay (fun c v hc r=>k c v ?_ r) (fun c r=>by rw [a0d (nown c b r)];exact r) fun c xs r=>by rw [a0d (ntup c xs r)];exact r
   rcases hc with rfl | hc
   ·exact hbe
   ·rintro rfl
    rcases he with z | z
    ·exact nown c b hc z
    ·rw [hc] at z;cases z;exact hb rfl
end
structure Un (fs ex:List Addr) (H H':Hp) (h h':Heap):Prop where
 keep:∀b o,h.get? b=some o→H b=none→b∉fs→b∉ex→h'.get? b=some o
 slot:∀b o,h.get? b=some o→H b=none→b∈fs→b∉ex→∃sl,h'.get? b=some {o with slots:=sl}
 free:∀b o,h.get? b=some o→H b=none→b∉ex→H' b=none
 there:∀b o,h.get? b=some o→b∉ex→∃o',h'.get? b=some o'
 tups:∀b xs,H b=some (.tup xs)→H' b=some (.tup xs)
 frzs:∀b o u,H b=some (.frz o u)→H' b=some (.frz o u)
 tbls:∀b ps,H b=some (.tbl ps)→∃more,H' b=some (.tbl (ps++more))
section
variable {fs fs' ex ex':List Addr} {H H1 H2:Hp} {h h1 h2 h':Heap} {a x e:Addr} {o:HO}
theorem Un.any (u:Un fs ex H H1 h h1) {b:Addr} {ob:Obj} (q:h.get? b=some ob) (n:H b=none) (hx:b∉ex):∃sl,h1.get? b=some {ob with slots:=sl}:=by
 by_cases hb:b∈fs
 ·exact u.slot b ob q n hb hx
 ·exact ⟨ob.slots,u.keep b ob q n hb hx⟩
theorem Un.trans (a:Un fs ex H H1 h h1) (b:Un fs ex H1 H2 h1 h2):Un fs ex H H2 h h2 where
 keep:=fun c ob q n hc hx=>b.keep c ob (a.keep c ob q n hc hx) (a.free c ob q n hx) hc hx
 slot:=fun c ob q n hc hx=>by
  obtain ⟨sl,e1⟩:=a.slot c ob q n hc hx
  obtain ⟨sl',e2⟩:=b.slot c _ e1 (a.free c ob q n hx) hc hx
  exact ⟨sl',e2⟩
 free:=fun c ob q n hx=>by
  obtain ⟨o',e1⟩:=a.there c ob q hx
  exact b.free c o' e1 (a.free c ob q n hx) hx
 there:=fun c ob q hx=>by
  obtain ⟨o',e1⟩:=a.there c ob q hx
  exact b.there c o' e1 hx
 tups:=fun c xs q=>b.tups c xs (a.tups c xs q)
 frzs:=fun c ob xs q=>b.frzs c ob xs (a.frzs c ob xs q)
 tbls:=fun c ps q=>by
  obtain ⟨m1,e1⟩:=a.tbls c ps q
  obtain ⟨m2,e2⟩:=b.tbls c _ e1
  exact ⟨m1++m2,by rw [e2,Vq]⟩
theorem Un.kept (k:∀b u,h.get? b=some u→h'.get? b=some u):Un fs ex H H h h':=
 ⟨fun b ob q _ _ _=>k b ob q,fun b ob q _ _ _=>⟨ob.slots,k b ob q⟩,fun _ _ _ n _=>n,fun b ob q _=>⟨ob,k b ob q⟩,fun _ _ q=>q,fun _ _ _ q=>q,fun _ ps q=>⟨#[],by rw [q];simp⟩⟩
theorem Un.refl:Un fs ex H H h h:=Un.kept fun _ _ q=>q
theorem Un.laid (k:∀b u,h.get? b=some u→h'.get? b=some u) (hp:h.objs.size≤a) (hn:H a=none):Un fs ex H (upd H a o) h h' where
 keep:=fun b u q _ _ _=>k b u q
 slot:=fun b u q _ _ _=>⟨u.slots,k b u q⟩
 free:=fun b u q n _=>by rw [a0d (Xc (Xd (Qo q) hp))];exact n
 there:=fun b u q _=>⟨u,k b u q⟩
 tups:=fun b xs q=>by rw [a0d (a0c q hn)];exact q
 frzs:=fun b u xs q=>by rw [a0d (a0c q hn)];exact q
 tbls:=fun b ps q=>⟨#[],by rw [a0d (a0c q hn),q];simp⟩
theorem Un.write (mu:Mut (H x)) (he:e=x∨H e=some (.own x)) (k:∀b u,b≠e→h.get? b=some u→h'.get? b=some u) (heo:∃u,h'.get? e=some u):Un fs ex H (upd H x o) h h':=by
 have hx:∀b,H b=none→b≠x:=fun b n z=>by subst z;rw [n] at mu;exact mu
 have hb:∀b,H b=none→b≠e:=fun b n z=>by
  subst z
  rcases he with r | r
  ·exact hx b n r
  ·rw [n] at r;cases r
 have hm:∀b u,H b=some u→¬Mut (some u)→b≠x:=fun b u q nm z=>by subst z;rw [q] at mu;exact nm mu
 refine ⟨fun b u q n _ _=>k b u (hb b n) q,fun b u q n _ _=>⟨u.slots,k b u (hb b n) q⟩,fun b u q n _=>by rw [a0d (hx b n)];exact n,fun b u q _=>?_,
  fun b xs q=>by rw [a0d (hm b _ q fun z=>z)];exact q,fun b u xs q=>by rw [a0d (hm b _ q fun z=>z)];exact q,fun b ps q=>⟨#[],by rw [a0d (hm b _ q fun z=>z),q];simp⟩⟩
 by_cases hbe:b=e
 ·subst hbe;exact heo
 ·exact ⟨u,k b u hbe q⟩
end
def trk (h:Heap) (H:Hp):List Addr:=(Yq h.objs.size).filter fun a=>(H a).isSome
def a9t (h:Heap) (H:Hp):Heap:=PySem.W.hideAll h (trk h H)
theorem a8y (h:Heap) (H:Hp):(a9t h H).objs.size=h.objs.size:=PySem.W.hideAll_size _ _
theorem a9O {h:Heap} {H:Hp} {b:Addr} {o:Obj} (e:h.get? b=some o) (n:H b=none):(a9t h H).get? b=some o:=
 PySem.W.hideAll_get _ e fun hm=>by
  have q:(H b).isSome=true:=(Xi.mp hm).2
  rw [n] at q;simp at q
theorem b2c {h:Heap} {H:Hp} {b:Addr} {o:Obj} (e:(a9t h H).get? b=some o):h.get? b=some o∧H b=none:=by
 have e':h.get? b=some o:=PySem.W.of_hideAll (trk h H) e
 refine ⟨e',?_⟩
 cases q:H b with
 | none=>rfl
 | some x=>
  have hm:b∈trk h H:=Xi.mpr ⟨List.mem_range.mpr (Qo e'),by simp [q]⟩
  have z:(a9t h H).get? b=none:=PySem.W.hideAll_none (trk h H) hm
  rw [z] at e;cases e
def b1q (g h:Heap) (L:Addr):List (Addr×Obj):=(Yq h.objs.size).filterMap fun a=>if a=L∨(g.get? a).isSome=true then none else (h.get? a).map fun o=>(a,o)
def a3x (g h:Heap) (L d:Addr):List (Addr×Obj):=(b1q g h L).filter fun p=>decide (p.1≠d)
structure Mod (K:Qd) (mg:Str→Option Value) (base:Heap):Prop where
 kin:K.In base
 glob:base.Ns mainGlobals mg
 blt:∃mb,base.Ns builtinsNs mb∧∀x:Str,x≠"__name__"→mb x=bootBuiltins x
 nolimit:base.NoLimit
structure Cx where
 prog:Program
 w:World
 K:Qd
 mg:Str→Option Value
 base:Heap
 A:Around
 N:List Str
 s₀:Shared
 H₀:Hp
 env:Env
 outer:List Env
 stack:List Env
 ex:List Addr
 fn:Str→Bool
 calm:Bool
 pn:List (Addr×Obj)
 xe:Value→Shared→Prop
def frs (l:List Env):List Addr:=l.filterMap (·.frame)
abbrev Cx.fs (X:Cx):List Addr:=frs X.outer
def Vis (sc:Scope) (x:Str):Prop:=sc.names.lookup x=some .local∨sc.names.lookup x=some .cell∨sc.names.lookup x=some .free
def Loc (sc:Scope) (x:Str):Prop:=sc.names.lookup x=some .local∨sc.names.lookup x=some .cell
def c1b (env:Env) (h:Heap) (m:Str→Option Value) (x:Str) (u:Value):Prop:=
 (env.kindOf x=some .local∧m x=some u)∨((env.kindOf x=some .cell∨env.kindOf x=some .free)∧∃c,env.cells.lookup x=some c∧h.IsCell c (some u))
structure Cx.Ok (X:Cx):Prop where
 mod:Mod X.K X.mg X.base
 kind:X.env.scope.kind=.function
 glob:X.env.globals=mainGlobals
 blt:X.env.builtins=builtinsNs
 above:X.s₀.heap.objs.size≤X.env.locals
 inj:∀x y c,X.env.cells.lookup x=some c→X.env.cells.lookup y=some c→x=y
 has:∀x,(X.env.kindOf x=some .cell∨X.env.kindOf x=some .free)→∃c,X.env.cells.lookup x=some c
 cab:∀x c,X.fn x=true→X.env.cells.lookup x=some c→X.s₀.heap.objs.size≤c
 hd:X.calm=true→X.A.handled=none
 frames:X.A.frames=some X.stack
 stk:X.stack=X.outer∨(X.stack=X.env::X.outer∧X.env.frame=some X.env.locals)
 exf:∀b∈X.ex,b≠X.env.locals∧∀x c,X.env.cells.lookup x=some c→c≠b
 bs:∀b o,X.base.get? b=some o→X.s₀.heap.get? b=some o∧X.H₀ b=none
 bsz:X.base.objs.size≤X.s₀.heap.objs.size
 noex:∀b o,X.base.get? b=some o→b∉X.ex
 exfs:∀b∈X.ex,b∉X.fs
 funs:X.s₀.heap.FunFrames X.base X.outer
 frf:∀b∈X.fs,X.H₀ b=none
structure Inv (X:Cx) (pins:List (Addr×Obj)) (σ:List (Option V)) (H:Hp) (s:Shared):Prop where
 ok:X.Ok
 os:s.os=X.s₀.os
 bare:AllBare s.gens
 base:Un X.fs X.ex X.H₀ H X.s₀.heap s.heap
 loc:∃m,s.heap.Ns X.env.locals m∧∀(i:Nat) (x:Str) (v:V),X.N[i]?=some x→σ[i]?=some (some v)→Vis X.env.scope x→∃u,a0O v u∧c1b X.env s.heap m x u
 cell:∀x c,X.env.cells.lookup x=some c→∃v,s.heap.IsCell c v
 free:H X.env.locals=none
 freeC:∀x c,X.env.cells.lookup x=some c→H c=none
 pin:∀p∈X.pn++pins,s.heap.get? p.1=some p.2∧H p.1=none∧p.1≠X.env.locals∧p.1∉X.fs∧∀v,p.2.data≠.cell v
 hok:HOk X.prog X.w H s.heap
 len:σ.length=X.N.length
section
variable {X:Cx} {pins:List (Addr×Obj)} {σ:List (Option V)} {H H':Hp} {s:Shared} {h':Heap}
theorem Cx.Ok.nofr (ok:X.Ok) {b:Addr} {o:Obj} (e:X.base.get? b=some o):b∉X.fs:=fun hb=>by
 have:=(ok.funs.mem hb).1
 rw [e] at this;cases this
theorem Inv.bs (I:Inv X pins σ H s):∀b o,X.base.get? b=some o→s.heap.get? b=some o∧H b=none:=fun b o e=>
 ⟨I.base.keep b o (I.ok.bs b o e).1 (I.ok.bs b o e).2 (I.ok.nofr e) (I.ok.noex b o e),I.base.free b o (I.ok.bs b o e).1 (I.ok.bs b o e).2 (I.ok.noex b o e)⟩
theorem Inv.bk (I:Inv X pins σ H s):∀b o,X.base.get? b=some o→s.heap.get? b=some o:=fun b o e=>(I.bs b o e).1
theorem Inv.mod (I:Inv X pins σ H s):Mod X.K X.mg X.base:=I.ok.mod
theorem Inv.kIn (I:Inv X pins σ H s):X.K.In s.heap:=I.ok.mod.kin.keeps I.bk
theorem Inv.lt (I:Inv X pins σ H s):X.env.locals < s.heap.objs.size:=let ⟨_,hn,_⟩:=I.loc;hn.lt
theorem Inv.sz (I:Inv X pins σ H s):X.s₀.heap.objs.size≤s.heap.objs.size:=Qi I.ok.above (Vr I.lt)
theorem Inv.nofs (I:Inv X pins σ H s) {a:Addr} (h:s.heap.objs.size≤a):a∉X.fs:=fun hb=>by
 obtain ⟨_,o,ho,_⟩:=I.ok.funs.mem hb
 exact absurd (Xd (Qo ho) (Qi I.sz h)) (Zn _)
theorem Inv.cne (I:Inv X pins σ H s):∀x c,X.env.cells.lookup x=some c→c≠X.env.locals:=fun x c e z=>by
 obtain ⟨v,o,ho,hd⟩:=I.cell x c e
 obtain ⟨m,⟨o',es,ep,ho',hd',_⟩,_⟩:=I.loc
 rw [z,ho'] at ho;cases ho;rw [hd'] at hd;cases hd
theorem Inv.funs (I:Inv X pins σ H s):s.heap.FunFrames X.base X.outer:=by
 have all:∀(l:List Env),(∀b∈frs l,b∈X.fs)→X.s₀.heap.FunFrames X.base l→s.heap.FunFrames X.base l:=by
  intro l
  induction l with
  | nil=>intro _ _;trivial
  | cons env r ih=>
   intro hs hl
   obtain ⟨hk,⟨L,o,hf,hn,ho,hd⟩,hr⟩:=hl
   have hL:L∈X.fs:=hs L (by unfold frs;rw [Jm,hf];exact Xg)
   obtain ⟨sl,e⟩:=I.base.slot L o ho (I.ok.frf L hL) hL fun z=>I.ok.exfs L z hL
   exact ⟨hk,⟨L,_,hf,hn,e,hd⟩,ih (fun b hb=>hs b (by unfold frs;rw [Jm,hf];exact Qu _ hb)) hr⟩
 exact all X.outer (fun _ hb=>hb) I.ok.funs
theorem Inv.stack (I:Inv X pins σ H s):s.heap.FunFrames X.base X.stack:=by
 rcases I.ok.stk with e | ⟨e,hf⟩
 ·rw [e];exact I.funs
 ·rw [e]
  obtain ⟨m,hn,_⟩:=I.loc
  refine .cons (by rw [I.ok.kind];decide) hf hn ?_ I.funs
  exact Heap.get?_none_of_le (Qi I.ok.bsz I.ok.above)
theorem Inv.stkSub (I:Inv X pins σ H s):∀b∈frs X.stack,b∈X.env.locals::X.fs:=fun b hb=>by
 rcases I.ok.stk with e | ⟨e,hf⟩
 ·rw [e] at hb;exact Qu _ hb
 ·rw [e] at hb
  unfold frs at hb
  rw [Jm,hf] at hb
  exact hb
theorem Inv.stkFree (I:Inv X pins σ H s):∀b∈frs X.stack,H b=none:=fun b hb=>by
 rcases Qx.mp (I.stkSub b hb) with e | hb
 ·rw [e];exact I.free
 ·obtain ⟨_,o,ho,_⟩:=I.ok.funs.mem hb
  exact I.base.free b o ho (I.ok.frf b hb) fun z=>I.ok.exfs b z hb
theorem Inv.step {g':Array GenState} {t':Nat} {d':Drawn} {ch:List Addr} (I:Inv X pins σ H s)
  (hch:∀b∈ch,(b∈X.ex∨X.s₀.heap.objs.size≤b)∧b≠X.env.locals∧(∀x c,X.env.cells.lookup x=some c→c≠b)∧∀p∈X.pn++pins,p.1≠b)
  (keep:∀b o,b≠X.env.locals→b∉X.fs→b∉ch→s.heap.get? b=some o→H b=none→h'.get? b=some o)
  (slot:∀b o,b≠X.env.locals→b∈X.fs→b∉ch→s.heap.get? b=some o→H b=none→∃sl,h'.get? b=some {o with slots:=sl}) (free:∀b o,b∉ch→s.heap.get? b=some o→H b=none→H' b=none)
  (there:∀b o,b∉ch→s.heap.get? b=some o→∃o',h'.get? b=some o')
  (tups:∀b xs,H b=some (.tup xs)→H' b=some (.tup xs)) (frzs:∀b o u,H b=some (.frz o u)→H' b=some (.frz o u)) (tbls:∀b ps,H b=some (.tbl ps)→∃more,H' b=some (.tbl (ps++more)))
  (ns:∀m,s.heap.Ns X.env.locals m→h'.Ns X.env.locals m) (hok:HOk X.prog X.w H' h') (hg:AllBare g'):
  Inv X pins σ H' {s with heap:=h',gens:=g',drawn:=d',toks:=t'}:=by
 have neL:∀b o,X.s₀.heap.get? b=some o→b≠X.env.locals:=fun b o e=>Xc (Xd (Qo e) I.ok.above)
 have neC:∀b o,X.s₀.heap.get? b=some o→b∉X.ex→b∉ch:=fun b o e hx hb=>by
  rcases (hch b hb).1 with z | z
  ·exact hx z
  ·exact absurd (Xd (Qo e) z) (Zn _)
 have cellK:∀x c,X.env.cells.lookup x=some c→∀v,s.heap.IsCell c v→h'.IsCell c v:=fun x c e v ⟨o,ho,hd⟩=>by
  have nch:c∉ch:=fun z=>(hch c z).2.2.1 x c e rfl
  by_cases hc:c∈X.fs
  ·obtain ⟨sl,q⟩:=slot c o (I.cne x c e) hc nch ho (I.freeC x c e)
   exact ⟨_,q,hd⟩
  ·exact ⟨o,keep c o (I.cne x c e) hc nch ho (I.freeC x c e),hd⟩
 refine ⟨I.ok,I.os,hg,⟨fun b o e n hb hx=>?_,fun b o e n hb hx=>?_,fun b o e n hx=>?_,fun b o e hx=>?_,fun b xs e=>tups b xs (I.base.tups b xs e),fun b o xs e=>frzs b o xs (I.base.frzs b o xs e),fun b ps e=>?_⟩,?_,fun x c e=>?_,?_,fun x c e=>?_,fun p hp=>?_,hok,I.len⟩
 ·exact keep b o (neL b o e) hb (neC b o e hx) (I.base.keep b o e n hb hx) (I.base.free b o e n hx)
 ·obtain ⟨sl,e1⟩:=I.base.slot b o e n hb hx
  obtain ⟨sl',e2⟩:=slot b _ (neL b o e) hb (neC b o e hx) e1 (I.base.free b o e n hx)
  exact ⟨sl',e2⟩
 ·obtain ⟨o',e1⟩:=I.base.there b o e hx
  exact free b o' (neC b o e hx) e1 (I.base.free b o e n hx)
 ·obtain ⟨o',e1⟩:=I.base.there b o e hx
  exact there b o' (neC b o e hx) e1
 ·obtain ⟨m1,e1⟩:=I.base.tbls b ps e
  obtain ⟨m2,e2⟩:=tbls b _ e1
  exact ⟨m1++m2,by rw [e2,Vq]⟩
 ·obtain ⟨m,hn,hl⟩:=I.loc
  refine ⟨m,ns m hn,fun i x v e1 e2 e3=>?_⟩
  obtain ⟨u,r,l⟩:=hl i x v e1 e2 e3
  refine ⟨u,r,?_⟩
  rcases l with l | ⟨k,c,e,z⟩
  ·exact .inl l
  ·exact .inr ⟨k,c,e,cellK x c e _ z⟩
 ·obtain ⟨v,z⟩:=I.cell x c e
  exact ⟨v,cellK x c e v z⟩
 ·obtain ⟨m,⟨o,_,_,ho,_⟩,_⟩:=I.loc
  exact free _ o (fun z=>(hch _ z).2.1 rfl) ho I.free
 ·obtain ⟨v,o,ho,hd⟩:=I.cell x c e
  exact free c o (fun z=>(hch c z).2.2.1 x c e rfl) ho (I.freeC x c e)
 ·obtain ⟨e,n,ne,nf,d⟩:=I.pin p hp
  have nch:p.1∉ch:=fun z=>(hch p.1 z).2.2.2 p hp rfl
  exact ⟨keep p.1 p.2 ne nf nch e n,free p.1 p.2 nch e n,ne,nf,d⟩
theorem Inv.un {t':Nat} (I:Inv X pins σ H s) (u:Un X.fs [] H H' s.heap h') (hok:HOk X.prog X.w H' h'):Inv X pins σ H' {s with heap:=h',toks:=t'}:=by
 obtain ⟨m,⟨o,es,ep,ho,r⟩,_⟩:=id I.loc
 obtain ⟨sl,hL⟩:=u.any ho I.free (by simp)
 exact I.step (g':=s.gens) (d':=s.drawn) (ch:=[]) (fun _ z=>nomatch z) (fun b o _ hb _ e n=>u.keep b o e n hb (by simp)) (fun b o _ hb _ e n=>u.slot b o e n hb (by simp)) (fun b o _ e n=>u.free b o e n (by simp)) (fun b o _ e=>u.there b o e (by simp)) u.tups u.frzs u.tbls (fun m' hm=>by
  obtain ⟨o',es',ep',ho',r'⟩:=hm
  rw [ho] at ho';cases ho'
  exact ⟨_,es',ep',hL,r'⟩) hok I.bare
theorem Inv.call {g':Array GenState} {t':Nat} {d':Drawn} {ch:List Addr} (I:Inv X pins σ H s) (u:Un (frs X.stack) ch H H' s.heap h') (hok:HOk X.prog X.w H' h') (hg:AllBare g')
  (hch:∀b∈ch,(b∈X.ex∨X.s₀.heap.objs.size≤b)∧b≠X.env.locals∧(∀x c,X.env.cells.lookup x=some c→c≠b)∧∀p∈X.pn++pins,p.1≠b):
  Inv X pins σ H' {s with heap:=h',gens:=g',drawn:=d',toks:=t'}:=by
 obtain ⟨m,⟨o,es,ep,ho,r⟩,_⟩:=id I.loc
 obtain ⟨sl,hL⟩:=u.any ho I.free fun z=>(hch _ z).2.1 rfl
 exact I.step (ch:=ch) hch (fun b o hL hb hc e n=>u.keep b o e n (fun z=>(Qx.mp (I.stkSub b z)).elim hL hb) hc) (fun b o _ _ hc e n=>u.any e n hc) (fun b o hc e n=>u.free b o e n hc) (fun b o hc e=>u.there b o e hc) u.tups u.frzs u.tbls (fun m' hm=>by
  obtain ⟨o',es',ep',ho',r'⟩:=hm
  rw [ho] at ho';cases ho'
  exact ⟨_,es',ep',hL,r'⟩) hok hg
theorem Inv.turned {t':Nat} {it:Addr} (I:Inv X pins σ H s) (k:∀b o,b≠it→s.heap.get? b=some o→h'.get? b=some o) (hn:H it=none) (hL:it≠X.env.locals)
  (h1:it∈X.ex∨X.s₀.heap.objs.size≤it) (h2:∀x c,X.env.cells.lookup x=some c→c≠it) (h3:∀p∈X.pn++pins,p.1≠it):Inv X pins σ H {s with heap:=h',toks:=t'}:=by
 have nit:∀b u,H b=some u→b≠it:=fun b u e z=>by rw [z,hn] at e;cases e
 refine I.step (g':=s.gens) (d':=s.drawn) (ch:=[it]) (fun b hb=>?_) (fun b o _ _ hc e _=>k b o (fun z=>hc (by simp [z])) e) (fun b o _ _ hc e _=>⟨o.slots,k b o (fun z=>hc (by simp [z])) e⟩) (fun _ _ _ _ n=>n)
  (fun b o hc e=>⟨o,k b o (fun z=>hc (by simp [z])) e⟩) (fun _ _ e=>e) (fun _ _ _ e=>e) (fun b ps e=>⟨#[],by rw [e];simp⟩) (fun m hm=>?_) (fun b u e=>?_) I.bare
 ·have e:b=it:=by simpa using hb
  subst e
  exact ⟨h1,hL,h2,h3⟩
 ·obtain ⟨o,es,ep,ho,r⟩:=hm
  exact ⟨o,es,ep,k _ o (Ne.symm hL) ho,r⟩
 ·refine (I.hok b u e).stay (fun c v hc q=>k c v ?_ q) (fun _ q=>q) fun _ _ q=>q
  rcases hc with z | z
  ·rw [z];exact nit b u e
  ·exact nit c _ z
theorem Inv.tok (I:Inv X pins σ H s) (t:Nat):Inv X pins σ H {s with toks:=t}:=I.un (h':=s.heap) (t':=t) Un.refl I.hok
theorem Inv.kept {t':Nat} (I:Inv X pins σ H s) (k:∀b u,s.heap.get? b=some u→h'.get? b=some u):Inv X pins σ H {s with heap:=h',toks:=t'}:=I.un (Un.kept k) (I.hok.kept k)
theorem Inv.laid {a:Addr} {o:HO} {t':Nat} (I:Inv X pins σ H s) (k:∀b u,s.heap.get? b=some u→h'.get? b=some u) (hp:s.heap.objs.size≤a) (new:a1z X.prog X.w (upd H a o) h' a o):
  Inv X pins σ (upd H a o) {s with heap:=h',toks:=t'}:=I.un (Un.laid k hp (I.hok.fresh hp)) (I.hok.laid k hp new)
theorem Inv.write {x e:Addr} {o:HO} {t':Nat} (I:Inv X pins σ H s) (mu:Mut (H x)) (he:e=x∨H e=some (.own x)) (k:∀b u,b≠e→s.heap.get? b=some u→h'.get? b=some u) (heo:∃u,h'.get? e=some u)
  (new:a1z X.prog X.w (upd H x o) h' x o):Inv X pins σ (upd H x o) {s with heap:=h',toks:=t'}:=I.un (Un.write mu he k heo) (I.hok.write mu he k heo new)
theorem Inv.pins_of {pins':List (Addr×Obj)} (I:Inv X pins σ H s) (h:∀p∈pins',s.heap.get? p.1=some p.2∧H p.1=none∧p.1≠X.env.locals∧p.1∉X.fs∧∀v,p.2.data≠.cell v):Inv X pins' σ H s:=
 ⟨I.ok,I.os,I.bare,I.base,I.loc,I.cell,I.free,I.freeC,fun p hp=>(Xn.mp hp).elim (fun z=>I.pin p (Yz _ z)) (h p),I.hok,I.len⟩
theorem a5H {N:List Str} (hN:N.Nodup) {i j:Nat} {x:Str} (a:N[i]?=some x) (b:N[j]?=some x):i=j:=by
 obtain ⟨h1,e1⟩:=Qv.mp a
 obtain ⟨h2,e2⟩:=Qv.mp b
 exact (List.getElem_inj hN).mp (e1.trans e2.symm)
theorem a4p {M:Model} {A:Around} {E:Value→Shared→Prop} {i:Nat} {x:Str} {v:V} {u:Value} {Q:Unit→Shared→Prop} (I:Inv X pins σ H s) (hN:X.N.Nodup) (hi:X.N[i]?=some x) (hx:Loc X.env.scope x) (r:a0O v u)
  (h:∀s',Inv X pins (σ.set i (some v)) H s'→(∃a,Ud a s.heap s'.heap∧(a=X.env.locals∨X.env.cells.lookup x=some a))→Q () s') (hf:X.fn x=true∨X.env.scope.names.lookup x=some .local:=by first | exact .inl rfl | exact .inr rfl | assumption):wpAny M A (storeName X.env x u) Q E s:=by
 obtain ⟨m,hn,hl⟩:=id I.loc
 have hcls:(X.env.scope.kind == .class || (X.env.scope.kind == .module && X.env.locals != X.env.globals))=false:=by rw [I.ok.kind];rfl
 have hiσ:i < σ.length:=by rw [I.len];exact (Qv.mp hi).1
 have cne:=I.cne
 have tracked:∀{a:Addr} {h':Heap},(∃o,s.heap.get? a=some o∧H a=none)→Ud a s.heap h'→HOk X.prog X.w H h':=fun {a h'} ha hs b ob e=>by
  obtain ⟨_,_,hfree⟩:=ha
  refine (I.hok b ob e).stay (fun c w' hc q=>(hs.2 c ?_).trans q) (fun _ q=>q) fun _ _ q=>q
  rintro rfl
  rcases hc with rfl | hc
  ·rw [hfree] at e;cases e
  ·rw [hfree] at hc;cases hc
 rcases hx with hk | hk
 ·refine wpAny_storeName_local hk hn (fun h' hn' hs=>?_) hcls
  obtain ⟨oL,_,_,hoL,_⟩:=id hn
  refine h _ ⟨I.ok,I.os,I.bare,⟨fun b o e n hb hx=>?_,fun b o e n hb hx=>?_,I.base.free,fun b o e hx=>?_,I.base.tups,I.base.frzs,I.base.tbls⟩,⟨_,hn',fun j y v' e1 e2 e3=>?_⟩,fun y c e=>?_,I.free,I.freeC,fun p hp=>?_,tracked ⟨oL,hoL,I.free⟩ hs,by simpa using I.len⟩ ⟨_,hs,.inl rfl⟩
  ·exact (hs.2 b (Xc (Xd (Qo e) I.ok.above))).trans (I.base.keep b o e n hb hx)
  ·obtain ⟨sl,e1⟩:=I.base.slot b o e n hb hx
   exact ⟨sl,(hs.2 b (Xc (Xd (Qo e) I.ok.above))).trans e1⟩
  ·obtain ⟨o',e1⟩:=I.base.there b o e hx
   exact ⟨o',(hs.2 b (Xc (Xd (Qo e) I.ok.above))).trans e1⟩
  ·by_cases hj:j=i
   ·subst hj
    rw [hi] at e1;cases e1
    rw [Uu hiσ] at e2
    cases e2
    exact ⟨u,r,.inl ⟨hk,by simp⟩⟩
   ·rw [Ve (Ne.symm hj)] at e2
    obtain ⟨u',r',q⟩:=hl j y v' e1 e2 e3
    refine ⟨u',r',?_⟩
    rcases q with ⟨k,e⟩ | ⟨k,c,e,z⟩
    ·refine .inl ⟨k,?_⟩
     have:y≠x:=fun e=>hj (a5H hN e1 (e ▸ hi))
     simp [this,e]
    ·exact .inr ⟨k,c,e,z.sameBut hs (cne y c e)⟩
  ·obtain ⟨w',z⟩:=I.cell y c e
   exact ⟨w',z.sameBut hs (cne y c e)⟩
  ·obtain ⟨e,n,ne,nf,d⟩:=I.pin p hp
   exact ⟨(hs.2 p.1 ne).trans e,n,ne,nf,d⟩
 ·have hfn:X.fn x=true:=by
   rcases hf with z | z
   ·exact z
   ·rw [z] at hk;cases hk
  obtain ⟨c,hc⟩:=I.ok.has x (.inl hk)
  obtain ⟨w',z⟩:=I.cell x c hc
  refine wpAny_storeName_cell I.ok.kind hk hc z (fun h' hc' hs=>?_)
  obtain ⟨oc,hoc,hocd⟩:=id z
  refine h {s with heap:=h'} ⟨I.ok,I.os,I.bare,⟨fun b o e n hb hx=>?_,fun b o e n hb hx=>?_,I.base.free,fun b o e hx=>?_,I.base.tups,I.base.frzs,I.base.tbls⟩,⟨m,hn.sameBut hs (Ne.symm (cne x c hc)),fun j y v' e1 e2 e3=>?_⟩,fun y c' e=>?_,I.free,I.freeC,fun p hp=>?_,tracked ⟨oc,hoc,I.freeC x c hc⟩ hs,by simpa using I.len⟩ ⟨c,hs,.inr hc⟩
  ·exact (hs.2 b (Xc (Xd (Qo e) (I.ok.cab x c hfn hc)))).trans (I.base.keep b o e n hb hx)
  ·obtain ⟨sl,e1⟩:=I.base.slot b o e n hb hx
   exact ⟨sl,(hs.2 b (Xc (Xd (Qo e) (I.ok.cab x c hfn hc)))).trans e1⟩
  ·obtain ⟨o',e1⟩:=I.base.there b o e hx
   exact ⟨o',(hs.2 b (Xc (Xd (Qo e) (I.ok.cab x c hfn hc)))).trans e1⟩
  ·by_cases hj:j=i
   ·subst hj
    rw [hi] at e1;cases e1
    rw [Uu hiσ] at e2
    cases e2
    exact ⟨u,r,.inr ⟨.inl hk,c,hc,hc'⟩⟩
   ·rw [Ve (Ne.symm hj)] at e2
    obtain ⟨u',r',q⟩:=hl j y v' e1 e2 e3
    refine ⟨u',r',?_⟩
    rcases q with q | ⟨k,c',e,z'⟩
    ·exact .inl q
    ·refine .inr ⟨k,c',e,z'.sameBut hs ?_⟩
     rintro rfl
     exact hj (a5H hN e1 (I.ok.inj _ _ _ e hc ▸ hi))
  ·by_cases hcc:c'=c
   ·subst hcc;exact ⟨_,hc'⟩
   ·obtain ⟨w2,z2⟩:=I.cell y c' e
    exact ⟨w2,z2.sameBut hs hcc⟩
  ·obtain ⟨e,n,ne,nf,d⟩:=I.pin p hp
   refine ⟨(hs.2 p.1 ?_).trans e,n,ne,nf,d⟩
   intro q
   rw [q,hoc] at e
   have q':oc=p.2:=Option.some.inj e
   exact d w' (by rw [←q'];exact hocd)
theorem a5N {M:Model} {A:Around} {E:Value→Shared→Prop} {i:Nat} {x:Str} {v:V} {u:Value} {Q:Unit→Shared→Prop} (I:Inv X pins σ H s) (hN:X.N.Nodup) (hi:X.N[i]?=some x) (hx:Loc X.env.scope x) (r:a0O v u)
  (h:∀s',Inv X pins (σ.set i (some v)) H s'→Q () s') (hf:X.fn x=true∨X.env.scope.names.lookup x=some .local:=by first | exact .inl rfl | exact .inr rfl | assumption):wpAny M A (storeName X.env x u) Q E s:=
 a4p I hN hi hx r (fun s' I' _=>h s' I') hf
theorem Inv.call' {s':Shared} {ch:List Addr} (I:Inv X pins σ H s) (ho:s'.os=s.os) (u:Un (frs X.stack) ch H H' s.heap s'.heap) (hok:HOk X.prog X.w H' s'.heap) (hg:AllBare s'.gens)
  (hch:∀b∈ch,(b∈X.ex∨X.s₀.heap.objs.size≤b)∧b≠X.env.locals∧(∀x c,X.env.cells.lookup x=some c→c≠b)∧∀p∈X.pn++pins,p.1≠b):Inv X pins σ H' s':=by
 obtain ⟨h',g',d',t',o'⟩:=s'
 have e:o'=s.os:=ho
 subst e
 exact I.call (g':=g') (t':=t') (d':=d') u hok hg hch
end
abbrev XK:=Value→Option Addr→Hp→Prop
abbrev St:=List (Option V)
abbrev VK:=V→Hp→Prop
abbrev TE:=St→Hp→VK→Prop
abbrev TT:=St→Hp→(Bool→Hp→Prop)→Prop
abbrev TA:=St→Hp→(List V→Hp→Prop)→Prop
structure a8P where
 nx:St→Hp→Prop
 rt:VK
 bk:St→Hp→Prop:=fun _ _=>False
 ct:St→Hp→Prop:=fun _ _=>False
abbrev TS:=a8P→St→Hp→Prop
def EP (X:Cx) (pins:List (Addr×Obj)) (σ:St) (Q:VK) (u:Value) (s':Shared):Prop:=∃v H',Inv X pins σ H' s'∧a0O v u∧Q v H'
def TP (X:Cx) (pins:List (Addr×Obj)) (σ:St) (Q:Bool→Hp→Prop) (b:Bool) (s':Shared):Prop:=∃H',Inv X pins σ H' s'∧Q b H'
def AP (X:Cx) (pins:List (Addr×Obj)) (σ:St) (Q:List V→Hp→Prop) (us:List Value) (s':Shared):Prop:=∃vs H',Inv X pins σ H' s'∧a0H vs us∧Q vs H'
def SP (X:Cx) (pins:List (Addr×Obj)) (D:a8P) (f:Flow) (s':Shared):Prop:=
 match f with
 | .next=>∃σ' H',Inv X pins σ' H' s'∧D.nx σ' H'
 | .brk=>∃σ' H',Inv X pins σ' H' s'∧D.bk σ' H'
 | .cont=>∃σ' H',Inv X pins σ' H' s'∧D.ct σ' H'
 | .ret u=>∃v σ' H',Inv X pins σ' H' s'∧a0O v u∧D.rt v H'
def PE (X:Cx) (e:Expr) (t:TE):Prop:=
 ∀(pins:List (Addr×Obj)) (s:Shared) (σ:St) (H:Hp) (Q:VK),Inv X pins σ H s→t σ H Q→wpAny (model X.prog X.w) X.A (eval e X.env) (EP X pins σ Q) X.xe s
def PT (X:Cx) (e:Expr) (t:TT):Prop:=
 ∀(pins:List (Addr×Obj)) (s:Shared) (σ:St) (H:Hp) (Q:Bool→Hp→Prop),Inv X pins σ H s→t σ H Q→wpAny (model X.prog X.w) X.A (isTrue e X.env (eval e X.env)) (TP X pins σ Q) X.xe s
def PW (X:Cx) (e:Expr) (t:TT):Prop:=
 ∀(whole:Sem Value) (pins:List (Addr×Obj)) (s:Shared) (σ:St) (H:Hp) (Q:Bool→Hp→Prop),Inv X pins σ H s→t σ H Q→wpAny (model X.prog X.w) X.A (isTrue e X.env whole) (TP X pins σ Q) X.xe s
theorem PW.pt {X:Cx} {e:Expr} {t:TT} (h:PW X e t):PT X e t:=h _
def PA (X:Cx) (es:List Expr) (t:TA):Prop:=
 ∀(pos:Pos) (pins:List (Addr×Obj)) (s:Shared) (σ:St) (H:Hp) (Q:List V→Hp→Prop),Inv X pins σ H s→t σ H Q→wpAny (model X.prog X.w) X.A (spliced (backTo pos (starEach es X.env))) (AP X pins σ Q) X.xe s
def PS (X:Cx) (st:Stmt) (t:TS):Prop:=
 ∀(pins:List (Addr×Obj)) (s:Shared) (σ:St) (H:Hp) (D:a8P),Inv X pins σ H s→t D σ H→wpAny (model X.prog X.w) X.A (exec st X.env) (SP X pins D) X.xe s
def PSs (X:Cx) (st:List Stmt) (t:TS):Prop:=
 ∀(pins:List (Addr×Obj)) (s:Shared) (σ:St) (H:Hp) (D:a8P),Inv X pins σ H s→t D σ H→wpAny (model X.prog X.w) X.A (execs st X.env) (SP X pins D) X.xe s
theorem thn {α:Type} {t:Sem α} {Q Q':α→Shared→Prop} {M:Model} {A:Around} {E:Value→Shared→Prop} {s:Shared} (h:wpAny M A t Q E s) (hQ:∀a s,Q a s→Q' a s):wpAny M A t Q' E s:=wpAny_mono h hQ fun _ _ x=>x
section
variable {X:Cx}
theorem bin {a b:Expr} {ta tb:TE} (ha:PE X a ta) (hb:PE X b tb) {pins:List (Addr×Obj)} {s:Shared} {σ:St} {H:Hp} {R:V→V→Hp→Prop} (I:Inv X pins σ H s) (h:ta σ H fun x H1=>tb σ H1 fun y H2=>R x y H2)
  {α:Type} {Q:α→Shared→Prop} {f:Value→Value→Sem α}
  (hf:∀v u s2 x y H2,Inv X pins σ H2 s2→a0O x v→a0O y u→R x y H2→wpAny (model X.prog X.w) X.A (f v u) Q X.xe s2):
  wpAny (model X.prog X.w) X.A (eval a X.env) (fun v s₁=>wpAny (model X.prog X.w) X.A (eval b X.env) (fun u s₂=>wpAny (model X.prog X.w) X.A (f v u) Q X.xe s₂) X.xe s₁) X.xe s:=by
 refine thn (ha pins s σ H _ I h) fun v s1 ⟨x,H1,I1,r1,q1⟩=>?_
 refine thn (hb pins s1 σ H1 _ I1 q1) fun u s2 ⟨y,H2,I2,r2,q2⟩=>?_
 exact hf v u s2 x y H2 I2 r1 r2 q2
def a0o (i:Nat):TE:=fun σ H Q=>∃v,σ[i]?=some (some v)∧Q v H
def tC (v:V):TE:=fun _ H Q=>Q v H
theorem b5I {i:Nat} {x:Str} {pos:Pos} (hN:X.N[i]?=some x) (hv:Vis X.env.scope x) (hd:(x == ("__debug__":Str))=false:=by decide) (hcd:(x == ("__classdict__":Str))=false:=by decide):PE X (.Name x pos) (a0o i):=by
 intro pins s σ H Q I h
 obtain ⟨v,e,h⟩:=h
 obtain ⟨m,hn,hl⟩:=I.loc
 obtain ⟨u,r,l⟩:=hl i x v hN e hv
 have fin:EP X pins σ Q u s:=⟨v,H,I,r,h⟩
 rcases l with ⟨hk,hm⟩ | ⟨hk,c,hc,hcell⟩
 ·exact wpAny_Name (wpAny_loadName_local I.ok.kind hk hn hm fin) hd
 ·rcases hk with hk | hk
  ·exact wpAny_Name (wpAny_loadName_cell I.ok.kind hk hc hcell fin) hd
  ·exact wpAny_Name (wpAny_loadName_free I.ok.kind hk hc hcell fin hcd) hd
theorem b4K {i j pos}:PE X (.Constant (.int i) j pos) (tC (.int i)):=fun _ _ _ H _ I h=>wpAny_Constant_int ⟨.int i,H,I.tok _,⟨_,rfl⟩,h⟩
theorem b6Q {b j pos}:PE X (.Constant (.bool b) j pos) (tC (.bl b)):=fun _ _ _ H _ I h=>Constant_bool ⟨.bl b,H,I,rfl,h⟩
theorem b6i {x j pos}:PE X (.Constant (.str x) j pos) (tC (.str x)):=fun _ _ _ H _ I h=>Calls.Constant_str ⟨.str x,H,I.tok _,⟨_,rfl⟩,h⟩
def Gl (X:Cx) (x:Str):Prop:=X.env.kindOf x=some .globalImplicit
theorem a5g {E:Value→Shared→Prop} {pins:List (Addr×Obj)} {s:Shared} {σ:St} {H:Hp} {x:Str} {u:Value} {pos:Pos} {Q:Value→Shared→Prop} (I:Inv X pins σ H s) (hg:Gl X x) (hm:X.mg x=some u) (h:Q u s)
  (hd:(x == ("__debug__":Str))=false:=by decide):wpAny (model X.prog X.w) X.A (eval (.Name x pos) X.env) Q E s:=
 Calls.Name_function_global I.ok.kind hg (Calls.loadGlobal_global (by rw [I.ok.glob];exact I.mod.glob.keeps I.bk) hm h) hd
theorem a2T {E:Value→Shared→Prop} {pins:List (Addr×Obj)} {s:Shared} {σ:St} {H:Hp} {x:Str} {u:Value} {pos:Pos} {Q:Value→Shared→Prop} (I:Inv X pins σ H s) (hg:Gl X x) (hm:X.mg x=none) (hv:bootBuiltins x=some u) (h:Q u s)
  (hn:x≠"__name__":=by decide) (hd:(x == ("__debug__":Str))=false:=by decide):wpAny (model X.prog X.w) X.A (eval (.Name x pos) X.env) Q E s:=by
 obtain ⟨mb,h1,h2⟩:=I.mod.blt
 exact Calls.Name_function_global I.ok.kind hg (Calls.loadGlobal_builtin (by rw [I.ok.glob];exact I.mod.glob.keeps I.bk) hm (by rw [I.ok.blt];exact h1.keeps I.bk) ((h2 x hn).trans hv) h) hd
theorem b1U {x:Str} {v:V} {u:Value} {pos:Pos} (hg:Gl X x) (hm:X.mg x=some u) (r:a0O v u) (hd:(x == ("__debug__":Str))=false:=by decide):PE X (.Name x pos) (tC v):=
 fun _ _ _ H _ I h=>a5g I hg hm ⟨v,H,I,r,h⟩ hd
variable {a b:Expr} {ta tb:TE} {pos:Pos}
def PC (X:Cx) (op:CmpOp) (a b:Expr) (t:TE):Prop:=
 ∀(pins:List (Addr×Obj)) (s:Shared) (σ:St) (H:Hp) (Q:VK),Inv X pins σ H s→t σ H Q→
  wpAny (model X.prog X.w) X.A (eval a X.env) (fun v s₁=>wpAny (model X.prog X.w) X.A (eval b X.env) (fun u s₂=>wpAny (model X.prog X.w) X.A (compareOp op v u) (EP X pins σ Q) X.xe s₂) X.xe s₁) X.xe s
theorem a5O (b:Expr) {op:CmpOp} (h:op≠.In) (h2:op≠.NotIn):behindInMarks op b=false:=by
 have e1:(op == CmpOp.In)=false:=by cases op<;>first | rfl | exact absurd rfl h
 have e2:(op == CmpOp.NotIn)=false:=by cases op<;>first | rfl | exact absurd rfl h2
 cases b<;>simp [behindInMarks,e1,e2]
def tB (t:TE):TT:=fun σ H Q=>t σ H fun x H1=>∃c,x=.bl c∧Q c H1
theorem b3l {op:CmpOp} {t:TE} (h:PC X op a b t) (h1:behindInMarks op b=false:=by first | exact a5O _ ‹dc› ‹dc› | rfl):PE X (.Compare a [op] [b] pos) t:=fun pins s σ H Q I hw=>wpAny_Compare1 (h pins s σ H Q I hw) h1
theorem b2U {op:CmpOp} {t:TE} (h:PC X op a b t) (h1:behindInMarks op b=false:=by first | exact a5O _ ‹dc› ‹dc› | rfl):PT X (.Compare a [op] [b] pos) (tB t):=by
 intro pins s σ H Q I hw
 refine wpAny_isTrue_Compare1 (thn (h pins s σ H _ I hw) fun v s1 h1=>thn h1 fun u s2 h2=>thn h2 fun c s3 ⟨x,H1,I1,r1,q1⟩=>?_) h1
 obtain ⟨d,rfl,q⟩:=q1
 cases r1
 exact wpAny_truthy_bool ⟨H1,I1,q⟩
theorem b3F {e:Expr} {t:TE} (h:PE X e t) (he:∀whole,isTrue e X.env whole=(do let v ←whole;standAt e.pos;holding [v] (truthy v)):=by intro _;rfl):PT X e (tB t):=by
 intro pins s σ H Q I hw
 refine isTrue_plain (thn (h pins s σ H _ I hw) fun v s1 ⟨x,H1,I1,r1,q1⟩=>?_) (he _)
 obtain ⟨d,rfl,q⟩:=q1
 cases r1
 exact wpAny_truthy_bool ⟨H1,I1,q⟩
variable {tA tB':TT} {a3x:List Expr}
def a8l (t u:TT):TT:=fun σ H Q=>t σ H fun c H1=>if c=true then u σ H1 Q else Q false H1
def tOr (t u:TT):TT:=fun σ H Q=>t σ H fun c H1=>if c=true then Q true H1 else u σ H1 Q
def a6L (t:TT):TT:=fun σ H Q=>t σ H fun c H1=>Q (!c) H1
theorem b1p (ha:PT X a tA):PW X (.BoolOp .And [a] pos) tA:=by
 intro wh pins s σ H Q I h
 refine isTrue_and (thn (ha pins s σ H Q I h) fun c s1 e=>?_)
 cases c with
 | true=>exact isTrue_and_nil e
 | false=>exact e
theorem b2Y (ha:PT X a tA):PW X (.BoolOp .Or [a] pos) tA:=by
 intro wh pins s σ H Q I h
 refine isTrue_or (thn (ha pins s σ H Q I h) fun c s1 e=>?_)
 cases c with
 | false=>exact isTrue_or_nil e
 | true=>exact e
theorem b4d (ha:PT X a tA) (hb:PW X (.BoolOp .And (b::a3x) pos) tB'):PW X (.BoolOp .And (a::b::a3x) pos) (a8l tA tB'):=by
 intro wh pins s σ H Q I h
 refine isTrue_and (thn (ha pins s σ H _ I h) fun c s1 ⟨H1,I1,q1⟩=>?_)
 cases c with
 | true=>exact hb wh pins s1 σ H1 Q I1 q1
 | false=>exact ⟨H1,I1,q1⟩
theorem b6z (ha:PT X a tA) (hb:PW X (.BoolOp .Or (b::a3x) pos) tB'):PW X (.BoolOp .Or (a::b::a3x) pos) (tOr tA tB'):=by
 intro wh pins s σ H Q I h
 refine isTrue_or (thn (ha pins s σ H _ I h) fun c s1 ⟨H1,I1,q1⟩=>?_)
 cases c with
 | true=>exact ⟨H1,I1,q1⟩
 | false=>exact hb wh pins s1 σ H1 Q I1 q1
theorem b3t (ha:PT X a tA):PT X (.UnaryOp .Not a pos) (a6L tA):=by
 intro pins s σ H Q I h
 exact isTrue_not (ha pins s σ H (fun c H1=>Q (!c) H1) I h)
def b4F (ta tb:TE):TE:=fun σ H Q=>ta σ H fun x H1=>∃c,x=.bl c∧if c=true then tb σ H1 Q else Q (.bl false) H1
def b8H (ta tb:TE):TE:=fun σ H Q=>ta σ H fun x H1=>∃c,x=.bl c∧if c=true then Q (.bl true) H1 else tb σ H1 Q
def b3r (ta:TE):TE:=fun σ H Q=>ta σ H fun x H1=>∃c,x=.bl c∧Q (.bl (!c)) H1
theorem b3v {op} {t:TE} (h:PE X a t):PE X (.BoolOp op [a] pos) t:=fun pins s σ H Q I hw=>BoolOp_one (h pins s σ H Q I hw)
theorem b3Z (ha:PE X a ta) (hb:PE X (.BoolOp .And (b::a3x) pos) tb):PE X (.BoolOp .And (a::b::a3x) pos) (b4F ta tb):=by
 intro pins s σ H Q I h
 refine BoolOp_and (thn (ha pins s σ H _ I h) fun v s1 ⟨x,H1,I1,r1,q1⟩=>?_)
 obtain ⟨c,rfl,q1⟩:=q1
 cases r1
 refine wpAny_truthy_bool ?_
 cases c with
 | true=>exact hb pins s1 σ H1 Q I1 q1
 | false=>exact ⟨.bl false,H1,I1,rfl,q1⟩
theorem b6t (ha:PE X a ta) (hb:PE X (.BoolOp .Or (b::a3x) pos) tb):PE X (.BoolOp .Or (a::b::a3x) pos) (b8H ta tb):=by
 intro pins s σ H Q I h
 refine BoolOp_or (thn (ha pins s σ H _ I h) fun v s1 ⟨x,H1,I1,r1,q1⟩=>?_)
 obtain ⟨c,rfl,q1⟩:=q1
 cases r1
 refine wpAny_truthy_bool ?_
 cases c with
 | false=>exact hb pins s1 σ H1 Q I1 q1
 | true=>exact ⟨.bl true,H1,I1,rfl,q1⟩
theorem b4p (ha:PE X a ta):PE X (.UnaryOp .Not a pos) (b3r ta):=by
 intro pins s σ H Q I h
 refine UnaryOp_ (thn (ha pins s σ H _ I h) fun v s1 ⟨x,H1,I1,r1,q1⟩=>?_)
 obtain ⟨c,rfl,q1⟩:=q1
 cases r1
 exact not_of (wpAny_truthy_bool ⟨.bl (!c),H1,I1,rfl,q1⟩)
def tIf (t:TT) (ta tb:TE):TE:=fun σ H Q=>t σ H fun c H1=>if c=true then ta σ H1 Q else tb σ H1 Q
theorem a9g {c:Expr} (hc:PT X c tA) (ha:PE X a ta) (hb:PE X b tb):PE X (.IfExp c a b pos) (tIf tA ta tb):=by
 intro pins s σ H Q I h
 refine wpAny_IfExp (thn (hc pins s σ H _ I h) fun d s1 ⟨H1,I1,q1⟩=>?_)
 cases d with
 | true=>exact ha pins s1 σ H1 Q I1 q1
 | false=>exact hb pins s1 σ H1 Q I1 q1
end
def SqL (K:Qd) (H:Hp) (a:Addr) (xs:List V):Prop:=
 Rd H a (.lst xs)∨
  ∃(o:Obj) (its:Array Value) (n:Nat),K.lookup a=some o∧o.cls=.type "list"∧o.dict=none∧o.data=.seq its n∧its.size≤sizeLine∧a0H xs its.toList
def SqT (K:Qd) (H:Hp) (a:Addr) (xs:List V):Prop:=
 Rd H a (.tup xs)∨
  ∃(o:Obj) (its:Array Value) (n:Nat),K.lookup a=some o∧o.cls=.type "tuple"∧o.data=.seq its n∧its.size≤sizeLine∧a0H xs its.toList
def c1g:Value→Option V
 | .none=>some .non
 | .bool b=>some (.bl b)
 | .int i _=>some (.int i)
 | .str x _=>some (.str x)
 | .bytes b _=>some (.byt b)
 | .float b _=>some (.flt b)
 | .ref a=>some (.ref a)
 | .type n=>some (.ty n)
 | _=>none
theorem a0O.abs {x:V} {u:Value} (r:a0O x u):c1g u=some x:=by
 cases x with
 | non=>cases r;rfl
 | bl _=>cases r;rfl
 | int _=>obtain ⟨t,rfl⟩:=r;rfl
 | str _=>obtain ⟨t,rfl⟩:=r;rfl
 | byt _=>obtain ⟨t,rfl⟩:=r;rfl
 | flt _=>obtain ⟨t,rfl⟩:=r;rfl
 | ref _=>cases r;rfl
 | ty _=>cases r;rfl
theorem a0O.inj {x y:V} {u:Value} (r:a0O x u) (q:a0O y u):x=y:=Option.some.inj (r.abs.symm.trans q.abs)
theorem a0H.inj:∀{xs ys:List V} {us:List Value},a0H xs us→a0H ys us→xs=ys
 | _,_,_,.nil,.nil=>rfl
 | _,_,_,.cons r t,.cons r' t'=>by rw [r.inj r',a0H.inj t t']
section
variable {X:Cx} {pins:List (Addr×Obj)} {σ:St} {H:Hp} {s:Shared} {a:Addr} {xs ys:List V}
theorem SqL.of {K:Qd} (h:H a=some (.lst xs)):SqL K H a xs:=.inl (.inl h)
theorem SqT.of {K:Qd} (h:H a=some (.tup xs)):SqT K H a xs:=.inl (.inl h)
theorem Inv.list (I:Inv X pins σ H s) (h:SqL X.K H a xs):∃its:List Value,a0H xs its∧PlainL s.heap a its.toArray∧xs.length≤sizeLine:=by
 rcases h with h | ⟨o,its,n,hk,hc,hd,hs,hz,r⟩
 ·obtain ⟨z,its,n,r,e⟩:=h.ok I.hok
  exact ⟨its,r,⟨_,n,e,rfl,rfl,rfl⟩,z⟩
 ·refine ⟨its.toList,r,⟨o,n,I.kIn a o hk,hc,hd,by simpa using hs⟩,?_⟩
  have e:=r.length
  simp only [Jn] at e
  omega
theorem Inv.tuple (I:Inv X pins σ H s) (h:SqT X.K H a xs):∃its:List Value,a0H xs its∧IsTup s.heap a its.toArray∧xs.length≤sizeLine:=by
 rcases h with h | ⟨o,its,n,hk,hc,hs,hz,r⟩
 ·obtain ⟨z,its,r,p⟩:=h.ok I.hok
  exact ⟨its,r,p,z⟩
 ·refine ⟨its.toList,r,⟨o,I.kIn a o hk,hc,n,by simpa using hs⟩,?_⟩
  have e:=r.length
  simp only [Jn] at e
  omega
theorem Inv.list_inj (I:Inv X pins σ H s) (h:SqL X.K H a xs) (h':SqL X.K H a ys):xs=ys:=by
 obtain ⟨its,r,⟨o,n,e,_,_,d⟩,_⟩:=I.list h
 obtain ⟨its',r',⟨o',n',e',_,_,d'⟩,_⟩:=I.list h'
 rw [e] at e';cases e'
 rw [d] at d'
 injection d' with d1 _
 have:its=its':=by simpa using congrArg Array.toList d1
 subst this
 exact r.inj r'
theorem Inv.tuple_inj (I:Inv X pins σ H s) (h:SqT X.K H a xs) (h':SqT X.K H a ys):xs=ys:=by
 obtain ⟨its,r,⟨o,e,_,n,d⟩,_⟩:=I.tuple h
 obtain ⟨its',r',⟨o',e',_,n',d'⟩,_⟩:=I.tuple h'
 rw [e] at e';cases e'
 rw [d] at d'
 injection d' with d1 _
 have:its=its':=by simpa using congrArg Array.toList d1
 subst this
 exact r.inj r'
end
abbrev Cx.wish (X:Cx) (E:Value→Shared→Prop):Cx:={X with xe:=E}
abbrev Cx.nox (X:Cx):Cx:=X.wish fun _ _=>False
theorem Cx.Ok.wish {X:Cx} (ok:X.Ok) (E:Value→Shared→Prop):(X.wish E).Ok:=
 ⟨ok.mod,ok.kind,ok.glob,ok.blt,ok.above,ok.inj,ok.has,ok.cab,ok.hd,ok.frames,ok.stk,ok.exf,ok.bs,ok.bsz,ok.noex,ok.exfs,ok.funs,ok.frf⟩
theorem Cx.Ok.unwish {X:Cx} {E:Value→Shared→Prop} (ok:(X.wish E).Ok):X.Ok:=
 ⟨ok.mod,ok.kind,ok.glob,ok.blt,ok.above,ok.inj,ok.has,ok.cab,ok.hd,ok.frames,ok.stk,ok.exf,ok.bs,ok.bsz,ok.noex,ok.exfs,ok.funs,ok.frf⟩
section
variable {X:Cx} {pins:List (Addr×Obj)} {σ:St} {H:Hp} {s:Shared} {E:Value→Shared→Prop}
theorem Inv.wish (I:Inv X pins σ H s) (E:Value→Shared→Prop):Inv (X.wish E) pins σ H s:=⟨I.ok.wish E,I.os,I.bare,I.base,I.loc,I.cell,I.free,I.freeC,I.pin,I.hok,I.len⟩
theorem Inv.unwish (I:Inv (X.wish E) pins σ H s):Inv X pins σ H s:=⟨I.ok.unwish,I.os,I.bare,I.base,I.loc,I.cell,I.free,I.freeC,I.pin,I.hok,I.len⟩
theorem SP.unwish {D:a8P} {f:Flow} {s':Shared} (h:SP (X.wish E) pins D f s'):SP X pins D f s':=by
 cases f with
 | next=>obtain ⟨σ',H',I,q⟩:=h;exact ⟨σ',H',I.unwish,q⟩
 | brk=>obtain ⟨σ',H',I,q⟩:=h;exact ⟨σ',H',I.unwish,q⟩
 | cont=>obtain ⟨σ',H',I,q⟩:=h;exact ⟨σ',H',I.unwish,q⟩
 | ret u=>obtain ⟨v,σ',H',I,r,q⟩:=h;exact ⟨v,σ',H',I.unwish,r,q⟩
theorem PSs.nox {st:List Stmt} {t:TS} (h:PSs X.nox st t):PSs X st t:=fun pins s σ H D I hw=>
 wpAny_mono (h pins s σ H D (I.wish _) hw) (fun _ _ q=>q.unwish) fun _ _ z=>False.elim z
end
section
variable {X:Cx} {st:Stmt} {a3x:List Stmt} {t u:TS} {e:Expr} {te:TE} {pos:Pos}
def a0L:TS:=fun D σ H=>D.nx σ H
def a1y (t u:TS):TS:=fun D σ H=>t {D with nx:=u D} σ H
theorem b0Z:PSs X [] a0L:=fun _ _ σ H _ I h=>wpAny_execs_nil ⟨σ,H,I,h⟩
theorem a9K (h1:PS X st t) (h2:PSs X a3x u):PSs X (st::a3x) (a1y t u):=by
 intro pins s σ H D I h
 refine wpAny_execs_cons (thn (h1 pins s σ H {D with nx:=u D} I h) fun f s1 q=>?_)
 cases f with
 | next=>
  obtain ⟨σ',H',I',q⟩:=q
  exact h2 pins s1 σ' H' D I' q
 | ret v=>exact q
 | brk=>exact q
 | cont=>exact q
theorem b1h (h1:PS X st t):PSs X [st] t:=by
 intro pins s σ H D I h
 refine wpAny_execs_cons (thn (h1 pins s σ H D I h) fun f s1 q=>?_)
 cases f with
 | next=>exact wpAny_execs_nil q
 | ret v=>exact q
 | brk=>exact q
 | cont=>exact q
def b5a:TS:=fun D σ H=>D.ct σ H
theorem a5q:PS X (.Continue pos) b5a:=fun _ _ σ H _ I h=>wpAny_Continue ⟨σ,H,I,h⟩
theorem Inv.quiet {pins:List (Addr×Obj)} {σ:St} {H:Hp} {s:Shared} (I:Inv X pins σ H s):interactive X.env=false:=by simp [interactive,I.ok.kind]
def a2y (te:TE):TS:=fun D σ H=>te σ H fun _ H1=>D.nx σ H1
theorem b1e (he:PE X e te) (hs:swapsWith e none pos.line X.env=pure false:=by rfl):PS X (.Expr e pos) (a2y te):=by
 intro pins s σ H D I h
 exact wpAny_Expr_any (thn (he pins s σ H _ I h) fun v s1 ⟨x,H1,I1,r1,q1⟩=>⟨σ,H1,I1,q1⟩) I.quiet hs
def a0K (te:TE):TS:=fun D σ H=>te σ H D.rt
theorem b6h (he:PE X e te):PS X (.Return (some e) pos) (a0K te):=by
 intro pins s σ H D I h
 exact wpAny_Return_some (thn (he pins s σ H _ I h) fun v s1 ⟨x,H1,I1,r1,q1⟩=>⟨x,σ,H1,I1,r1,q1⟩)
def a1J (c:TT) (t u:TS):TS:=fun D σ H=>c σ H fun b H1=>if b=true then t D σ H1 else u D σ H1
theorem b6u {c:Expr} {a b:List Stmt} {tc:TT} (hc:PT X c tc) (ha:PSs X a t) (hb:PSs X b u):PS X (.If c a b pos) (a1J tc t u):=by
 intro pins s σ H D I h
 refine wpAny_If (thn (hc pins s σ H _ I h) fun d s1 ⟨H1,I1,q1⟩=>?_)
 cases d with
 | true=>exact ha pins s1 σ H1 D I1 q1
 | false=>exact hb pins s1 σ H1 D I1 q1
end
abbrev TG:=V→St→Hp→(St→Hp→Prop)→Prop
abbrev TGs:=List V→St→Hp→(St→Hp→Prop)→Prop
def PG (X:Cx) (target:Expr) (t:TG):Prop:=
 ∀(pins:List (Addr×Obj)) (s:Shared) (σ:St) (H:Hp) (v:V) (u:Value) (Q:St→Hp→Prop),Inv X pins σ H s→a0O v u→t v σ H Q→
  wpAny (model X.prog X.w) X.A (assign target X.env u) (fun _ s'=>∃σ' H',Inv X pins σ' H' s'∧Q σ' H') X.xe s
def PGs (X:Cx) (ts:List Expr) (t:TGs):Prop:=
 ∀(pins:List (Addr×Obj)) (s:Shared) (σ:St) (H:Hp) (vs:List V) (us:List Value) (Q:St→Hp→Prop),Inv X pins σ H s→a0H vs us→t vs σ H Q→
  wpAny (model X.prog X.w) X.A (assignInOrder ((assignEach ts X.env).map (·.2)) us) (fun _ s'=>∃σ' H',Inv X pins σ' H' s'∧Q σ' H') X.xe s
abbrev b6A:=V→V→V→Hp→(Hp→Prop)→Prop
def c0u (X:Cx) (t:b6A):Prop:=
 ∀(pins:List (Addr×Obj)) (s:Shared) (σ:St) (H:Hp) (o i v:V) (ov iv u:Value) (Q:Hp→Prop),Inv X pins σ H s→a0O o ov→a0O i iv→a0O v u→t o i v H Q→
  wpAny (model X.prog X.w) X.A (setItem ov iv u) (fun _ s'=>∃H',Inv X pins σ H' s'∧Q H') X.xe s
section
variable {X:Cx} {pos:Pos}
def a0w (i:Nat):TG:=fun v σ H Q=>Q (σ.set i (some v)) H
theorem b1X {i:Nat} {x:Str} (hN:X.N.Nodup) (hi:X.N[i]?=some x) (hx:Loc X.env.scope x) (hf:X.fn x=true∨X.env.scope.names.lookup x=some .local:=by first | exact .inl rfl | exact .inr rfl | assumption):PG X (.Name x pos) (a0w i):=by
 intro pins s σ H v u Q I r h
 exact wpAny_assign_Name (a5N I hN hi hx r (fun s' I'=>⟨_,H,I',h⟩) hf)
def b6U:TGs:=fun vs σ H Q=>vs=[]∧Q σ H
def a9q (t:TG) (u:TGs):TGs:=fun vs σ H Q=>∃v r,vs=v::r∧t v σ H fun σ' H'=>u r σ' H' Q
theorem b1v:PGs X [] b6U:=by
 intro pins s σ H vs us Q I r h
 obtain ⟨e,h⟩:=h
 subst e
 cases r
 exact assignInOrder_nil ⟨σ,H,I,h⟩
theorem a9h {e:Expr} {es:List Expr} {t:TG} {u:TGs} (h1:PG X e t) (h2:PGs X es u)
  (hs:(assignEach (e::es) X.env).map (·.2)=assign e X.env::(assignEach es X.env).map (·.2):=by rfl):PGs X (e::es) (a9q t u):=by
 intro pins s σ H vs us Q I r h
 obtain ⟨v,vr,e1,h⟩:=h
 subst e1
 cases r with
 | cons r rr=>
  rw [hs]
  refine assignInOrder_cons (thn (h1 pins s σ H _ _ _ I r h) fun _ s1 ⟨σ1,H1,I1,q1⟩=>?_)
  exact h2 pins s1 σ1 H1 _ _ Q I1 rr q1
def b6l (K:Qd) (n:Nat) (t:TGs):TG:=fun v σ H Q=>∃a xs,v=.ref a∧SqT K H a xs∧xs.length=n∧t xs σ H Q
theorem b0m {es:List Expr} {k:Nat} {t:TGs} {n:Nat} (hc:X.calm=true) (h:PGs X es t)
  (hn:(assignEach es X.env).length=n:=by rfl) (hst:(assignEach es X.env).findIdx? (·.1)=none:=by rfl):PG X (.Tuple es k pos) (b6l X.K n t):=by
 intro pins s σ H v u Q I r hw
 obtain ⟨a,xs,e1,hq,hl,hw⟩:=hw
 subst e1
 cases r
 obtain ⟨its,rv,ht,hz⟩:=I.tuple hq
 refine assign_Tuple_tuple (I.ok.hd hc) ht (by simp [hn,←hl,rv.length]) hst fun h' hx=>?_
 have I1:Inv X pins σ H {s with heap:=h'}:=I.kept (t':=s.toks) fun b o e=>hx b o (Xc (Qo e)) e
 exact h pins _ σ H xs _ Q I1 (by simpa using rv) hw
def b9t (to ti:TE) (t:b6A):TG:=fun v σ H Q=>to σ H fun o H1=>ti σ H1 fun i H2=>t o i v H2 fun H3=>Q σ H3
theorem b3i {o i:Expr} {to ti:TE} {t:b6A} (ho:PE X o to) (hi:PE X i ti) (hs:c0u X t)
  (ha:∀v,assign (.Subscript o i pos) X.env v=(do
   let ov ←holding [v] (eval o X.env)
   let iv ←holding [v,ov] (eval i X.env)
   standAt pos
   holding [v,ov,iv] (setItem ov iv v)
   release [v,ov,iv] []):=by intro _;rfl):PG X (.Subscript o i pos) (b9t to ti t):=by
 intro pins s σ H v u Q I r h
 rw [ha]
 refine wpAny_bind (wpAny_holding (thn (ho pins s σ H _ I h) fun ov s1 ⟨x,H1,I1,r1,q1⟩=>?_))
 refine wpAny_bind (wpAny_holding (thn (hi pins s1 σ H1 _ I1 q1) fun iv s2 ⟨y,H2,I2,r2,q2⟩=>?_))
 refine wpAny_bind (wpAny_standAt (wpAny_bind (wpAny_holding (thn (hs pins s2 σ H2 x y v ov iv u _ I2 r1 r2 r q2) fun _ s3 ⟨H3,I3,q3⟩=>?_))))
 exact wpAny_release ⟨σ,H3,I3,q3⟩
def a2m (te:TE) (g:TG):TS:=fun D σ H=>te σ H fun x H1=>g x σ H1 D.nx
theorem b4G {tg e:Expr} {te:TE} {g:TG} (he:PE X e te) (hg:PG X tg g) (hs:swapsWithSole [tg] e pos.line X.env=pure false:=by rfl) (hw:swappedStores [tg] e X.env=pure none:=by rfl)
  (h1:(assignEach [tg] X.env).map (·.2)=[assign tg X.env]:=by rfl):PS X (.Assign [tg] e pos) (a2m te g):=by
 intro pins s σ H D I h
 refine wpAny_Assign_stores (thn (he pins s σ H _ I h) fun v s1 ⟨x,H1,I1,r1,q1⟩=>?_) hs hw
 rw [h1]
 exact thn (hg pins s1 σ H1 x v _ I1 r1 q1) fun _ s2 q=>q
theorem b3n {i:Nat} {x:Str} {e:Expr} {te:TE} {pos':Pos} (hN:X.N.Nodup) (hi:X.N[i]?=some x) (hx:Loc X.env.scope x) (he:PE X e te) (hs:swapsWith e (some (.Name x pos')) pos.line X.env=pure false:=by rfl) (hf:X.fn x=true∨X.env.scope.names.lookup x=some .local:=by first | exact .inl rfl | exact .inr rfl | assumption):
  PS X (.Assign [.Name x pos'] e pos) (a2m te (a0w i)):=by
 intro pins s σ H D I h
 refine wpAny_Assign_Name (thn (he pins s σ H _ I h) fun v s1 ⟨y,H1,I1,r1,q1⟩=>?_) hs
 exact a5N I1 hN hi hx r1 (fun s2 I2=>⟨_,H1,I2,q1⟩) hf
end
section
variable {X:Cx} {pos:Pos}
def b0t (c:TT) (tb:TS):TS:=fun D σ H=>∃W:Nat→St→Hp→Prop,(∃m,W m σ H)∧∀m σ H,W m σ H→
 c σ H fun b H1=>if b=true then ∃N:St→Hp→Prop,(∀σ' H',N σ' H'→∃m',m' < m∧W m' σ' H')∧tb {D with nx:=N,ct:=N,bk:=D.nx} σ H1 else D.nx σ H1
theorem a8X {c:Expr} {body:List Stmt} {tc:TT} {tb:TS} (hp:PassesOwn (model X.prog X.w) X.A X.env X.xe) (hc:PT X c tc) (hb:PSs X body tb):PS X (.While c body [] pos) (b0t tc tb):=by
 intro pins s σ H D I h
 obtain ⟨W,⟨m0,w0⟩,turn⟩:=h
 refine wpAny_While (codeAny_whileLoop (fun n s'=>∃σ' H',Inv X pins σ' H' s'∧W n σ' H') ?_ m0 ⟨σ,H,I,w0⟩)
 rintro n s1 ⟨σ1,H1,I1,w1⟩
 refine wpAny_passesOwn hp (thn (hc pins s1 σ1 H1 _ I1 (turn n σ1 H1 w1)) fun b s2 ⟨H2,I2,q2⟩=>?_)
 cases b with
 | true=>
  obtain ⟨N,hN,q2⟩:=q2
  rw [if_pos rfl]
  refine wpAny_passesOwn hp (thn (hb pins s2 σ1 H2 _ I2 q2) fun f s3 q3=>?_)
  cases f with
  | next=>
   obtain ⟨σ3,H3,I3,n3⟩:=q3
   obtain ⟨m',hm,w3⟩:=hN σ3 H3 n3
   exact ⟨m',hm,σ3,H3,I3,w3⟩
  | cont=>
   obtain ⟨σ3,H3,I3,n3⟩:=q3
   obtain ⟨m',hm,w3⟩:=hN σ3 H3 n3
   exact ⟨m',hm,σ3,H3,I3,w3⟩
  | brk=>exact q3
  | ret v=>exact q3
 | false=>
  rw [if_neg Qp]
  exact wpAny_execs_nil ⟨σ1,H2,I2,q2⟩
end
structure It where
 go:Nat→Hp→Prop
 yld:Nat→Hp→V→Hp→Prop
 stop:Nat→Hp→Prop
def a6C (X:Cx) (pins:List (Addr×Obj)) (H:Hp) (b:Addr):Prop:=
 H b=none∧b≠X.env.locals∧b∉X.fs∧(b∈X.ex∨X.s₀.heap.objs.size≤b)∧(∀x c,X.env.cells.lookup x=some c→c≠b)∧∀p∈X.pn++pins,p.1≠b
theorem Inv.fpOk {X:Cx} {pins:List (Addr×Obj)} {σ:St} {H H':Hp} {s:Shared} {b:Addr} (I:Inv X pins σ H s) (hb:s.heap.objs.size≤b) (hn:H' b=none):a6C X pins H' b:=by
 refine ⟨hn,Vs (Xd I.lt hb),I.nofs hb,.inr (Qi I.sz hb),fun x c e z=>?_,fun p hp z=>?_⟩
 ·obtain ⟨v,q⟩:=I.cell x c e
  exact absurd (Xd q.lt (by rw [z];exact hb)) (Zn _)
 ·exact absurd (Xd (Qo (I.pin p hp).1) (by rw [z];exact hb)) (Zn _)
structure b2A (P:Program) (w:World) (K:Qd) (tg:Expr) (J:It) (fp:List Addr) (it:Addr) (tn:Nat→Heap→Prop):Prop where
 mem:it∈fp
 obj:∀i h,tn i h→∀b∈fp,∃o,h.get? b=some o∧∀v,o.data≠.cell v
 keep:∀i h h',tn i h→(∀b∈fp,∀o,h.get? b=some o→h'.get? b=some o)→tn i h'
 item:∀(X:Cx),X.prog=P→X.w=w→X.K=K→X.calm=true→∀(i:Nat) (pins:List (Addr×Obj)) (s:Shared) (σ:St) (H:Hp) (E:Value→Shared→Prop),Inv X pins σ H s→(∀b∈fp,a6C X pins H b)→tn i s.heap→J.go i H→
  wpAny (model P w) X.A (pyNext (.ref it)) (fun r s1=>∃u,r=some u∧
   wpAny (model P w) X.A (letOwnedTupleGo tg (.ref it) u) (fun _ s2=>∃x H',Inv X pins σ H' s2∧a0O x u∧J.yld i H x H'∧tn (i+1) s2.heap∧∀b∈fp,H' b=none) E s1) E s
 done:∀(X:Cx),X.prog=P→X.w=w→X.K=K→X.calm=true→∀(i:Nat) (pins:List (Addr×Obj)) (s:Shared) (σ:St) (H:Hp) (E:Value→Shared→Prop),Inv X pins σ H s→(∀b∈fp,a6C X pins H b)→tn i s.heap→J.stop i H→
  wpAny (model P w) X.A (pyNext (.ref it)) (fun r s1=>r=none∧Inv X pins σ H s1) E s
 self:∀(A:Around) (i:Nat) (s:Shared) (Q:Value→Shared→Prop) (E:Value→Shared→Prop),tn i s.heap→Q (.ref it) s→wpAny (model P w) A (pyIter (.ref it)) Q E s
abbrev TI:=St→Hp→(It→Hp→Prop)→Prop
def PIE (X:Cx) (pins:List (Addr×Obj)) (σ:St) (tg:Expr) (R:It→Hp→Prop) (itv:Value) (s2:Shared):Prop:=
 ∃(it:Addr) (fp:List Addr) (tn:Nat→Heap→Prop) (J:It) (H':Hp),itv=.ref it∧Inv X pins σ H' s2∧b2A X.prog X.w X.K tg J fp it tn∧tn 0 s2.heap∧(∀b∈fp,a6C X pins H' b)∧R J H'
def PI (X:Cx) (tg iter:Expr) (wi:TI):Prop:=
 ∀(pins:List (Addr×Obj)) (s:Shared) (σ:St) (H:Hp) (R:It→Hp→Prop),Inv X pins σ H s→wi σ H R→
  wpAny (model X.prog X.w) X.A (eval iter X.env) (fun v s1=>wpAny (model X.prog X.w) X.A (pyIter v) (PIE X pins σ tg R) X.xe s1) X.xe s
theorem b1u {M:Model} {A:Around} {E:Value→Shared→Prop} {s:Shared} {tg:Expr} {it:Addr} {u:Value} {o:Obj} {n:String} {vs:Array Value} {Q:Unit→Shared→Prop} (ho:s.heap.get? it=some o) (hc:o.cls=.type n) (hd:o.data=.fields vs)
  (hn:["enumerate","zip","dict_itemiterator","dict_reverseitemiterator","odict_iterator","itertools.zip_longest","itertools.pairwise"].contains n=false) (hQ:Q () s):wpAny M A (letOwnedTupleGo tg (.ref it) u) Q E s:=by
 unfold letOwnedTupleGo
 cases tg<;>first
  | exact wpAny_pure hQ
  | (cases u<;>first
    | exact wpAny_pure hQ
    | (refine wpAny_bind (wpAny_load ho ?_);rw [hc,hd];show wpAny M A (if (["enumerate","zip","dict_itemiterator","dict_reverseitemiterator","odict_iterator","itertools.zip_longest","itertools.pairwise"].contains n && vs[0]? == some (rawInt _))=true then _ else _) Q E s;rw [if_neg (by intro h;rw [hn,Zb] at h;cases h)];exact wpAny_pure hQ))
def Itl (K:Qd) (a:Addr):It:=
 ⟨fun i H=>∃xs x,SqL K H a xs∧xs[i]?=some x,fun i H x H'=>H'=H∧∀xs,SqL K H a xs→xs[i]?=some x,fun i H=>∃xs,SqL K H a xs∧xs.length≤i⟩
def Itt (K:Qd) (a:Addr):It:=
 ⟨fun i H=>∃xs x,SqT K H a xs∧xs[i]?=some x,fun i H x H'=>H'=H∧∀xs,SqT K H a xs→xs[i]?=some x,fun i H=>∃xs,SqT K H a xs∧xs.length≤i⟩
def Itr (lo:Int) (n:Nat):It:=⟨fun i _=>i < n,fun i H x H'=>H'=H∧x=.int (lo+i),fun i _=>n≤i⟩
theorem a8v {P:Program} {w:World} {K:Qd} {tg:Expr} (a it:Addr):b2A P w K tg (Itl K a) [it] it (fun i h=>h.IsListIter it a i) where
 mem:=by simp
 obj:=fun i h st b hb=>by
  have e:b=it:=by simpa using hb
  subst e
  obtain ⟨o,e,c,d⟩:=st
  exact ⟨o,e,fun v z=>by rw [d] at z;cases z⟩
 keep:=fun i h h' st k=>st.at fun o e=>k it (by simp) o e
 item:=by
  intro X hP hw hK hc i pins s σ H E I hf st hg
  subst hP hw hK
  obtain ⟨xs,x,hq,hx⟩:=hg
  obtain ⟨its,rv,p,hz⟩:=I.list hq
  obtain ⟨u,hu,ru⟩:=rv.get hx
  obtain ⟨f0,f1,f2,f3,f4,f5⟩:=hf it (by simp)
  refine wpAny_pyNext_list_item st p.isList (x:=u) (by simpa using hu) fun h' st' sb=>?_
  have I1:Inv X pins σ H {s with heap:=h'}:=I.turned (t':=s.toks) (fun b o hb e=>(sb.2 b hb).trans e) f0 f1 f3 f4 f5
  obtain ⟨o,e,c,d⟩:=id st'
  exact ⟨u,rfl,b1u (s:={s with heap:=h'}) e c d ‹dc› ⟨x,H,I1,ru,⟨rfl,fun ys hy=>by rw [I.list_inj hy hq];exact hx⟩,st',fun b hb=>(hf b hb).1⟩⟩
 done:=by
  intro X hP hw hK hc i pins s σ H E I hf st hg
  subst hP hw hK
  obtain ⟨xs,hq,hx⟩:=hg
  obtain ⟨its,rv,p,hz⟩:=I.list hq
  obtain ⟨f0,f1,f2,f3,f4,f5⟩:=hf it (by simp)
  have hl:=rv.length
  exact wpAny_pyNext_list_end (I.ok.hd hc) st p.isList (by simp;omega) fun h' eb=>⟨rfl,I.turned (t':=s.toks) (fun b o hb e=>eb b o hb e) f0 f1 f3 f4 f5⟩
 self:=fun _ _ _ _ _ st h=>wpAny_pyIter_listiter st h
theorem a5X {P:Program} {w:World} {K:Qd} {tg:Expr} (a it:Addr):b2A P w K tg (Itt K a) [it] it (fun i h=>h.IsTupleIter it a i) where
 mem:=by simp
 obj:=fun i h st b hb=>by
  have e:b=it:=by simpa using hb
  subst e
  obtain ⟨o,e,c,d⟩:=st
  exact ⟨o,e,fun v z=>by rw [d] at z;cases z⟩
 keep:=fun i h h' st k=>st.at fun o e=>k it (by simp) o e
 item:=by
  intro X hP hw hK hc i pins s σ H E I hf st hg
  subst hP hw hK
  obtain ⟨xs,x,hq,hx⟩:=hg
  obtain ⟨its,rv,p,hz⟩:=I.tuple hq
  obtain ⟨u,hu,ru⟩:=rv.get hx
  obtain ⟨f0,f1,f2,f3,f4,f5⟩:=hf it (by simp)
  refine wpAny_pyNext_tuple_item st (show s.heap.IsTuple a its.toArray from p) (x:=u) (by simpa using hu) fun h' st' sb=>?_
  have I1:Inv X pins σ H {s with heap:=h'}:=I.turned (t':=s.toks) (fun b o hb e=>(sb.2 b hb).trans e) f0 f1 f3 f4 f5
  obtain ⟨o,e,c,d⟩:=id st'
  exact ⟨u,rfl,b1u (s:={s with heap:=h'}) e c d ‹dc› ⟨x,H,I1,ru,⟨rfl,fun ys hy=>by rw [I.tuple_inj hy hq];exact hx⟩,st',fun b hb=>(hf b hb).1⟩⟩
 done:=by
  intro X hP hw hK hc i pins s σ H E I hf st hg
  subst hP hw hK
  obtain ⟨xs,hq,hx⟩:=hg
  obtain ⟨its,rv,p,hz⟩:=I.tuple hq
  obtain ⟨f0,f1,f2,f3,f4,f5⟩:=hf it (by simp)
  have hl:=rv.length
  exact wpAny_pyNext_tuple_end (I.ok.hd hc) st (show s.heap.IsTuple a its.toArray from p) (by simp;omega) fun h' eb=>⟨rfl,I.turned (t':=s.toks) (fun b o hb e=>eb b o hb e) f0 f1 f3 f4 f5⟩
 self:=fun _ _ _ _ _ st h=>wpAny_pyIter_tupleiter st h
theorem a6a {P:Program} {w:World} {K:Qd} {tg:Expr} (it:Addr) (lo:Int) (n:Nat):b2A P w K tg (Itr lo n) [it] it (fun i h=>IsRangeIter h it (lo+(i:Nat) * 1) ((n:Int) - (i:Nat)) 1) where
 mem:=by simp
 obj:=fun i h st b hb=>by
  have e:b=it:=by simpa using hb
  subst e
  exact ⟨_,st,fun v z=>by
   have z':Data.fields _=Data.cell v:=z
   cases z'⟩
 keep:=fun i h h' st k=>k it (by simp) _ st
 item:=by
  intro X hP hw hK hc i pins s σ H E I hf st hg
  subst hP hw hK
  obtain ⟨f0,f1,f2,f3,f4,f5⟩:=hf it (by simp)
  have W:=Walks.range (prog:=X.prog) (w:=X.w) (I.ok.hd hc) it lo 1 n
  refine W.item i s _ _ hg st fun v h' tk hv st' kk=>?_
  obtain ⟨t,rfl⟩:=hv
  have I1:Inv X pins σ H {s with heap:=h',toks:=tk}:=I.turned (fun b o hb e=>kk b o (by simpa using hb) e) f0 f1 f3 f4 f5
  refine ⟨_,rfl,b1u (s:={s with heap:=h',toks:=tk}) (n:="range_iterator") st' rfl rfl ‹dc› ⟨.int (lo+i),H,I1,⟨t,?_⟩,⟨rfl,rfl⟩,st',fun b hb=>(hf b hb).1⟩⟩
  rw [Int.mul_one]
 done:=by
  intro X hP hw hK hc i pins s σ H E I hf st hg
  subst hP hw hK
  obtain ⟨f0,f1,f2,f3,f4,f5⟩:=hf it (by simp)
  exact wpAny_pyNext_range_end (I.ok.hd hc) st (by have:n≤i:=hg;omega) fun h' eb=>⟨rfl,I.turned (t':=s.toks) (fun b o hb e=>eb b o hb e) f0 f1 f3 f4 f5⟩
 self:=fun _ _ _ _ _ st h=>wpAny_pyIter_rangeiter st h
section
variable {X:Cx} {tg:Expr}
def a1c (K:Qd) (tl:TE):TI:=fun σ H R=>tl σ H fun x H1=>∃a,x=.ref a∧(∃xs,SqL K H1 a xs)∧R (Itl K a) H1
def b1i (K:Qd) (tl:TE):TI:=fun σ H R=>tl σ H fun x H1=>∃a,x=.ref a∧(∃xs,SqT K H1 a xs)∧R (Itt K a) H1
theorem b2e {l:Expr} {tl:TE} (hl:PE X l tl):PI X tg l (a1c X.K tl):=by
 intro pins s σ H R I h
 refine thn (hl pins s σ H _ I h) fun v s1 ⟨x,H1,I1,r1,q1⟩=>?_
 obtain ⟨a,e,⟨xs,hq⟩,q⟩:=q1
 subst e
 cases r1
 obtain ⟨its,rv,p,hz⟩:=I1.list hq
 refine wpAny_pyIter_list p.isList ?_
 refine ⟨s1.heap.objs.size,[s1.heap.objs.size],_,_,H1,rfl,I1.kept (t':=s1.toks) fun b o e=>Qm _ e,a8v a _,⟨_,Xh _ rfl,rfl,rfl⟩,fun b hb=>?_,q⟩
 have e:b=s1.heap.objs.size:=by simpa using hb
 subst e
 exact I1.fpOk (Qk _) (I1.hok.fresh (Qk _))
theorem b4k {l:Expr} {tl:TE} (hl:PE X l tl):PI X tg l (b1i X.K tl):=by
 intro pins s σ H R I h
 refine thn (hl pins s σ H _ I h) fun v s1 ⟨x,H1,I1,r1,q1⟩=>?_
 obtain ⟨a,e,⟨xs,hq⟩,q⟩:=q1
 subst e
 cases r1
 obtain ⟨its,rv,p,hz⟩:=I1.tuple hq
 refine wpAny_pyIter_tuple (show s1.heap.IsTuple a its.toArray from p) ?_
 refine ⟨s1.heap.objs.size,[s1.heap.objs.size],_,_,H1,rfl,I1.kept (t':=s1.toks) fun b o e=>Qm _ e,a5X a _,⟨_,Xh _ rfl,rfl,rfl⟩,fun b hb=>?_,q⟩
 have e:b=s1.heap.objs.size:=by simpa using hb
 subst e
 exact I1.fpOk (Qk _) (I1.hok.fresh (Qk _))
theorem a5R {pins:List (Addr×Obj)} {σ:St} {H:Hp} {s:Shared} {R:It→Hp→Prop} {E:Value→Shared→Prop} {lo hi:Int} {t u v:Tok} {tk:Nat} (I:Inv X pins σ H s) (h1:-(2 ^ 62)≤lo) (h2:lo < 2 ^ 62) (h3:-(2 ^ 62)≤hi) (h4:hi < 2 ^ 62)
  (q:R (Itr lo (hi - lo).toNat) H):wpAny (model X.prog X.w) X.A (pyIter (.ref s.heap.objs.size)) (PIE X pins σ tg R) E {s with heap:=s.heap.push {cls:=.type "range",data:=.fields #[.int lo t,.int hi u,.int 1 v]},toks:=tk}:=by
 refine wpAny_pyIter_range (IsRange.new ..) (small_one h1 h2 h3 h4) ?_
 have I1:Inv X pins σ H {s with heap:=s.heap.push {cls:=.type "range",data:=.fields #[.int lo t,.int hi u,.int 1 v]},toks:=tk}:=I.kept fun b o e=>Qm _ e
 refine ⟨(s.heap.push {cls:=.type "range",data:=.fields #[.int lo t,.int hi u,.int 1 v]}).objs.size,[(s.heap.push {cls:=.type "range",data:=.fields #[.int lo t,.int hi u,.int 1 v]}).objs.size],_,_,H,rfl,
  I1.kept (t':=tk) fun b o e=>Qm _ e,a6a _ lo (hi - lo).toNat,?_,fun b hb=>?_,q⟩
 ·have e1:lo+((0:Nat):Int) * 1=lo:=by simp
  have e2:(((hi - lo).toNat:Nat):Int) - ((0:Nat):Int)=Builtin.Range.rangeSize lo hi 1:=by rw [rangeSize_one];split<;>omega
  show IsRangeIter _ _ (lo+((0:Nat):Int) * 1) ((((hi - lo).toNat:Nat):Int) - ((0:Nat):Int)) 1
  rw [e1,e2]
  exact Xh _ rfl
 ·have e:b=(s.heap.push {cls:=.type "range",data:=.fields #[.int lo t,.int hi u,.int 1 v]}).objs.size:=by simpa using hb
  subst e
  exact I1.fpOk (Qk _) (I1.hok.fresh (Qk _))
def a5j (ta:TA):TI:=fun σ H R=>ta σ H fun vs H1=>∃j:Int,vs=[.int j]∧-(2 ^ 62)≤j∧j < 2 ^ 62∧R (Itr 0 j.toNat) H1
def b4s (ta:TA):TI:=fun σ H R=>ta σ H fun vs H1=>∃i j:Int,vs=[.int i,.int j]∧(-(2 ^ 62)≤i∧i < 2 ^ 62∧-(2 ^ 62)≤j∧j < 2 ^ 62)∧R (Itr i (j - i).toNat) H1
theorem a7g {a:Expr} {ta:TA} {p pos:Pos} (hg:Gl X "range") (hm:X.mg "range"=none) (ha:PA X [a] ta) (hs:starEach [a] X.env=[(false,eval a X.env)]:=by rfl):PI X tg (.Call (.Name "range" p) [a] [] pos) (a5j ta):=by
 intro pins s σ H R I h
 refine Call_ (a2T I hg hm boot_range (PyProof.Rows.callWith_type1 (thn (ha pos pins s σ H _ I h) fun us s1 ⟨vs,H1,I1,r1,q1⟩=>?_) hs rfl))
 obtain ⟨j,e,q1,q2,q⟩:=q1
 subst e
 cases r1 with
 | cons r rr=>
  cases rr
  obtain ⟨t,rfl⟩:=r
  exact call_range_1 (a5R I1 ‹om› ‹om› q1 q2 (by simpa using q))
theorem a6Y {a b:Expr} {ta:TA} {p pos:Pos} (hg:Gl X "range") (hm:X.mg "range"=none) (ha:PA X [a,b] ta) (hs:starEach [a,b] X.env=[(false,eval a X.env),(false,eval b X.env)]:=by rfl) (hs2:starEach [b] X.env=[(false,eval b X.env)]:=by rfl):
  PI X tg (.Call (.Name "range" p) [a,b] [] pos) (b4s ta):=by
 intro pins s σ H R I h
 refine Call_ (a2T I hg hm boot_range (PyProof.Rows.callWith_type1 (thn (ha pos pins s σ H _ I h) fun us s1 ⟨vs,H1,I1,r1,q1⟩=>?_) (by rw [hs,hs2]) (by rw [hs2];rfl)))
 obtain ⟨i,j,e,⟨q1,q2,q3,q4⟩,q⟩:=q1
 subst e
 cases r1 with
 | cons r rr=>
  cases rr with
  | cons r' rr=>
   cases rr
   obtain ⟨t,rfl⟩:=r
   obtain ⟨t',rfl⟩:=r'
   exact call_range_2 (a5R I1 q1 q2 q3 q4 q)
def b9X (wi:TI) (g:TG) (tb:TS):TS:=fun D σ H=>wi σ H fun J H1=>∃W:Nat→Nat→St→Hp→Prop,(∃m,W 0 m σ H1)∧∀i m σ H,W i m σ H→
 (J.stop i H∧D.nx σ H)∨(J.go i H∧∃N:St→Hp→Prop,(∀σ' H',N σ' H'→∃m',m' < m∧W (i+1) m' σ' H')∧∀x H',J.yld i H x H'→g x σ H' fun σ2 H2=>tb {D with nx:=N,ct:=N,bk:=D.nx} σ2 H2)
def a4u (fp:List Addr) (h:Heap):List (Addr×Obj):=fp.filterMap fun b=>(h.get? b).map fun o=>(b,o)
theorem a1S {fp:List Addr} {h:Heap} {b:Addr} {o:Obj} (hb:b∈fp) (e:h.get? b=some o):(b,o)∈a4u fp h:=Vt.mpr ⟨b,hb,by rw [e];rfl⟩
theorem a7j {fp:List Addr} {h:Heap} {p:Addr×Obj} (hp:p∈a4u fp h):p.1∈fp∧h.get? p.1=some p.2:=by
 obtain ⟨b,hb,e⟩:=Vt.mp hp
 cases q:h.get? b with
 | none=>rw [q] at e;cases e
 | some o=>
  rw [q] at e
  have e':(b,o)=p:=Option.some.inj e
  subst e'
  exact ⟨hb,q⟩
theorem Inv.pinned {pins:List (Addr×Obj)} {σ:St} {H:Hp} {s:Shared} {fp:List Addr} (I:Inv X pins σ H s) (hf:∀b∈fp,a6C X pins H b) (ho:∀b∈fp,∃o,s.heap.get? b=some o∧∀v,o.data≠.cell v):Inv X (pins++a4u fp s.heap) σ H s:=
 I.pins_of fun p hp=>(Xn.mp hp).elim (fun z=>I.pin p (Xu _ z)) fun z=>by
  obtain ⟨hb,e⟩:=a7j z
  obtain ⟨f0,f1,f2,_⟩:=hf p.1 hb
  obtain ⟨o,e',d⟩:=ho p.1 hb
  rw [e] at e';cases e'
  exact ⟨e,f0,f1,f2,d⟩
theorem Inv.unpinned {pins pl:List (Addr×Obj)} {σ:St} {H:Hp} {s:Shared} (I:Inv X (pins++pl) σ H s):Inv X pins σ H s:=I.pins_of fun p hp=>I.pin p (Xu _ (Yz _ hp))
theorem b2Q {iter:Expr} {body:List Stmt} {wi:TI} {g:TG} {tb:TS} {pos:Pos} (hp:PassesOwn (model X.prog X.w) X.A X.env X.xe) (hc:X.calm=true) (hi:PI X tg iter wi) (hg:PG X tg g) (hb:PSs X body tb)
  (hs:∀x,foldedSetIterable iter X.env x=pure x:=by intro _;rfl):PS X (.For tg iter body [] pos) (b9X wi g tb):=by
 intro pins s σ H D I h
 refine wpAny_For (thn (hi pins s σ H _ I h) fun v s1 h1=>thn h1 fun itv s2 h2=>?_) hs
 obtain ⟨it,fp,tn,J,H2,e,I2,T,st2,f2,W,⟨m0,w0⟩,turn⟩:=h2
 subst e
 have stat:∀{H':Hp},(∀b∈fp,H' b=none)→∀b∈fp,a6C X pins H' b:=fun hn b hb=>⟨hn b hb,(f2 b hb).2⟩
 refine codeAny_forLoop_any (fun n s'=>∃i σ' H',Inv X pins σ' H' s'∧tn i s'.heap∧(∀b∈fp,H' b=none)∧W i n σ' H') ?_ m0 ⟨0,σ,H2,I2,st2,fun b hb=>(f2 b hb).1,w0⟩
 rintro n s3 ⟨i,σ3,H3,I3,st3,fr3,w3⟩
 rcases turn i n σ3 H3 w3 with ⟨stop,qn⟩ | ⟨go,N,hN,step⟩
 ·refine wpAny_passesOwn hp (thn (T.done X rfl rfl rfl hc i pins s3 σ3 H3 X.xe I3 (stat fr3) st3 stop) fun r s4 ⟨hr,I4⟩=>?_)
  subst hr
  exact wpAny_execs_nil ⟨σ3,H3,I4,qn⟩
 ·refine wpAny_passesOwn hp (thn (T.item X rfl rfl rfl hc i pins s3 σ3 H3 X.xe I3 (stat fr3) st3 go) fun r s4 ⟨u,hr,h4⟩=>?_)
  subst hr
  refine wpAny_passesOwn hp (thn h4 fun _ s5 ⟨x,H5,I5,r5,y5,st5,fr5⟩=>?_)
  have I5':=I5.pinned (stat fr5) (T.obj _ _ st5)
  refine wpAny_passesOwn hp (thn (hg _ s5 σ3 H5 x u _ I5' r5 (step x H5 y5)) fun _ s6 ⟨σ6,H6,I6,q6⟩=>?_)
  refine wpAny_passesOwn hp (thn (hb _ s6 σ6 H6 _ I6 q6) fun f s7 q7=>?_)
  have again:∀{σ7:St} {H7:Hp},Inv X (pins++a4u fp s5.heap) σ7 H7 s7→N σ7 H7→∃m,m < n∧∃i σ' H',Inv X pins σ' H' s7∧tn i s7.heap∧(∀b∈fp,H' b=none)∧W i m σ' H':=fun {σ7 H7} I7 n7=>by
   obtain ⟨m',hm,w7⟩:=hN σ7 H7 n7
   refine ⟨m',hm,i+1,σ7,H7,I7.unpinned,T.keep _ _ _ st5 fun b hb o e=>(I7.pin (b,o) (Xu _ (Xu _ (a1S hb e)))).1,fun b hb=>?_,w7⟩
   obtain ⟨o,e,d⟩:=T.obj _ _ st5 b hb
   exact (I7.pin (b,o) (Xu _ (Xu _ (a1S hb e)))).2.1
  cases f with
  | next=>obtain ⟨σ7,H7,I7,n7⟩:=q7;exact again I7 n7
  | cont=>obtain ⟨σ7,H7,I7,n7⟩:=q7;exact again I7 n7
  | brk=>obtain ⟨σ7,H7,I7,q7⟩:=q7;exact ⟨σ7,H7,I7.unpinned,q7⟩
  | ret v=>obtain ⟨x7,σ7,H7,I7,r7,q7⟩:=q7;exact ⟨x7,σ7,H7,I7.unpinned,r7,q7⟩
end
theorem a0P {K:Qd} {a:Addr} {xs:List V} {g:TG} {tb:TS} {D:a8P} {σ:St} {H:Hp} (Pv:Nat→St→Hp→Prop) (h0:Pv 0 σ H) (hl:∀i σ H,i≤xs.length→Pv i σ H→SqL K H a xs)
  (hs:∀i x σ H,xs[i]?=some x→Pv i σ H→g x σ H fun σ2 H2=>tb {D with nx:=Pv (i+1),ct:=Pv (i+1),bk:=D.nx} σ2 H2) (hd:∀σ H,Pv xs.length σ H→D.nx σ H):
  ∃W:Nat→Nat→St→Hp→Prop,(∃m,W 0 m σ H)∧∀i m σ H,W i m σ H→
   ((Itl K a).stop i H∧D.nx σ H)∨((Itl K a).go i H∧∃N:St→Hp→Prop,(∀σ' H',N σ' H'→∃m',m' < m∧W (i+1) m' σ' H')∧∀x H',(Itl K a).yld i H x H'→g x σ H' fun σ2 H2=>tb {D with nx:=N,ct:=N,bk:=D.nx} σ2 H2):=by
 refine ⟨fun i m σ H=>m=xs.length - i∧i≤xs.length∧Pv i σ H,⟨xs.length,by simp,Xr _,h0⟩,?_⟩
 rintro i m σ H ⟨rfl,hi,p⟩
 have q:=hl i σ H hi p
 by_cases hlt:i < xs.length
 ·refine .inr ⟨⟨xs,xs[i],q,by simp [hlt]⟩,Pv (i+1),fun σ' H' p'=>⟨xs.length - (i+1),by omega,rfl,hlt,p'⟩,fun x H' y=>?_⟩
  obtain ⟨e,y⟩:=y
  subst e
  exact hs i x σ _ (y xs q) p
 ·have e:i=xs.length:=by omega
  subst e
  exact .inl ⟨⟨xs,q,Qk _⟩,hd σ H p⟩
theorem a4X {K:Qd} {a:Addr} {xs:List V} {g:TG} {tb:TS} {D:a8P} {σ:St} {H:Hp} (Pv:Nat→St→Hp→Prop) (h0:Pv 0 σ H) (hl:∀i σ H,i≤xs.length→Pv i σ H→SqT K H a xs)
  (hs:∀i x σ H,xs[i]?=some x→Pv i σ H→g x σ H fun σ2 H2=>tb {D with nx:=Pv (i+1),ct:=Pv (i+1),bk:=D.nx} σ2 H2) (hd:∀σ H,Pv xs.length σ H→D.nx σ H):
  ∃W:Nat→Nat→St→Hp→Prop,(∃m,W 0 m σ H)∧∀i m σ H,W i m σ H→
   ((Itt K a).stop i H∧D.nx σ H)∨((Itt K a).go i H∧∃N:St→Hp→Prop,(∀σ' H',N σ' H'→∃m',m' < m∧W (i+1) m' σ' H')∧∀x H',(Itt K a).yld i H x H'→g x σ H' fun σ2 H2=>tb {D with nx:=N,ct:=N,bk:=D.nx} σ2 H2):=by
 refine ⟨fun i m σ H=>m=xs.length - i∧i≤xs.length∧Pv i σ H,⟨xs.length,by simp,Xr _,h0⟩,?_⟩
 rintro i m σ H ⟨rfl,hi,p⟩
 have q:=hl i σ H hi p
 by_cases hlt:i < xs.length
 ·refine .inr ⟨⟨xs,xs[i],q,by simp [hlt]⟩,Pv (i+1),fun σ' H' p'=>⟨xs.length - (i+1),by omega,rfl,hlt,p'⟩,fun x H' y=>?_⟩
  obtain ⟨e,y⟩:=y
  subst e
  exact hs i x σ _ (y xs q) p
 ·have e:i=xs.length:=by omega
  subst e
  exact .inl ⟨⟨xs,q,Qk _⟩,hd σ H p⟩
theorem a1D {lo:Int} {n:Nat} {g:TG} {tb:TS} {D:a8P} {σ:St} {H:Hp} (Pv:Nat→St→Hp→Prop) (h0:Pv 0 σ H)
  (hs:∀i σ H,i < n→Pv i σ H→g (.int (lo+i)) σ H fun σ2 H2=>tb {D with nx:=Pv (i+1),ct:=Pv (i+1),bk:=D.nx} σ2 H2) (hd:∀σ H,Pv n σ H→D.nx σ H):
  ∃W:Nat→Nat→St→Hp→Prop,(∃m,W 0 m σ H)∧∀i m σ H,W i m σ H→
   ((Itr lo n).stop i H∧D.nx σ H)∨((Itr lo n).go i H∧∃N:St→Hp→Prop,(∀σ' H',N σ' H'→∃m',m' < m∧W (i+1) m' σ' H')∧∀x H',(Itr lo n).yld i H x H'→g x σ H' fun σ2 H2=>tb {D with nx:=N,ct:=N,bk:=D.nx} σ2 H2):=by
 refine ⟨fun i m σ H=>m=n - i∧i≤n∧Pv i σ H,⟨n,by simp,Xr _,h0⟩,?_⟩
 rintro i m σ H ⟨rfl,hi,p⟩
 by_cases hlt:i < n
 ·refine .inr ⟨hlt,Pv (i+1),fun σ' H' p'=>⟨n - (i+1),by omega,rfl,hlt,p'⟩,fun x H' y=>?_⟩
  obtain ⟨e,y⟩:=y
  subst e y
  exact hs i σ _ hlt p
 ·have e:i=n:=by omega
  subst e
  exact .inl ⟨Qk _,hd σ H p⟩
abbrev R2:=V→V→Hp→VK→Prop
def OpR (X:Cx) (f:Value→Value→Sem Value) (r:R2):Prop:=
 ∀(pins:List (Addr×Obj)) (s:Shared) (σ:St) (H:Hp) (x y:V) (v u:Value) (Q:VK),Inv X pins σ H s→a0O x v→a0O y u→r x y H Q→
  wpAny (model X.prog X.w) X.A (f v u) (EP X pins σ Q) X.xe s
def UnR (X:Cx) (f:Value→Sem Value) (r:V→Hp→VK→Prop):Prop:=
 ∀(pins:List (Addr×Obj)) (s:Shared) (σ:St) (H:Hp) (x:V) (v:Value) (Q:VK),Inv X pins σ H s→a0O x v→r x H Q→
  wpAny (model X.prog X.w) X.A (f v) (EP X pins σ Q) X.xe s
def a1U (X:Cx) (f:Value) (r:List V→Hp→VK→Prop):Prop:=
 ∀(pins:List (Addr×Obj)) (s:Shared) (σ:St) (H:Hp) (xs:List V) (us:List Value) (Q:VK),Inv X pins σ H s→a0H xs us→r xs H Q→
  wpAny (model X.prog X.w) X.A (call f us) (EP X pins σ Q) X.xe s
def tOp (r:R2) (ta tb:TE):TE:=fun σ H Q=>ta σ H fun x H1=>tb σ H1 fun y H2=>r x y H2 Q
def tUn (r:V→Hp→VK→Prop) (ta:TE):TE:=fun σ H Q=>ta σ H fun x H1=>r x H1 Q
def rI (C:Int→Int→Prop) (g:Int→Int→V):R2:=fun x y H Q=>∃i j,x=.int i∧y=.int j∧C i j∧Q (g i j) H
def rI0 (g:Int→Int→V):R2:=fun x y H Q=>∃i j,x=.int i∧y=.int j∧Q (g i j) H
def rU (g:Int→V):V→Hp→VK→Prop:=fun x H Q=>∃i,x=.int i∧Q (g i) H
section
variable {X:Cx} {a b c:Expr} {ta tb tc:TE} {pos:Pos}
theorem b6w (ha:PE X a ta) (hb:PE X b tb) {pins:List (Addr×Obj)} {s:Shared} {σ:St} {H:Hp} {R:V→V→Hp→Prop} (I:Inv X pins σ H s)
  (h:ta σ H fun x H1=>tb σ H1 fun y H2=>R x y H2) {Q:Value→Shared→Prop} {f:Value→Value→Sem Value}
  (hf:∀v u s2 x y H2,Inv X pins σ H2 s2→a0O x v→a0O y u→R x y H2→wpAny (model X.prog X.w) X.A (f v u) Q X.xe s2):
  wpAny (model X.prog X.w) X.A (eval a X.env) (fun v s₁=>wpAny (model X.prog X.w) X.A (eval b X.env) (fun u s₂=>wpAny (model X.prog X.w) X.A (f v u) Q X.xe s₂) X.xe s₁) X.xe s:=by
 refine thn (ha pins s σ H _ I h) fun v s1 ⟨x,H1,I1,r1,q1⟩=>?_
 refine thn (hb pins s1 σ H1 _ I1 q1) fun u s2 ⟨y,H2,I2,r2,q2⟩=>?_
 exact hf v u s2 x y H2 I2 r1 r2 q2
theorem b6F {op:Operator} {r:R2} (ho:OpR X (binaryOp op) r) (ha:PE X a ta) (hb:PE X b tb):PE X (.BinOp a op b pos) (tOp r ta tb):=by
 intro pins s σ H Q I h
 exact wpAny_BinOp (b6w ha hb I h fun v u s2 x y H2 I2 rx ry q=>ho pins s2 σ H2 x y v u Q I2 rx ry q)
theorem b6y {op:UnaryOp} {r:V→Hp→VK→Prop} (ho:UnR X (unaryOp op) r) (ha:PE X a ta):PE X (.UnaryOp op a pos) (tUn r ta):=by
 intro pins s σ H Q I h
 exact UnaryOp_ (thn (ha pins s σ H _ I h) fun v s1 ⟨x,H1,I1,r1,q1⟩=>ho pins s1 σ H1 x v Q I1 r1 q1)
theorem opI {f:Value→Value→Sem Value} {C:Int→Int→Prop} {g:Int→Int→Int}
  (rule:∀(i j:Int) (t u:Tok) (s:Shared) (Q:Value→Shared→Prop) (E:Value→Shared→Prop),C i j→Q (.int (g i j) s.toks) {s with toks:=s.toks+1}→wpAny (model X.prog X.w) X.A (f (.int i t) (.int j u)) Q E s):
  OpR X f (rI C fun i j=>.int (g i j)):=by
 intro pins s σ H x y v u Q I rx ry h
 obtain ⟨i,j,rfl,rfl,hc,q⟩:=h
 obtain ⟨t,rfl⟩:=rx
 obtain ⟨t',rfl⟩:=ry
 exact rule i j t t' s _ _ hc ⟨.int (g i j),H,I.tok _,⟨_,rfl⟩,q⟩
theorem c2x {f:Value→Value→Sem Value} {g:Int→Int→Int}
  (rule:∀(i j:Int) (t u:Tok) (s:Shared) (Q:Value→Shared→Prop) (E:Value→Shared→Prop),Q (.int (g i j) s.toks) {s with toks:=s.toks+1}→wpAny (model X.prog X.w) X.A (f (.int i t) (.int j u)) Q E s):
  OpR X f (rI0 fun i j=>.int (g i j)):=by
 intro pins s σ H x y v u Q I rx ry h
 obtain ⟨i,j,rfl,rfl,q⟩:=h
 obtain ⟨t,rfl⟩:=rx
 obtain ⟨t',rfl⟩:=ry
 exact rule i j t t' s _ _ ⟨.int (g i j),H,I.tok _,⟨_,rfl⟩,q⟩
theorem b8M {f:Value→Value→Sem Value} {g:Int→Int→Bool}
  (rule:∀(i j:Int) (t u:Tok) (s:Shared) (Q:Value→Shared→Prop) (E:Value→Shared→Prop),Q (.bool (g i j)) s→wpAny (model X.prog X.w) X.A (f (.int i t) (.int j u)) Q E s):
  OpR X f (rI0 fun i j=>.bl (g i j)):=by
 intro pins s σ H x y v u Q I rx ry h
 obtain ⟨i,j,rfl,rfl,q⟩:=h
 obtain ⟨t,rfl⟩:=rx
 obtain ⟨t',rfl⟩:=ry
 exact rule i j t t' s _ _ ⟨.bl (g i j),H,I,rfl,q⟩
def a8V (i j:Int):Prop:=0 < j∧j < 1073741824
def b2z (i j:Int):Prop:=(-(2 ^ 64) < i∧i < 2 ^ 64)∨(-(2 ^ 64) < j∧j < 2 ^ 64)
theorem b2z.ok {i j:Int} (h:b2z i j):IntMulOk i j:=by
 rcases h with ⟨h1,h2⟩ | ⟨h1,h2⟩
 ·exact .of_left (intBits_le_64 h1 h2)
 ·exact .of_right (intBits_le_64 h1 h2)
theorem b5J:OpR X (binaryOp .Add) (rI0 fun i j=>.int (i+j)):=c2x fun _ _ _ _ _ _ _ q=>add_int q
theorem a3n:OpR X (binaryOp .Mult) (rI b2z fun i j=>.int (i * j)):=opI fun _ _ _ _ _ _ _ hc q=>mul_int q hc.ok
theorem a1x:OpR X (binaryOp .FloorDiv) (rI a8V fun i j=>.int (i / j)):=opI fun i j _ _ _ _ _ hc q=>by
 have h1:(0:Int) < j:=hc.1
 have h2:j < 1073741824:=hc.2
 exact floordiv_int ‹om› (by rw [Int.fdiv_eq_ediv_of_nonneg i ‹om›];exact q) (.inl (PyProof.noPylong_small ‹om›))
theorem a0F:OpR X (binaryOp .Mod) (rI (fun _ j=>0 < j) fun i j=>.int (i % j)):=opI fun i j _ _ _ _ _ hc q=>by
 have h1:(0:Int) < j:=hc
 exact mod_int' ‹om› (by rw [Int.fmod_eq_emod_of_nonneg i ‹om›];exact q)
theorem unI {f:Value→Sem Value} {g:Int→Int}
  (rule:∀(i:Int) (t:Tok) (s:Shared) (Q:Value→Shared→Prop) (E:Value→Shared→Prop),Q (.int (g i) s.toks) {s with toks:=s.toks+1}→wpAny (model X.prog X.w) X.A (f (.int i t)) Q E s):
  UnR X f (rU fun i=>.int (g i)):=by
 intro pins s σ H x v Q I rx h
 obtain ⟨i,rfl,q⟩:=h
 obtain ⟨t,rfl⟩:=rx
 exact rule i t s _ _ ⟨.int (g i),H,I.tok _,⟨_,rfl⟩,q⟩
theorem b5v:UnR X (unaryOp .USub) (rU fun i=>.int (-i)):=unI fun _ _ _ _ _ q=>neg_int q
end
def b9f:V→V→Bool
 | .non,.non=>true | .non,.int _=>true | .int _,.non=>true | .non,.bl _=>true | .bl _,.non=>true | .non,.str _=>true | .str _,.non=>true
 | .int _,.int _=>true | .bl _,.bl _=>true | .str _,.str _=>true | .byt _,.byt _=>true
 | .int _,.str _=>true | .str _,.int _=>true | .bl _,.str _=>true | .str _,.bl _=>true
 | _,_=>false
def rEq:R2:=fun x y H Q=>b9f x y=true∧Q (.bl (decide (x=y))) H
def rNe:R2:=fun x y H Q=>b9f x y=true∧Q (.bl (!decide (x=y))) H
theorem a7F {i j:Int}:decide (V.int i=V.int j)=(i == j):=by
 rw [Yg]
 simp
theorem b0b {i j:Bool}:decide (V.bl i=V.bl j)=(i == j):=by
 rw [Yg]
 simp
theorem a8q {i j:Str}:decide (V.str i=V.str j)=(i == j):=by
 rw [Yg]
 simp
theorem a8F {i j:Array UInt8}:decide (V.byt i=V.byt j)=(i.toList == j.toList):=by
 rw [Yg]
 cases i
 cases j
 simp
section
variable {X:Cx} {a b c:Expr} {ta tb tc:TE} {pos:Pos}
theorem a0x {pins:List (Addr×Obj)} {σ:St} {H:Hp} {s:Shared} {Q:VK} {k k':Bool} (I:Inv X pins σ H s) (q:Q (.bl k) H) (e:k=k'):EP X pins σ Q (.bool k') s:=by
 subst e
 exact ⟨.bl k,H,I,rfl,q⟩
theorem b6K:OpR X (compareOp .Eq) rEq:=by
 intro pins s σ H x y v u Q I rx ry h
 obtain ⟨hs,q⟩:=h
 cases x with
 | non=>
  cases rx
  cases y with
  | non=>cases ry;exact PySem.EqNone.eq_none_none (a0x I q (by simp))
  | bl j=>cases ry;exact PySem.EqNone.eq_none_bool (a0x I q (by simp))
  | int j=>obtain ⟨t',rfl⟩:=ry;exact PySem.EqNone.eq_none_int (a0x I q (by simp))
  | str j=>obtain ⟨t',rfl⟩:=ry;exact PySem.EqNone.eq_none_str (a0x I q (by simp))
  | _=>exact absurd (show false=true from hs) Qp
 | bl i=>
  cases rx
  cases y with
  | non=>cases ry;exact PySem.EqNone.eq_bool_none (a0x I q (by simp))
  | bl j=>cases ry;exact eq_bool (a0x I q b0b)
  | str j=>obtain ⟨t',rfl⟩:=ry;exact PySem.EqMixed.eq_bool_str (a0x I q (by simp))
  | _=>exact absurd (show false=true from hs) Qp
 | int i=>
  obtain ⟨t,rfl⟩:=rx
  cases y with
  | non=>cases ry;exact PySem.EqNone.eq_int_none (a0x I q (by simp))
  | int j=>obtain ⟨t',rfl⟩:=ry;exact eq_int (a0x I q a7F)
  | str j=>obtain ⟨t',rfl⟩:=ry;exact PySem.EqMixed.eq_int_str (a0x I q (by simp))
  | _=>exact absurd (show false=true from hs) Qp
 | str i=>
  obtain ⟨t,rfl⟩:=rx
  cases y with
  | non=>cases ry;exact PySem.EqNone.eq_str_none (a0x I q (by simp))
  | bl j=>cases ry;exact PySem.EqMixed.eq_str_bool (a0x I q (by simp))
  | int j=>obtain ⟨t',rfl⟩:=ry;exact PySem.EqMixed.eq_str_int (a0x I q (by simp))
  | str j=>obtain ⟨t',rfl⟩:=ry;exact eq_str (a0x I q a8q)
  | _=>exact absurd (show false=true from hs) Qp
 | byt i=>
  obtain ⟨t,rfl⟩:=rx
  cases y with
  | byt j=>obtain ⟨t',rfl⟩:=ry;exact PySem.W.eq_bytes (a0x I q a8F)
  | _=>exact absurd (show false=true from hs) Qp
 | _=>cases y<;>exact absurd (show false=true from hs) Qp
theorem b6T:OpR X (compareOp .NotEq) rNe:=by
 intro pins s σ H x y v u Q I rx ry h
 obtain ⟨hs,q⟩:=h
 cases x with
 | non=>
  cases rx
  cases y with
  | non=>cases ry;exact PySem.EqNone.ne_none_none (a0x I q (by simp))
  | bl j=>cases ry;exact PySem.EqNone.ne_none_bool (a0x I q (by simp))
  | int j=>obtain ⟨t',rfl⟩:=ry;exact PySem.EqNone.ne_none_int (a0x I q (by simp))
  | str j=>obtain ⟨t',rfl⟩:=ry;exact PySem.EqNone.ne_none_str (a0x I q (by simp))
  | _=>exact absurd (show false=true from hs) Qp
 | bl i=>
  cases rx
  cases y with
  | non=>cases ry;exact PySem.EqNone.ne_bool_none (a0x I q (by simp))
  | bl j=>cases ry;exact ne_bool (a0x I q (congrArg not b0b))
  | str j=>obtain ⟨t',rfl⟩:=ry;exact PySem.EqMixed.ne_bool_str (a0x I q (by simp))
  | _=>exact absurd (show false=true from hs) Qp
 | int i=>
  obtain ⟨t,rfl⟩:=rx
  cases y with
  | non=>cases ry;exact PySem.EqNone.ne_int_none (a0x I q (by simp))
  | int j=>obtain ⟨t',rfl⟩:=ry;exact ne_int (a0x I q (congrArg not a7F))
  | str j=>obtain ⟨t',rfl⟩:=ry;exact PySem.EqMixed.ne_int_str (a0x I q (by simp))
  | _=>exact absurd (show false=true from hs) Qp
 | str i=>
  obtain ⟨t,rfl⟩:=rx
  cases y with
  | non=>cases ry;exact PySem.EqNone.ne_str_none (a0x I q (by simp))
  | bl j=>cases ry;exact PySem.EqMixed.ne_str_bool (a0x I q (by simp))
  | int j=>obtain ⟨t',rfl⟩:=ry;exact PySem.EqMixed.ne_str_int (a0x I q (by simp))
  | str j=>obtain ⟨t',rfl⟩:=ry;exact ne_str (a0x I q (congrArg not a8q))
  | _=>exact absurd (show false=true from hs) Qp
 | byt i=>
  obtain ⟨t,rfl⟩:=rx
  cases y with
  | byt j=>obtain ⟨t',rfl⟩:=ry;exact PySem.W.ne_bytes (a0x I q (congrArg not a8F))
  | _=>exact absurd (show false=true from hs) Qp
 | _=>cases y<;>exact absurd (show false=true from hs) Qp
theorem b6P:OpR X (compareOp .Lt) (rI0 fun i j=>.bl (decide (i < j))):=b8M fun _ _ _ _ _ _ _ q=>lt_int q
theorem b6Z:OpR X (compareOp .Gt) (rI0 fun i j=>.bl (decide (j < i))):=b8M fun _ _ _ _ _ _ _ q=>gt_int q
theorem a6M:OpR X (compareOp .Lt) (fun x y H Q=>∃i j,x=.str i∧y=.str j∧Q (.bl (decide (i.cps.toList < j.cps.toList))) H):=by
 intro pins s σ H x y v u Q I rx ry h
 obtain ⟨i,j,rfl,rfl,q⟩:=h
 obtain ⟨t,rfl⟩:=rx
 obtain ⟨t',rfl⟩:=ry
 exact lt_str (a0x I q rfl)
theorem a8t:OpR X (compareOp .In) (fun x y H Q=>∃i j,x=.str i∧y=.str j∧Q (.bl (!(Builtin.Str.occurrences j i 0 j.length 1).isEmpty)) H):=by
 intro pins s σ H x y v u Q I rx ry h
 obtain ⟨i,j,rfl,rfl,q⟩:=h
 obtain ⟨t,rfl⟩:=rx
 obtain ⟨t',rfl⟩:=ry
 exact in_str (a0x I q rfl)
theorem a4j:OpR X (compareOp .NotIn) (fun x y H Q=>∃i j,x=.str i∧y=.str j∧Q (.bl (!(!(Builtin.Str.occurrences j i 0 j.length 1).isEmpty))) H):=by
 intro pins s σ H x y v u Q I rx ry h
 obtain ⟨i,j,rfl,rfl,q⟩:=h
 obtain ⟨t,rfl⟩:=rx
 obtain ⟨t',rfl⟩:=ry
 exact notIn_str (a0x I q rfl)
theorem OpR.or {f:Value→Value→Sem Value} {r r':R2} (h:OpR X f r) (h':OpR X f r'):OpR X f (fun x y H Q=>r x y H Q∨r' x y H Q):=by
 intro pins s σ H x y v u Q I rx ry q
 rcases q with q | q
 ·exact h pins s σ H x y v u Q I rx ry q
 ·exact h' pins s σ H x y v u Q I rx ry q
theorem a0v (b:Expr) {op:CmpOp} (h:op≠.In:=by decide) (h2:op≠.NotIn:=by decide):behindInMarks op b=false:=by
 have e1:(op == CmpOp.In)=false:=by cases op<;>first | rfl | exact absurd rfl h
 have e2:(op == CmpOp.NotIn)=false:=by cases op<;>first | rfl | exact absurd rfl h2
 cases b<;>simp [behindInMarks,e1,e2]
theorem b1f {op:CmpOp} {r:R2} (ho:OpR X (compareOp op) r) (ha:PE X a ta) (hb:PE X b tb) (hm:behindInMarks op b=false):PE X (.Compare a [op] [b] pos) (tOp r ta tb):=by
 intro pins s σ H Q I h
 exact wpAny_Compare1 (b6w ha hb I h fun v u s2 x y H2 I2 rx ry q=>ho pins s2 σ H2 x y v u Q I2 rx ry q) hm
def a0I (t:TE):TT:=fun σ H Q=>t σ H fun x H'=>∃k,x=.bl k∧Q k H'
theorem b2p {op:CmpOp} {r:R2} (ho:OpR X (compareOp op) r) (ha:PE X a ta) (hb:PE X b tb) (hm:behindInMarks op b=false):PT X (.Compare a [op] [b] pos) (a0I (tOp r ta tb)):=by
 intro pins s σ H Q I h
 refine wpAny_isTrue_Compare1 (thn (ha pins s σ H _ I h) fun v s1 ⟨x,H1,I1,r1,q1⟩=>thn (hb pins s1 σ H1 _ I1 q1) fun u s2 ⟨y,H2,I2,r2,q2⟩=>
  thn (ho pins s2 σ H2 x y v u _ I2 r1 r2 q2) fun c s3 ⟨z,H3,I3,r3,k,e,q3⟩=>?_) hm
 subst e
 cases r3
 exact wpAny_truthy_bool ⟨H3,I3,q3⟩
theorem a4v:(sizeLine:Nat) < 2 ^ 63:=by rw [sizeLine_eq];decide
theorem a6G:OpR X (binaryOp .Add) (fun x y H Q=>∃i j,x=.str i∧y=.str j∧i.length+j.length≤sizeLine∧Q (.str (i++j)) H):=by
 intro pins s σ H x y v u Q I rx ry h
 obtain ⟨i,j,rfl,rfl,hz,q⟩:=h
 obtain ⟨t,rfl⟩:=rx
 obtain ⟨t',rfl⟩:=ry
 exact add_str (fun t' tk=>⟨.str (i++j),H,I.tok _,⟨_,rfl⟩,q⟩) hz
theorem a3C {x:V} {us:List Value} (r:a0H [x] us):∃u,us=[u]∧a0O x u:=by
 cases r with
 | cons r1 r2=>cases r2;exact ⟨_,rfl,r1⟩
theorem a4I:a1U X (.type "str") (fun xs H Q=>∃i,xs=[.int i]∧i.natAbs.log2 < 1920∧Q (.str (toString i)) H):=by
 intro pins s σ H xs us Q I r h
 obtain ⟨i,rfl,hz,q⟩:=h
 obtain ⟨u,rfl,t,rfl⟩:=a3C r
 exact PySem.P.str_of_int hz ⟨.str _,H,I.tok _,⟨_,rfl⟩,q⟩
def b7p (K:Qd) (x:V) (H:Hp) (n:Nat):Prop:=
 match x with
 | .str y=>y.length≤sizeLine∧n=y.length
 | .byt y=>y.size≤sizeLine∧n=y.size
 | .ref p=>(∃xs,SqL K H p xs∧n=xs.length)∨∃xs,SqT K H p xs∧n=xs.length
 | _=>False
theorem a9Q:a1U X (.builtin "len") (fun xs H Q=>∃x n,xs=[x]∧b7p X.K x H n∧Q (.int n) H):=by
 intro pins s σ H xs us Q I r h
 obtain ⟨x,n,rfl,e,q⟩:=h
 obtain ⟨u,rfl,rx⟩:=a3C r
 have hl:=a4v
 have hs:sizeLine=16777216:=sizeLine_eq
 cases x with
 | str y=>
  obtain ⟨t,rfl⟩:=rx
  obtain ⟨hy,e'⟩:y.length≤sizeLine∧n=y.length:=e
  subst e'
  exact len_str ‹om› ⟨.int _,H,I.tok _,⟨_,rfl⟩,q⟩
 | byt y=>
  obtain ⟨t,rfl⟩:=rx
  obtain ⟨hy,e'⟩:y.size≤sizeLine∧n=y.size:=e
  subst e'
  exact PySem.W.len_bytes ‹om› ⟨.int _,H,I.tok _,⟨_,rfl⟩,q⟩
 | ref p=>
  cases rx
  have e':(∃xs,SqL X.K H p xs∧n=xs.length)∨∃xs,SqT X.K H p xs∧n=xs.length:=e
  rcases e' with ⟨xs,hx,e'⟩ | ⟨xs,hx,e'⟩
  ·subst e'
   obtain ⟨its,r',pl,hz⟩:=I.list hx
   have hlen:=r'.length
   exact Calls.call_len_list pl.isList (by simp only [Ql];omega) ⟨.int xs.length,H,I.tok _,⟨_,by simp only [Ql];rw [hlen]⟩,q⟩
  ·subst e'
   obtain ⟨its,r',pl,hz⟩:=I.tuple hx
   have hlen:=r'.length
   exact len_tuple pl (by simp only [Ql];omega) ⟨.int xs.length,H,I.tok _,⟨_,by simp only [Ql];rw [hlen]⟩,q⟩
 | _=>exact (show False from e).elim
end
structure b1N (h:Heap) (x dx C:Addr) (mA:Str→Option Value):Prop where
 obj:h.get? x=some (Ys C dx)
 ns:h.Ns1 dx mA
 ne:dx≠x
theorem a8u {h:Heap} {dx:Addr} {mA:Str→Option Value} (n:h.Ns1 dx mA):∃od,h.get? dx=some od∧∀name,Jp name od=some (mA name):=by
 obtain ⟨o,es,ep,ho,hd,hk,_,hm⟩:=n
 refine ⟨o,ho,fun name=>?_⟩
 have e:=hm name
 unfold nsFind findBy at e
 rw [←Array.find?_toList] at e
 unfold Jp
 rw [hd]
 dsimp only
 split
 ·rename_i y q
  rw [q] at e
  exact congrArg some e
 ·rename_i q
  rw [q] at e
  have a:es.toList.any (·.refKey)=false:=by
   rw [List.any_eq_false]
   intro y hy
   obtain ⟨z,t,hkey⟩:=hk y (Array.mem_toList_iff.mp hy)
   simp [DictEntry.refKey,hkey]
  have a':¬es.toList.any (·.refKey)=true:=by rw [a];exact Qp
  rw [if_neg a']
  exact congrArg some e
theorem b1N.look {h:Heap} {x dx C:Addr} {mA:Str→Option Value} (I:b1N h x dx C mA):∃od,PySem.W.InstAt h x (Ys C dx) C (some od)∧∀name,Jp name od=some (mA name):=
 let ⟨od,ho,hl⟩:=a8u I.ns
 ⟨od,⟨I.obj,rfl,rfl,ho⟩,hl⟩
section
variable {prog:Program} {w:World} {A:Around} {E:Value→Shared→Prop} {s:Shared} {K:Qd} {x dx C f:Addr} {mA:Str→Option Value} {name:Str} {v:Value}
theorem b2u {expr:Bool} {Q:Value→Shared→Prop} (X:K.In s.heap) (I:b1N s.heap x dx C mA) (hg:Je K C name=true) (hh:Jz K C=true)
  (ha:Yj K (.ref C) name=some none) (hv:mA name=some v) (hv':Wb v=true) (h:Q v {s with toks:=s.toks+1}):
  wpAny (model prog w) A (getAttr (.ref x) name expr) Q E s:=by
 obtain ⟨od,J,hl⟩:=I.look
 exact PySem.W.get_value X J (Jo hg).1 (PySem.W.findObj_own hh ha rfl (by rw [hl,hv])) hv' h
theorem a9V {pl:Sem Bool} {Q:Value×List Value→Shared→Prop} (X:K.In s.heap) (I:b1N s.heap x dx C mA) (hg:Je K C name=true)
  (hf:Yj K (.ref C) name=some (some (.ref f))) (ht:Vu K (.ref f)=true) (hv:mA name=none) (h:Q (.ref f,[.ref x]) s):
  wpAny (model prog w) A (getMethod (.ref x) name pl) Q E s:=by
 obtain ⟨od,J,hl⟩:=I.look
 exact PySem.W.method_fn X J (Jo hg).1 (Jo hg).2 hf (beq_iff_eq.mp ht) (by show (Jp name od).map (·.isSome)=some false;rw [hl,hv];rfl) h
theorem b1V {ns:List Str} {Q:Unit→Shared→Prop} (X:K.In s.heap) (I:b1N s.heap x dx C mA)
  (hs:Yj K (.ref C) "__setattr__"=some (some (.builtin "object.__setattr__"))) (hp:Vy K C=true) (ht:Uq K C name=some none) (hh:Jz K C=true)
  (hw:PySem.Within mA ns) (hsz:ns.length≤sizeLine)
  (h:∀h',b1N h' x dx C (fun y=>if y=name then some v else mA y)→Ud dx s.heap h'→Q () {s with heap:=h',toks:=s.toks+2}):
  wpAny (model prog w) A (setAttr (.ref x) name v) Q E s:=by
 obtain ⟨od,J,hl⟩:=I.look
 refine PySem.W.set_plain X J hs (PySem.W.osa_open (s:={s with toks:=s.toks+1}) (r:=none) X J hp ht fun b=>?_)
 obtain ⟨cd,hc,hd'⟩:=PySem.W.any_some hh
 have hx:s.heap.get? x=some ⟨.ref C,some dx,.plain,#[]⟩:=I.obj
 refine wpAny_bind (wpAny_pure (wpAny_bind (wpAny_bind (wpAny_loadPart hx (wpAny_bind (PySem.W.Looks.here (s:={s with toks:=s.toks+1}) (PySem.W.looks_clsIn X hc) ?_))))))
 rw [hd']
 refine wpAny_pure (a:=some dx) (wpAny_bind (wpAny_pure (wpAny_bind ?_)))
 refine wpAny_nsSet1 (s:={s with toks:=s.toks+1}) I.ns fun h' hn2 hs2=>?_
 obtain ⟨oD,esD,epD,hoD,hdD,hcD⟩:=hn2.count (PySem.Within.cons name v hw)
 refine wpAny_bind (wpAny_lookBehind hoD (by rw [hdD];exact pastItsLine_dict (Qi hcD (by rw [Qj];omega))) ?_)
 exact wpAny_pure (h _ ⟨(hs2.2 _ (Ne.symm I.ne)).trans I.obj,hn2,I.ne⟩ hs2)
theorem a9W {R:Result→Shared→Prop} {vs:List Value} {kw:List (Str×Value)} (X:K.In s.heap) (hm:Wd K C=true)
  (hi:Yj K (.ref C) "__init__"=some (some (.ref f))) (hf:Va K (.ref f)=some (.type "function"))
  (h:codeAny (model prog w) (A.under (.builtin "type.__call__" ⟨.ref C::vs,kw⟩)) (.call (.ref f) ⟨.ref (s.heap.objs.size+1)::vs,kw⟩) (PySem.W.InitBack (s.heap.objs.size+1) R)
   {s with heap:=(s.heap.push Yk).push (Ys C s.heap.objs.size)}):
  codeAny (model prog w) A (.call (.ref C) ⟨vs,kw⟩) R s:=by
 obtain ⟨hh,g,d,t,os⟩:=s
 exact PySem.W.make_core (PySem.W.makes_of X hm) (PySem.W.looks_findIn X hi) (fun self=>PySem.W.bind_fn X self hf) (.inl rfl) h
end
def a1q (f:Str) (v:V):List (Str×V)→List (Str×V)
 | []=>[(f,v)]
 | (g,x)::r=>if g=f then (g,v)::r else (g,x)::a1q f v r
theorem a0g (f g:Str) (v:V):∀fs:List (Str×V),(a1q f v fs).lookup g=if g=f then some v else fs.lookup g
 | []=>by
  show Za g [(f,v)]=_
  by_cases h:g=f
  ·have hb:(g == f)=true:=beq_iff_eq.mpr h
   simp only [Za,hb,if_pos h]
  ·have hb:(g == f)=false:=beq_eq_false_iff_ne.mpr h
   simp only [Za,hb,if_neg h]
 | (k,x)::r=>by
  have ih:=a0g f g v r
  rw [show a1q f v ((k,x)::r)=(if k=f then (k,v)::r else (k,x)::a1q f v r) from rfl]
  by_cases hk:k=f
  ·rw [if_pos hk]
   by_cases h:g=k
   ·have hb:(g == k)=true:=beq_iff_eq.mpr h
    simp only [Za,hb,if_pos (h.trans hk)]
   ·have hb:(g == k)=false:=beq_eq_false_iff_ne.mpr h
    simp only [Za,hb,if_neg (fun e:g=f=>h (e.trans hk.symm))]
  ·rw [if_neg hk]
   by_cases h:g=k
   ·have hb:(g == k)=true:=beq_iff_eq.mpr h
    simp only [Za,hb,if_neg (fun e:g=f=>hk (h.symm.trans e))]
   ·have hb:(g == k)=false:=beq_eq_false_iff_ne.mpr h
    simp only [Za,hb]
    exact ih
theorem a3d (f:Str) (v:V):∀fs:List (Str×V),f∈(a1q f v fs).map (·.1)∧∀g,g∈fs.map (·.1)→g∈(a1q f v fs).map (·.1)
 | []=>⟨by simp [a1q],fun g h=>by simp at h⟩
 | (k,x)::r=>by
  obtain ⟨i1,i2⟩:=a3d f v r
  rw [show a1q f v ((k,x)::r)=(if k=f then (k,v)::r else (k,x)::a1q f v r) from rfl]
  by_cases hk:k=f
  ·rw [if_pos hk]
   subst hk
   exact ⟨by simp,fun g h=>by simpa using h⟩
  ·rw [if_neg hk]
   refine ⟨?_,fun g h=>?_⟩
   ·rw [Xm]
    exact Qu _ i1
   ·rw [Xm] at h ⊢
    rcases Qx.mp h with e | e
    ·exact Qx.mpr (.inl e)
    ·exact Qu _ (i2 g e)
theorem a2P (f:Str) (v:V):∀fs:List (Str×V),(a1q f v fs).length≤fs.length+1
 | []=>by simp [a1q]
 | (k,x)::r=>by
  have ih:=a2P f v r
  rw [show a1q f v ((k,x)::r)=(if k=f then (k,v)::r else (k,x)::a1q f v r) from rfl]
  by_cases hk:k=f
  ·rw [if_pos hk,Qj,Qj];omega
  ·rw [if_neg hk,Qj,Qj];omega
theorem a3N.some_of {v:V} {o:Option Value} (r:a3N (some v) o):∃u,o=some u∧a0O v u:=by
 cases o with
 | none=>exact (show False from r).elim
 | some u=>exact ⟨u,rfl,r⟩
theorem a3N.none_of {o:Option Value} (r:a3N none o):o=none:=by
 cases o with
 | none=>rfl
 | some u=>exact (show False from r).elim
theorem a8s {v:V} {u:Value} (r:a0O v u):Wb u=true:=by
 cases v with
 | non=>cases (show u=Value.none from r);rfl
 | bl b=>cases (show u=Value.bool b from r);rfl
 | int i=>obtain ⟨t,e⟩:=(show ∃t,u=Value.int i t from r);cases e;rfl
 | str x=>obtain ⟨t,e⟩:=(show ∃t,u=Value.str x t from r);cases e;rfl
 | byt b=>obtain ⟨t,e⟩:=(show ∃t,u=Value.bytes b t from r);cases e;rfl
 | flt b=>obtain ⟨t,e⟩:=(show ∃t,u=Value.float b t from r);cases e;rfl
 | ref a=>cases (show u=Value.ref a from r);rfl
 | ty n=>cases (show u=Value.type n from r);rfl
section
variable {P:Program} {w:World} {H H':Hp} {h h':Heap} {a C dx:Addr} {fs fs':List (Str×V)}
theorem a5r (hok:HOk P w H h) (e:H a=some (.ins C dx fs)):∃mA,b1N h a dx C mA∧(∀f,a3N (fs.lookup f) (mA f))∧PySem.Within mA (fs.map (·.1))∧fs.length≤1000∧H dx=some (.own a):=by
 obtain ⟨d,z,ne,ob,mA,n,r,q⟩:=(show a1z P w H h a (.ins C dx fs) from hok a _ e)
 exact ⟨mA,⟨ob,n,ne⟩,r,q,z,d⟩
end
structure Cls (K:Qd) (C:Addr):Prop where
 pg:Je K C Str.empty=true
 hd:Jz K C=true
 po:Vy K C=true
 sa:Yj K (.ref C) "__setattr__"=some (some (.builtin "object.__setattr__"))
theorem Cls.get {K:Qd} {C:Addr} (c:Cls K C) (f:Str):Je K C f=true:=c.pg
def a0D (K:Qd) (C:Addr) (f:Str):Prop:=Yj K (.ref C) f=some none
theorem a0D.taker {K:Qd} {C:Addr} {f:Str} (n:a0D K C f):Uq K C f=some none:=by
 unfold Uq
 rw [show Yj K (.ref C) f=some none from n]
 rfl
structure a3p (K:Qd) (C:Addr) (m:Str) (f:Addr):Prop where
 at_:Yj K (.ref C) m=some (some (.ref f))
 fn:Vu K (.ref f)=true
 kp:Zc K (.ref f)=true
section
variable {X:Cx} {pins:List (Addr×Obj)} {σ:St} {H:Hp} {s:Shared} {a C dx:Addr} {fs:List (Str×V)} {f:Str} {v:V} {A:Around} {E:Value→Shared→Prop}
theorem a6E {b:Bool} {Q:Value→Shared→Prop} (I:Inv X pins σ H s) (e:H a=some (.ins C dx fs)) (c:Cls X.K C) (n:a0D X.K C f) (l:fs.lookup f=some v)
  (h:∀u s',Inv X pins σ H s'→a0O v u→Q u s'):wpAny (model X.prog X.w) A (getAttr (.ref a) f b) Q E s:=by
 obtain ⟨mA,O,r,_,_,_⟩:=a5r I.hok e
 obtain ⟨u,hu,ru⟩:=a3N.some_of (v:=v) (o:=mA f) (by rw [←l];exact r f)
 exact b2u I.kIn O (c.get f) c.hd n hu (a8s ru) (h u _ (I.tok _) ru)
theorem a3r {m:Str} {g:Addr} {pl:Sem Bool} {Q:Value×List Value→Shared→Prop} (I:Inv X pins σ H s) (e:H a=some (.ins C dx fs)) (c:Cls X.K C) (k:a3p X.K C m g) (l:fs.lookup m=none)
  (h:Q (.ref g,[.ref a]) s):wpAny (model X.prog X.w) A (getMethod (.ref a) m pl) Q E s:=by
 obtain ⟨mA,O,r,_,_,_⟩:=a5r I.hok e
 have hn:mA m=none:=a3N.none_of (by rw [←l];exact r m)
 exact a9V I.kIn O (c.get m) k.at_ k.fn hn h
theorem a6B {y:V} {u:Value} {Q:Unit→Shared→Prop} (I:Inv X pins σ H s) (e:H a=some (.ins C dx fs)) (c:Cls X.K C) (n:a0D X.K C f) (hl:fs.length < 1000) (ry:a0O y u)
  (h:∀s',Inv X pins σ (upd H a (.ins C dx (a1q f y fs))) s'→Q () s'):wpAny (model X.prog X.w) A (setAttr (.ref a) f u) Q E s:=by
 obtain ⟨mA,O,r,wi,_,ho⟩:=a5r I.hok e
 have hz:(fs.map (·.1)).length≤sizeLine:=by rw [Qc,sizeLine_eq];omega
 refine b1V I.kIn O c.sa c.po n.taker c.hd wi hz fun h' O' sb=>h _ ?_
 have hd:∃o,h'.get? dx=some o:=let ⟨o,_,_,e',_⟩:=O'.ns;⟨o,e'⟩
 refine I.write (x:=a) (e:=dx) (by rw [e];exact True.intro) (.inr ho) (fun b q hb z=>(sb.2 b hb).trans z) hd ?_
 refine ⟨by rw [a0d O.ne];exact ho,?_,O.ne,O'.obj,_,O'.ns,fun g=>?_,fun g hg=>?_⟩
 ·have:=a2P f y fs;omega
 ·show a3N ((a1q f y fs).lookup g) (if g=f then some u else mA g)
  rw [a0g]
  by_cases q:g=f
  ·rw [if_pos q,if_pos q];exact ry
  ·rw [if_neg q,if_neg q];exact r g
 ·by_cases q:g=f
  ·rw [q];exact (a3d f y fs).1
  ·refine (a3d f y fs).2 g (wi g fun z=>hg ?_)
   show (if g=f then some u else mA g)=none
   rw [if_neg q];exact z
theorem Inv.made (I:Inv X pins σ H s):Inv X pins σ (upd (upd H s.heap.objs.size (.own (s.heap.objs.size+1))) (s.heap.objs.size+1) (.ins C s.heap.objs.size []))
  {s with heap:=(s.heap.push Yk).push (Ys C s.heap.objs.size)}:=by
 have e1:(s.heap.push Yk).get? s.heap.objs.size=some Yk:=Xh s.heap rfl
 have e2:((s.heap.push Yk).push (Ys C s.heap.objs.size)).get? (s.heap.objs.size+1)=some (Ys C s.heap.objs.size):=by
  have:=Xh (s.heap.push Yk) (o:=Ys C s.heap.objs.size) rfl
  rwa [Jq] at this
 have e3:(s.heap.push Yk).Ns s.heap.objs.size (fun _=>none):=⟨Yk,#[],_,e1,rfl,(fun e he=>absurd he (by simp)),fun _=>rfl⟩
 have I1:=I.laid (a:=s.heap.objs.size) (o:=.own (s.heap.objs.size+1)) (h':=s.heap.push Yk) (t':=s.toks) (fun b u q=>Qm _ q) (Qk _) ⟨_,e1⟩
 refine I1.laid (a:=s.heap.objs.size+1) (o:=.ins C s.heap.objs.size []) (t':=s.toks) (fun b u q=>Qm _ q) (Ue (Jq _ _)) ?_
 have ne:s.heap.objs.size≠s.heap.objs.size+1:=Xc (Uf _)
 refine ⟨by rw [a0d ne,a0f],Xr _,ne,e2,fun _=>none,(Heap.Ns1.of_empty e3).at fun o q=>Qm _ q,fun _=>True.intro,fun y hy=>absurd rfl hy⟩
theorem b1B {prog:Program} {w:World} {env:Env} {e:Expr} {f:Str} {pos:Pos} {s:Shared} {Q:Value→Shared→Prop} (hb:attributeBase e f env (eval e env)=eval e env)
  (h:wpAny (model prog w) A (eval e env) (fun o s₁=>wpAny (model prog w) A (getAttr o f true) Q E s₁) E s):wpAny (model prog w) A (eval (.Attribute e f pos) env) Q E s:=
 Attribute_any_ h (by rw [arm_eval_Attribute,hb])
end
def a2Y (K:Qd) (ta:TE) (f:Str):TE:=fun σ H Q=>ta σ H fun x H1=>∃a C dx fs v,x=.ref a∧H1 a=some (.ins C dx fs)∧Cls K C∧a0D K C f∧fs.lookup f=some v∧Q v H1
def b6o (K:Qd) (ta tv:TE) (f:Str):TS:=fun D σ H=>tv σ H fun y H1=>ta σ H1 fun x H2=>∃a C dx fs,x=.ref a∧H2 a=some (.ins C dx fs)∧Cls K C∧a0D K C f∧fs.length < 1000∧
 D.nx σ (upd H2 a (.ins C dx (a1q f y fs)))
section
variable {X:Cx} {o e value:Expr} {f:Str} {pos pos' tpos:Pos} {ta tv:TE}
theorem b0U (he:PE X e ta) (hb:attributeBase e f X.env (eval e X.env)=eval e X.env):PE X (.Attribute e f pos) (a2Y X.K ta f):=by
 intro pins s σ H Q I h
 refine b1B hb (thn (he pins s σ H _ I h) fun u s1 ⟨x,H1,I1,rx,a,C,dx,fs,v,ex,ea,c,n,l,q⟩=>?_)
 subst ex
 obtain rfl:u=Value.ref a:=rx
 exact a6E I1 ea c n l fun u' s2 I2 ru=>⟨v,H1,I2,ru,q⟩
theorem b3H (ha:PE X o ta) (hv:PE X value tv) (hs:swapsWith value (some (.Attribute o f pos')) pos.line X.env=pure false):PS X (.Assign [.Attribute o f pos'] value pos) (b6o X.K ta tv f):=by
 intro pins s σ H D I h
 refine plainObj_wpAny_Assign_Attribute (thn (hv pins s σ H _ I h) fun u s1 ⟨y,H1,I1,ry,q⟩=>thn (ha pins s1 σ H1 _ I1 q) fun ov s2 ⟨x,H2,I2,rx,a,C,dx,fs,ex,ea,c,n,l,q2⟩=>?_) hs
 subst ex
 obtain rfl:ov=Value.ref a:=rx
 exact a6B I2 ea c n l ry fun s3 I3=>⟨σ,_,I3,q2⟩
end
structure a2p (k:Nat) (A:Around):Prop where
 hd:A.handled=none
 dp:A.depth+3 * k+5 < recursionLimit
 un:A.units+16 * k+200 < cLine
theorem a2p.mono {j k:Nat} {A:Around} (r:a2p k A) (h:j≤k):a2p j A:=⟨r.hd,by have:=r.dp;omega,by have:=r.un;omega⟩
theorem a2p.deeper {k:Nat} {A:Around} (r:a2p (k+1) A) (env:Env):a2p k (A.deeper env):=
 ⟨r.hd,by have:=r.dp;show A.depth+1+3 * k+5 < _;omega,by have:=r.un;show A.units+3+16 * k+200 < _;omega⟩
theorem a6t {A:Around} {C:Addr} {us:List Value} {kw:List (Str×Value)}:(A.under (.builtin "type.__call__" ⟨.ref C::us,kw⟩)).depth=A.depth+1:=by
 first | rfl | simp [Around.under,Code.weight,Code.isCreation,Code.isGuard,Code.isCaller,Code.frames,Code.isFrame,guardIds]
theorem a6r {A:Around} {C:Addr} {us:List Value} {kw:List (Str×Value)}:(A.under (.builtin "type.__call__" ⟨.ref C::us,kw⟩)).units=A.units+1:=by
 first | rfl | simp [Around.under,Code.cUnits,Code.frames,Code.isFrame]
theorem a2p.make {k:Nat} {A:Around} (r:a2p (k+1) A) (C:Addr) (us:List Value) (kw:List (Str×Value)):a2p k (A.under (.builtin "type.__call__" ⟨.ref C::us,kw⟩)):=
 ⟨r.hd,by have:=r.dp;rw [a6t];omega,by have:=r.un;rw [a6r];omega⟩
theorem a2p.depth {k:Nat} {A:Around} (r:a2p k A):A.depth < recursionLimit:=by have:=r.dp;omega
theorem a2p.units {k:Nat} {A:Around} (r:a2p k A):A.units+64 < cLine:=by have:=r.un;omega
def a0y:TA:=fun _ H Q=>Q [] H
def a0i (ta:TE) (tr:TA):TA:=fun σ H Q=>ta σ H fun x H1=>tr σ H1 fun xs H2=>Q (x::xs) H2
section
variable {X:Cx} {e:Expr} {es:List Expr} {te:TE} {t:TA} {pos:Pos}
theorem b2M:PA X [] a0y:=fun _ _ _ _ H Q I h=>Calls.spliced_nil ⟨[],H,I,.nil,h⟩
theorem b2b (ha:PE X e te) (hr:PA X es t) (hs:starEach (e::es) X.env=(false,eval e X.env)::starEach es X.env:=by rfl):PA X (e::es) (a0i te t):=by
 intro pos pins s σ H Q I h
 rw [hs]
 show wpAny _ _ (spliced ((false,eval e X.env)::backTo pos (starEach es X.env))) _ _ s
 refine Calls.spliced_cons (thn (ha pins s σ H _ I h) fun u s1 ⟨x,H1,I1,r1,q1⟩=>?_)
 exact thn (hr pos pins s1 σ H1 _ I1 q1) fun us s2 ⟨xs,H2,I2,r2,q2⟩=>⟨x::xs,H2,I2,.cons r1 r2,q2⟩
def a5a (t:TA):TE:=fun σ H Q=>t σ H fun xs H1=>xs.length≤sizeLine∧∀p,H1 p=none→Q (.ref p) (upd H1 p (.tup xs))
def a2W (t:TA):TE:=fun σ H Q=>t σ H fun xs H1=>xs.length≤sizeLine∧∀p,H1 p=none→Q (.ref p) (upd H1 p (.lst xs))
theorem b5Y {x1} (h:PA X es t):PE X (.Tuple es x1 pos) (a5a t):=by
 intro pins s σ H Q I hq
 refine wpAny_Tuple_spliced (thn (h pos pins s σ H _ I hq) fun us s1 ⟨xs,H1,I1,r,z,q⟩=>⟨by rw [←r.length];exact z,?_⟩)
 have hf:H1 s1.heap.objs.size=none:=I1.hok.fresh (Qk _)
 refine ⟨.ref s1.heap.objs.size,upd H1 s1.heap.objs.size (.tup xs),I1.laid (t':=s1.toks) (fun b u e=>Qm _ e) (Qk _) ?_,rfl,q _ hf⟩
 exact ⟨z,us,r,⟨_,Xh _ rfl,rfl,_,rfl⟩⟩
theorem b4C (h:PA X es t):PE X (.List es pos) (a2W t):=by
 intro pins s σ H Q I hq
 refine wpAny_List_spliced (thn (h pos pins s σ H _ I hq) fun us s1 ⟨xs,H1,I1,r,z,q⟩=>⟨by rw [←r.length];exact z,?_⟩)
 have hf:H1 s1.heap.objs.size=none:=I1.hok.fresh (Qk _)
 refine ⟨.ref s1.heap.objs.size,upd H1 s1.heap.objs.size (.lst xs),I1.laid (t':=s1.toks) (fun b u e=>Qm _ e) (Qk _) ?_,rfl,q _ hf⟩
 exact ⟨z,us,0,r,Xh _ rfl⟩
end
abbrev Sp:=List V→Hp→VK→XK→Prop
abbrev CXT:=List Env→Hp→Shared→XK→Value→Shared→Prop
structure b1T (P:Program) (w:World) (K:Qd) (mg:Str→Option Value) (base:Heap) (A:Around) (outer:List Env) (s:Shared) (H:Hp):Prop where
 frames:A.frames=some outer
 mod:Mod K mg base
 bs:∀b o,base.get? b=some o→s.heap.get? b=some o∧H b=none
 bsz:base.objs.size≤s.heap.objs.size
 funs:s.heap.FunFrames base outer
 frf:∀b∈frs outer,H b=none
 hok:HOk P w H s.heap
 bare:AllBare s.gens
def CE (outer:List Env) (P:Program) (w:World) (H:Hp) (s:Shared) (Q:VK) (u:Value) (s':Shared):Prop:=
 ∃v H',s'.os=s.os∧AllBare s'.gens∧Un (frs outer) [] H H' s.heap s'.heap∧HOk P w H' s'.heap∧a0O v u∧Q v H'
def CR (CX:CXT) (outer:List Env) (P:Program) (w:World) (H:Hp) (s:Shared) (Q:VK) (E:XK) (r:Result) (s':Shared):Prop:=
 match r with
 | .ok (.ret u)=>CE outer P w H s Q u s'
 | .ok _=>False
 | .error e=>CX outer H s E e s'
structure a0S (P:Program) (w:World) (K:Qd) (mg:Str→Option Value) (base:Heap) (CX:CXT) (k:Nat) (f:Addr) (fd:FuncData) (ps:List Str) (sp:Sp):Prop where
 len:∀vs H Q E,sp vs H Q E→vs.length=ps.length
 run:∀(A:Around) (outer:List Env) (s:Shared) (H:Hp) (args:Args) (us:List Value) (vs:List V) (Q:VK) (E:XK),a2p k A→b1T P w K mg base A outer s H→BindsTo s fd args (ps.zip us)→a0H vs us→sp vs H Q E→
  codeAny (model P w) A (.call (.ref f) args) (CR CX outer P w H s Q E) s
theorem b1T.make {P:Program} {w:World} {K:Qd} {mg:Str→Option Value} {base:Heap} {A:Around} {outer:List Env} {s:Shared} {H:Hp} (e:b1T P w K mg base A outer s H) (C:Addr) (us:List Value) (kw:List (Str×Value)):
  b1T P w K mg base (A.under (.builtin "type.__call__" ⟨.ref C::us,kw⟩)) outer s H:=⟨by first | exact e.frames | (simpa [Around.under,Code.envs,Code.isFrame,pushEnvs] using e.frames),e.mod,e.bs,e.bsz,e.funs,e.frf,e.hok,e.bare⟩
section
variable {X:Cx} {pins:List (Addr×Obj)} {σ:St} {H:Hp} {s s':Shared}
theorem Inv.env0 (I:Inv X pins σ H s):b1T X.prog X.w X.K X.mg X.base X.A X.stack s H:=
 ⟨I.ok.frames,I.ok.mod,I.bs,Qi I.ok.bsz I.sz,I.stack,I.stkFree,I.hok,I.bare⟩
theorem Inv.after {Q:VK} {u:Value} (I:Inv X pins σ H s) (h:CE X.stack X.prog X.w H s Q u s'):EP X pins σ Q u s':=by
 obtain ⟨v,H',os,bare,un,hok,r,q⟩:=h
 obtain ⟨hh,g,d,t,os'⟩:=s'
 obtain rfl:os'=s.os:=os
 exact ⟨v,H',I.call (h':=hh) (g':=g) (d':=d) (t':=t) (ch:=[]) un hok bare (fun b z=>absurd z (by simp)),r,q⟩
end
def a0z (sp:Sp) (dvs:List V) (E:XK) (t:TA):TE:=fun σ H Q=>t σ H fun vs H1=>sp (vs++dvs) H1 Q E
def a2b (C:Addr) (m:Str) (sp:Sp) (dvs:List V) (E:XK) (ta:TE) (t:TA):TE:=fun σ H Q=>ta σ H fun x H1=>∃a dx fs,x=.ref a∧H1 a=some (.ins C dx fs)∧fs.lookup m=none∧
 t σ H1 fun vs H2=>sp (x::(vs++dvs)) H2 Q E
def a9p (C:Addr) (sp:Sp) (dvs:List V) (E:XK) (t:TA):TE:=fun σ H Q=>t σ H fun vs H1=>∀x dx,H1 x=none→H1 dx=none→dx≠x→
 sp (.ref x::(vs++dvs)) (upd (upd H1 dx (.own x)) x (.ins C dx [])) (fun v H2=>v=.non∧Q (.ref x) H2) E
def a0p (K:Qd) (fd:FuncData) (ps:List Str) (ds:List Value):Prop:=
 ∀(s:Shared) (us:List Value),K.In s.heap→(us++ds).length=ps.length→BindsTo s fd ⟨us,[]⟩ (ps.zip (us++ds))
theorem a0p.all {K:Qd} {fd:FuncData} {ps:List Str} (h:∀us:List Value,us.length=ps.length→bindArgs fd ⟨us,[]⟩=pure (ps.zip us)):a0p K fd ps []:=fun s us _ hl=>by
 rw [Qf] at hl ⊢
 exact .of_eq (h us hl)
def a2w (CX:CXT) (X:Cx) (E:XK):Prop:=∀(pins:List (Addr×Obj)) (σ:St) (H:Hp) (s:Shared) (e:Value) (s':Shared),Inv X pins σ H s→CX X.stack H s E e s'→X.xe e s'
section
variable {X:Cx} {CX:CXT} {k:Nat} {f C:Addr} {fd:FuncData} {ps:List Str} {sp:Sp} {dvs:List V} {ds:List Value} {E:XK} {x m:Str} {p pos apos:Pos} {e o:Expr} {es:List Expr} {ta:TE} {t:TA}
theorem a5J {pins:List (Addr×Obj)} {σ:St} {H:Hp} {s:Shared} {Q:VK} {us:List Value} {vs:List V} (F:a0S X.prog X.w X.K X.mg X.base CX k f fd ps sp) (hr:a2p k X.A) (hb:a0p X.K fd ps ds) (hd:a0H dvs ds) (hx:a2w CX X E)
  (I:Inv X pins σ H s) (r:a0H vs us) (h:sp (vs++dvs) H Q E):wpAny (model X.prog X.w) X.A (call (.ref f) us) (EP X pins σ Q) X.xe s:=by
 have r2:a0H (vs++dvs) (us++ds):=r.append hd
 have hl:(us++ds).length=ps.length:=by rw [←r2.length];exact F.len _ _ _ _ h
 refine wpAny_call (codeAny_mono (F.run X.A X.stack s H ⟨us,[]⟩ (us++ds) (vs++dvs) Q E hr I.env0 (hb s us I.kIn hl) r2 h) fun r s' hq=>?_)
 cases r with
 | error e=>exact hx pins σ H s e s' I hq
 | ok fl=>
  cases fl with
  | ret u=>exact I.after hq
  | next=>exact False.elim hq
  | brk=>exact False.elim hq
  | cont=>exact False.elim hq
theorem b1O (F:a0S X.prog X.w X.K X.mg X.base CX k f fd ps sp) (hr:a2p k X.A) (hg:Gl X x) (hm:X.mg x=some (.ref f)) (hk:Zc X.K (.ref f)=true) (hb:a0p X.K fd ps ds) (hd:a0H dvs ds) (hx:a2w CX X E)
  (ha:PA X (e::es) t) (hdb:(x == ("__debug__":Str))=false:=by decide) (he:starEach (e::es) X.env=(false,eval e X.env)::starEach es X.env:=by rfl) (hpl:(backTo pos (starEach es X.env)).any (·.1)=false:=by rfl):
  PE X (.Call (.Name x p) (e::es) [] pos) (a0z sp dvs E t):=by
 intro pins s σ H Q I h
 refine wpAny_Call_Name_kw (a5g I hg hm ?_ hdb)
 refine Zt (h₀:=X.base) I.ok.mod.kin hk (thn (ha pos pins s σ H _ I h) fun us s1 ⟨vs,H1,I1,r,q⟩=>⟨I1.kIn,?_⟩) he hpl
 exact a5J F hr hb hd hx I1 r q
theorem b1m {pl:Sem Bool} (he:PE X o ta) (c:Cls X.K C) (hm:a3p X.K C m f) (F:a0S X.prog X.w X.K X.mg X.base CX k f fd ps sp) (hr:a2p k X.A) (hb:a0p X.K fd ps ds) (hd:a0H dvs ds) (hx:a2w CX X E) (ha:PA X (e::es) t)
  (hst:starEach (e::es) X.env=(false,eval e X.env)::starEach es X.env:=by rfl) (hpl:(backTo pos (starEach es X.env)).any (·.1)=false:=by rfl)
  (ht:eval (.Call (.Attribute o m apos) (e::es) [] pos) X.env=(do
   let ov ←eval o X.env
   standAt apos.atName
   let (f,first) ←holding [ov] (getMethod ov m pl)
   callWith pos f first (backTo pos (starEach (e::es) X.env)) (backToKw pos (keywordEach [] X.env))):=by rfl):
  PE X (.Call (.Attribute o m apos) (e::es) [] pos) (a2b C m sp dvs E ta t):=by
 intro pins s σ H Q I h
 refine Jg (pl:=pl) (thn (he pins s σ H _ I h) fun u s1 ⟨x,H1,I1,rx,a,dx,fs,ex,ea,l,q⟩=>?_) ht
 subst ex
 obtain rfl:u=Value.ref a:=rx
 refine a3r I1 ea c hm l ?_
 refine Zt (first:=[.ref a]) (h₀:=X.base) I.ok.mod.kin hm.kp (thn (ha pos pins s1 σ H1 _ I1 q) fun us s2 ⟨vs,H2,I2,r,q2⟩=>⟨I2.kIn,?_⟩) hst hpl
 exact a5J (us:=.ref a::us) (vs:=.ref a::vs) F hr hb hd hx I2 (.cons rfl r) q2
theorem a9d {pl:Sem Bool} (he:PE X o ta) (c:Cls X.K C) (hm:a3p X.K C m f) (F:a0S X.prog X.w X.K X.mg X.base CX k f fd ps sp) (hr:a2p k X.A) (hb:a0p X.K fd ps ds) (hd:a0H dvs ds) (hx:a2w CX X E)
  (ht:eval (.Call (.Attribute o m apos) [] [] pos) X.env=(do
   let ov ←eval o X.env
   standAt apos.atName
   let (f,first) ←holding [ov] (getMethod ov m pl)
   callWith pos f first (backTo pos (starEach [] X.env)) (backToKw pos (keywordEach [] X.env))):=by rfl):
  PE X (.Call (.Attribute o m apos) [] [] pos) (a2b C m sp dvs E ta a0y):=by
 intro pins s σ H Q I h
 refine Jg (pl:=pl) (thn (he pins s σ H _ I h) fun u s1 ⟨x,H1,I1,rx,a,dx,fs,ex,ea,l,q⟩=>?_) ht
 subst ex
 obtain rfl:u=Value.ref a:=rx
 refine a3r I1 ea c hm l ?_
 exact PySem.W.callWith_K0 (first:=[.ref a]) I1.kIn hm.kp (a5J (us:=[.ref a]) (vs:=[.ref a]) F hr hb hd hx I1 (.cons rfl .nil) q)
structure Mk (K:Qd) (C f:Addr):Prop where
 makes:Wd K C=true
 init:Yj K (.ref C) "__init__"=some (some (.ref f))
 fn:Vu K (.ref f)=true
 kp:Zc K (.ref C)=true
theorem a9c {pins:List (Addr×Obj)} {σ:St} {H:Hp} {s:Shared} {Q:VK} {us:List Value} {vs:List V} (M:Mk X.K C f) (F:a0S X.prog X.w X.K X.mg X.base CX k f fd ps sp) (hr:a2p (k+1) X.A) (hb:a0p X.K fd ps ds) (hd:a0H dvs ds)
  (hx:a2w CX X E) (I:Inv X pins σ H s) (r:a0H vs us)
  (h:∀x dx,H x=none→H dx=none→dx≠x→sp (.ref x::(vs++dvs)) (upd (upd H dx (.own x)) x (.ins C dx [])) (fun v H2=>v=.non∧Q (.ref x) H2) E):
  wpAny (model X.prog X.w) X.A (call (.ref C) us) (EP X pins σ Q) X.xe s:=by
 have hq:=h (s.heap.objs.size+1) s.heap.objs.size (I.hok.fresh (Zj _)) (I.hok.fresh (Qk _)) (Xc (Uf _))
 have I2:=Inv.made (C:=C) I
 have r2:a0H (V.ref (s.heap.objs.size+1)::(vs++dvs)) (Value.ref (s.heap.objs.size+1)::(us++ds)):=.cons rfl (r.append hd)
 have hl:(Value.ref (s.heap.objs.size+1)::us++ds).length=ps.length:=by
  have e:=r2.length
  rw [F.len _ _ _ _ hq] at e
  exact e.symm
 refine wpAny_call (a9W (f:=f) I.kIn M.makes M.init (beq_iff_eq.mp M.fn) (codeAny_mono (F.run _ X.stack _ _ ⟨Value.ref (s.heap.objs.size+1)::us,[]⟩ (Value.ref (s.heap.objs.size+1)::(us++ds)) _ _ E (hr.make C us [])
  (I2.env0.make C us []) (hb _ (Value.ref (s.heap.objs.size+1)::us) I2.kIn hl) r2 hq) fun r s' hq'=>?_))
 cases r with
 | error e=>exact hx pins σ _ _ e s' I2 hq'
 | ok fl=>
  cases fl with
  | ret u=>
   obtain ⟨v,H',I3,rv,ev,q3⟩:=I2.after hq'
   subst ev
   exact ⟨rv,⟨V.ref (s.heap.objs.size+1),H',I3,rfl,q3⟩⟩
  | next=>exact False.elim hq'
  | brk=>exact False.elim hq'
  | cont=>exact False.elim hq'
theorem b1A (M:Mk X.K C f) (F:a0S X.prog X.w X.K X.mg X.base CX k f fd ps sp) (hr:a2p (k+1) X.A) (hg:Gl X x) (hm:X.mg x=some (.ref C)) (hb:a0p X.K fd ps ds) (hd:a0H dvs ds) (hx:a2w CX X E)
  (ha:PA X (e::es) t) (hdb:(x == ("__debug__":Str))=false:=by decide) (he:starEach (e::es) X.env=(false,eval e X.env)::starEach es X.env:=by rfl) (hpl:(backTo pos (starEach es X.env)).any (·.1)=false:=by rfl):
  PE X (.Call (.Name x p) (e::es) [] pos) (a9p C sp dvs E t):=by
 intro pins s σ H Q I h
 refine wpAny_Call_Name_kw (a5g I hg hm ?_ hdb)
 refine Zt (h₀:=X.base) I.ok.mod.kin M.kp (thn (ha pos pins s σ H _ I h) fun us s1 ⟨vs,H1,I1,r,q⟩=>⟨I1.kIn,?_⟩) he hpl
 exact a9c M F hr hb hd hx I1 r q
end
structure a0e (N P:List Str) (sc:Scope):Prop where
 kind:sc.kind=.function
 co:sc.isCoroutine=false
 gen:sc.isGenerator=false
 nd:N.Nodup
 pre:N.take P.length=P
 par:∀x∈P,sc.names.lookup x=some .local∨sc.names.lookup x=some .cell
 nofree:∀y∈sc.names,y.2≠.free
theorem a4P {kindOf:Str→Option NameKind} {x:Str}:∀{binds:List (Str×Value)} {m:Str→Option Value},(∀v,(x,v)∉binds)→bindL kindOf binds m x=m x
 | [],_,_=>rfl
 | (n,v)::r,m,h=>by
  unfold bindL
  rw [a4P fun w hw=>h w (Qu _ hw)]
  split
  ·have:x≠n:=by rintro rfl;exact h v Xg
   simp [this]
  ·rfl
theorem a4r {kindOf:Str→Option NameKind} {x:Str}:∀{binds:List (Str×Value)} {m:Str→Option Value},(∀v,(x,v)∉binds)→bindC kindOf binds m x=m x
 | [],_,_=>rfl
 | (n,v)::r,m,h=>by
  unfold bindC
  rw [a4r fun w hw=>h w (Qu _ hw)]
  split
  ·rfl
  ·have:x≠n:=by rintro rfl;exact h v Xg
   simp [this]
theorem a4N {kindOf:Str→Option NameKind} {x:Str} {v:Value}:∀{P:List Str} {vs:List Value} {i:Nat} {m:Str→Option Value},P.Nodup→P[i]?=some x→vs[i]?=some v→kindOf x=some .local→
  bindL kindOf (P.zip vs) m x=some v
 | [],_,_,_,_,h,_,_=>by simp at h
 | _::_,[],_,_,_,_,h,_=>by simp at h
 | p::P,w::vs,0,m,nd,h1,h2,hk=>by
  simp at h1 h2;subst h1;subst h2
  show bindL kindOf ((p,w)::P.zip vs) m p=_
  unfold bindL
  rw [a4P fun v hv=>(Yx.mp nd).1 (Ur hv).1,if_pos hk]
  simp
 | p::P,w::vs,i+1,m,nd,h1,h2,hk=>by
  show bindL kindOf ((p,w)::P.zip vs) m x=_
  unfold bindL
  exact a4N (i:=i) (Yx.mp nd).2 (by simpa using h1) (by simpa using h2) hk
theorem a4h {kindOf:Str→Option NameKind} {x:Str} {v:Value}:∀{P:List Str} {vs:List Value} {i:Nat} {m:Str→Option Value},P.Nodup→P[i]?=some x→vs[i]?=some v→kindOf x≠some .local→
  bindC kindOf (P.zip vs) m x=some v
 | [],_,_,_,_,h,_,_=>by simp at h
 | _::_,[],_,_,_,_,h,_=>by simp at h
 | p::P,w::vs,0,m,nd,h1,h2,hk=>by
  simp at h1 h2;subst h1;subst h2
  show bindC kindOf ((p,w)::P.zip vs) m p=_
  unfold bindC
  rw [a4r fun v hv=>(Yx.mp nd).1 (Ur hv).1,if_neg hk]
  simp
 | p::P,w::vs,i+1,m,nd,h1,h2,hk=>by
  show bindC kindOf ((p,w)::P.zip vs) m x=_
  unfold bindC
  exact a4h (i:=i) (Yx.mp nd).2 (by simpa using h1) (by simpa using h2) hk
def a0q (N:List Str) (vs:List V):St:=vs.map some++List.replicate (N.length - vs.length) none
def b2y (CX:CXT) (P:Program) (w:World) (K:Qd) (mg:Str→Option Value) (base:Heap) (N:List Str) (qual:Str) (scope:Scope) (f:Addr) (cd:Value) (A:Around) (outer:List Env) (s:Shared) (H:Hp) (E:XK):Cx where
 prog:=P
 w:=w
 K:=K
 mg:=mg
 base:=base
 A:=A.deeper (envOfC qual scope s.heap.objs.size f cd)
 N:=N
 s₀:=s
 H₀:=H
 env:=envOfC qual scope s.heap.objs.size f cd
 outer:=outer
 stack:=envOfC qual scope s.heap.objs.size f cd::outer
 ex:=[]
 calm:=true
 fn:=fun _=>true
 pn:=[]
 xe:=fun e s'=>wpAny (model P w) (A.deeper (envOfC qual scope s.heap.objs.size f cd)) (leaving (envOfC qual scope s.heap.objs.size f cd) e) (fun _ s''=>CX outer H s E e s'') (fun e' s''=>CX outer H s E e' s'') s'
theorem a5A {sc:Scope} {n:Nat} {x:Str} (h:sc.names.lookup x=some .cell):∃c,(cellsFrom n sc.names []).lookup x=some c:=by
 have q:=Uv sc.names n [] (.inl h)
 exact Ug.mp q
theorem a8R {CX:CXT} {P:Program} {w:World} {K:Qd} {mg:Str→Option Value} {base:Heap} {N ps:List Str} {qual:Str} {scope:Scope} {f:Addr} {cd:Value} {A:Around} {outer:List Env} {s s1:Shared} {H:Hp} {E:XK} {us:List Value} {vs:List V}
  (S:a0e N ps scope) (hd:A.handled=none) (e0:b1T P w K mg base A outer s H) (hl:vs.length=ps.length) (r:a0H vs us)
  (x:InCallC s s.heap.objs.size (bindL (envOfC qual scope s.heap.objs.size f cd).kindOf (ps.zip us) fun _=>none) (cellsFrom (s.heap.objs.size+1) scope.names []) (bindC (envOfC qual scope s.heap.objs.size f cd).kindOf (ps.zip us) fun _=>none) s1):
  Inv (b2y CX P w K mg base N qual scope f cd A outer s H E) [] (a0q N vs) H s1:=by
 have hpl:ps.length≤N.length:=by have:=congrArg Yv S.pre;rw [Xp] at this;omega
 obtain ⟨h1,tk,rfl,hk⟩:=x.done
 have noA:∀b:Addr,b∉(b2y CX P w K mg base N qual scope f cd A outer s H E).ex:=fun b z=>absurd (show b∈([]:List Addr) from z) (by simp)
 refine ⟨⟨e0.mod,S.kind,rfl,rfl,Qk _,fun y z c h1 h2=>?_,fun y hy=>?_,fun y c _ h=>?_,fun _=>hd,Around.frames_deeper e0.frames,.inr ⟨rfl,rfl⟩,fun b z=>absurd z (noA b),e0.bs,e0.bsz,fun b _ _=>noA b,fun b z=>absurd z (noA b),e0.funs,e0.frf⟩,
  rfl,e0.bare,Un.kept hk,⟨_,x.toInCall.ns,fun i y v h1 h2 h3=>?_⟩,fun y c h=>⟨_,x.cell y c h⟩,e0.hok.fresh (Qk _),fun y c h=>?_,fun p hp=>absurd (show p∈([]:List (Addr×Obj)) from hp) (by simp),e0.hok.kept hk,?_⟩
 ·exact name_of_addr x.apart (PySem.mem_of_lookup h1) (PySem.mem_of_lookup h2)
 ·have hy:scope.names.lookup y=some .cell∨scope.names.lookup y=some .free:=hy
  rcases hy with hy | hy
  ·exact a5A hy
  ·exact absurd rfl (S.nofree _ (PySem.mem_of_lookup hy))
 ·exact Vr (x.above y c (PySem.mem_of_lookup h))
 ·have hi:i < vs.length:=by
   unfold a0q at h2
   by_cases hi:i < vs.length
   ·exact hi
   ·rw [Xw (by simpa using hi)] at h2
    rw [List.getElem?_replicate] at h2
    split at h2<;>cases h2
  have ha:vs[i]?=some v:=by
   unfold a0q at h2
   rw [Xy (by simpa using hi),Qy] at h2
   cases e:vs[i]? with
   | none=>rw [e] at h2;cases h2
   | some a=>rw [e] at h2;cases h2;rfl
  obtain ⟨u,hu,rv⟩:=r.get ha
  have hp:ps[i]?=some y:=by
   rw [←S.pre,List.getElem?_take_of_lt ‹om›];exact h1
  have ndP:ps.Nodup:=by rw [←S.pre];exact S.nd.sublist (List.take_sublist _ _)
  refine ⟨u,rv,?_⟩
  rcases S.par y (Ji hp) with k | k
  ·exact .inl ⟨k,a4N ndP hp hu k⟩
  ·obtain ⟨c,e⟩:=a5A (n:=s.heap.objs.size+1) k
   refine .inr ⟨.inl k,c,e,?_⟩
   have q:=x.cell y c e
   rw [a4h ndP hp hu (by show scope.names.lookup y≠_;rw [k];decide)] at q
   exact q
 ·exact e0.hok.fresh (Vr (x.above y c (PySem.mem_of_lookup h)))
 ·unfold a0q
  show _=N.length
  rw [Xa,Qc,List.length_replicate]
  omega
theorem b6G {CX:CXT} {P:Program} {w:World} {K:Qd} {mg:Str→Option Value} {base:Heap} {k:Nat} {f:Addr} {name qual:Str} {params:Arguments} {body:List Stmt} {scope:Scope} {dV kV doc pm cdv ct oc:Value} {an od:Option Addr}
  {osl:Array (Option Value)} {N ps:List Str} {sp:Sp} (lk:K.lookup f=some ⟨oc,od,.func (Zu name qual params body scope dV kV doc pm an cdv ct),osl⟩) (hcd:Jr K cdv qual=true) (S:a0e N ps scope)
  (len:∀vs H Q E,sp vs H Q E→vs.length=ps.length)
  (hbody:∀(A:Around) (outer:List Env) (s:Shared) (H:Hp) (vs:List V) (Q:VK) (E:XK),a2p k (A.deeper (envOfC qual scope s.heap.objs.size f cdv))→sp vs H Q E→
   ∃t,PSs (b2y CX P w K mg base N qual scope f cdv A outer s H E) body t∧t {nx:=fun _ H'=>Q .non H',rt:=Q} (a0q N vs) H):
  a0S P w K mg base CX (k+1) f (Zu name qual params body scope dV kV doc pm an cdv ct) ps sp:=by
 refine ⟨len,fun A outer s H args us vs Q E hr e0 hb r hsp=>?_⟩
 have hl:=len _ _ _ _ hsp
 have KX:K.In s.heap:=e0.mod.kin.keeps fun b o e=>(e0.bs b o e).1
 have lim:s.heap.NoLimit:=e0.mod.nolimit.keeps fun b o e=>(e0.bs b o e).1
 have hkind:∀y∈ps.zip us,scope.names.lookup y.1=some .local∨(scope.names.lookup y.1=some .cell∧((cellsFrom (s.heap.objs.size+1) scope.names []).lookup y.1).isSome=true):=fun ⟨n,v⟩ hy=>by
  rcases S.par n (Ur hy).1 with q | q
  ·exact .inl q
  ·exact .inr ⟨q,Uv _ _ _ (.inl q)⟩
 refine codeAny_call_function hr.depth (KX _ _ lk) rfl S.co S.gen rfl (PySem.W.codeRec_of KX hcd) (hb _ _ _ _ ?_)
 refine wpAny_newFunctionEnv_cells S.kind hkind fun env he s1 x=>?_
 subst he
 refine ⟨lim.keeps x.toInCall.keep,codeAny_func ?_⟩
 obtain ⟨t,ht,hq⟩:=hbody A outer s H vs Q E (hr.deeper _) hsp
 have I:Inv (b2y CX P w K mg base N qual scope f cdv A outer s H E) [] (a0q N vs) H s1:=a8R S hr.hd e0 hl r x
 refine wpAny_mono (ht [] s1 (a0q N vs) H _ I hq) (fun fl s' hs=>?_) fun e s' hs=>hs
 have fin:∀{σ':St} {H':Hp} {v:V} {u:Value},Inv (b2y CX P w K mg base N qual scope f cdv A outer s H E) [] σ' H' s'→a0O v u→Q v H'→CE outer P w H s Q u s':=
  fun {σ' H' v u} J rv q=>⟨v,H',J.os,J.bare,J.base,J.hok,rv,q⟩
 cases fl with
 | ret u=>
  obtain ⟨v,σ',H',J,rv,q⟩:=hs
  exact fin J rv q
 | next=>
  obtain ⟨σ',H',J,q⟩:=hs
  exact fin (v:=V.non) (u:=Value.none) J rfl q
 | brk=>
  obtain ⟨_,_,_,q⟩:=hs
  exact False.elim q
 | cont=>
  obtain ⟨_,_,_,q⟩:=hs
  exact False.elim q
section
variable {X:Cx} {x:Str} {p pos:Pos} {e:Expr} {es:List Expr} {t:TA} {id T:String} {r:List V→Hp→VK→Prop}
def tCB (r:List V→Hp→VK→Prop) (t:TA):TE:=fun σ H Q=>t σ H fun vs H1=>r vs H1 Q
theorem a9l (hc:a1U X (.builtin id) r) (hg:Gl X x) (hm:X.mg x=none) (hv:bootBuiltins x=some (.builtin id)) (ha:PA X (e::es) t) (hn:x≠"__name__":=by decide) (hdb:(x == ("__debug__":Str))=false:=by decide)
  (he:starEach (e::es) X.env=(false,eval e X.env)::starEach es X.env:=by rfl) (hpl:(backTo pos (starEach es X.env)).any (·.1)=false:=by rfl):PE X (.Call (.Name x p) (e::es) [] pos) (tCB r t):=by
 intro pins s σ H Q I h
 refine wpAny_Call_Name_kw (a2T I hg hm hv ?_ hn hdb)
 exact PyProof.Rows.callWith_builtin1 (thn (ha pos pins s σ H _ I h) fun us s1 ⟨vs,H1,I1,r1,q1⟩=>hc pins s1 σ H1 vs us Q I1 r1 q1) he hpl
theorem a6P (hc:a1U X (.type T) r) (hg:Gl X x) (hm:X.mg x=none) (hv:bootBuiltins x=some (.type T)) (ha:PA X (e::es) t) (hn:x≠"__name__":=by decide) (hdb:(x == ("__debug__":Str))=false:=by decide)
  (he:starEach (e::es) X.env=(false,eval e X.env)::starEach es X.env:=by rfl) (hpl:(backTo pos (starEach es X.env)).any (·.1)=false:=by rfl):PE X (.Call (.Name x p) (e::es) [] pos) (tCB r t):=by
 intro pins s σ H Q I h
 refine wpAny_Call_Name_kw (a2T I hg hm hv ?_ hn hdb)
 exact PyProof.Rows.callWith_type1 (thn (ha pos pins s σ H _ I h) fun us s1 ⟨vs,H1,I1,r1,q1⟩=>hc pins s1 σ H1 vs us Q I1 r1 q1) he hpl
end
end L2
namespace HT
open PySem PyProof.Rows
section
variable {prog:Program} {w:World} {A:Around} {E:Value→Shared→Prop} {s:Shared}
theorem cat_tup {t b:Addr} {vs ws:List Value} {Q:Value→Shared→Prop} (ht:IsTup s.heap t vs.toArray) (hb:IsTup s.heap b ws.toArray) (hv:vs≠[])
  (h1:ws=[]→Q (.ref t) s) (h2:ws≠[]→Q (.ref s.heap.objs.size) {s with heap:=s.heap.push {cls:=.type "tuple",data:=.seq (vs++ws).toArray}})
  (hsz:vs.length+ws.length≤sizeLine):wpAny (model prog w) A (binaryOp .Add (.ref t) (.ref b)) Q E s:=by
 obtain ⟨⟨cls,dd,data,sl⟩,ho,hc,n,hd⟩:=id ht
 obtain ⟨⟨cls2,dd2,data2,sl2⟩,ho2,hc2,n2,hd2⟩:=id hb
 simp only at hc hd hc2 hd2
 subst hc hd hc2 hd2
 have e:vs.toArray++ws.toArray=(vs++ws).toArray:=by simp
 by_cases hw:ws=[]
 ·exact concat_meets ⟨_,ho,rfl⟩ ⟨_,ho2,rfl⟩ noFill_tuple_add seq_tuple_add Uw Um (Uh _ _)
   (tuple_addW1 t b vs.toArray ws.toArray n n2 dd dd2 sl sl2 (by simpa using hv) (by simp [hw])) ⟨ho,ho2,h1 hw⟩
 ·refine concat_meets ⟨_,ho,rfl⟩ ⟨_,ho2,rfl⟩ noFill_tuple_add seq_tuple_add Uw Um (Uh _ _)
   (tuple_addW2 t b vs.toArray ws.toArray n n2 dd dd2 sl sl2 (by simpa using hv) (by simpa using hw) (by rw [Ql,Ql];exact hsz)) ⟨ho,ho2,?_⟩
  rw [e]
  exact h2 hw
def sIx (n d:Nat):Option Int→Nat
 | none=>d
 | some v=>if v < 0 then (v+(n:Int)).toNat else min v.toNat n
theorem sIx_nat (n d k:Nat):sIx n d (some (k:Int))=min k n:=by
 show (if (k:Int) < 0 then ((k:Int)+(n:Int)).toNat else min (k:Int).toNat n)=min k n
 rw [if_neg ‹om›,Ua]
theorem b4a (n d:Nat) (hd:d≤n) (o:Option Int):sIx n d o≤n:=by
 cases o with
 | none=>exact hd
 | some v=>
  show (if v < 0 then (v+(n:Int)).toNat else min v.toNat n)≤n
  by_cases hv:v < 0
  ·rw [if_pos hv];omega
  ·rw [if_neg hv];exact Nat.min_le_right _ _
theorem a8f (v:Int) (n d:Nat):(if v < 0 then max (v+(n:Int)) 0 else min v (n:Int))=((sIx n d (some v):Nat):Int):=by
 show (if v < 0 then max (v+(n:Int)) 0 else min v (n:Int))=(((if v < 0 then (v+(n:Int)).toNat else min v.toNat n):Nat):Int)
 by_cases hv:v < 0
 ·simp only [if_pos hv];omega
 ·simp only [if_neg hv];omega
theorem a6y (lo hi:Option Int) (n:Nat):Builtin.Slice.sliceAdjust lo hi 1 (n:Int)=(((sIx n 0 lo:Nat):Int),((sIx n n hi:Nat):Int)):=by
 have h1:¬((1:Int) < 0):=by omega
 unfold Builtin.Slice.sliceAdjust
 simp only [h1,if_false]
 refine Prod.ext ?_ ?_
 ·cases lo with
  | none=>rfl
  | some v=>exact a8f v n 0
 ·cases hi with
  | none=>rfl
  | some v=>exact a8f v n n
theorem a6j (i j:Nat):Builtin.Slice.slicePlaces (i:Int) (j:Int) 1=j - i:=by
 unfold Builtin.Slice.slicePlaces
 have h1:(1:Int) > 0:=by omega
 simp only [h1,if_true,Int.ediv_one]
 split<;>omega
theorem a3o {v:Value} {o:Option Int} {Q:Option Int→Shared→Prop} (p:IsPart v o) (h:Q o s):wpAny (model prog w) A (Builtin.Slice.slicePartIndex v) Q E s:=by
 cases p with
 | none=>exact slicePart_none h
 | int i t=>exact slicePart_int h
theorem a2C {sl:Addr} {vl vu:Value} {lo hi:Option Int} {n:Nat} {Q:Int×Int×Nat→Shared→Prop} (hs:s.heap.IsSliceOf sl vl vu .none) (pl:IsPart vl lo) (pu:IsPart vu hi)
  (h:Q (((sIx n 0 lo:Nat):Int),1,sIx n n hi - sIx n 0 lo) s):wpAny (model prog w) A (Builtin.Slice.sliceApplied (.ref sl) (pure (n:Int))) Q E s:=by
 obtain ⟨os,hos,hcs,hds⟩:=id hs
 unfold Builtin.Slice.sliceApplied Builtin.Slice.sliceFields
 refine wpAny_bind (wpAny_bind (wpAny_field hos hds (x:=vl) rfl (wpAny_bind (wpAny_field hos hds (x:=vu) rfl (wpAny_bind (wpAny_field hos hds (x:=.none) rfl (wpAny_pure ?_)))))))
 refine wpAny_bind (slicePart_none ?_)
 show wpAny _ _ (if ((1:Int) == 0)=true then _ else _) _ _ s
 rw [if_neg ‹dc›]
 refine wpAny_bind (a3o pl (wpAny_bind (a3o pu (wpAny_bind (wpAny_pure ?_)))))
 show wpAny _ _ (match Builtin.Slice.sliceAdjust lo hi 1 (n:Int) with | (lo,hi)=>pure (lo,(1:Int),Builtin.Slice.slicePlaces lo hi 1)) _ _ s
 rw [a6y lo hi n]
 show wpAny _ _ (pure (((sIx n 0 lo:Nat):Int),(1:Int),Builtin.Slice.slicePlaces ((sIx n 0 lo:Nat):Int) ((sIx n n hi:Nat):Int) 1)) _ _ s
 rw [a6j]
 exact wpAny_pure h
theorem a9a (xs:Array Value) (i k:Nat):((Yq k).filterMap fun (m:Nat)=>xs[((i:Int)+(m:Int) * 1).toNat]?).toArray=((xs.toList.drop i).take k).toArray:=by
 have e:(fun (m:Nat)=>xs[((i:Int)+(m:Int) * 1).toNat]?)=fun m=>xs[i+m]?:=by
  funext m
  have:((i:Int)+(m:Int) * 1).toNat=i+m:=by omega
  rw [this]
 rw [e]
 have:=pick_run xs i k
 rw [List.filterMap_map] at this
 have e2:((fun x=>xs[x]?)∘fun x=>i+x)=fun m=>xs[i+m]?:=rfl
 rw [e2] at this
 rw [this]
theorem getItem_tuple_cut {t sl:Addr} {items:Array Value} {vl vu:Value} {lo hi:Option Int} {Q:Value→Shared→Prop} (ht:IsTup s.heap t items) (hs:s.heap.IsSliceOf sl vl vu .none) (pl:IsPart vl lo) (pu:IsPart vu hi)
  (hw:¬(sIx items.size 0 lo=0∧sIx items.size items.size hi=items.size))
  (h:Q (.ref s.heap.objs.size) {s with heap:=s.heap.push {cls:=.type "tuple",data:=.seq ((items.toList.drop (sIx items.size 0 lo)).take (sIx items.size items.size hi - sIx items.size 0 lo)).toArray}})
  (hsz:items.size≤sizeLine):wpAny (model prog w) A (getItem (.ref t) (.ref sl)) Q E s:=by
 have htake:sizeOk (.seq ((items.toList.drop (sIx items.size 0 lo)).take (sIx items.size items.size hi - sIx items.size 0 lo)).toArray):=by
  show ((items.toList.drop (sIx items.size 0 lo)).take (sIx items.size items.size hi - sIx items.size 0 lo)).toArray.size≤sizeLine
  rw [Ql,Xp,Jf,Jn]
  omega
 have hj:sIx items.size items.size hi≤items.size:=b4a _ _ (Qk _) hi
 obtain ⟨os,hos,hcs,hds⟩:=id hs
 have hTs:s.TypeIs (.ref sl) "slice":=⟨os,hos,hcs⟩
 unfold getItem
 try with_reducible refine wpAny_holding ?_
 first | refine wpAny_bind (wpAny_pure ?_) | skip
 refine wpAny_bind (wpAny_sequenceKey ht.typeIs ‹dc› ?_)
 refine wpAny_bind (wpAny_callSpecial?_slot (name:=Xs "__getitem__") ht.typeIs PyProof.Rows.slot_tuple_getitem
  (wpAny_call_entry PyProof.Rows.slot_tuple_getitem ht.typeIs entry_tuple_getitem ?_ (args_tuple_getitem _ _)))
 show wpAny _ _ (Builtin.Tuple.tupleItemsOf (.ref t) >>= _) _ _ s
 refine wpAny_bind (tupleItemsOf_ ht ?_)
 refine wpAny_bind (wpAny_typeOf hTs ?_)
 rw [if_pos ‹dc›]
 refine wpAny_bind (a2C hs pl pu ?_)
 have hno:¬((((sIx items.size 0 lo:Nat):Int) == 0 && (1:Int) == 1 && (sIx items.size items.size hi - sIx items.size 0 lo) == items.size)=true):=by
  intro q
  rw [Qs,Qs] at q
  have q1:((sIx items.size 0 lo:Nat):Int)=0:=eq_of_beq q.1.1
  have q2:sIx items.size items.size hi - sIx items.size 0 lo=items.size:=eq_of_beq q.2
  exact hw ⟨by omega,by omega⟩
 show wpAny _ _ (if (((sIx items.size 0 lo:Nat):Int) == 0 && (1:Int) == 1 && (sIx items.size items.size hi - sIx items.size 0 lo) == items.size)=true then _ else _) _ _ s
 rw [if_neg hno,a9a]
 first
  | exact wpAny_bind (m:=Builtin.Tuple.tupleExact _) (wpAny_newObj_type (wpAny_pure ⟨_,rfl,wpAny_pure h⟩) htake)
  | exact wpAny_bind (m:=Builtin.Tuple.tupleExact _) (wpAny_newObj_type (wpAny_bind (wpAny_pure (wpAny_pure ⟨_,rfl,wpAny_pure h⟩))) htake)
  | exact wpAny_bind (wpAny_bind (m:=Builtin.Tuple.tupleExact _) (wpAny_newObj_type (wpAny_pure (wpAny_pure ⟨_,rfl,wpAny_pure h⟩)) htake))
  | exact wpAny_bind (wpAny_bind (m:=Builtin.Tuple.tupleExact _) (wpAny_newObj_type (wpAny_pure ⟨_,rfl,wpAny_pure h⟩) htake))
end
end HT
namespace L2
open PySem PySem.Spec PyProof.Rows
abbrev TO:=St→Hp→(Option Int→Hp→Prop)→Prop
def PO (X:Cx) (e:Option Expr) (t:TO):Prop:=
 ∀(pins:List (Addr×Obj)) (s:Shared) (σ:St) (H:Hp) (Q:Option Int→Hp→Prop),Inv X pins σ H s→t σ H Q→
  wpAny (model X.prog X.w) X.A (evalPart e X.env) (fun u s'=>∃o H',Inv X pins σ H' s'∧IsPart u o∧Q o H') X.xe s
def a1w:TO:=fun _ H Q=>Q none H
def a2o (t:TE):TO:=fun σ H Q=>t σ H fun x H1=>∃i,x=.int i∧Q (some i) H1
section
variable {X:Cx} {e:Expr} {te:TE} {lo hi:Option Expr} {tl th:TO} {pos p2:Pos}
theorem b2l:PO X none a1w:=by
 intro pins s σ H Q I h
 rw [evalPart_none]
 exact wpAny_pure ⟨none,H,I,.none,h⟩
theorem b1H (h:PE X e te):PO X (some e) (a2o te):=by
 intro pins s σ H Q I hw
 rw [evalPart_some]
 refine thn (h pins s σ H _ I hw) fun u s1 ⟨x,H1,I1,r1,q1⟩=>?_
 obtain ⟨i,rfl,q⟩:=q1
 obtain ⟨t,rfl⟩:=r1
 exact ⟨some i,H1,I1,.int i t,q⟩
def SlR (X:Cx) (r:V→Option Int→Option Int→Hp→VK→Prop):Prop:=
 ∀(pins:List (Addr×Obj)) (s:Shared) (σ:St) (H:Hp) (x:V) (v vl vu:Value) (lo hi:Option Int) (sl:Addr) (Q:VK),Inv X pins σ H s→a0O x v→s.heap.IsSliceOf sl vl vu .none→IsPart vl lo→IsPart vu hi→r x lo hi H Q→
  ∃T id,typeLookup (.type T) "__getitem__"=pure (some (.builtin id))∧s.TypeIs v T∧wpAny (model X.prog X.w) X.A (getItem v (.ref sl)) (EP X pins σ Q) X.xe s
theorem SlR.or {r r':V→Option Int→Option Int→Hp→VK→Prop} (h:SlR X r) (h':SlR X r'):SlR X (fun x lo hi H Q=>r x lo hi H Q∨r' x lo hi H Q):=by
 intro pins s σ H x v vl vu lo hi sl Q I rx hs pl pu q
 rcases q with q | q
 ·exact h pins s σ H x v vl vu lo hi sl Q I rx hs pl pu q
 ·exact h' pins s σ H x v vl vu lo hi sl Q I rx hs pl pu q
def tSl (r:V→Option Int→Option Int→Hp→VK→Prop) (te:TE) (tl th:TO):TE:=fun σ H Q=>te σ H fun x H1=>tl σ H1 fun l H2=>th σ H2 fun u H3=>r x l u H3 Q
theorem a9S {r:V→Option Int→Option Int→Hp→VK→Prop} (hr:SlR X r) (he:PE X e te) (hl:PO X lo tl) (hu:PO X hi th):PE X (.Subscript e (.Slice lo hi none p2) pos) (tSl r te tl th):=by
 intro pins s σ H Q I h
 refine Subscript_ (thn (he pins s σ H _ I h) fun v s1 ⟨x,H1,I1,r1,q1⟩=>?_)
 refine wpAny_Slice (thn (hl pins s1 σ H1 _ I1 q1) fun vl s2 ⟨l,H2,I2,pl,q2⟩=>thn (hu pins s2 σ H2 _ I2 q2) fun vu s3 ⟨u,H3,I3,pu,q3⟩=>?_)
 rw [evalPart_none]
 refine wpAny_pure ?_
 have I4:Inv X pins σ H3 {s3 with heap:=s3.heap.push {cls:=.type "slice",data:=.fields #[vl,vu,.none]}}:=I3.kept (t':=s3.toks) fun b ob q=>Qm _ q
 obtain ⟨T,id,hT,ht,hg⟩:=hr pins {s3 with heap:=s3.heap.push {cls:=.type "slice",data:=.fields #[vl,vu,.none]}} σ H3 x v vl vu l u s3.heap.objs.size Q I4 r1 (Heap.IsSliceOf.new ..) pl pu q3
 show wpAny (model X.prog X.w) X.A (subscriptTail e (.Slice lo hi none p2) v (.ref s3.heap.objs.size)) (EP X pins σ Q) X.xe {s3 with heap:=s3.heap.push {cls:=.type "slice",data:=.fields #[vl,vu,.none]}}
 exact tail_any (ops:=[.ref s3.heap.objs.size,v]) ht hT hg (by with_unfolding_all rfl)
def a2x (xs:List V) (lo hi:Option Int):List V:=(xs.drop (HT.sIx xs.length 0 lo)).take (HT.sIx xs.length xs.length hi - HT.sIx xs.length 0 lo)
theorem a2Q (xs:List V) (lo hi:Option Int):(a2x xs lo hi).length≤xs.length:=by
 unfold a2x
 rw [Xp,Jf]
 omega
def b8z (K:Qd):V→Option Int→Option Int→Hp→VK→Prop:=fun x lo hi H Q=>∃a xs,x=.ref a∧SqT K H a xs∧
 ¬(HT.sIx xs.length 0 lo=0∧HT.sIx xs.length xs.length hi=xs.length)∧∀p,H p=none→Q (.ref p) (upd H p (.tup (a2x xs lo hi)))
theorem b6e:SlR X (b8z X.K):=by
 intro pins s σ H x v vl vu lo hi sl Q I rx hs pl pu h
 obtain ⟨a,xs,rfl,hx,hw,q⟩:=h
 cases rx
 obtain ⟨its,r,ht,hz⟩:=I.tuple hx
 have hlen:its.toArray.size=xs.length:=by rw [Ql];exact r.length.symm
 refine ⟨"tuple",_,PyProof.Rows.slot_tuple_getitem.lookup,ht.typeIs,?_⟩
 refine HT.getItem_tuple_cut ht hs pl pu (by rw [hlen];exact hw) ?_ (by rw [hlen];exact hz)
 rw [hlen]
 refine ⟨.ref s.heap.objs.size,_,I.laid (t':=s.toks) (o:=.tup (a2x xs lo hi)) (fun b ob q=>Qm _ q) (Qk _) ?_,rfl,q _ (I.hok.fresh (Qk _))⟩
 exact ⟨Qi (a2Q xs lo hi) hz,_,(r.drop (HT.sIx xs.length 0 lo)).take (HT.sIx xs.length xs.length hi - HT.sIx xs.length 0 lo),IsTup.new _ _⟩
def b5y (K:Qd):R2:=fun x y H Q=>∃a b xs ys,x=.ref a∧y=.ref b∧SqT K H a xs∧SqT K H b ys∧xs≠[]∧xs.length+ys.length≤sizeLine∧
 (ys=[]→Q (.ref a) H)∧(ys≠[]→∀p,H p=none→Q (.ref p) (upd H p (.tup (xs++ys))))
theorem a0H.nil_iff {xs:List V} {us:List Value} (r:a0H xs us):us=[]↔xs=[]:=by
 cases r with
 | nil=>simp
 | cons _ _=>simp
theorem b2g:OpR X (binaryOp .Add) (b5y X.K):=by
 intro pins s σ H x y v u Q I rx ry h
 obtain ⟨a,b,xs,ys,rfl,rfl,ha,hb,hx,hz,q1,q2⟩:=h
 cases rx
 cases ry
 obtain ⟨its,r1,p1,_⟩:=I.tuple ha
 obtain ⟨its2,r2,p2,_⟩:=I.tuple hb
 refine HT.cat_tup p1 p2 (fun z=>hx (r1.nil_iff.mp z)) (fun z=>⟨.ref a,H,I,rfl,q1 (r2.nil_iff.mp z)⟩) (fun z=>?_) (by rw [←r1.length,←r2.length];exact hz)
 refine ⟨.ref s.heap.objs.size,_,I.laid (t':=s.toks) (o:=.tup (xs++ys)) (fun b ob q=>Qm _ q) (Qk _) ?_,rfl,q2 (fun w=>z (r2.nil_iff.mpr w)) _ (I.hok.fresh (Qk _))⟩
 exact ⟨by rw [Xa];exact hz,_,r1.append r2,IsTup.new _ _⟩
end
def ixN (n:Nat) (i:Int):Option Nat:=if 0≤i then (if i < n then some i.toNat else none) else if -(n:Int)≤i then some (i+n).toNat else none
def atI {α:Type} (xs:List α) (i:Int):Option α:=(ixN xs.length i).bind fun j=>xs[j]?
theorem a6Q {n:Nat} {i:Int} {j:Nat} (h:ixN n i=some j):seqIndex? i n=some j∧j < n∧-(n:Int)≤i∧i < n:=by
 unfold ixN at h
 by_cases h0:0≤i
 ·rw [if_pos h0] at h
  by_cases h1:i < n
  ·rw [if_pos h1] at h
   have e:i.toNat=j:=Option.some.inj h
   exact ⟨by rw [seqIndex_of h0 h1,e],by omega,by omega,h1⟩
  ·rw [if_neg h1] at h;cases h
 ·rw [if_neg h0] at h
  by_cases h1:-(n:Int)≤i
  ·rw [if_pos h1] at h
   have e:(i+n).toNat=j:=Option.some.inj h
   exact ⟨by rw [seqIndex_neg ‹om› h1,e],by omega,h1,by omega⟩
  ·rw [if_neg h1] at h;cases h
theorem a3G {α:Type} {xs:List α} {i:Int} {v:α} (h:atI xs i=some v):∃j,seqIndex? i xs.length=some j∧xs[j]?=some v∧j < xs.length∧-(xs.length:Int)≤i∧i < xs.length:=by
 unfold atI at h
 cases e:ixN xs.length i with
 | none=>rw [e] at h;cases h
 | some j=>
  rw [e] at h
  obtain ⟨h1,h2,h3,h4⟩:=a6Q e
  exact ⟨j,h1,h,h2,h3,h4⟩
def b1W (b:Expr):Prop:=∀o i,subscripted b false o i=operate [o,i] (getItem o i)
def IxR (X:Cx) (r:R2):Prop:=
 ∀(value slice:Expr) (pins:List (Addr×Obj)) (s:Shared) (σ:St) (H:Hp) (x y:V) (v u:Value) (Q:VK),Inv X pins σ H s→a0O x v→a0O y u→r x y H Q→
  subscripted slice false v u=operate [v,u] (getItem v u)→wpAny (model X.prog X.w) X.A (subscriptTail value slice v u) (EP X pins σ Q) X.xe s
def MtR (X:Cx) (id:String) (r:V→List V→Hp→VK→Prop):Prop:=
 ∀(pins:List (Addr×Obj)) (s:Shared) (σ:St) (H:Hp) (x:V) (xs:List V) (v:Value) (us:List Value) (Q:VK),Inv X pins σ H s→a0O x v→a0H xs us→r x xs H Q→
  wpAny (model X.prog X.w) X.A (call (.builtin id) (v::us)) (EP X pins σ Q) X.xe s
section
variable {X:Cx} {a b:Expr} {ta tb:TE} {pos:Pos}
theorem IxR.or {r r':R2} (h:IxR X r) (h':IxR X r'):IxR X (fun x y H Q=>r x y H Q∨r' x y H Q):=by
 intro value slice pins s σ H x y v u Q I rx ry q hs
 rcases q with q | q
 ·exact h value slice pins s σ H x y v u Q I rx ry q hs
 ·exact h' value slice pins s σ H x y v u Q I rx ry q hs
theorem b6Y {r:R2} (hr:IxR X r) (ha:PE X a ta) (hb:PE X b tb) (hs:b1W b):PE X (.Subscript a b pos) (tOp r ta tb):=by
 intro pins s σ H Q I h
 exact Subscript_ (b6w ha hb I h fun v u s2 x y H2 I2 rx ry q=>hr a b pins s2 σ H2 x y v u Q I2 rx ry q (hs _ _))
def b9a (K:Qd):R2:=fun x y H Q=>∃p xs i v,x=.ref p∧y=.int i∧SqL K H p xs∧atI xs i=some v∧Q v H
def b9V (K:Qd):R2:=fun x y H Q=>∃p xs i v,x=.ref p∧y=.int i∧SqT K H p xs∧atI xs i=some v∧Q v H
def b9G:R2:=fun x y H Q=>∃z i c,x=.str z∧y=.int i∧z.length≤sizeLine∧atI z.cps.toList i=some c∧Q (.str ⟨#[c]⟩) H
theorem b2k:IxR X (b9a X.K):=by
 intro value slice pins s σ H x y v u Q I rx ry h hs
 obtain ⟨p,xs,i,z,rfl,rfl,hq,he,q⟩:=h
 cases rx
 obtain ⟨t,rfl⟩:=ry
 obtain ⟨its,r,pl,hz⟩:=I.list hq
 obtain ⟨j,h1,h2,h3,h4,h5⟩:=a3G he
 obtain ⟨w,ew,rw'⟩:=r.get h2
 have hl:=r.length
 have hn:=a4v
 have fin:EP X pins σ Q w s:=⟨z,H,I,rw',q⟩
 by_cases h0:0≤i
 ·have hj:i.toNat=j:=by
   rw [seqIndex_of h0 h5] at h1
   exact Option.some.inj h1
  exact item_listR pl.isList h0 ‹om› (by rw [hj];simpa using ew) fin hs
 ·have hj:(i+(its.toArray.size:Int)).toNat=j:=by
   rw [seqIndex_neg ‹om› h4] at h1
   rw [Ql,←hl]
   exact Option.some.inj h1
  exact subscriptTail_builtinR (x:=w) pl.isList.typeIs slot_list_getitem.lookup
   (wpAny_getItem_list_neg (Q:=fun r s'=>r=w∧EP X pins σ Q r s') pl.isList ‹om› (by rw [Ql]<;>omega) ‹om› (by rw [hj];simpa using ew) ⟨rfl,fin⟩) hs
theorem b5H:IxR X (b9V X.K):=by
 intro value slice pins s σ H x y v u Q I rx ry h hs
 obtain ⟨p,xs,i,z,rfl,rfl,hq,he,q⟩:=h
 cases rx
 obtain ⟨t,rfl⟩:=ry
 obtain ⟨its,r,pl,hz⟩:=I.tuple hq
 obtain ⟨j,h1,h2,h3,h4,h5⟩:=a3G he
 obtain ⟨w,ew,rw'⟩:=r.get h2
 have hl:=r.length
 have hn:=a4v
 have fin:EP X pins σ Q w s:=⟨z,H,I,rw',q⟩
 exact subscriptTail_builtinR (x:=w) pl.typeIs slot_tuple_getitem.lookup
  (getItem_tuple (j:=j) (Q:=fun r s'=>r=w∧EP X pins σ Q r s') pl ‹om› ‹om› (by rw [Ql,←hl];exact h1) (by simpa using ew) ⟨rfl,fin⟩) hs
theorem b5R:IxR X b9G:=by
 intro value slice pins s σ H x y v u Q I rx ry h hs
 obtain ⟨z,i,c,rfl,rfl,hz,he,q⟩:=h
 obtain ⟨t,rfl⟩:=rx
 obtain ⟨t',rfl⟩:=ry
 obtain ⟨j,h1,h2,h3,h4,h5⟩:=a3G he
 have hl:z.cps.toList.length=z.length:=by simp [Str.length]
 rw [hl] at h1 h4 h5
 have hn:=a4v
 exact tail_any (typeIs_str s z t) slot_str_getitem.lookup (getItem_str (c:=c) (by
  have e1:decide (i < -(2 ^ 63:Int))=false:=decide_eq_false ‹om›
  have e2:decide (i≥2 ^ 63)=false:=decide_eq_false ‹om›
  rw [e1,e2,Bool.or_false]) (by rw [h1];simpa using h2) ⟨.str ⟨#[c]⟩,H,I.tok _,⟨_,rfl⟩,q⟩) hs
def rIx (K:Qd):R2:=fun x y H Q=>b9a K x y H Q∨b9V K x y H Q∨b9G x y H Q
theorem a0k:IxR X (rIx X.K):=b2k.or (b5H.or b5R)
theorem a6l (its:List Value) (n j:Nat) (u:Value):Obj.mapSeq (·.setIfInBounds j u) {cls:=.type "list",data:=.seq its.toArray n}={cls:=.type "list",data:=.seq (its.set j u).toArray n}:=by
 simp [Obj.mapSeq]
theorem Inv.lst {pins:List (Addr×Obj)} {σ:St} {H:Hp} {s:Shared} {p:Addr} {xs:List V} (I:Inv X pins σ H s) (h:H p=some (.lst xs)):
  ∃(its:List Value) (n:Nat),a0H xs its∧s.heap.get? p=some {cls:=.type "list",data:=.seq its.toArray n}∧xs.length≤sizeLine:=by
 obtain ⟨z,its,n,r,e⟩:=I.hok p _ h
 exact ⟨its,n,r,e,z⟩
theorem Inv.lstUpd {pins:List (Addr×Obj)} {σ:St} {H:Hp} {s:Shared} {p:Addr} {xs ys:List V} {its its':List Value} {n n':Nat} {f:Obj→Obj} (I:Inv X pins σ H s) (h:H p=some (.lst xs))
  (ho:s.heap.get? p=some {cls:=.type "list",data:=.seq its.toArray n}) (hf:f {cls:=.type "list",data:=.seq its.toArray n}={cls:=.type "list",data:=.seq its'.toArray n'}) (r:a0H ys its') (hz:ys.length≤sizeLine) (t:Nat):
  Inv X pins σ (upd H p (.lst ys)) {s with heap:=s.heap.update p f,toks:=t}:=by
 have e:(s.heap.update p f).get? p=some {cls:=.type "list",data:=.seq its'.toArray n'}:=by
  rw [Vb f ho (by rw [hf]<;>rfl),hf]
 refine I.write (x:=p) (e:=p) (by rw [h];trivial) (.inl rfl) (fun b u hb q=>(Ja _ _ (Ne.symm hb)).trans q) ⟨_,e⟩ ?_
 exact ⟨hz,its',n',r,e⟩
def b5e:V→V→V→Hp→(Hp→Prop)→Prop:=fun o i v H Q=>∃p xs k j,o=.ref p∧i=.int k∧H p=some (.lst xs)∧ixN xs.length k=some j∧Q (upd H p (.lst (xs.set j v)))
theorem a9F:c0u X b5e:=by
 intro pins s σ H o i v ov iv u Q I ro ri rv h
 obtain ⟨p,xs,k,j,rfl,rfl,hp,hj,q⟩:=h
 cases ro
 obtain ⟨t,rfl⟩:=ri
 obtain ⟨its,n,r,ho,hz⟩:=I.lst hp
 obtain ⟨h1,h2,h3,h4⟩:=a6Q hj
 have hl:=r.length
 have hn:=a4v
 have I':Inv X pins σ (upd H p (.lst (xs.set j v))) {s with heap:=s.heap.update p (Obj.mapSeq (·.setIfInBounds j u))}:=
  I.lstUpd hp ho (a6l its n j u) (r.set rv j) (by rw [List.length_set];exact hz) s.toks
 by_cases h0:0≤k
 ·have hk:k.toNat=j:=by
   rw [seqIndex_of h0 h4] at h1
   exact Option.some.inj h1
  exact PySem.W.ki_setAt ho h0 ‹om› (by rw [Ql,←hl];exact h4) (by rw [hk];exact ⟨_,I',q⟩)
 ·have hk:(k+(its.toArray.size:Int)).toNat=j:=by
   rw [seqIndex_neg ‹om› h3] at h1
   rw [Ql,←hl]
   exact Option.some.inj h1
  exact PySem.W.ki_setBack ho ‹om› (by rw [Ql,←hl];exact h3) ‹om› (by rw [hk];exact ⟨_,I',q⟩)
theorem a4m (lo hi:Option Int) (n:Nat):(sliceBounds lo hi none n).1=((HT.sIx n 0 lo:Nat):Int)∧(sliceBounds lo hi none n).2.1=((HT.sIx n n hi:Nat):Int)∧(sliceBounds lo hi none n).2.2=1:=by
 refine ⟨?_,?_,rfl⟩
 ·cases lo with
  | none=>simp [sliceBounds,HT.sIx]
  | some i=>
   simp only [sliceBounds,HT.sIx,Wc,show (1:Int) > 0 by decide,if_true]
   by_cases h:i < 0
   ·simp only [h,if_true]<;>omega
   ·simp only [h,if_false]<;>omega
 ·cases hi with
  | none=>simp [sliceBounds,HT.sIx]
  | some i=>
   simp only [sliceBounds,HT.sIx,Wc,show (1:Int) > 0 by decide,if_true]
   by_cases h:i < 0
   ·simp only [h,if_true]<;>omega
   ·simp only [h,if_false]<;>omega
theorem a3D (its:List Value) (lo hi:Option Int):slicePick its.toArray lo hi none=((its.drop (HT.sIx its.length 0 lo)).take (HT.sIx its.length its.length hi - HT.sIx its.length 0 lo)).toArray:=by
 obtain ⟨h1,h2,h3⟩:=a4m lo hi its.toArray.size
 unfold slicePick
 rw [h1,h2,h3]
 simp only [sliceRange_one,pick_run,Ql]<;>rfl
def c0m (K:Qd):V→Option Int→Option Int→Hp→VK→Prop:=fun x lo hi H Q=>∃a xs,x=.ref a∧SqL K H a xs∧∀p,H p=none→Q (.ref p) (upd H p (.lst (a2x xs lo hi)))
theorem b1K:SlR X (c0m X.K):=by
 intro pins s σ H x v vl vu lo hi sl Q I rx hs pl pu h
 obtain ⟨a,xs,rfl,hx,q⟩:=h
 cases rx
 obtain ⟨its,r,ht,hz⟩:=I.list hx
 have hlen:=r.length
 refine ⟨"list",_,slot_list_getitem.lookup,ht.isList.typeIs,?_⟩
 refine wpAny_getItem_list_slice ht.isList hs pl pu .none (by simp) ?_ (by rw [Ql]<;>omega)
 rw [a3D,←hlen]
 refine ⟨.ref s.heap.objs.size,_,I.laid (t':=s.toks) (o:=.lst (a2x xs lo hi)) (fun b ob q=>Qm _ q) (Qk _) ?_,rfl,q _ (I.hok.fresh (Qk _))⟩
 exact ⟨Qi (a2Q xs lo hi) hz,_,0,(r.drop (HT.sIx xs.length 0 lo)).take (HT.sIx xs.length xs.length hi - HT.sIx xs.length 0 lo),Xh _ rfl⟩
def a3S:V→Bool
 | .non=>true
 | .bl _=>true
 | .int _=>true
 | .str _=>true
 | _=>false
def eqV:V→V→Bool
 | .non,.non=>true
 | .bl a,.bl b=>a == b
 | .bl a,.int b=>(if a then 1 else 0) == b
 | .int a,.bl b=>a == (if b then 1 else 0)
 | .int a,.int b=>a == b
 | .str a,.str b=>a == b
 | _,_=>false
theorem b3T {A:Around} {s:Shared} {y x:V} {u v:Value} (ry:a0O y u) (rx:a0O x v) (fy:a3S y=true) (fx:a3S x=true):Xx A s u v (eqV y x):=by
 cases y with
 | non=>
  cases ry
  cases x with
  | non=>cases rx;exact Xx.same _
  | bl b=>cases rx;exact Xx.none_bool b
  | int b=>obtain ⟨t,rfl⟩:=rx;exact Xx.none_int b t
  | str b=>obtain ⟨t,rfl⟩:=rx;exact Xx.none_str b t
  | _=>exact absurd (show false=true from fx) Qp
 | bl a=>
  cases ry
  cases x with
  | non=>cases rx;exact Xx.bool_none a
  | bl b=>cases rx;exact Xx.bool_bool a b
  | int b=>obtain ⟨t,rfl⟩:=rx;exact Xx.bool_int a b t
  | str b=>obtain ⟨t,rfl⟩:=rx;exact Xx.bool_str a b t
  | _=>exact absurd (show false=true from fx) Qp
 | int a=>
  obtain ⟨t',rfl⟩:=ry
  cases x with
  | non=>cases rx;exact Xx.int_none a t'
  | bl b=>cases rx;exact Xx.int_bool a t' b
  | int b=>obtain ⟨t,rfl⟩:=rx;exact Xx.int_int a t' b t
  | str b=>obtain ⟨t,rfl⟩:=rx;exact Xx.int_str a t' b t
  | _=>exact absurd (show false=true from fx) Qp
 | str a=>
  obtain ⟨t',rfl⟩:=ry
  cases x with
  | non=>cases rx;exact Xx.str_none a t'
  | bl b=>cases rx;exact Xx.str_bool a t' b
  | int b=>obtain ⟨t,rfl⟩:=rx;exact Xx.str_int a t' b t
  | str b=>obtain ⟨t,rfl⟩:=rx;exact Xx.str_str a t' b t
  | _=>exact absurd (show false=true from fx) Qp
 | _=>exact absurd (show false=true from fy) Qp
def eqU (x:V) (u:Value):Bool:=match u with
 | .none=>eqV .non x
 | .bool b=>eqV (.bl b) x
 | .int i _=>eqV (.int i) x
 | .str z _=>eqV (.str z) x
 | _=>false
theorem b0s {x y:V} {u:Value} (r:a0O y u) (f:a3S y=true):eqU x u=eqV y x:=by
 cases y with
 | non=>cases r;rfl
 | bl b=>cases r;rfl
 | int i=>obtain ⟨t,rfl⟩:=r;rfl
 | str z=>obtain ⟨t,rfl⟩:=r;rfl
 | _=>exact absurd (show false=true from f) Qp
theorem a2O {x:V}:∀{xs:List V} {us:List Value},a0H xs us→xs.all a3S=true→us.any (eqU x)=xs.any fun y=>eqV y x
 | _,_,.nil,_=>rfl
 | y::xs,u::us,.cons r t,f=>by
  rw [Vj,Qs] at f
  rw [Jc,Jc,b0s r f.1,a2O t f.2]
theorem a2i {A:Around} {s:Shared} {x:V} {v:Value} (rx:a0O x v) (fx:a3S x=true):∀{xs:List V} {us:List Value},a0H xs us→xs.all a3S=true→∀u∈us,Xx A s u v (eqU x u)
 | _,_,.nil,_=>fun u hu=>by cases hu
 | y::xs,u::us,.cons r t,f=>fun u' hu=>by
  rw [Vj,Qs] at f
  rcases Qx.mp hu with rfl | hu
  ·rw [b0s r f.1];exact b3T r rx f.1 fx
  ·exact a2i rx fx t f.2 u' hu
def inV (x:V) (xs:List V):Bool:=xs.any fun y=>eqV y x
def rIn (K:Qd) (neg:Bool):R2:=fun x y H Q=>∃p xs,y=.ref p∧(SqL K H p xs∨SqT K H p xs)∧a3S x=true∧xs.all a3S=true∧Q (.bl (if neg then !inV x xs else inV x xs)) H
theorem a6U:OpR X (compareOp .In) (rIn X.K false):=by
 intro pins s σ H x y v u Q I rx ry h
 obtain ⟨p,xs,rfl,hq,fx,fs,q⟩:=h
 cases ry
 rcases hq with hq | hq
 ·obtain ⟨its,r,pl,hz⟩:=I.list hq
  refine SeqAt.in_listAt (eqU x) pl.isList (fun w hw=>a2i rx fx r fs w (by simpa using hw)) ⟨.bl _,H,I,rfl,?_⟩
  rw [show its.toArray.any (eqU x)=its.any (eqU x) by simp,a2O r fs]
  exact q
 ·obtain ⟨its,r,pl,hz⟩:=I.tuple hq
  refine SeqAt.in_tupleAt (eqU x) pl (fun w hw=>a2i rx fx r fs w (by simpa using hw)) ⟨.bl _,H,I,rfl,?_⟩
  rw [show its.toArray.any (eqU x)=its.any (eqU x) by simp,a2O r fs]
  exact q
theorem a4n:OpR X (compareOp .NotIn) (rIn X.K true):=by
 intro pins s σ H x y v u Q I rx ry h
 obtain ⟨p,xs,rfl,hq,fx,fs,q⟩:=h
 cases ry
 rcases hq with hq | hq
 ·obtain ⟨its,r,pl,hz⟩:=I.list hq
  refine Vv (eqU x) pl.isList (fun w hw=>a2i rx fx r fs w (by simpa using hw)) ⟨.bl _,H,I,rfl,?_⟩
  rw [show its.toArray.any (eqU x)=its.any (eqU x) by simp,a2O r fs]
  exact q
 ·obtain ⟨its,r,pl,hz⟩:=I.tuple hq
  refine SeqAt.notIn_tupleAt (eqU x) pl (fun w hw=>a2i rx fx r fs w (by simpa using hw)) ⟨.bl _,H,I,rfl,?_⟩
  rw [show its.toArray.any (eqU x)=its.any (eqU x) by simp,a2O r fs]
  exact q
theorem a1U.or {f:Value} {r r':List V→Hp→VK→Prop} (h:a1U X f r) (h':a1U X f r'):a1U X f (fun xs H Q=>r xs H Q∨r' xs H Q):=by
 intro pins s σ H xs us Q I rs q
 rcases q with q | q
 ·exact h pins s σ H xs us Q I rs q
 ·exact h' pins s σ H xs us Q I rs q
theorem a4f:a1U X (.type "list") (fun xs H Q=>∃p ys,xs=[.ref p]∧(SqL X.K H p ys∨SqT X.K H p ys)∧∀l,H l=none→Q (.ref l) (upd H l (.lst ys))):=by
 intro pins s σ H xs us Q I r h
 obtain ⟨p,ys,rfl,hq,q⟩:=h
 obtain ⟨u,rfl,rx⟩:=a3C r
 cases rx
 have fin:∀(its:List Value),a0H ys its→ys.length≤sizeLine→∀(h':Heap) (c':Nat),(∀b o',s.heap.get? b=some o'→h'.get? b=some o')→
   h'.get? s.heap.objs.size=some {cls:=.type "list",dict:=none,data:=.seq its.toArray c',slots:=#[]}→EP X pins σ Q (.ref s.heap.objs.size) {s with heap:=h'}:=fun its r' hz h' c' kp e=>
  ⟨.ref s.heap.objs.size,_,I.laid (t':=s.toks) kp (Qk _) (show a1z X.prog X.w _ h' _ (.lst ys) from ⟨hz,its,c',r',e⟩),rfl,q _ (I.hok.fresh (Qk _))⟩
 rcases hq with hq | hq
 ·obtain ⟨its,r',pl,hz⟩:=I.list hq
  have hlen:=r'.length
  obtain ⟨o,ho,hc,n,hd⟩:=pl.isList
  exact call_list_seq p (.inl rfl) ho hc hd (fun h' c' kp e=>fin its r' hz h' c' kp e) (by simp only [Ql]<;>omega)
 ·obtain ⟨its,r',pl,hz⟩:=I.tuple hq
  have hlen:=r'.length
  obtain ⟨o,ho,hc,n,hd⟩:=pl
  exact call_list_seq p (.inr rfl) ho hc hd (fun h' c' kp e=>fin its r' hz h' c' kp e) (by simp only [Ql]<;>omega)
theorem a3U:a1U X (.type "tuple") (fun xs H Q=>∃p ys,xs=[.ref p]∧((SqL X.K H p ys∧∀l,H l=none→Q (.ref l) (upd H l (.tup ys)))∨(SqT X.K H p ys∧Q (.ref p) H))):=by
 intro pins s σ H xs us Q I r h
 obtain ⟨p,ys,rfl,h⟩:=h
 obtain ⟨u,rfl,rx⟩:=a3C r
 cases rx
 rcases h with ⟨hq,q⟩ | ⟨hq,q⟩
 ·obtain ⟨its,r',pl,hz⟩:=I.list hq
  have hlen:=r'.length
  refine call_tuple_list pl.isList (fun h' kp=>?_) (by simp only [Ql]<;>omega)
  have I1:Inv X pins σ H {s with heap:=h'}:=I.kept (t':=s.toks) kp
  have I2:Inv X pins σ (upd H h'.objs.size (.tup ys)) {s with heap:=h'.push {cls:=.type "tuple",data:=.seq its.toArray}}:=
   I1.laid (t':=s.toks) (fun b o e=>Qm _ e) (Qk _) (show a1z X.prog X.w _ _ _ (.tup ys) from ⟨hz,its,r',IsTup.new _ _⟩)
  exact ⟨.ref h'.objs.size,_,I2,rfl,q _ (I1.hok.fresh (Qk _))⟩
 ·obtain ⟨its,r',pl,hz⟩:=I.tuple hq
  exact call_tuple_same pl ⟨.ref p,H,I,rfl,q⟩
def tyV (K:Qd) (T:String) (x:V) (H:Hp):Prop:=match x with
 | .str _=>T="str"
 | .int _=>T="int"
 | .ref p=>(T="list"∧∃xs,SqL K H p xs)∨(T="tuple"∧∃o,K.lookup p=some o∧o.cls=.type "tuple"∧o.dict=none)∨
   (T="dict"∧((∃kvs,H p=some (.dK kvs))∨∃kvs,H p=some (.dT kvs)))∨(T="set"∧∃S n,H p=some (.set S n))
 | _=>False
theorem b3R {pins:List (Addr×Obj)} {σ:St} {H:Hp} {s:Shared} {T:String} {x:V} {v:Value} (I:Inv X pins σ H s) (r:a0O x v) (ty:tyV X.K T x H):
  s.TypeIs v T∧∀a,v=.ref a→∃ob,s.heap.get? a=some ob∧ob.dict=none:=by
 cases x with
 | str z=>
  obtain ⟨t,rfl⟩:=r
  cases (show T="str" from ty)
  exact ⟨typeIs_str s z t,fun _ e=>nomatch e⟩
 | int i=>
  obtain ⟨t,rfl⟩:=r
  cases (show T="int" from ty)
  exact ⟨typeIs_int s i t,fun _ e=>nomatch e⟩
 | ref p=>
  cases r
  rcases ty with ⟨rfl,xs,hq⟩ | ⟨rfl,o,hk,hc,hd⟩ | ⟨rfl,hk⟩ | ⟨rfl,S,n,hk⟩
  ·obtain ⟨its,_,pl,_⟩:=I.list hq
   refine ⟨pl.isList.typeIs,fun a e=>?_⟩
   cases e
   obtain ⟨o,n,e,c,hd,_⟩:=pl
   exact ⟨o,e,hd⟩
  ·refine ⟨⟨o,I.kIn p o hk,hc⟩,fun a e=>?_⟩
   cases e
   exact ⟨o,I.kIn _ o hk,hd⟩
  ·have z:∃o,s.heap.get? p=some o∧o.ExactDict:=by
    rcases hk with ⟨kvs,hk⟩ | ⟨kvs,hk⟩
    ·obtain ⟨_,_,_,_,o,_,_,e,ex,_⟩:=I.hok p _ hk
     exact ⟨o,e,ex⟩
    ·obtain ⟨_,_,_,_,o,_,_,e,ex,_⟩:=I.hok p _ hk
     exact ⟨o,e,ex⟩
   obtain ⟨o,e,ex⟩:=z
   refine ⟨⟨o,e,ex.1⟩,fun a e2=>?_⟩
   cases e2
   exact ⟨o,e,ex.2.1⟩
  ·obtain ⟨o,_,_,_,e,ex,_⟩:=I.hok p _ hk
   refine ⟨⟨o,e,ex.1⟩,fun a e2=>?_⟩
   cases e2
   exact ⟨o,e,ex.2.1⟩
 | _=>exact False.elim ty
def tBM (K:Qd) (T:String) (r:V→List V→Hp→VK→Prop) (to:TE) (t:TA):TE:=fun σ H Q=>to σ H fun x H1=>tyV K T x H1∧t σ H1 fun xs H2=>r x xs H2 Q
variable {o e:Expr} {es:List Expr} {to:TE} {t:TA} {name:Str} {apos cpos:Pos} {T id:String} {r:V→List V→Hp→VK→Prop}
theorem b6L (pa:PlainAttrs T) (slot:Slot T name id) (hty:typeOf (.builtin id)=pure (.type "method_descriptor")) (hm:MtR X id r) (ho:PE X o to) (ha:PA X (e::es) t)
  (hbase:attributeBase o name X.env (eval o X.env)=eval o X.env:=by rfl)
  (hfew:((backTo cpos (starEach (e::es) X.env)).all (fun x=>!x.1) && (backToKw cpos (keywordEach [] X.env)).all (fun x=>x.1.isSome)
   && decide ((e::es).length+([]:List Keyword).length+(if ([]:List Keyword).isEmpty then 0 else 1) < 30))=true:=by rfl)
  (hline:(apos.endLine == cpos.line)=true:=by rfl) (hs:starEach (e::es) X.env=(false,eval e X.env)::starEach es X.env:=by rfl) (hplain:(backTo cpos (starEach es X.env)).any (·.1)=false:=by rfl):
  PE X (.Call (.Attribute o name apos) (e::es) [] cpos) (tBM X.K T r to t):=by
 intro pins s σ H Q I h
 refine wpAny_Call_method_late hbase hfew hline rfl (thn (ho pins s σ H _ I h) fun v s1 ⟨x,H1,I1,r1,ty,q1⟩=>?_)
 obtain ⟨h1,h2⟩:=b3R I1 r1 ty
 refine ⟨T,id,pa,slot,hty,h1,h2,?_⟩
 have hA:=ha cpos pins s1 σ H1 _ I1 q1
 rw [hs] at hA ⊢
 refine Calls.callWith_builtin (by show (false || (backTo cpos (starEach es X.env)).any (·.1))=false;rw [hplain]<;>rfl) (Calls.evalArgs_plain ?_)
 exact thn hA fun us s2 ⟨vs,H2,I2,r2,q2⟩=>hm pins s2 σ H2 x vs v us Q I2 r1 r2 q2
end
def MtM (X:Cx) (id:String) (r:V→List V→Hp→VK→Prop):Prop:=
 ∀(pins:List (Addr×Obj)) (s:Shared) (σ:St) (H:Hp) (x:V) (xs:List V) (v:Value) (us:List Value) (Q:VK),Inv X pins σ H s→a0O x v→a0H xs us→r x xs H Q→
  wpAny (model X.prog X.w) X.A (call (.builtin id) (v::us)) (EP X pins σ Q) X.xe s
theorem a0H.one:∀{x:V} {us:List Value},a0H [x] us→∃u,us=[u]∧a0O x u
 | _,_,.cons r .nil=>⟨_,rfl,r⟩
theorem a0H.eraseIdx:∀{xs:List V} {us:List Value} (i:Nat),a0H xs us→a0H (xs.eraseIdx i) (us.eraseIdx i)
 | _,_,_,.nil=>.nil
 | _,_,0,.cons _ t=>t
 | _,_,i+1,.cons r t=>.cons r (a0H.eraseIdx i t)
theorem a0H.reverse {xs:List V} {us:List Value} (h:a0H xs us):a0H xs.reverse us.reverse:=by
 induction h with
 | nil=>exact .nil
 | cons r t ih=>rw [List.reverse_cons,List.reverse_cons];exact a0H.append ih (.cons r .nil)
theorem a4b {α:Type}:∀(l:List α) (i:Nat),(l.eraseIdx i).length≤l.length
 | [],_=>Qk _
 | _::_,0=>Zj _
 | _::r,i+1=>Nat.succ_le_succ (a4b r i)
section
variable {X:Cx} {pins:List (Addr×Obj)} {σ:St} {H:Hp} {s:Shared} {l b:Addr} {xs ys zs:List V}
theorem Inv.lset {its its':List Value} {n:Nat} {f:Array Value→Array Value} {t':Nat} (I:Inv X pins σ H s) (hH:H l=some (.lst xs))
  (e:s.heap.get? l=some {cls:=.type "list",data:=.seq its.toArray n}) (hf:f its.toArray=its'.toArray) (hv:a0H ys its') (hz:ys.length≤sizeLine):
  Inv X pins σ (upd H l (.lst ys)) {s with heap:=s.heap.update l (Obj.mapSeq f),toks:=t'}:=by
 have q:=PySem.IsL.update e f
 rw [hf] at q
 refine I.write (x:=l) (e:=l) (by rw [hH];exact trivial) (.inl rfl) (fun b' u hb hu=>(Ja s.heap (Obj.mapSeq f) (Ne.symm hb)).trans hu) ⟨_,q⟩ ?_
 exact ⟨hz,its',_,hv,q⟩
theorem Inv.lnew {its:List Value} {t':Nat} (I:Inv X pins σ H s) (hv:a0H ys its) (hz:ys.length≤sizeLine):
  Inv X pins σ (upd H s.heap.objs.size (.lst ys)) {s with heap:=s.heap.push {cls:=.type "list",data:=.seq its.toArray},toks:=t'}:=
 I.laid (fun _ _ q=>Qm _ q) (Qk _) ⟨hz,its,0,hv,Xh _ rfl⟩
theorem Inv.fresh (I:Inv X pins σ H s):H s.heap.objs.size=none:=I.hok.fresh (Qk _)
theorem Inv.lstM (I:Inv X pins σ H s) (hH:H l=some (.lst xs)):xs.length≤sizeLine∧∃(its:List Value) (n:Nat),a0H xs its∧xs.length=its.length∧s.heap.get? l=some {cls:=.type "list",data:=.seq its.toArray n}:=by
 obtain ⟨z,its,n,r,e⟩:=I.hok l _ hH
 exact ⟨z,its,n,r,r.length,e⟩
theorem a9H {n:Nat} (h:n≤sizeLine):Builtin.List.listTooLong n=false:=by
 unfold Builtin.List.listTooLong
 exact decide_eq_false ‹om›
end
section
variable {X:Cx}
def a7w:V→List V→Hp→VK→Prop:=fun x vs H Q=>∃l xs y,x=.ref l∧vs=[y]∧H l=some (.lst xs)∧xs.length < sizeLine∧Q .non (upd H l (.lst (xs++[y])))
theorem a0B:MtM X "list.append" a7w:=by
 intro pins s σ H x vs v us Q I rx rv h
 obtain ⟨l,xs,y,rfl,rfl,hH,hz,q⟩:=h
 cases rx
 obtain ⟨u,rfl,ru⟩:=rv.one
 obtain ⟨z,its,n,r,hl,e⟩:=I.lstM hH
 refine call_meets F.slot_list_append ⟨_,e,rfl⟩ F.entry_list_append (F.args_list_append_2 _ _) (PySem.list_append l its.toArray n u (by rw [Ql];omega)) ⟨e,?_⟩
 refine ⟨.non,_,I.lset (its':=its++[u]) hH e (by simp) (r.append (.cons ru .nil)) ?_,rfl,q⟩
 rw [Xa,Yy]
 omega
def b1k:V→List V→Hp→VK→Prop:=fun x vs H Q=>∃l b xs zs,x=.ref l∧vs=[.ref b]∧H l=some (.lst xs)∧H b=some (.lst zs)∧xs.length+zs.length≤sizeLine∧Q .non (upd H l (.lst (xs++zs)))
theorem a4q:MtM X "list.extend" b1k:=by
 intro pins s σ H x vs v us Q I rx rv h
 obtain ⟨l,b,xs,zs,rfl,rfl,hH,hB,hz,q⟩:=h
 cases rx
 obtain ⟨u,rfl,ru⟩:=rv.one
 cases ru
 obtain ⟨z,its,n,r,hl,e⟩:=I.lstM hH
 obtain ⟨z2,its2,n2,r2,hl2,e2⟩:=I.lstM hB
 have hsz:its.toArray.size+its2.toArray.size≤sizeLine:=by rw [Ql,Ql];omega
 have hlong:¬(!its.toArray.isEmpty && Builtin.List.listTooLong (its.toArray.size+its2.toArray.size))=true:=by
  rw [a9H hsz,Bool.and_false]
  exact Qp
 refine call_meets F.slot_list_extend ⟨_,e,rfl⟩ F.entry_list_extend (F.args_list_extend_2 _ _)
  (AutoSeq1.list_extend_list_list_0 l its.toArray n b its2.toArray n2 hlong (by rw [Ql];omega) ‹om›) ⟨e,e2,?_⟩
 refine ⟨.non,_,I.lset (its':=its++its2) hH e (by simp) (r.append r2) ?_,rfl,q⟩
 rw [Xa]
 omega
def b5n:V→List V→Hp→VK→Prop:=fun x vs H Q=>∃l xs i k y,x=.ref l∧vs=[.int i]∧H l=some (.lst xs)∧-(2 ^ 63)≤i∧i < 2 ^ 63∧seqIndex? i xs.length=some k∧xs[k]?=some y∧Q y (upd H l (.lst (xs.eraseIdx k)))
theorem a9E:MtM X "list.pop" b5n:=by
 intro pins s σ H x vs v us Q I rx rv h
 obtain ⟨l,xs,i,k,y,rfl,rfl,hH,h1,h2,hk,hy,q⟩:=h
 cases rx
 obtain ⟨u,rfl,ru⟩:=rv.one
 obtain ⟨t,rfl⟩:=ru
 obtain ⟨z,its,n,r,hl,e⟩:=I.lstM hH
 obtain ⟨w,hw,rw'⟩:=r.get hy
 refine call_meets F.slot_list_pop ⟨_,e,rfl⟩ F.entry_list_pop (F.args_list_pop_2 _ _)
  (MeetsSeq.list_pop_at l its.toArray n i t k w (fitsIndex_both h1 h2) (by rw [Ql,←hl];exact hk) (by rw [←Array.getElem?_toList];exact hw) (by rw [Ql];omega)) ⟨e,?_⟩
 refine ⟨y,_,I.lset (its':=its.eraseIdx k) hH e ?_ (r.eraseIdx k) ?_,rw',q⟩
 ·show its.toArray.eraseIdxIfInBounds k=(its.eraseIdx k).toArray
  rw [List.eraseIdxIfInBounds_toArray]
 ·have:=a4b xs k
  omega
def b7r:R2:=fun x y H Q=>∃l b xs zs,x=.ref l∧y=.ref b∧H l=some (.lst xs)∧H b=some (.lst zs)∧xs.length+zs.length≤sizeLine∧∀p,H p=none→Q (.ref p) (upd H p (.lst (xs++zs)))
theorem b4l:OpR X (binaryOp .Add) b7r:=by
 intro pins s σ H x y v u Q I rx ry h
 obtain ⟨l,b,xs,zs,rfl,rfl,hH,hB,hz,q⟩:=h
 cases rx
 cases ry
 obtain ⟨z,its,n,r,hl,e⟩:=I.lstM hH
 obtain ⟨z2,its2,n2,r2,hl2,e2⟩:=I.lstM hB
 refine PySem.P.add_list e e2 ?_ (by rw [Ql,Ql];omega)
 have ea:its.toArray++its2.toArray=(its++its2).toArray:=by simp
 rw [ea]
 exact ⟨.ref _,_,I.lnew (t':=s.toks) (r.append r2) (by rw [Xa];omega),rfl,q _ I.fresh⟩
end
section
variable {prog:Program} {w:World} {A:Around} {E:Value→Shared→Prop} {s:Shared}
set_option maxRecDepth 100000 in
end
section
variable {κ:Type} [DecidableEq κ]
def a1F (kvs:List (κ×V)) (k:κ):Option V:=(kvs.find? fun kv=>decide (kv.1=k)).map (·.2)
def a3h (kvs:List (κ×V)) (k:κ) (v:V):List (κ×V):=
 if (kvs.any fun kv=>decide (kv.1=k))=true then kvs.map (fun kv=>if kv.1=k then (kv.1,v) else kv) else kvs++[(k,v)]
def b3J (kvs:List (κ×V)) (k:κ):List (κ×V):=kvs.filter fun kv=>decide (kv.1≠k)
theorem a0V {p:κ×V} {r:List (κ×V)} {k:κ} (e:p.1=k):a1F (p::r) k=some p.2:=by simp [a1F,Zi,e]
theorem a0T {p:κ×V} {r:List (κ×V)} {k:κ} (e:¬p.1=k):a1F (p::r) k=a1F r k:=by simp [a1F,Zi,e]
theorem a2k (k:κ):∀kvs:List (κ×V),(kvs.any fun kv=>decide (kv.1=k))=(a1F kvs k).isSome
 | []=>rfl
 | p::r=>by
  rw [Jc]
  by_cases e:p.1=k
  ·simp only [a0V e,decide_eq_true e,Bool.true_or,Option.isSome_some]
  ·rw [a0T e,decide_eq_false e,Bool.false_or];exact a2k k r
theorem a5v (k j:κ) (y:V):∀kvs:List (κ×V),a1F (kvs.map fun kv=>if kv.1=k then (kv.1,y) else kv) j=(a1F kvs j).map fun x=>if j=k then y else x
 | []=>rfl
 | p::r=>by
  have ih:=a5v k j y r
  rw [Xm]
  by_cases h:p.1=k
  ·rw [if_pos h]
   by_cases e:p.1=j
   ·rw [a0V (p:=(p.1,y)) e,a0V e,Zr,if_pos (e.symm.trans h)]
   ·rw [a0T (p:=(p.1,y)) e,a0T e,ih]
  ·rw [if_neg h]
   by_cases e:p.1=j
   ·rw [a0V (p:=p) e,a0V e,Zr,if_neg (fun z=>h (e.trans z))]
   ·rw [a0T (p:=p) e,a0T e,ih]
theorem a4R (k j:κ) (y:V):∀kvs:List (κ×V),a1F kvs k=none→a1F (kvs++[(k,y)]) j=if j=k then some y else a1F kvs j
 | [],_=>by
  by_cases e:k=j
  ·rw [if_pos e.symm];exact a0V (p:=(k,y)) e
  ·rw [if_neg (fun z=>e z.symm)];exact a0T (p:=(k,y)) e
 | p::r,hn=>by
  rw [List.cons_append]
  have hk:¬p.1=k:=fun z=>by rw [a0V z] at hn;cases hn
  rw [a0T hk] at hn
  have ih:=a4R k j y r hn
  by_cases e:p.1=j
  ·rw [a0V e,a0V e,if_neg (fun z=>hk (e.trans z))]
  ·rw [a0T e,a0T e,ih]
theorem a2H (kvs:List (κ×V)) (k j:κ) (y:V):a1F (a3h kvs k y) j=if j=k then some y else a1F kvs j:=by
 unfold a3h
 by_cases a:(kvs.any fun kv=>decide (kv.1=k))=true
 ·rw [if_pos a,a5v]
  rw [a2k] at a
  by_cases e:j=k
  ·obtain ⟨x,hx⟩:=Ug.mp a
   rw [if_pos e,e,hx,Zr,if_pos rfl]
  ·rw [if_neg e]
   cases a1F kvs j with
   | none=>rfl
   | some x=>rw [Zr,if_neg e]
 ·rw [if_neg a]
  refine a4R k j y kvs ?_
  rw [a2k] at a
  cases q:a1F kvs k with
  | none=>rfl
  | some x=>rw [q] at a;exact (a rfl).elim
theorem a1g (kvs:List (κ×V)) (k:κ) (v:V):(a3h kvs k v).length≤kvs.length+1:=by
 unfold a3h
 split
 ·rw [Qc];omega
 ·rw [Xa,Qj,Qr];omega
theorem a3N.isSome_eq {o:Option V} {u:Option Value} (r:a3N o u):o.isSome=u.isSome:=by
 cases o with
 | none=>cases u with
  | none=>rfl
  | some _=>exact (show False from r).elim
 | some _=>cases u with
  | none=>exact (show False from r).elim
  | some _=>rfl
theorem a3N.getD {o:Option V} {u:Option Value} {d:V} {d':Value} (r:a3N o u) (rd:a0O d d'):a0O (o.getD d) (u.getD d'):=by
 cases o with
 | none=>cases u with
  | none=>exact rd
  | some _=>exact (show False from r).elim
 | some _=>cases u with
  | none=>exact (show False from r).elim
  | some _=>exact r
theorem KV.val {kvs:List (κ×V)} {vs:List (κ×Value)} (r:KV kvs vs) (k:κ):a3N (a1F kvs k) (valueAt vs k):=by
 unfold KV at r
 induction r with
 | nil=>exact True.intro
 | @cons p q ps qs h t ih=>
  obtain ⟨h1,h2⟩:=h
  by_cases e:p.1=k
  ·have e':q.1=k:=h1.symm.trans e
   have b:valueAt (q::qs) k=some q.2:=by simp [valueAt,Zi,e']
   rw [a0V e,b];exact h2
  ·have e':¬q.1=k:=fun z=>e (h1.trans z)
   have b:valueAt (q::qs) k=valueAt qs k:=by simp [valueAt,Zi,e']
   rw [a0T e,b];exact ih
theorem KV.any {kvs:List (κ×V)} {vs:List (κ×Value)} (r:KV kvs vs) (k:κ):(kvs.any fun kv=>decide (kv.1=k))=vs.any fun kv=>decide (kv.1=k):=by
 unfold KV at r
 induction r with
 | nil=>rfl
 | cons h t ih=>rw [Jc,Jc,ih,h.1]
theorem KV.repl {kvs:List (κ×V)} {vs:List (κ×Value)} (r:KV kvs vs) (k:κ) {y:V} {u:Value} (ry:a0O y u):
  KV (kvs.map fun kv=>if kv.1=k then (kv.1,y) else kv) (vs.map fun kv=>if kv.1=k then (kv.1,u) else kv):=by
 unfold KV at r ⊢
 induction r with
 | nil=>exact .nil
 | @cons p q ps qs h t ih=>
  rw [Xm,Xm]
  refine .cons ?_ ih
  obtain ⟨h1,h2⟩:=h
  by_cases e:p.1=k
  ·rw [if_pos e,if_pos (h1.symm.trans e)];exact ⟨h1,ry⟩
  ·rw [if_neg e,if_neg (fun z=>e (h1.trans z))];exact ⟨h1,h2⟩
theorem KV.put {kvs:List (κ×V)} {vs:List (κ×Value)} (r:KV kvs vs) (k:κ) {y:V} {u:Value} (ry:a0O y u):KV (a3h kvs k y) (stored vs k u):=by
 unfold a3h stored
 rw [r.any k]
 by_cases e:(vs.any fun kv=>decide (kv.1=k))=true
 ·rw [if_pos e,if_pos e];exact r.repl k ry
 ·rw [if_neg e,if_neg e];exact Paired.snoc r ⟨rfl,ry⟩
theorem KV.drop {kvs:List (κ×V)} {vs:List (κ×Value)} (r:KV kvs vs) (k:κ):KV (b3J kvs k) (without vs k):=by
 unfold KV at r ⊢
 unfold b3J without
 induction r with
 | nil=>exact .nil
 | @cons p q ps qs h t ih=>
  obtain ⟨h1,h2⟩:=h
  rw [Ze,Ze]
  by_cases e:p.1=k
  ·have a:¬decide (p.1≠k)=true:=by simp [e]
   have b:¬decide (q.1≠k)=true:=by simp [h1.symm.trans e]
   rw [if_neg a,if_neg b];exact ih
  ·have e':¬q.1=k:=fun z=>e (h1.trans z)
   have a:decide (p.1≠k)=true:=by simp [e]
   have b:decide (q.1≠k)=true:=by simp [e']
   rw [if_pos a,if_pos b];exact .cons ⟨h1,h2⟩ ih
theorem KV.length {kvs:List (κ×V)} {vs:List (κ×Value)} (r:KV kvs vs):kvs.length=vs.length:=Paired.length r
end
theorem a7U {P:Program} {w:World} {k:Key} {u:Value} (r:a0O (kV k) u):(a0R P w).is k u=true:=by
 cases k with
 | inl i=>obtain ⟨t,e⟩:=(show ∃t,u=Value.int i t from r);subst e;exact a5i P w i t
 | inr x=>obtain ⟨t,e⟩:=(show ∃t,u=Value.str x t from r);subst e;exact a4Y P w x t
theorem a4K {P:Program} {w:World}:∀{ks:List Key} {us:List Value},a0H (ks.map kV) us→ItemsAre (a0R P w) ks us
 | [],_,r=>by rw [Ui] at r;cases r;exact .nil
 | k::ks,_,r=>by
  rw [Xm] at r
  cases r with
  | cons h t=>exact .cons (a7U h) (a4K t)
abbrev KT (H:Hp):List (List Key×V)→List (List Key×Addr×Value)→Prop:=Paired fun p q=>p.1=q.1∧H q.2.1=some (.tup (p.1.map kV))∧a0O p.2 q.2.2
theorem KT.val {H:Hp} {kvs:List (List Key×V)} {xs:List (List Key×Addr×Value)} (r:KT H kvs xs) (k:List Key):a3N (a1F kvs k) ((atKey xs k).map (·.2)):=by
 induction r with
 | nil=>exact True.intro
 | @cons p q ps qs h t ih=>
  obtain ⟨h1,_,h2⟩:=h
  by_cases e:p.1=k
  ·have e':q.1=k:=h1.symm.trans e
   have b:atKey (q::qs) k=some q.2:=by simp [atKey,Zi,e']
   rw [a0V e,b];exact h2
  ·have e':¬q.1=k:=fun z=>e (h1.trans z)
   have b:atKey (q::qs) k=atKey qs k:=by simp [atKey,Zi,e']
   rw [a0T e,b];exact ih
theorem KT.repl {H:Hp} {kvs:List (List Key×V)} {xs:List (List Key×Addr×Value)} (r:KT H kvs xs) (k:List Key) {y:V} {u:Value} (ry:a0O y u):
  KT H (kvs.map fun kv=>if kv.1=k then (kv.1,y) else kv) (xs.map (putAt k u)):=by
 induction r with
 | nil=>exact .nil
 | @cons p q ps qs h t ih=>
  rw [Xm,Xm]
  refine .cons ?_ ih
  obtain ⟨h1,h2,h3⟩:=h
  unfold putAt
  by_cases e:p.1=k
  ·rw [if_pos e,if_pos (h1.symm.trans e)];exact ⟨h1,h2,ry⟩
  ·rw [if_neg e,if_neg (fun z=>e (h1.trans z))];exact ⟨h1,h2,h3⟩
theorem KT.put {H:Hp} {kvs:List (List Key×V)} {xs:List (List Key×Addr×Value)} (r:KT H kvs xs) (k:List Key) {b:Addr} {y:V} {u:Value} (hb:H b=some (.tup (k.map kV))) (ry:a0O y u):
  KT H (a3h kvs k y) (storedH xs k b u):=by
 have e:(kvs.any fun kv=>decide (kv.1=k))=(atKey xs k).isSome:=by
  rw [a2k,(r.val k).isSome_eq,Vz]
 unfold a3h storedH
 rw [e]
 by_cases q:(atKey xs k).isSome=true
 ·rw [if_pos q,if_pos q];exact r.repl k ry
 ·rw [if_neg q,if_neg q];exact Paired.snoc r ⟨rfl,hb,ry⟩
theorem KT.keeps {H H':Hp} {kvs:List (List Key×V)} {xs:List (List Key×Addr×Value)} (r:KT H kvs xs) (ht:∀b ys,H b=some (.tup ys)→H' b=some (.tup ys)):KT H' kvs xs:=
 Paired.mapP r fun _ _ z=>⟨z.1,ht _ _ z.2.1,z.2.2⟩
section
variable {P:Program} {w:World} {H:Hp} {h:Heap} {a:Addr}
theorem b6b {u:HO} (ok:HOk P w H h) (e:Rd H a u):a1z P w H h a u:=e.ok ok
theorem a8k {kvs:List (Key×V)} (ok:HOk P w H h) (e:Rd H a (.dK kvs)):kvs.length≤sizeLine∧(a == sysModules)=false∧∃vs,KV kvs vs∧h.DictOf (a0R P w) a vs:=
 show a1z P w H h a (.dK kvs) from b6b ok e
theorem b3e {kvs:List (Key×V)} (ok:HOk P w H h) (e:H a=some (.dK kvs)):kvs.length≤sizeLine∧(a == sysModules)=false∧∃vs,KV kvs vs∧h.DictOf (a0R P w) a vs:=a8k ok (.inl e)
theorem a5C {ks:List Key} (ok:HOk P w H h) (e:H a=some (.tup (ks.map kV))):(tupleKind (a0R P w)).is h ks a:=by
 obtain ⟨_,its,r,o,h1,h2,n,h3⟩:=(show a1z P w H h a (.tup (ks.map kV)) from ok a _ e)
 exact ⟨o,its.toArray,n,h1,h2,h3,by simpa using a4K r⟩
theorem a9r {kvs:List (List Key×V)} (ok:HOk P w H h) (e:Rd H a (.dT kvs)):kvs.length≤sizeLine∧(a == sysModules)=false∧
  ∃xs,KT H kvs xs∧h.DictOfH (tupleKind (a0R P w)) a xs:=by
 obtain ⟨z,y,xs,r,o,es,ep,h1,h2,h3,h4,h5⟩:=(show a1z P w H h a (.dT kvs) from b6b ok e)
 refine ⟨z,y,xs,r,o,es,ep,h1,h2,h3,h4,fun x hx=>?_,h5⟩
 have all:∀{l:List (List Key×V)} {m:List (List Key×Addr×Value)},KT H l m→∀x∈m,(tupleKind (a0R P w)).is h x.1 x.2.1:=by
  intro l m q
  induction q with
  | nil=>intro x hx;exact nomatch hx
  | @cons p q ps qs hq t ih=>
   intro x hx
   rcases Qx.mp hx with e | hx
   ·subst e
    exact a5C ok (by rw [←hq.1];exact hq.2.1)
   ·exact ih x hx
 exact all r x hx
theorem b6r {kvs:List (List Key×V)} (ok:HOk P w H h) (e:H a=some (.dT kvs)):kvs.length≤sizeLine∧(a == sysModules)=false∧
  ∃xs,KT H kvs xs∧h.DictOfH (tupleKind (a0R P w)) a xs:=a9r ok (.inl e)
end
def a5K (H:Hp) (a:Addr) (y:V) (r:Option V):Prop:=
 (∃kvs k,Rd H a (.dK kvs)∧y=kV k∧r=a1F kvs k)∨∃kvs k b,Rd H a (.dT kvs)∧y=.ref b∧H b=some (.tup (k.map kV))∧r=a1F kvs k
def a8W (H:Hp) (a:Addr) (y v:V) (H':Hp):Prop:=
 (∃kvs k,H a=some (.dK kvs)∧y=kV k∧kvs.length < sizeLine∧H'=upd H a (.dK (a3h kvs k v)))∨
 ∃kvs k b,H a=some (.dT kvs)∧y=.ref b∧H b=some (.tup (k.map kV))∧kvs.length < sizeLine∧H'=upd H a (.dT (a3h kvs k v))
theorem a5K.k {H:Hp} {a:Addr} {kvs:List (Key×V)} {k:Key} (e:H a=some (.dK kvs)):a5K H a (kV k) (a1F kvs k):=.inl ⟨kvs,k,.inl e,rfl,rfl⟩
theorem a5K.t {H:Hp} {a b:Addr} {kvs:List (List Key×V)} {k:List Key} (e:H a=some (.dT kvs)) (eb:H b=some (.tup (k.map kV))):a5K H a (.ref b) (a1F kvs k):=.inr ⟨kvs,k,b,.inl e,rfl,eb,rfl⟩
theorem a8W.k {H:Hp} {a:Addr} {kvs:List (Key×V)} {k:Key} {v:V} (e:H a=some (.dK kvs)) (hl:kvs.length < sizeLine):a8W H a (kV k) v (upd H a (.dK (a3h kvs k v))):=.inl ⟨kvs,k,e,rfl,hl,rfl⟩
theorem a8W.t {H:Hp} {a b:Addr} {kvs:List (List Key×V)} {k:List Key} {v:V} (e:H a=some (.dT kvs)) (eb:H b=some (.tup (k.map kV))) (hl:kvs.length < sizeLine):
  a8W H a (.ref b) v (upd H a (.dT (a3h kvs k v))):=.inr ⟨kvs,k,b,e,rfl,eb,hl,rfl⟩
section
variable {X:Cx} {pins:List (Addr×Obj)} {σ:St} {H:Hp} {s:Shared} {a:Addr} {y v:V} {u r:Value} {o:Option V} {A:Around} {E:Value→Shared→Prop}
theorem Inv.big (I:Inv X pins σ H s):sysModules < s.heap.objs.size:=by
 have h:mainGlobals < s.heap.objs.size:=(I.mod.glob.keeps I.bk).lt
 exact Nat.lt_trans ‹dc› h
theorem c0H {Q:Value→Shared→Prop} (hu:A.units+1 < cLine) (I:Inv X pins σ H s) (g:a5K H a y o) (ry:a0O y u) (h:∀s',Inv X pins σ H s'→Q (.bool o.isSome) s'):
  wpAny (model X.prog X.w) A (compareOp .In u (.ref a)) Q E s:=by
 rcases g with ⟨kvs,k,e,ey,l⟩ | ⟨kvs,k,b,e,ey,eb,l⟩
 ·subst ey
  obtain ⟨z,hd,vs,rel,dd⟩:=a8k I.hok e
  refine wpAny_in_of (a7U ry) hd dd.mapOf ?_
  rw [←(rel.val k).isSome_eq,←l]
  exact h _ (I.tok _)
 ·subst ey
  cases (show u=Value.ref b from ry)
  obtain ⟨z,hd,xs,rel,dd⟩:=a9r I.hok e
  refine wpAny_in_heap (tupleKind_room_in1 hu) (a5C I.hok eb) hd dd ?_
  have q:=(rel.val k).isSome_eq
  rw [Vz] at q
  rw [←q,←l]
  exact h _ (I.tok _)
theorem a5b {h':Heap} {t':Nat} {ob:HO} (I:Inv X pins σ H s) (mu:Mut (H a)) (hs:Ud a s.heap h') (he:∃q,h'.get? a=some q) (new:a1z X.prog X.w (upd H a ob) h' a ob):
  Inv X pins σ (upd H a ob) {s with heap:=h',toks:=t'}:=
 I.write (x:=a) (e:=a) mu (.inl rfl) (fun b q hb z=>(hs.2 b hb).trans z) he new
theorem b0w {P:Program} {w:World} {H':Hp} {h':Heap} {kvs:List (Key×V)} {vs:List (Key×Value)} (z:kvs.length≤sizeLine) (hd:(a == sysModules)=false) (rel:KV kvs vs) (dd:h'.DictOf (a0R P w) a vs):
  a1z P w H' h' a (.dK kvs):=⟨z,hd,vs,rel,dd⟩
theorem a7y {H':Hp} {Q:Unit→Shared→Prop} (hu:A.units+1 < cLine) (I:Inv X pins σ H s) (g:a8W H a y v H') (ry:a0O y u) (rv:a0O v r) (h:∀s',Inv X pins σ H' s'→Q () s'):
  wpAny (model X.prog X.w) A (setItem (.ref a) u r) Q E s:=by
 rcases g with ⟨kvs,k,e,ey,l,eH⟩ | ⟨kvs,k,b,e,ey,eb,l,eH⟩
 ·subst ey eH
  obtain ⟨z,hd,vs,rel,dd⟩:=b3e I.hok e
  have hz:vs.length≤sizeLine:=by rw [←rel.length];exact z
  have hl:(a3h kvs k v).length≤sizeLine:=by have:=a1g kvs k v;omega
  refine wpAny_setItem_pairs (hsz:=hz) (a7U ry) dd fun h' dd' hs=>h _ ?_
  have he:∃q,h'.get? a=some q:=let ⟨q,_,_,hq,_⟩:=dd';⟨q,hq⟩
  exact a5b I (by rw [e];exact True.intro) hs he (b0w hl hd (rel.put k rv) dd')
 ·subst ey eH
  cases (show u=Value.ref b from ry)
  obtain ⟨z,hd,xs,rel,dd⟩:=b6r I.hok e
  have hz:xs.length≤sizeLine:=by rw [←Paired.length rel];exact z
  have hl:(a3h kvs k v).length≤sizeLine:=by have:=a1g kvs k v;omega
  refine wpAny_setItem_heap (hsz:=hz) (tupleKind_room_in1 hu) (a5C I.hok eb) dd fun h' dd' hs=>h _ ?_
  obtain ⟨q,es,ep,hq,h2,h3,h4,_,h5⟩:=dd'
  refine a5b I (by rw [e];exact True.intro) hs ⟨q,hq⟩ ⟨hl,hd,_,(rel.put k eb rv).keeps fun c ys ec=>?_,q,es,ep,hq,h2,h3,h4,h5⟩
  rw [a0d (a1O ec e (fun z=>nomatch z))]
  exact ec
end
section
variable {X:Cx} {pins:List (Addr×Obj)} {σ:St} {H:Hp} {s:Shared} {a:Addr} {kvs:List (Key×V)} {k:Key} {u:Value} {A:Around} {E:Value→Shared→Prop}
theorem b6M {Q:Value→Shared→Prop} (I:Inv X pins σ H s) (e:Rd H a (.dK kvs)) (h:∀t s',Inv X pins σ H s'→Q (.int kvs.length t) s'):wpAny (model X.prog X.w) A (call (.builtin "len") [.ref a]) Q E s:=by
 obtain ⟨z,hd,vs,rel,dd⟩:=a8k I.hok e
 refine call_len_dict hd dd (by rw [←rel.length];rw [sizeLine_eq] at z;omega) ?_
 rw [←rel.length]
 exact h _ _ (I.tok _)
end
def b2C (ty td:TE):TE:=fun σ H Q=>ty σ H fun y H1=>td σ H1 fun x H2=>∃a o,x=.ref a∧a5K H2 a y o∧Q (.bl o.isSome) H2
def a9L (td ty tv:TE):TS:=fun D σ H=>tv σ H fun v H1=>td σ H1 fun x H2=>ty σ H2 fun y H3=>∃a H4,x=.ref a∧a8W H3 a y v H4∧D.nx σ H4
section
variable {X:Cx} {o i e value:Expr} {pos pos' tpos:Pos} {td ty tv:TE}
theorem a2h (hu:X.A.units+1 < cLine) (hi:PE X i ty) (ho:PE X o td):PC X .In i o (b2C ty td):=by
 intro pins s σ H Q I h
 refine thn (hi pins s σ H _ I h) fun iv s1 ⟨y,H1,I1,ry,q1⟩=>thn (ho pins s1 σ H1 _ I1 q1) fun u s2 ⟨x,H2,I2,rx,a,ov,ex,g,q2⟩=>?_
 subst ex
 obtain rfl:u=Value.ref a:=rx
 exact c0H hu I2 g ry fun s3 I3=>⟨.bl ov.isSome,H2,I3,rfl,q2⟩
theorem b0Y (hu:X.A.units+1 < cLine) (ho:PE X o td) (hi:PE X i ty) (hv:PE X value tv) (hs:swapsWith value (some (.Subscript o i pos')) pos.line X.env=pure false):
  PS X (.Assign [.Subscript o i pos'] value pos) (a9L td ty tv):=by
 intro pins s σ H D I h
 refine wpAny_Assign_Subscript (thn (hv pins s σ H _ I h) fun r s1 ⟨v,H1,I1,rv,q1⟩=>thn (ho pins s1 σ H1 _ I1 q1) fun u s2 ⟨x,H2,I2,rx,q2⟩=>thn (hi pins s2 σ H2 _ I2 q2) fun iv s3 ⟨y,H3,I3,ry,a,H4,ex,g,q3⟩=>?_) hs
 subst ex
 obtain rfl:u=Value.ref a:=rx
 exact a7y hu I3 g ry rv fun s4 I4=>⟨σ,H4,I4,q3⟩
end
theorem a9i {P:Program} {w:World} {H:Hp} (h:Heap) (hb:sysModules < h.objs.size):a1z P w H (h.push {cls:=.type "dict",data:=.dict #[]}) h.objs.size (.dK []):=
 ⟨Xr _,beq_eq_false_iff_ne.mpr (Ne.symm (Xc hb)),[],.nil,Heap.DictOf.new h⟩
theorem a9z {P:Program} {w:World} {H:Hp} (h:Heap) (hb:sysModules < h.objs.size):a1z P w H (h.push {cls:=.type "dict",data:=.dict #[]}) h.objs.size (.dT []):=
 ⟨Xr _,beq_eq_false_iff_ne.mpr (Ne.symm (Xc hb)),[],.nil,_,#[],0,Xh _ rfl,⟨rfl,rfl,rfl⟩,rfl,rfl,Zy⟩
def a5x:TE:=fun _ H Q=>∀p,H p=none→Q (.ref p) (upd H p (.dK []))
def b4g:TE:=fun _ H Q=>∀p,H p=none→Q (.ref p) (upd H p (.dT []))
section
variable {X:Cx} {pos:Pos}
theorem a9A:PE X (.Dict [] [] pos) a5x:=fun pins s σ H Q I h=>
 wpAny_Dict_empty ⟨.ref s.heap.objs.size,_,I.laid (a:=s.heap.objs.size) (o:=.dK []) (t':=s.toks) (fun _ _ q=>Qm _ q) (Qk _) (a9i s.heap I.big),rfl,h _ (I.hok.fresh (Qk _))⟩
theorem a9X:PE X (.Dict [] [] pos) b4g:=fun pins s σ H Q I h=>
 wpAny_Dict_empty ⟨.ref s.heap.objs.size,_,I.laid (a:=s.heap.objs.size) (o:=.dT []) (t':=s.toks) (fun _ _ q=>Qm _ q) (Qk _) (a9z s.heap I.big),rfl,h _ (I.hok.fresh (Qk _))⟩
end
structure M2 (X:Cx) (o:Expr) (m:Str) (apos:Pos) (e f:Expr) (cpos:Pos):Prop where
 base:attributeBase o m X.env (eval o X.env)=eval o X.env
 few:((backTo cpos (starEach [e,f] X.env)).all (fun x=>!x.1) && (backToKw cpos (keywordEach [] X.env)).all (fun x=>x.1.isSome)
  && decide (([e,f]:List Expr).length+([]:List Keyword).length+(if ([]:List Keyword).isEmpty then 0 else 1) < 30))=true
 line:(apos.endLine == cpos.line)=true
 trees:backTo cpos (starEach [e,f] X.env)=[(false,eval e X.env),(false,eval f X.env)]
def IsD (H:Hp) (a:Addr):Prop:=(∃kvs,Rd H a (.dK kvs))∨∃kvs,Rd H a (.dT kvs)
theorem b0C {X:Cx} {pins:List (Addr×Obj)} {σ:St} {H:Hp} {s:Shared} {a:Addr} (I:Inv X pins σ H s) (d:IsD H a):
  s.TypeIs (.ref a) "dict"∧(∀b,Value.ref a=.ref b→∃ob,s.heap.get? b=some ob∧ob.dict=none)∧(a == sysModules)=false:=by
 rcases d with ⟨kvs,e⟩ | ⟨kvs,e⟩
 ·obtain ⟨_,hd,vs,_,dd⟩:=a8k I.hok e
  refine ⟨dd.typeIs,fun b q=>?_,hd⟩
  cases q
  obtain ⟨ob,_,_,h1,h2,_⟩:=dd
  exact ⟨ob,h1,h2.2.1⟩
 ·obtain ⟨_,hd,xs,_,dd⟩:=a9r I.hok e
  refine ⟨dd.typeIs,fun b q=>?_,hd⟩
  cases q
  obtain ⟨ob,_,_,h1,h2,_⟩:=dd
  exact ⟨ob,h1,h2.2.1⟩
section
variable {X:Cx} {pins:List (Addr×Obj)} {σ:St} {H:Hp} {s:Shared} {a:Addr} {y d:V} {u r:Value} {o:Option V} {A:Around} {E:Value→Shared→Prop}
theorem b5l {Q:Value→Shared→Prop} (hu:A.units+1 < cLine) (I:Inv X pins σ H s) (g:a5K H a y o) (ry:a0O y u) (rd:a0O d r) (h:∀w' s',Inv X pins σ H s'→a0O (o.getD d) w'→Q w' s'):
  wpAny (model X.prog X.w) A (call (.builtin "dict.get") [.ref a,u,r]) Q E s:=by
 rcases g with ⟨kvs,k,e,ey,l⟩ | ⟨kvs,k,b,e,ey,eb,l⟩
 ·subst ey
  obtain ⟨z,hd,vs,rel,dd⟩:=a8k I.hok e
  refine call_meetsIn Jh dd.typeIs Ux (Uo _ _ _) (meets_dict_get_default (a0R X.prog X.w) a (a7U ry) hd r) ⟨_,dd.mapOf,h _ _ (I.tok _) ?_⟩
  rw [l]
  exact (rel.val k).getD rd
 ·subst ey
  cases (show u=Value.ref b from ry)
  obtain ⟨z,hd,xs,rel,dd⟩:=a9r I.hok e
  refine call_meetsIn Jh dd.typeIs Ux (Uo _ _ _) (meetsH_dict_get_default (tupleKind (a0R X.prog X.w)) a b hd r) ⟨tupleKind_room_in1 hu,k,xs,a5C I.hok eb,dd,h _ _ (I.tok _) ?_⟩
  rw [l]
  exact (rel.val k).getD rd
end
def b0g (td ty tx:TE):TE:=fun σ H Q=>td σ H fun x H1=>∃a,x=.ref a∧IsD H1 a∧ty σ H1 fun y H2=>tx σ H2 fun z H3=>∃o,a5K H3 a y o∧Q (o.getD z) H3
section
variable {X:Cx} {o e f:Expr} {apos cpos:Pos} {td ty tx:TE}
theorem a9j (hu:X.A.units+1 < cLine) (ho:PE X o td) (he:PE X e ty) (hf:PE X f tx) (m:M2 X o "get" apos e f cpos):PE X (.Call (.Attribute o "get" apos) [e,f] [] cpos) (b0g td ty tx):=by
 intro pins s σ H Q I h
 refine wpAny_Call_method m.base m.few m.line Up Jh PySem.F.type_dict_get (thn (ho pins s σ H _ I h) fun u s1 ⟨x,H1,I1,rx,a,ex,d,q1⟩=>?_)
 subst ex
 obtain rfl:u=Value.ref a:=rx
 obtain ⟨t1,t2,_⟩:=b0C I1 d
 refine ⟨t1,t2,?_⟩
 rw [m.trees]
 refine Calls.callWith_builtin rfl (Calls.evalArgs_plain (Calls.spliced_cons (thn (he pins s1 σ H1 _ I1 q1) fun iv s2 ⟨y,H2,I2,ry,q2⟩=>
  Calls.spliced_cons (thn (hf pins s2 σ H2 _ I2 q2) fun fv s3 ⟨z,H3,I3,rz,ov,g,q3⟩=>Calls.spliced_nil ?_))))
 exact b5l hu I3 g ry rz fun w' s4 I4 rw'=>⟨_,H3,I4,rw',q3⟩
end
end L2
namespace Att
open PySem PySem.W PySem.Calls PyProof.Rows
theorem a2M {P:Params} {h:Heap}:∀(ns:List Int) (vs:List Value),WellAll P h vs (ns.map WData.int)→IntsAre vs ns:=by
 intro ns
 induction ns with
 | nil=>
  intro vs w
  rw [Ui] at w
  cases w
  exact .nil
 | cons n ns ih=>
  intro vs w
  rw [Xm] at w
  cases w with
  | cons a b=>
   cases a
   exact .cons _ _ (ih _ b)
theorem a6V {l:OpenLaw} {n:Nat} (hn:l.most=some n) {P:Params} {h:Heap} {args:List WData} {vals:List Value}
  (hpre:l.row.toRowW.claim.pre args=true) (hwl:WellAll P h vals args):
  ∃a vs ns,vals=[Value.ref a]∧args=[WData.list (ns.map WData.int)]∧h.get? a=some {cls:=.type "list",data:=.seq vs.toArray}∧IntsAre vs ns∧ns.length≤n:=by
 have hsh:WShape.hasAll [] args [.list .int]=true:=(pre_splitW hpre).1
 have hc:l.pre.holds [] {args:=args}=true:=(pre_splitW hpre).2
 obtain ⟨d,r,rfl,h1,h2⟩:=hasAllW_cons hsh
 obtain rfl:=hasAllW_nil h2
 obtain ⟨xs,rfl,h3⟩:=hasW_list h1
 obtain ⟨ns,rfl⟩:=items_int h3
 have hlen:ns.length≤n:=by
  unfold OpenLaw.pre at hc
  have h4:(WTm.not (.lt (.lit (.int (n:Int))) (.len (.arg 0)))).holds [] {args:=[.list (ns.map .int)]}=true:=by
   have h4:=(holds_andW hc).1
   rw [hn] at h4
   exact h4
  have h5:=condW_of h4 (w_not (w_lt w_lit (w_len_list (w_arg rfl))))
  rw [Qc] at h5
  refine Nat.le_of_not_lt fun q=>?_
  have q':(n:Int) < ((ns.length:Nat):Int):=by omega
  first
   | (rw [decide_eq_true q'] at h5;exact absurd h5 ‹dc›)
   | (simp at h5;omega)
 cases hwl with
 | cons w1 w2=>
  cases w2
  cases w1 with
  | list ho hall=>exact ⟨_,_,ns,rfl,rfl,ho,a2M ns _ hall,hlen⟩
theorem a8g (l:OpenLaw) (args:List WData):l.row.toRowW.claim.post args (.bool true) args=true:=
 postW_of (r:=l.row.toRowW) (X:=(true == true))
  (show WShape.has [] (.bool true) .bool=true by first | rfl | decide | simp [WShape.has,WShape.arms,WShape.armsAll])
  (show (WTm.eq .res (.lit (.bool true))).value [] {args:=args,res:=some (.bool true),after:=args}=some (.bool (true == true)) from w_eq_bool (w_res rfl) w_lit) rfl
theorem attach_call {l:OpenLaw} {n:Nat} {q:Program} {loose:List Str} {XP:(Str→Option Value)→Heap→Prop} {YP:World→Heap→Prop} {d:DefRec}
  (hn:l.most=some n) (hdf:d.params.defaults=[])
  (call:∀(w:World) (s₀ s₁:Shared) (mg mb:Str→Option Value) (fa:Addr) (o:Obj) (pm cd doc:Value) (a:Addr) (vs:List Value) (ns:List Int),
   Ground q loose [] XP w s₀ mg mb s₁.heap→YP w s₁.heap→
   s₁.heap.get? fa=some o→o.data=.func (docDef d.name d.params d.body d.scope pm cd doc)→s₁.heap.CodeRec cd d.name→mg d.name=some (.ref fa)→
   s₁.heap.get? a=some {cls:=.type "list",data:=.seq vs.toArray}→IntsAre vs ns→ns.length≤n→s₁.gens=#[]→
   codeAny (model l.prog w) callerA (.call (.ref fa) ⟨[.ref a],[]⟩) (fun r s'=>r=.ok (.ret (.bool true))∧OldK s₁.heap s'.heap∧s'.os=s₁.os∧AllBare s'.gens) s₁):
  WalkO q loose XP YP l.row.toRowW d [] (fun f vs=>PySem.call f vs):=by
 intro w s₀ s₁ mg mb G Y fa o pm cd doc dV kV ho hd hcd hD hmg hg args vals as hpre hlay hrd hwl hlo
 obtain rfl:dV=.none:=Dflts.none hD hdf
 obtain rfl:kV=.none:=Dflts.noKw hD
 obtain ⟨a,vs,ns,rfl,rfl,hobj,hints,hlen⟩:=a6V hn hpre hwl
 refine enter_call (codeAny_mono (call w s₀ s₁ mg mb fa o pm cd doc a vs ns G Y ho (fd_plain hd) hcd hmg hobj hints hlen hg) fun r s' hq=>?_)
 obtain ⟨rfl,h2,h3,h4⟩:=hq
 exact ⟨.inl ⟨.bool true,.bool true,[],rfl,fun _=>rfl,.bool true,a8g l _,fun _=>⟨List.Pairwise.nil,fun _ hm=>(nomatch hm)⟩⟩,h2,h3,h4⟩
end Att
namespace L2
open PySem PySem.Spec PyProof.Rows
theorem a4A:∀{vs:List Value} {ns:List Int},IntsAre vs ns→a0H (ns.map V.int) vs
 | _,_,.nil=>.nil
 | _,_,.cons n t h=>.cons ⟨t,rfl⟩ (a4A h)
def b4b (H:Hp):Prop:=∀b,H b=none∨∃o xs,H b=some (.frz o (.lst xs))
theorem a9R {P:Program} {w:World} {K:Qd} {mg mb:Str→Option Value} {CX:CXT} {k:Nat} {fa a:Addr} {fd:FuncData} {x:Str} {sp:Sp} {s₁:Shared} {vs:List Value} {ns:List Int}
  (KX:K.In s₁.heap) (hns:s₁.heap.Ns mainGlobals mg) (hb:s₁.heap.Ns builtinsNs mb) (hbb:∀x:Str,x≠"__name__"→mb x=bootBuiltins x) (hlim:s₁.heap.NoLimit) (hg:s₁.gens=#[])
  (ha:s₁.heap.get? a=some {cls:=.type "list",data:=.seq vs.toArray}) (hi:IntsAre vs ns) (hl:ns.length≤sizeLine) (hr:a2p k callerA)
  (F:∀base:Heap,K.In base→base.Ns mainGlobals mg→a0S P w K mg base CX k fa fd [x] sp) (hbind:∀(s:Shared) (u:Value),BindsTo s fd ⟨[u],[]⟩ [(x,u)])
  (hsp:∀H:Hp,b4b H→SqL K H a (ns.map V.int)→sp [.ref a] H (fun v _=>v=.bl true) fun _ _ _=>False)
  (hCX:∀H e s',CX [] H s₁ (fun _ _ _=>False) e s'→False):
  codeAny (model P w) callerA (.call (.ref fa) ⟨[.ref a],[]⟩) (fun r s'=>r=.ok (.ret (.bool true))∧OldK s₁.heap s'.heap∧s'.os=s₁.os∧AllBare s'.gens) s₁:=by
 have rv:=a4A hi
 have lenV:=hi.length
 have core:∀H:Hp,b4b H→SqL K H a (ns.map V.int)→HOk P w H s₁.heap→(∀b,H b≠none→b=a)→(H a≠none→K.lookup a=none)→
   codeAny (model P w) callerA (.call (.ref fa) ⟨[.ref a],[]⟩) (fun r s'=>r=.ok (.ret (.bool true))∧OldK s₁.heap s'.heap∧s'.os=s₁.os∧AllBare s'.gens) s₁:=by
  intro H hO hS hok hA hK
  have base_of:∀{b:Addr} {o:Obj},s₁.heap.get? b=some o→H b=none→(a9t s₁.heap H).get? b=some o:=fun e n=>a9O e n
  have noA:∀{b:Addr} {o:Obj} {es:Array DictEntry} {ep:Nat},s₁.heap.get? b=some o→o.data=.dict es ep→H b=none:=fun {b o es ep} e d=>by
   cases q:H b with
   | none=>rfl
   | some u=>
    have e':b=a:=hA b (by rw [q];simp)
    subst e'
    rw [ha] at e;cases e
    have d':Data.seq vs.toArray _=Data.dict es ep:=d
    cases d'
  have nsK:∀{b:Addr} {m:Str→Option Value},s₁.heap.Ns b m→(a9t s₁.heap H).Ns b m:=fun {b m} ⟨o,es,ep,e,d,r⟩=>⟨o,es,ep,base_of e (noA e d),d,r⟩
  have hKb:K.In (a9t s₁.heap H):=fun b o e=>base_of (KX b o e) (by
   cases q:H b with
   | none=>rfl
   | some u=>
    have e':b=a:=hA b (by rw [q];simp)
    subst e'
    rw [hK (by rw [q];simp)] at e;cases e)
  have hM:Mod K mg (a9t s₁.heap H):=⟨hKb,nsK hns,⟨mb,nsK hb,hbb⟩,let ⟨mc,h1,h2⟩:=hlim;⟨mc,nsK h1,h2⟩⟩
  have e0:b1T P w K mg (a9t s₁.heap H) callerA [] s₁ H:=⟨rfl,hM,fun b o e=>b2c e,Ue (a8y _ _),trivial,fun b hb=>absurd (show b∈([]:List Addr) from hb) (by simp),hok,.of_eq hg⟩
  refine codeAny_mono ((F _ hKb (nsK hns)).run callerA [] s₁ H ⟨[.ref a],[]⟩ [.ref a] [.ref a] _ _ hr e0 (hbind s₁ (.ref a)) (.cons rfl .nil) (hsp H hO hS)) fun r s' h=>?_
  cases r with
  | error e=>exact (hCX H e s' h).elim
  | ok fl=>
   cases fl with
   | next=>exact False.elim h
   | brk=>exact False.elim h
   | cont=>exact False.elim h
   | ret u=>
    obtain ⟨v,H',os,bare,un,hok',r',q⟩:=h
    have q':v=.bl true:=q
    subst q'
    obtain rfl:u=Value.bool true:=r'
    refine ⟨rfl,OldK.of_keep fun b o e=>?_,os,bare⟩
    cases q:H b with
    | none=>exact un.keep b o e q (by intro z;exact absurd (show b∈([]:List Addr) from z) (by simp)) (by simp)
    | some u=>
     rcases hO b with z | ⟨ob,xs,z⟩
     ·rw [q] at z;cases z
     ·have z2:=un.frzs b ob _ z
      obtain ⟨e1,_⟩:=hok b _ z
      obtain ⟨e2,_⟩:=hok' b _ z2
      rw [e] at e1;cases e1
      exact e2
 cases hk:K.lookup a with
 | some o=>
  have e:=KX a o hk
  rw [ha] at e
  cases e
  refine core (fun _=>none) (fun _=>.inl rfl) (.inr ⟨_,vs.toArray,_,hk,rfl,rfl,rfl,by rw [Ql,lenV];exact hl,by simpa using rv⟩) (fun b u z=>by have z':(none:Option HO)=some u:=z;cases z') (fun b z=>absurd rfl z) fun z=>absurd rfl z
 | none=>
  refine core (fun b=>if b=a then some (.frz {cls:=.type "list",data:=.seq vs.toArray} (.lst (ns.map V.int))) else none) (fun b=>?_) (.inl (.inr ⟨{cls:=.type "list",data:=.seq vs.toArray},if_pos rfl⟩)) (fun b u z=>?_) (fun b z=>?_) fun _=>hk
  ·by_cases hb:b=a
   ·exact .inr ⟨_,_,if_pos hb⟩
   ·exact .inl (if_neg hb)
  ·by_cases hb:b=a
   ·have z':=(if_pos hb).symm.trans z
    cases z'
    subst hb
    exact ⟨ha,by rw [Qc];exact hl,vs,_,rv,ha⟩
   ·have z':=(if_neg hb).symm.trans z
    cases z'
  ·by_cases hb:b=a
   ·exact hb
   ·exact absurd (if_neg hb) z
abbrev KOf {K:Qd} {h:Heap} (_:K.In h):Qd:=K
theorem b1P {l:We} {n k:Nat} {q:Program} {loose:List Str} {XP:(Str→Option Value)→Heap→Prop} {YP:World→Heap→Prop} {d:DefRec} {K:Params→Qd} {CX:World→CXT} {sp:World→Sp} {x:Str}
  (hn:l.most=some n) (hn2:n≤sizeLine) (hdf:d.params.defaults=[]) (hr:a2p k callerA)
  (hY:∀(w:World) (h:Heap),YP w h→(K w.params).In h)
  (F:∀(w:World) (mg:Str→Option Value) (fa:Addr) (h:Heap),(K w.params).In h→h.Ns mainGlobals mg→mg d.name=some (.ref fa)→
   ∃fd:FuncData,(∀(s:Shared) (u:Value),BindsTo s fd ⟨[u],[]⟩ [(x,u)])∧
    ∀base:Heap,(K w.params).In base→base.Ns mainGlobals mg→a0S l.prog w (K w.params) mg base (CX w) k fa fd [x] (sp w))
  (hsp:∀(w:World) (H:Hp) (a:Addr) (ns:List Int),ns.length≤n→b4b H→SqL (K w.params) H a (ns.map V.int)→sp w [.ref a] H (fun v _=>v=.bl true) fun _ _ _=>False)
  (hCX:∀(w:World) (H:Hp) (s:Shared) (e:Value) (s':Shared),CX w [] H s (fun _ _ _=>False) e s'→False):
  PySem.W.WalkO q loose XP YP l.row.toRowW d [] (fun f vs=>PySem.call f vs):=by
 refine Att.attach_call hn hdf fun w s₀ s₁ mg mb fa o pm cd doc a vs ns G Y ho hd hcd hmg hobj hints hlen hg=>?_
 have KX:=hY w _ Y
 obtain ⟨fd,hb,hF⟩:=F w mg fa _ KX G.T.g hmg
 exact a9R KX G.T.g G.T.b G.T.builtins G.T.nolimit hg hobj hints (Qi hlen hn2) hr hF hb (fun H hO hS=>hsp w H a ns hlen hO hS) fun H e s'=>hCX w H s₁ e s'
theorem a9v {l:We} {n k:Nat} {q:Program} {loose:List Str} {XP:(Str→Option Value)→Heap→Prop} {YP:World→Heap→Prop} {d:DefRec} {K:Params→Qd} {CX:CXT} {sp:Qd→Sp} {x:Str}
  (hn:l.most=some n) (hn2:n≤sizeLine) (hdf:d.params.defaults=[]) (hr:a2p k callerA)
  (hY:∀(w:World) (h:Heap),YP w h→(K w.params).In h)
  (F:∀(w:World) (mg:Str→Option Value) (fa:Addr) (h:Heap),(K w.params).In h→h.Ns mainGlobals mg→mg d.name=some (.ref fa)→
   ∃fd:FuncData,(∀(s:Shared) (u:Value),BindsTo s fd ⟨[u],[]⟩ [(x,u)])∧
    ∀base:Heap,(K w.params).In base→base.Ns mainGlobals mg→a0S l.prog w (K w.params) mg base CX k fa fd [x] (sp (K w.params)))
  (hsp:∀(K:Qd) (H:Hp) (a:Addr) (ns:List Int),ns.length≤n→b4b H→SqL K H a (ns.map V.int)→sp K [.ref a] H (fun v _=>v=.bl true) fun _ _ _=>False)
  (hCX:∀(H:Hp) (s:Shared) (e:Value) (s':Shared),CX [] H s (fun _ _ _=>False) e s'→False):
  PySem.W.WalkO q loose XP YP l.row.toRowW d [] (fun f vs=>PySem.call f vs):=
 b1P (K:=K) (CX:=fun _=>CX) (sp:=fun w=>sp (K w.params)) hn hn2 hdf hr hY F (fun w H a ns h1 h2 h3=>hsp (K w.params) H a ns h1 h2 h3) fun _ H s e s'=>hCX H s e s'












abbrev CX0:CXT:=fun _ _ _ _ _ _=>False
abbrev E0:XK:=fun _ _ _=>False
theorem a8M {X:Cx}:a2w CX0 X E0:=fun _ _ _ _ _ _ _ h=>h.elim
structure Fun (K:Qd) (x qual:Str) (st:Stmt) (f:Addr) (fd:FuncData):Prop where
 ex:∃(oc:Value) (od:Option Addr) (kV doc pm:Value) (an:Option Addr) (cdv ct:Value) (osl:Array (Option Value)),
  fd=Zu x qual (a2R st) (a2n st) (a0a st) .none kV doc pm an cdv ct∧K.lookup f=some ⟨oc,od,.func fd,osl⟩∧Jr K cdv qual=true
 kp:Zc K (.ref f)=true
section
variable {P:Program} {w:World} {K:Qd} {mg:Str→Option Value} {base:Heap}
theorem Fun.ok {x qual:Str} {st:Stmt} {f:Addr} {fd:FuncData} {N ps:List Str} {k:Nat} {sp:Sp} (F:Fun K x qual st f fd) (S:a0e N ps (a0a st)) (len:∀vs H Q E,sp vs H Q E→vs.length=ps.length)
  (hbody:∀(cdv:Value) (A:Around) (outer:List Env) (s:Shared) (H:Hp) (vs:List V) (Q:VK) (E:XK),a2p k (A.deeper (envOfC qual (a0a st) s.heap.objs.size f cdv))→sp vs H Q E→
   ∃t,PSs (b2y CX0 P w K mg base N qual (a0a st) f cdv A outer s H E).nox (a2n st) t∧t {nx:=fun _ H'=>Q .non H',rt:=Q} (a0q N vs) H):a0S P w K mg base CX0 (k+1) f fd ps sp:=by
 obtain ⟨oc,od,kV,doc,pm,an,cdv,ct,osl,rfl,lk,hcd⟩:=F.ex
 refine b6G lk hcd S len fun A outer s H vs Q E hr hsp=>?_
 obtain ⟨t,h,q⟩:=hbody cdv A outer s H vs Q E hr hsp
 exact ⟨t,h.nox,q⟩
theorem b4Y {x qual:Str} {st:Stmt} {f:Addr} {oc:Value} {od an:Option Addr} {osl:Array (Option Value)} {kV doc pm cdv ct:Value} (l:K.lookup f=some ⟨oc,od,.func (Zu x qual (a2R st) (a2n st) (a0a st) .none kV doc pm an cdv ct),osl⟩)
  (c:Jr K cdv qual=true) (k:Zc K (.ref f)=true):Fun K x qual st f (Zu x qual (a2R st) (a2n st) (a0a st) .none kV doc pm an cdv ct):=⟨⟨oc,od,kV,doc,pm,an,cdv,ct,osl,rfl,l,c⟩,k⟩
end
theorem a2U {A:Around} {k:Nat} (hr:a2p k A):A.units+1 < cLine:=Xj (Nat.add_le_add_left (by decide:1≤64) _) hr.units
section
variable {X:Cx}
theorem pv (i:Nat) {x:Str} {pos:Pos} (hN:X.N[i]?=some x:=by rfl) (hv:Vis X.env.scope x:=by first | exact Or.inl rfl | exact Or.inr (Or.inl rfl) | exact Or.inr (Or.inr rfl)) (hd:(x == ("__debug__":Str))=false:=by decide)
  (hcd:(x == ("__classdict__":Str))=false:=by decide):PE X (.Name x pos) (a0o i):=b5I hN hv hd hcd
end
theorem a1d {c A B:Prop} [Decidable c] (h1:c→A) (h2:¬c→B):if c then A else B:=by
 by_cases h:c
 ·rw [if_pos h]
  exact h1 h
 ·rw [if_neg h]
  exact h2 h
def a0h (H H':Hp):Prop:=∀b o,H b=some o→H' b=some o
theorem a0h.refl (H:Hp):a0h H H:=fun _ _ h=>h
theorem a0h.trans {H H1 H2:Hp} (a:a0h H H1) (b:a0h H1 H2):a0h H H2:=fun c o h=>b c o (a c o h)
theorem a0h.free {H H':Hp} (e:a0h H H') {l:Addr} (h:H' l=Option.none):H l=Option.none:=by
 cases q:H l with
 | none=>rfl
 | some o=>
  rw [e l o q] at h
  cases h
theorem a0h.seq {K:Qd} {H H':Hp} {a:Addr} {xs:List V} (e:a0h H H') (h:SqL K H a xs):SqL K H' a xs:=by
 rcases h with (h | ⟨o,h⟩) | h
 ·exact .inl (.inl (e _ _ h))
 ·exact .inl (.inr ⟨o,e _ _ h⟩)
 ·exact .inr h
section
variable {X:Cx}
theorem a7k:a1U X (.builtin "len") (fun xs H Q=>∃a kvs,xs=[V.ref a]∧H a=some (.dK kvs)∧Q (.int kvs.length) H):=by
 intro pins s σ H xs us Q I r h
 obtain ⟨a,kvs,rfl,ha,q⟩:=h
 obtain ⟨u,rfl,ru⟩:=a3C r
 cases ru
 exact b6M I (.inl ha) fun t s' I'=>⟨.int kvs.length,H,I',⟨t,rfl⟩,q⟩
end
end L2
namespace Tx
open PySem PySem.Builtin PySem.Builtin.Str PySem.StrLaws PyProof.Rows
abbrev mk (l:List Nat):Str:=⟨l.toArray⟩
theorem b2I (x:Str):mk x.cps.toList=x:=by obtain ⟨⟨l⟩⟩:=x;rfl
theorem a1W (l:List Nat):(mk l).length=l.length:=by show l.toArray.size=_;simp
theorem b0S (a b:List Nat):mk a++mk b=mk (a++b):=by
 show (⟨a.toArray++b.toArray⟩:Str)=_
 simp
theorem a7v (l:List Nat) (c i:Nat):subAt (mk l) (mk [c]) i=decide (l[i]?=some c):=by
 rw [subAt_eq]
 show ((l.drop i).take 1 == [c])=_
 cases e:l[i]? with
 | none=>
  have:l.drop i=[]:=List.drop_eq_nil_of_le (by simpa using e)
  rw [this];simp
 | some d=>
  have hi:=(Qv.mp e)
  obtain ⟨h1,h2⟩:=hi
  rw [Ub h1,h2]
  show (d == c && true)=decide (some d=some c)
  by_cases z:d=c
  ·subst z;simp
  ·simp [z]
theorem b3b (l:List Nat) (i j:Nat):strSub (mk l) i j=mk ((l.drop i).take (j - i)):=by
 rw [←b2I (strSub (mk l) i j),strSub_toList]
theorem a6f (c:Nat) (l:List Nat):Zk (mk l) (mk [c])=decide (l[0]?=some c):=by
 unfold Zk
 rw [a7v,a1W,a1W]
 cases l with
 | nil=>rfl
 | cons d r=>simp
end Tx
namespace L2
open PySem PySem.Spec PyProof.Rows
abbrev NoE:Value→Shared→Prop:=fun _ _=>False
section
variable {prog:Program} {w:World} {A:Around} {R:Result→Shared→Prop} {s:Shared}
theorem a4C {elt target iter:Expr} {ifs:List Expr} {scope:Scope} {pos:Pos} {it acc:Value} {env:Env} (I:Nat→Shared→Prop)
  (turn:∀n s,I n s→wpAny (model prog w) A (pyNext it) (fun r s₁=>match r with
   | none=>R (.ok .next) s₁
   | some v=>wpAny (model prog w) A (letOwnedTupleGo target it v) (fun _ s₂=>wpAny (model prog w) A (assign target env v) (fun _ s₃=>
     wpAny (model prog w) A (forIn ifs true fun c r=>if r=true then do let ok ←isTrue c env (eval c env);pure (ForInStep.yield ok) else pure (ForInStep.yield r)) (fun ok s₄=>
      if ok=true then wpAny (model prog w) A (eval elt env) (fun x s₅=>wpAny (model prog w) A (call (.builtin "list.append") [acc,x]) (fun _ s₆=>∃m,m < n∧I m s₆) NoE s₅) NoE s₄
      else ∃m,m < n∧I m s₄) NoE s₃) NoE s₂) NoE s₁) NoE s)
  (n:Nat) (h:I n s):codeAny (model prog w) A (.compLoop (.ListComp elt [⟨target,iter,ifs,0⟩] scope pos) 0 it acc env) R s:=by
 refine codeAny_loop rfl I (fun n s hI=>?_) n h
 show wpAny _ A ((compTurn (.ListComp elt [⟨target,iter,ifs,0⟩] scope pos) 0 it acc env).onRaise (fun x=>do noteFrame x env;theTreesLotGoes x)) _ _ s
 refine wpAny_noted ?_
 rw [compTurn_list]
 refine wpAny_noRaise ?_
 refine wpAny_bind (wpAny_standAt (wpAny_bind (wpAny_mono (turn n s hI) (fun r s₁ h₁=>?_) fun _ _ h'=>h')))
 cases r with
 | none=>exact wpAny_pure h₁
 | some v=>
  refine wpAny_bind (wpAny_mono h₁ (fun _ s₂ h₂=>wpAny_bind (wpAny_mono h₂ (fun _ s₃ h₃=>wpAny_bind (wpAny_mono h₃ (fun ok s₄ h₄=>?_) fun _ _ h'=>h')) fun _ _ h'=>h')) fun _ _ h'=>h')
  cases ok with
  | false=>exact wpAny_pure ⟨rfl,h₄⟩
  | true=>exact wpAny_bind (wpAny_bind (wpAny_mono h₄ (fun x s₅ h₅=>wpAny_bind (wpAny_mono h₅ (fun _ s₆ h₆=>wpAny_pure (wpAny_pure ⟨rfl,h₆⟩)) fun _ _ h'=>h')) fun _ _ h'=>h'))
end
def a2A (env:Env):List (Str×NameKind)→List (Str×Addr)→List (Str×Addr)
 | [],cs=>cs
 | (n,k)::r,cs=>a2A env r (if (k == NameKind.free)=true then (n,(env.cells.lookup n).getD 0)::cs else cs)
theorem a1Q {scope:Scope} {env:Env} (h:∀y∈scope.names,y.2=NameKind.free→∃c,env.cells.lookup y.1=some c):closureFor scope env=pure (a2A env scope.names []):=by
 have all:∀(l:List (Str×NameKind)) (cs:List (Str×Addr)),(∀y∈l,y.2=NameKind.free→∃c,env.cells.lookup y.1=some c)→
   (forIn l cs fun (x:Str×NameKind) (cs:List (Str×Addr))=>(if (x.2 == NameKind.free)=true then do let a ←cellOf env x.1;pure (ForInStep.yield ((x.1,a)::cs)) else pure (ForInStep.yield cs):Sem (ForInStep (List (Str×Addr)))))=pure (a2A env l cs):=by
  intro l
  induction l with
  | nil=>intro cs _;rfl
  | cons y l ih=>
   intro cs hy
   obtain ⟨n,k⟩:=y
   rw [List.forIn_cons]
   by_cases hk:(k == NameKind.free)=true
   ·obtain ⟨c,hc⟩:=hy (n,k) Xg (by simpa using hk)
    have e1:cellOf env n=pure c:=by unfold cellOf;rw [hc]
    have e2:a2A env ((n,k)::l) cs=a2A env l ((n,c)::cs):=by
     show a2A env l (if (k == NameKind.free)=true then (n,(env.cells.lookup n).getD 0)::cs else cs)=_
     rw [if_pos hk,hc];rfl
    rw [e2,←ih ((n,c)::cs) fun z hz=>hy z (Qu _ hz)]
    simp only [hk,if_true,e1,pure_bind]
   ·have e2:a2A env ((n,k)::l) cs=a2A env l cs:=by
     show a2A env l (if (k == NameKind.free)=true then (n,(env.cells.lookup n).getD 0)::cs else cs)=_
     rw [if_neg hk]
    rw [e2,←ih cs fun z hz=>hy z (Qu _ hz)]
    have hk':(k == NameKind.free)=false:=by simpa using hk
    simp only [hk',Ju,if_false,pure_bind]
 have e:=all scope.names [] h
 unfold closureFor
 first
  | (rw [show (pure (a2A env scope.names []):Sem (List (Str×Addr)))=(pure (a2A env scope.names []) >>= fun cs=>pure cs) from rfl,←e];rfl)
  | (simp only [bind_pure];exact e)
  | (simpa using e)
theorem a4d {env:Env} {x:Str} {c:Addr}:∀{l:List (Str×NameKind)} {cs:List (Str×Addr)},(∀y∈l,y.2=NameKind.free→∃c,env.cells.lookup y.1=some c)→
  (∀y d,cs.lookup y=some d→env.cells.lookup y=some d)→(a2A env l cs).lookup x=some c→env.cells.lookup x=some c
 | [],_,_,hc,h=>hc x c h
 | (n,k)::r,cs,hy,hc,h=>by
  refine a4d (l:=r) (cs:=if (k == NameKind.free)=true then (n,(env.cells.lookup n).getD 0)::cs else cs) (fun z hz=>hy z (Qu _ hz)) (fun y d q=>?_) h
  by_cases hk:(k == NameKind.free)=true
  ·rw [if_pos hk] at q
   obtain ⟨c',hc'⟩:=hy (n,k) Xg (by simpa using hk)
   rw [hc',Yc] at q
   by_cases e:(y == n)=true
   ·rw [e] at q
    have e':y=n:=by simpa using e
    rw [e',hc'];exact q
   ·have e':(y == n)=false:=by simpa using e
    rw [e'] at q
    exact hc y d q
  ·rw [if_neg hk] at q
   exact hc y d q
theorem a3T {env:Env} {x:Str}:∀{l:List (Str×NameKind)} {cs:List (Str×Addr)},((x,NameKind.free)∈l∨∃c,cs.lookup x=some c)→∃c,(a2A env l cs).lookup x=some c
 | [],_,h=>by
  rcases h with h | h
  ·cases h
  ·exact h
 | (n,k)::r,cs,h=>by
  refine a3T (l:=r) (cs:=if (k == NameKind.free)=true then (n,(env.cells.lookup n).getD 0)::cs else cs) ?_
  rcases h with h | ⟨c,h⟩
  ·rcases Qx.mp h with e | e
   ·cases e
    refine .inr ?_
    rw [if_pos (by rfl),Yc,beq_self_eq_true]
    exact ⟨_,rfl⟩
   ·exact .inl e
  ·refine .inr ?_
   by_cases hk:(k == NameKind.free)=true
   ·rw [if_pos hk,Yc]
    by_cases e:(x == n)=true
    ·rw [e];exact ⟨_,rfl⟩
    ·have e':(x == n)=false:=by simpa using e
     rw [e'];exact ⟨c,h⟩
   ·rw [if_neg hk];exact ⟨c,h⟩
theorem a1v {env:Env}:∀{names:List (Str×NameKind)} {x:Str},names.lookup x=some .free→
  (names.map fun (n,k)=>if (k == NameKind.free && env.scope.kind == .function && env.kindOf n == some .cell) then (n,NameKind.cell) else (n,k)).lookup x=some .cell∨
  (names.map fun (n,k)=>if (k == NameKind.free && env.scope.kind == .function && env.kindOf n == some .cell) then (n,NameKind.cell) else (n,k)).lookup x=some .free
 | [],_,h=>by simp at h
 | (n,k)::r,x,h=>by
  have ih:=@a1v env r x
  rw [Xm]
  show Za x ((if (k == NameKind.free && env.scope.kind == .function && env.kindOf n == some .cell)=true then (n,NameKind.cell) else (n,k))::_)=_∨Za x ((if (k == NameKind.free && env.scope.kind == .function && env.kindOf n == some .cell)=true then (n,NameKind.cell) else (n,k))::_)=_
  cases hx:x == n with
  | true=>
   simp only [Yc,hx] at h
   cases h
   by_cases hc:(NameKind.free == NameKind.free && env.scope.kind == .function && env.kindOf n == some .cell)=true
   ·rw [if_pos hc];exact .inl (by simp only [Yc,hx])
   ·rw [if_neg hc];exact .inr (by simp only [Yc,hx])
  | false=>
   simp only [Yc,hx] at h
   by_cases hc:(k == NameKind.free && env.scope.kind == .function && env.kindOf n == some .cell)=true
   ·rw [if_pos hc];simp only [Yc,hx];exact ih h
   ·rw [if_neg hc];simp only [Yc,hx];exact ih h
theorem a3B {env:Env}:∀{names:List (Str×NameKind)} {x:Str},(∀y∈names,y.2≠NameKind.cell)→
  ((names.map fun (n,k)=>if (k == NameKind.free && env.scope.kind == .function && env.kindOf n == some .cell) then (n,NameKind.cell) else (n,k)).lookup x=some .cell∨
  (names.map fun (n,k)=>if (k == NameKind.free && env.scope.kind == .function && env.kindOf n == some .cell) then (n,NameKind.cell) else (n,k)).lookup x=some .free)→(x,NameKind.free)∈names
 | [],_,_,h=>by rcases h with h | h<;>simp at h
 | (n,k)::r,x,hn,h=>by
  have ih:=@a3B env r x fun y hy=>hn y (Qu _ hy)
  have hk:=hn (n,k) Xg
  rw [Xm] at h
  by_cases hc:(k == NameKind.free && env.scope.kind == .function && env.kindOf n == some .cell)=true
  ·have hk1:k=NameKind.free:=by
    rw [Qs,Qs] at hc
    simpa using hc.1.1
   simp only [hc,if_true,Yc] at h
   cases hx:x == n with
   | true=>have e:x=n:=(by simpa using hx);rw [e,hk1];exact Xg
   | false=>rw [hx] at h;exact Qu _ (ih h)
  ·have hc':(k == NameKind.free && env.scope.kind == .function && env.kindOf n == some .cell)=false:=by simpa using hc
   simp only [hc',Ju,if_false,Yc] at h
   cases hx:x == n with
   | true=>
    rw [hx] at h
    have e:x=n:=by simpa using hx
    rcases h with h | h
    ·exact absurd (Option.some.inj h) hk
    ·rw [e,Option.some.inj h];exact Xg
   | false=>rw [hx] at h;exact Qu _ (ih h)
def a1f (X:Cx) (Nc:List Str) (scope:Scope) (cl:List (Str×Addr)) (C:Addr) (s:Shared) (H:Hp) (ex:List Addr):Cx where
 prog:=X.prog
 w:=X.w
 K:=X.K
 mg:=X.mg
 base:=X.base
 A:=X.A
 N:=Nc
 s₀:=s
 H₀:=H
 env:=compEnvC scope cl C X.env
 outer:=X.stack
 stack:=X.stack
 ex:=ex
 fn:=fun _=>false
 calm:=X.calm
 pn:=[]
 xe:=NoE
def a1Y (js:List (Option Nat)) (σ:St):St:=js.map fun o=>match o with
 | none=>none
 | some j=>(σ[j]?).getD none
structure a5F (X:Cx) (Nc:List Str) (js:List (Option Nat)) (scope:Scope):Prop where
 kind:scope.kind=.function
 nocell:∀y∈scope.names,y.2≠NameKind.cell
 names:∀y∈scope.names,y.2=NameKind.local→scope.names.lookup y.1=some NameKind.local
 free:∀y∈scope.names,y.2=NameKind.free→X.env.kindOf y.1=some NameKind.cell∨X.env.kindOf y.1=some NameKind.free
 len:js.length=Nc.length
 map:∀(i:Nat) (y:Str) (j:Nat),Nc[i]?=some y→js[i]?=some (some j)→X.N[j]?=some y∧scope.names.lookup y=some NameKind.free
def b3G (sc:Scope) (N Nc:List Str) (js:List (Option Nat)) (scope:Scope):Bool:=
 scope.kind == .function && scope.names.all (fun y=>y.2 != NameKind.cell) && scope.names.all (fun y=>y.2 != NameKind.local || scope.names.lookup y.1 == some NameKind.local) &&
 scope.names.all (fun y=>y.2 != NameKind.free || sc.names.lookup y.1 == some NameKind.cell || sc.names.lookup y.1 == some NameKind.free) && js.length == Nc.length &&
 (Nc.zip js).all (fun p=>match p.2 with | none=>true | some j=>N[j]? == some p.1 && scope.names.lookup p.1 == some NameKind.free)
theorem a8S {X:Cx} {sc:Scope} {N Nc:List Str} {js:List (Option Nat)} {scope:Scope} (hsc:X.env.scope=sc) (hN:X.N=N) (h:b3G sc N Nc js scope=true):a5F X Nc js scope:=by
 unfold b3G at h
 rw [Qs,Qs,Qs,Qs,Qs] at h
 obtain ⟨⟨⟨⟨⟨h1,h2⟩,h3⟩,h4⟩,h5⟩,h6⟩:=h
 rw [Yu] at h2 h3 h4 h6
 have h5':js.length=Nc.length:=by simpa using h5
 refine ⟨by simpa using h1,fun y hy=>by simpa using h2 y hy,fun y hy e=>?_,fun y hy e=>?_,h5',fun i y j e1 e2=>?_⟩
 ·have q:=h3 y hy
  rw [e] at q
  simpa using q
 ·have q:=h4 y hy
  rw [e] at q
  show X.env.scope.names.lookup y.1=_∨X.env.scope.names.lookup y.1=_
  rw [hsc]
  simpa using q
 ·have hm:(y,some j)∈Nc.zip js:=by
   refine Ji (i:=i) ?_
   rw [List.getElem?_zip_eq_some]
   exact ⟨e1,e2⟩
  have q:=h6 _ hm
  simp only [Qs,beq_iff_eq] at q
  rw [hN]
  exact q
def PTs (X:Cx) (ifs:List Expr) (t:TT):Prop:=
 ∀(pins:List (Addr×Obj)) (s:Shared) (σ:St) (H:Hp) (Q:Bool→Hp→Prop),Inv X pins σ H s→t σ H Q→
  wpAny (model X.prog X.w) X.A (forIn ifs true fun c r=>if r=true then do let ok ←isTrue c X.env (eval c X.env);pure (ForInStep.yield ok) else pure (ForInStep.yield r)) (TP X pins σ Q) X.xe s
def b4R:TT:=fun _ H Q=>Q true H
theorem b1C {X:Cx}:PTs X [] b4R:=fun pins s σ H Q I h=>wpAny_tests_nil ⟨H,I,h⟩
theorem b1F {X:Cx} {c:Expr} {t:TT} (hc:PT X c t):PTs X [c] t:=fun pins s σ H Q I h=>wpAny_tests_one (hc pins s σ H Q I h)
def b1Z (js:List (Option Nat)) (wi:TI) (g:TG) (tt:TT) (te:TE):TE:=fun σ H Q=>wi σ H fun J H1=>∀D,H1 D=none→∃W:Nat→Nat→St→Hp→List V→Prop,(∃m,W 0 m (a1Y js σ) (upd H1 D (.lst [])) [])∧
 ∀i m σ' H' ys,W i m σ' H' ys→H' D=some (.lst ys)∧((J.stop i H'∧Q (.ref D) H')∨(J.go i H'∧ys.length < sizeLine∧∀x H2,J.yld i H' x H2→g x σ' H2 fun σ2 H3=>tt σ2 H3 fun b H4=>
  if b=true then te σ2 H4 fun v H5=>H5 D=some (.lst ys)∧∃m',m' < m∧W (i+1) m' σ2 (upd H5 D (.lst (ys++[v]))) (ys++[v]) else ∃m',m' < m∧W (i+1) m' σ2 H4 ys))
section
variable {X:Cx} {elt target iter:Expr} {ifs:List Expr} {scope:Scope} {pos:Pos} {Nc:List Str} {js:List (Option Nat)} {wi:TI} {g:TG} {tt:TT} {te:TE}
theorem a3u {pins:List (Addr×Obj)} {σ:St} {H2:Hp} {s₂:Shared} {E:Value→Shared→Prop} {it:Addr} {fp:List Addr} {tn:Nat→Heap→Prop} {J:It} {Q:VK} {RR:Value→Addr→Result→Shared→Prop} (ok:a5F X Nc js scope) (hc:X.calm=true)
  (hg:∀C cl s H ex,PG (a1f X Nc scope cl C s H ex) target g) (ht:∀C cl s H ex,PTs (a1f X Nc scope cl C s H ex) ifs tt) (he:∀C cl s H ex,PE (a1f X Nc scope cl C s H ex) elt te)
  (I2:Inv X pins σ H2 s₂) (T:b2A X.prog X.w X.K target J fp it tn) (st2:tn 0 s₂.heap) (f2:∀b∈fp,a6C X pins H2 b)
  (h:∀D,H2 D=none→∃W:Nat→Nat→St→Hp→List V→Prop,(∃m,W 0 m (a1Y js σ) (upd H2 D (.lst [])) [])∧
   ∀i m σ' H' ys,W i m σ' H' ys→H' D=some (.lst ys)∧((J.stop i H'∧Q (.ref D) H')∨(J.go i H'∧ys.length < sizeLine∧∀x H2,J.yld i H' x H2→g x σ' H2 fun σ2 H3=>tt σ2 H3 fun b H4=>
    if b=true then te σ2 H4 fun v H5=>H5 D=some (.lst ys)∧∃m',m' < m∧W (i+1) m' σ2 (upd H5 D (.lst (ys++[v]))) (ys++[v]) else ∃m',m' < m∧W (i+1) m' σ2 H4 ys)))
  (hRR:∀(D C:Addr) (s':Shared) (H':Hp) (m:Str→Option Value),Inv X pins σ H' s'→s'.heap.Ns C m→a6C X pins H' C→Q (.ref D) H'→RR (.ref D) C (.ok .next) s'):
  wpAny (model X.prog X.w) X.A (newList []) (fun acc s₃=>wpAny (model X.prog X.w) X.A (newFunctionEnv scope X.env.globals (a2A X.env scope.names []) [] X.env.qual none .none (some X.env)) (fun cenv s₄=>
   codeAny (model X.prog X.w) X.A (.compStart (.ListComp elt [⟨target,iter,ifs,0⟩] scope pos) 0 (.ref it) acc {cenv with scope:=relabel scope X.env}) (RR acc cenv.locals) s₄) E s₃) E s₂:=by
 have hfr:∀y∈scope.names,y.2=NameKind.free→∃c,X.env.cells.lookup y.1=some c:=fun y hy e=>I2.ok.has y.1 (ok.free y hy e)
 refine wpAny_newObj_type (wpAny_newFunctionEnv ok.nocell (by intro y hy;simp at hy) (fun h₁ hns₁ hsb₁=>?_) ok.kind)
 dsimp only at hns₁ hsb₁ ⊢
 generalize hHL:s₂.heap.push {cls:=.type "list",dict:=none,data:=.seq ([]:List Value).toArray}=HL at hns₁ hsb₁ ⊢
 have hC:HL.objs.size=s₂.heap.objs.size+1:=by rw [←hHL,Jq]
 have hCle:s₂.heap.objs.size≤HL.objs.size:=by rw [hC];exact Zj _
 have hDC:s₂.heap.objs.size≠HL.objs.size:=by rw [hC];exact Xc (Uf _)
 have old:∀b o,s₂.heap.get? b=some o→h₁.get? b=some o:=fun b o e=>hsb₁.extBut b o (Xc (Xd (Qo e) hCle)) (Qm _ (hHL ▸ Qm _ e))
 have hacc:h₁.get? s₂.heap.objs.size=some {cls:=.type "list",dict:=none,data:=.seq ([]:List Value).toArray}:=hsb₁.extBut _ _ hDC (Qm _ (hHL ▸ Xh _ rfl))
 have hD0:H2 s₂.heap.objs.size=none:=I2.hok.fresh (Qk _)
 have hC0:H2 HL.objs.size=none:=I2.hok.fresh hCle
 obtain ⟨W,⟨m0,w0⟩,turn⟩:=h _ hD0
 have hlook:∀x c,(a2A X.env scope.names []).lookup x=some c→X.env.cells.lookup x=some c:=fun x c e=>a4d hfr (fun y d q=>by simp at q) e
 have hlt:∀b∈fp,b < s₂.heap.objs.size:=fun b hb=>let ⟨o,e,_⟩:=T.obj 0 _ st2 b hb;Qo e
 have okc:(a1f X Nc scope (a2A X.env scope.names []) HL.objs.size s₂ H2 fp).Ok:=by
  refine ⟨I2.ok.mod,by show scope.kind=_;exact ok.kind,I2.ok.glob,I2.ok.blt,hCle,fun x y c e1 e2=>I2.ok.inj x y c (hlook x c e1) (hlook y c e2),fun x hx=>?_,fun x c z _=>absurd z Qp,I2.ok.hd,I2.ok.frames,.inl rfl,fun b hb=>⟨?_,fun x c e=>(f2 b hb).2.2.2.2.1 x c (hlook x c e)⟩,
   I2.bs,Qi I2.ok.bsz I2.sz,fun b o e hb=>?_,fun b hb z=>?_,I2.stack,I2.stkFree⟩
  ·exact a3T (.inl (a3B ok.nocell hx))
  ·exact Xc (Xd (hlt b hb) hCle)
  ·rcases (f2 b hb).2.2.2.1 with z | z
   ·exact I2.ok.noex b o e z
   ·exact absurd (Xd (Qo e) (Qi I2.ok.bsz z)) (Zn _)
  ·rcases Qx.mp (I2.stkSub b z) with e | e
   ·exact (f2 b hb).2.1 e
   ·exact (f2 b hb).2.2.1 e
 have fpc:∀{H':Hp},(∀b∈fp,H' b=none)→∀b∈fp,a6C (a1f X Nc scope (a2A X.env scope.names []) HL.objs.size s₂ H2 fp) [] H' b:=fun {H'} hn b hb=>
  ⟨hn b hb,(okc.exf b hb).1,okc.exfs b hb,.inl hb,(okc.exf b hb).2,fun p hp=>absurd (show p∈([]:List (Addr×Obj)) from hp) (by simp)⟩
 have Ic:Inv (a1f X Nc scope (a2A X.env scope.names []) HL.objs.size s₂ H2 fp) [] (a1Y js σ) (upd H2 s₂.heap.objs.size (.lst [])) {s₂ with heap:=h₁,toks:=s₂.toks+([]:List (Str×Value)).length}:=by
  refine ⟨okc,rfl,I2.bare,Un.laid old (Qk _) hD0,⟨_,hns₁,fun i x v e1 e2 e3=>?_⟩,fun x c e=>?_,?_,fun x c e=>?_,fun p hp=>absurd (show p∈([]:List (Addr×Obj)) from hp) (by simp),?_,?_⟩
  ·have e1':Nc[i]?=some x:=e1
   unfold a1Y at e2
   rw [Qy] at e2
   cases ej:js[i]? with
   | none=>rw [ej] at e2;simp at e2
   | some oj=>
    rw [ej] at e2
    cases oj with
    | none=>simp at e2
    | some j=>
     have e2':(σ[j]?).getD none=some v:=by simpa using e2
     have e2'':σ[j]?=some (some v):=by
      cases q:σ[j]? with
      | none=>rw [q] at e2';simp at e2'
      | some z=>rw [q] at e2';simp at e2';rw [e2']
     obtain ⟨hN,hF⟩:=ok.map i x j e1' ej
     have hmem:(x,NameKind.free)∈scope.names:=PySem.mem_of_lookup hF
     have hkX:=ok.free _ hmem rfl
     obtain ⟨m,hn,hl⟩:=I2.loc
     have hvis:Vis X.env.scope x:=by
      rcases hkX with z | z
      ·exact .inr (.inl z)
      ·exact .inr (.inr z)
     obtain ⟨u,ru,lk⟩:=hl j x v hN e2'' hvis
     refine ⟨u,ru,.inr ?_⟩
     rcases lk with ⟨k1,_⟩ | ⟨_,c,ec,ic⟩
     ·have k1':X.env.kindOf x=some NameKind.local:=k1
      rcases hkX with z | z
      ·rw [z] at k1';cases k1'
      ·rw [z] at k1';cases k1'
     ·obtain ⟨c',hc'⟩:=a3T (env:=X.env) (l:=scope.names) (cs:=[]) (x:=x) (.inl hmem)
      have e':=hlook x c' hc'
      rw [ec] at e'
      cases e'
      exact ⟨a1v hF,c,hc',ic.keeps old⟩
  ·obtain ⟨v,q⟩:=I2.cell x c (hlook x c e)
   exact ⟨v,q.keeps old⟩
  ·show upd H2 s₂.heap.objs.size (.lst []) HL.objs.size=none
   rw [a0d (Ne.symm hDC)];exact hC0
  ·obtain ⟨v,q⟩:=I2.cell x c (hlook x c e)
   rw [a0d (Xc q.lt)]
   exact I2.freeC x c (hlook x c e)
  ·exact I2.hok.laid old (Qk _) ⟨Xr _,[],_,.nil,hacc⟩
  ·show (a1Y js σ).length=Nc.length
   unfold a1Y
   rw [Qc];exact ok.len
 have back:∀{σ':St} {H':Hp} {s':Shared},Inv (a1f X Nc scope (a2A X.env scope.names []) HL.objs.size s₂ H2 fp) [] σ' H' s'→Inv X pins σ H' s':=fun {σ' H' s'} I4=>
  I2.call' (ch:=fp) I4.os I4.base I4.hok I4.bare fun b hb=>⟨(f2 b hb).2.2.2.1,(f2 b hb).2.1,(f2 b hb).2.2.2.2.1,(f2 b hb).2.2.2.2.2⟩
 have st1:tn 0 h₁:=T.keep 0 _ _ st2 fun b _ o e=>old b o e
 have loop:∀s₃:Shared,s₃={s₂ with heap:=h₁,toks:=s₂.toks+([]:List (Str×Value)).length}→
   codeAny (model X.prog X.w) X.A (.compLoop (.ListComp elt [⟨target,iter,ifs,0⟩] scope pos) 0 (.ref it) (.ref s₂.heap.objs.size) (compEnvC scope (a2A X.env scope.names []) HL.objs.size X.env))
    (RR (.ref s₂.heap.objs.size) HL.objs.size) s₃:=by
  rintro s₃ rfl
  refine a4C (fun n s'=>∃i σ' H' ys,Inv (a1f X Nc scope (a2A X.env scope.names []) HL.objs.size s₂ H2 fp) [] σ' H' s'∧tn i s'.heap∧(∀b∈fp,H' b=none)∧W i n σ' H' ys) ?_ m0
   ⟨0,a1Y js σ,_,[],Ic,st1,fun b hb=>by rw [a0d (Xc (hlt b hb))];exact (f2 b hb).1,w0⟩
  rintro n s3 ⟨i,σ3,H3,ys,I3,st3,fr3,w3⟩
  obtain ⟨hD3,tn3⟩:=turn i n σ3 H3 ys w3
  rcases tn3 with ⟨stop,q⟩ | ⟨go,hys,step⟩
  ·refine thn (T.done (a1f X Nc scope (a2A X.env scope.names []) HL.objs.size s₂ H2 fp) rfl rfl rfl hc i [] s3 σ3 H3 NoE I3 (fpc fr3) st3 stop) fun r s4 ⟨hr,I4⟩=>?_
   subst hr
   obtain ⟨m4,n4,_⟩:=I4.loc
   exact hRR _ _ s4 H3 m4 (back I4) n4 (I2.fpOk hCle I4.free) q
  ·refine thn (T.item (a1f X Nc scope (a2A X.env scope.names []) HL.objs.size s₂ H2 fp) rfl rfl rfl hc i [] s3 σ3 H3 NoE I3 (fpc fr3) st3 go) fun r s4 ⟨u,hr,h4⟩=>?_
   subst hr
   refine thn h4 fun _ s5 ⟨x,H5,I5,r5,y5,st5,fr5⟩=>?_
   have I5':=I5.pinned (fpc fr5) (T.obj _ _ st5)
   have fin:∀{σ7:St} {H7:Hp} {s7:Shared} {zs:List V} {m':Nat},Inv (a1f X Nc scope (a2A X.env scope.names []) HL.objs.size s₂ H2 fp) ([]++a4u fp s5.heap) σ7 H7 s7→m' < n→W (i+1) m' σ7 H7 zs→
     ∃m,m < n∧∃i σ' H' ys,Inv (a1f X Nc scope (a2A X.env scope.names []) HL.objs.size s₂ H2 fp) [] σ' H' s7∧tn i s7.heap∧(∀b∈fp,H' b=none)∧W i m σ' H' ys:=fun {σ7 H7 s7 zs m'} I7 hm w7=>by
    refine ⟨m',hm,i+1,σ7,H7,zs,I7.unpinned,T.keep _ _ _ st5 fun b hb o e=>(I7.pin (b,o) (Xu _ (Xu _ (a1S hb e)))).1,fun b hb=>?_,w7⟩
    obtain ⟨o,e,d⟩:=T.obj _ _ st5 b hb
    exact (I7.pin (b,o) (Xu _ (Xu _ (a1S hb e)))).2.1
   refine thn (hg _ _ _ _ _ _ s5 σ3 H5 x u _ I5' r5 (step x H5 y5)) fun _ s6 ⟨σ6,H6,I6,q6⟩=>?_
   refine thn (ht _ _ _ _ _ _ s6 σ6 H6 _ I6 q6) fun b s7 ⟨H7,I7,q7⟩=>?_
   cases b with
   | false=>
    obtain ⟨m',hm,w7⟩:=q7
    exact fin I7 hm w7
   | true=>
    refine thn (he _ _ _ _ _ _ s7 σ6 H7 _ I7 q7) fun v s8 ⟨y,H8,I8,r8,hD8,m',hm,w8⟩=>?_
    refine thn (a0B _ s8 σ6 H8 (.ref s₂.heap.objs.size) [y] (.ref s₂.heap.objs.size) [v] (fun _ H9=>H9=upd H8 s₂.heap.objs.size (.lst (ys++[y]))) I8 rfl (.cons r8 .nil) ⟨_,ys,y,rfl,rfl,hD8,hys,rfl⟩) fun v9 s9 ⟨_,H9,I9,_,e9⟩=>?_
    subst e9
    exact fin I9 hm w8
 exact codeAny_compStart_list (loop _ rfl) (T.self X.A 0 _ _ _ st1 (loop _ rfl))
theorem b1L (ok:a5F X Nc js scope) (hc:X.calm=true) (hi:PI X target iter wi)
  (hg:∀C cl s H ex,PG (a1f X Nc scope cl C s H ex) target g) (ht:∀C cl s H ex,PTs (a1f X Nc scope cl C s H ex) ifs tt) (he:∀C cl s H ex,PE (a1f X Nc scope cl C s H ex) elt te)
  (hs:∀x,foldedSetIterable iter X.env x=pure x:=by intro _;rfl):PE X (.ListComp elt [⟨target,iter,ifs,0⟩] scope pos) (b1Z js wi g tt te):=by
 intro pins s σ H Q I h
 have hfr:∀y∈scope.names,y.2=NameKind.free→∃c,X.env.cells.lookup y.1=some c:=fun y hy e=>I.ok.has y.1 (ok.free y hy e)
 rw [eval_ListComp]
 refine wpAny_comprehension_free (use:=none) rfl hs (a1Q hfr) ok.kind ok.names (thn (hi pins s σ H _ I h) fun v s1 h1=>thn h1 fun itv s2 h2=>?_)
 obtain ⟨it,fp,tn,J,H2,e,I2,T,st2,f2,h⟩:=h2
 subst e
 refine a3u (RR:=fun acc C=>compPost (model X.prog X.w) X.A X.xe none (EP X pins σ Q) acc C) (Q:=Q) ok hc hg ht he I2 T st2 f2 h ?_
 intro D C s' H' m I' n' fC q
 refine ⟨m,n',fun h' sb=>⟨.ref D,H',?_,rfl,q⟩⟩
 exact I'.turned (t':=s'.toks) (fun b o hb e=>(sb.2 b hb).trans e) fC.1 fC.2.1 fC.2.2.2.1 fC.2.2.2.2.1 fC.2.2.2.2.2
theorem a6n {i:Nat} {y:Str} {py spos:Pos} (ok:a5F X Nc js scope) (hc:X.calm=true) (hi:PI X target iter wi)
  (hg:∀C cl s H ex,PG (a1f X Nc scope cl C s H ex) target g) (ht:∀C cl s H ex,PTs (a1f X Nc scope cl C s H ex) ifs tt) (he:∀C cl s H ex,PE (a1f X Nc scope cl C s H ex) elt te)
  (hN:X.N.Nodup) (hy:X.N[i]?=some y) (hx:Loc X.env.scope y) (hsw:swapsWith (.ListComp elt [⟨target,iter,ifs,0⟩] scope pos) (some (.Name y py)) spos.line X.env=pure true)
  (hs:∀x,foldedSetIterable iter X.env x=pure x:=by intro _;rfl) (hf:X.fn y=true∨X.env.scope.names.lookup y=some .local:=by first | exact .inl rfl | exact .inr rfl | assumption):
  PS X (.Assign [.Name y py] (.ListComp elt [⟨target,iter,ifs,0⟩] scope pos) spos) (fun D σ H=>b1Z js wi g tt te σ H fun v H'=>D.nx (σ.set i (some v)) H'):=by
 intro pins s σ H D I h
 have hfr:∀y∈scope.names,y.2=NameKind.free→∃c,X.env.cells.lookup y.1=some c:=fun y hy e=>I.ok.has y.1 (ok.free y hy e)
 rw [exec_Assign_Name_used _ _ _ _ hsw]
 refine wpAny_bind (wpAny_standAt (wpAny_bind ?_))
 show wpAny _ X.A (do let _ ←comprehension (.ListComp elt [⟨target,iter,ifs,0⟩] scope pos) scope X.env _ (newList []) false (eval iter X.env) (some (assign (.Name y py) X.env))) _ _ s
 refine wpAny_bind (thn (wpAny_comprehension_free (use:=some (assign (.Name y py) X.env)) (Q:=fun _ s'=>SP X pins D .next s') rfl hs (a1Q hfr) ok.kind ok.names
  (thn (hi pins s σ H _ I h) fun v s1 h1=>thn h1 fun itv s2 h2=>?_)) fun _ s' hq=>wpAny_pure (wpAny_pure hq))
 obtain ⟨it,fp,tn,J,H2,e,I2,T,st2,f2,h⟩:=h2
 subst e
 refine a3u (RR:=fun acc C=>compPost (model X.prog X.w) X.A X.xe (some (assign (.Name y py) X.env)) (fun _ s'=>SP X pins D .next s') acc C) (Q:=fun v H'=>D.nx (σ.set i (some v)) H') ok hc hg ht he I2 T st2 f2 h ?_
 intro Da C s' H' m I' n' fC q
 show wpAny _ X.A (assign (.Name y py) X.env (.ref Da)) _ _ _
 refine wpAny_assign_Name (a4p I' hN hy hx (show a0O (.ref Da) (.ref Da) from rfl) (fun s'' I'' hsb=>?_) hf)
 obtain ⟨a,sb,ha⟩:=hsb
 have hCa:C≠a:=by
  rcases ha with e | e
  ·rw [e];exact fC.2.1
  ·exact fun z=>fC.2.2.2.2.1 y a e z.symm
 refine ⟨m,n'.sameBut sb hCa,fun h' sb'=>⟨σ.set i (some (.ref Da)),H',?_,q⟩⟩
 exact I''.turned (t':=s''.toks) (fun b o hb e=>(sb'.2 b hb).trans e) fC.1 fC.2.1 fC.2.2.2.1 fC.2.2.2.2.1 fC.2.2.2.2.2
end
section
variable {js:List (Option Nat)} {g:TG} {tt:TT} {te:TE} {σ:St} {H:Hp} {Q:VK}
def a4O (J:It) (js:List (Option Nat)) (g:TG) (tt:TT) (te:TE) (σ:St) (H:Hp) (Q:VK):Prop:=
 ∀D,H D=none→∃W:Nat→Nat→St→Hp→List V→Prop,(∃m,W 0 m (a1Y js σ) (upd H D (.lst [])) [])∧
 ∀i m σ' H' ys,W i m σ' H' ys→H' D=some (.lst ys)∧((J.stop i H'∧Q (.ref D) H')∨(J.go i H'∧ys.length < sizeLine∧∀x H2,J.yld i H' x H2→g x σ' H2 fun σ2 H3=>tt σ2 H3 fun b H4=>
  if b=true then te σ2 H4 fun v H5=>H5 D=some (.lst ys)∧∃m',m' < m∧W (i+1) m' σ2 (upd H5 D (.lst (ys++[v]))) (ys++[v]) else ∃m',m' < m∧W (i+1) m' σ2 H4 ys))
structure Src (J:It) (n:Nat) (f:Nat→V) (Ok:Hp→Prop):Prop where
 go:∀i H,i < n→Ok H→J.go i H
 yld:∀i H x H',i < n→Ok H→J.yld i H x H'→H'=H∧x=f i
 stop:∀H,Ok H→J.stop n H
theorem a2E {K:Qd} {a:Addr} {xs:List V}:Src (Itl K a) xs.length (fun i=>(xs[i]?).getD .non) (fun H=>SqL K H a xs):=
 ⟨fun i H hi h=>⟨xs,xs[i],h,by simp [hi]⟩,fun i H x H' hi h y=>⟨y.1,by rw [y.2 xs h];rfl⟩,fun H h=>⟨xs,h,Qk _⟩⟩
theorem a5f {K:Qd} {a:Addr} {xs:List V}:Src (Itt K a) xs.length (fun i=>(xs[i]?).getD .non) (fun H=>SqT K H a xs):=
 ⟨fun i H hi h=>⟨xs,xs[i],h,by simp [hi]⟩,fun i H x H' hi h y=>⟨y.1,by rw [y.2 xs h];rfl⟩,fun H h=>⟨xs,h,Qk _⟩⟩
theorem a4w {lo:Int} {n:Nat}:Src (Itr lo n) n (fun i=>.int (lo+i)) (fun _=>True):=
 ⟨fun i H hi _=>hi,fun i H x H' hi _ y=>y,fun H _=>Qk _⟩
theorem a5p {J:It} {n:Nat} {f:Nat→V} {Ok:Hp→Prop} (S:Src J n f Ok) (hn:n≤sizeLine) (Pv:Addr→Nat→St→Hp→List V→Prop) (h0:∀D,H D=none→Pv D 0 (a1Y js σ) (upd H D (.lst [])) [])
  (hk:∀D i σ' H' ys,H D=none→i≤n→Pv D i σ' H' ys→Ok H'∧H' D=some (.lst ys)∧ys.length≤i)
  (hs:∀D i σ' H' ys (R:St→Hp→List V→Prop),H D=none→i < n→Pv D i σ' H' ys→(∀a b c,Pv D (i+1) a b c→R a b c)→g (f i) σ' H' fun σ2 H3=>tt σ2 H3 fun b H4=>
   if b=true then te σ2 H4 fun v H5=>H5 D=some (.lst ys)∧R σ2 (upd H5 D (.lst (ys++[v]))) (ys++[v]) else R σ2 H4 ys)
  (hd:∀D σ' H' ys,H D=none→Pv D n σ' H' ys→Q (.ref D) H'):a4O J js g tt te σ H Q:=by
 intro D hD
 refine ⟨fun i m σ' H' ys=>m=n - i∧i≤n∧Pv D i σ' H' ys,⟨n,by simp,Xr _,h0 D hD⟩,?_⟩
 rintro i m σ' H' ys ⟨rfl,hi,p⟩
 obtain ⟨q1,q2,q3⟩:=hk D i σ' H' ys hD hi p
 refine ⟨q2,?_⟩
 by_cases hlt:i < n
 ·refine .inr ⟨S.go i H' hlt q1,by omega,fun x H2 y=>?_⟩
  obtain ⟨rfl,rfl⟩:=S.yld i H' x H2 hlt q1 y
  exact hs D i σ' _ ys (fun σ2 H3 ys'=>∃m',m' < n - i∧(m'=n - (i+1)∧i+1≤n∧Pv D (i+1) σ2 H3 ys')) hD hlt p fun a b c r=>⟨n - (i+1),by omega,rfl,hlt,r⟩
 ·have e:i=n:=by omega
  subst e
  exact .inl ⟨S.stop H' q1,hd D σ' H' ys hD p⟩
end
section
variable {X:Cx}
theorem a5y {bs:List Bool} {its:List Value} (r:a0H (bs.map V.bl) its) {i:Nat} {v:Value} (h:its[i]?=some v):∃b,bs[i]?=some b∧v=.bool b:=by
 have hi:i < its.length:=(Qv.mp h).1
 have hl:=r.length
 rw [Qc] at hl
 have hb:bs[i]?=some bs[i]:=Qe ‹om›
 obtain ⟨u,hu,ru⟩:=r.get (i:=i) (x:=V.bl bs[i]) (by rw [Qy,hb];rfl)
 rw [h] at hu;cases hu
 exact ⟨_,hb,ru⟩
theorem a1k (hc:X.calm=true):a1U X (.builtin "all") (fun xs H Q=>∃(p:Addr) (bs:List Bool),xs=[.ref p]∧SqL X.K H p (bs.map V.bl)∧Q (.bl (bs.all id)) H):=by
 intro pins s σ H xs us Q I r h
 obtain ⟨p,bs,rfl,hq,q⟩:=h
 obtain ⟨u,rfl,ru⟩:=a3C r
 cases ru
 obtain ⟨its,rv,pl,hz⟩:=I.list hq
 have hl:=pl.isList
 have hlt:p < s.heap.objs.size:=by obtain ⟨_,e,_⟩:=hl;exact Qo e
 refine call_all_walk (wpAny_pyIter_list hl ?_)
 refine ⟨s.heap.objs.size,[s.heap.objs.size,p],[s.heap.objs.size],its.toArray.size,_,_,fun i=>(bs[i]?).getD true,rfl,Walks.list (A:=X.A.in1) (I.ok.hd hc) _ p (Xc hlt) its.toArray,
  ⟨⟨_,Xh _ rfl,rfl,rfl⟩,hl.push _⟩,fun i v s' Q' E' hP hQ=>?_,fun h' tk hk=>?_⟩
 ·obtain ⟨b,e,rfl⟩:=a5y rv (i:=i) (v:=v) (by simpa using hP)
  simp only [e,Yr] at hQ
  exact wpAny_truthy_bool hQ
 ·have e:((Yq its.toArray.size).all fun i=>(bs[i]?).getD true)=bs.all id:=by
   have hb:=rv.length
   rw [Qc] at hb
   rw [Ql,←hb];exact LSm.range_all bs
  rw [e]
  exact ⟨.bl (bs.all id),H,I.kept (t':=tk) (LSm.kept_iter hk),rfl,q⟩
theorem a1l (hc:X.calm=true):a1U X (.builtin "any") (fun xs H Q=>∃(p:Addr) (bs:List Bool),xs=[.ref p]∧SqL X.K H p (bs.map V.bl)∧Q (.bl (bs.any id)) H):=by
 intro pins s σ H xs us Q I r h
 obtain ⟨p,bs,rfl,hq,q⟩:=h
 obtain ⟨u,rfl,ru⟩:=a3C r
 cases ru
 obtain ⟨its,rv,pl,hz⟩:=I.list hq
 have hl:=pl.isList
 have hlt:p < s.heap.objs.size:=by obtain ⟨_,e,_⟩:=hl;exact Qo e
 refine call_any_walk (wpAny_pyIter_list hl ?_)
 refine ⟨s.heap.objs.size,[s.heap.objs.size,p],[s.heap.objs.size],its.toArray.size,_,_,fun i=>(bs[i]?).getD false,rfl,Walks.list (A:=X.A.in1) (I.ok.hd hc) _ p (Xc hlt) its.toArray,
  ⟨⟨_,Xh _ rfl,rfl,rfl⟩,hl.push _⟩,fun i v s' Q' E' hP hQ=>?_,fun h' tk hk=>?_⟩
 ·obtain ⟨b,e,rfl⟩:=a5y rv (i:=i) (v:=v) (by simpa using hP)
  simp only [e,Yr] at hQ
  exact wpAny_truthy_bool hQ
 ·have e:((Yq its.toArray.size).any fun i=>(bs[i]?).getD false)=bs.any id:=by
   have hb:=rv.length
   rw [Qc] at hb
   rw [Ql,←hb];exact LSm.range_any bs
  rw [e]
  exact ⟨.bl (bs.any id),H,I.kept (t':=tk) (LSm.kept_iter hk),rfl,q⟩
def b9F:V→Option Int→Option Int→Hp→VK→Prop:=fun x lo hi H Q=>∃z,x=.str z∧z.length≤sizeLine∧Q (.str (Jv z lo hi)) H
theorem b4z:SlR X b9F:=by
 intro pins s σ H x v vl vu lo hi sl Q I rx hs pl pu h
 obtain ⟨z,rfl,hz,q⟩:=h
 obtain ⟨t,rfl⟩:=rx
 obtain ⟨o,ho,hc,hd⟩:=hs
 refine ⟨"str",_,PySem.F.slot_str_getitem.lookup,typeIs_str _ _ _,?_⟩
 have fin:∀(l u:Option Int) (t':Tok) (k:Nat),Q (.str (Jv z l u)) H→EP X pins σ Q (.str (Jv z l u) t') {s with toks:=k}:=fun l u t' k q=>⟨.str _,H,I.tok _,⟨_,rfl⟩,q⟩
 cases pl with
 | none=>
  cases pu with
  | none=>exact wpAny_getItem_str_slice (l:=none) (u:=none) (st:=none) ⟨o,ho,hc,hd⟩ rfl (post_val_or_str ⟨Qi (Uj z _ _) hz,fun t' k=>fin _ _ t' k q⟩)
  | int j uj=>exact wpAny_getItem_str_slice (l:=none) (u:=some (j,uj)) (st:=none) ⟨o,ho,hc,hd⟩ rfl (post_val_or_str ⟨Qi (Uj z _ _) hz,fun t' k=>fin _ _ t' k q⟩)
 | int i ui=>
  cases pu with
  | none=>exact wpAny_getItem_str_slice (l:=some (i,ui)) (u:=none) (st:=none) ⟨o,ho,hc,hd⟩ rfl (post_val_or_str ⟨Qi (Uj z _ _) hz,fun t' k=>fin _ _ t' k q⟩)
  | int j uj=>exact wpAny_getItem_str_slice (l:=some (i,ui)) (u:=some (j,uj)) (st:=none) ⟨o,ho,hc,hd⟩ rfl (post_val_or_str ⟨Qi (Uj z _ _) hz,fun t' k=>fin _ _ t' k q⟩)
theorem a3V:MtR X "str.startswith" (fun x xs H Q=>∃a b,x=.str a∧xs=[.str b]∧Q (.bl (Zk a b)) H):=by
 intro pins s σ H x xs v us Q I rx rs h
 obtain ⟨a,b,rfl,rfl,q⟩:=h
 obtain ⟨t,rfl⟩:=rx
 obtain ⟨u,rfl,t',rfl⟩:=a3C rs
 exact SC.startswith ⟨.bl _,H,I,rfl,q⟩
end
theorem a0u:bootBuiltins "len"=some (.builtin "len"):=by decide+kernel
theorem a2d:bootBuiltins "all"=some (.builtin "all"):=by decide+kernel
theorem a2f:bootBuiltins "any"=some (.builtin "any"):=by decide+kernel
theorem a8Q:bootBuiltins "str"=some (.type "str"):=by decide+kernel
theorem a0E:bootBuiltins "list"=some (.type "list"):=by decide+kernel
theorem a3f:bootBuiltins "tuple"=some (.type "tuple"):=by decide+kernel
section
variable {X:Cx}
def b6H:R2:=fun x y H Q=>∃i j,x=.str i∧y=.str j∧i.length+j.length≤sizeLine∧Q (.str (i++j)) H
def b6N:R2:=rI0 fun i j=>.int (i+j)
def a6o (K:Qd):R2:=fun x y H Q=>b6N x y H Q∨b6H x y H Q∨b7r x y H Q∨b5y K x y H Q
theorem a0m:OpR X (binaryOp .Add) (a6o X.K):=b5J.or (a6G.or (b4l.or b2g))
theorem a0N {K:Qd} {i j:Int} {H:Hp} {Q:VK}:a6o K (.int i) (.int j) H Q↔Q (.int (i+j)) H:=by
 constructor
 ·rintro (⟨a,b,e1,e2,q⟩ | ⟨a,b,e1,_⟩ | ⟨a,b,_,_,e1,_⟩ | ⟨a,b,_,_,e1,_⟩)
  ·cases e1;cases e2;exact q
  ·cases e1
  ·cases e1
  ·cases e1
 ·exact fun q=>.inl ⟨i,j,rfl,rfl,q⟩
theorem a1C {K:Qd} {i j:Str} {H:Hp} {Q:VK}:a6o K (.str i) (.str j) H Q↔(i.length+j.length≤sizeLine∧Q (.str (i++j)) H):=by
 constructor
 ·rintro (⟨a,b,e1,_⟩ | ⟨a,b,e1,e2,q⟩ | ⟨a,b,_,_,e1,_⟩ | ⟨a,b,_,_,e1,_⟩)
  ·cases e1
  ·cases e1;cases e2;exact q
  ·cases e1
  ·cases e1
 ·exact fun q=>.inr (.inl ⟨i,j,rfl,rfl,q⟩)
theorem a7X {i j:Int} {H:Hp} {Q:VK}:rEq (.int i) (.int j) H Q↔Q (.bl (decide (i=j))) H:=by
 unfold rEq
 have e:decide (V.int i=V.int j)=decide (i=j):=by
  by_cases h:i=j
  ·subst h;simp
  ·simp [h]
 rw [e]
 exact ⟨fun h=>h.2,fun h=>⟨rfl,h⟩⟩
theorem a7L {i j:Str} {H:Hp} {Q:VK}:rEq (.str i) (.str j) H Q↔Q (.bl (decide (i=j))) H:=by
 unfold rEq
 have e:decide (V.str i=V.str j)=decide (i=j):=by
  by_cases h:i=j
  ·subst h;simp
  ·simp [h]
 rw [e]
 exact ⟨fun h=>h.2,fun h=>⟨rfl,h⟩⟩
def inS (c s:Str):Bool:=!(Builtin.Str.occurrences s c 0 s.length 1).isEmpty
def b8c:R2:=fun x y H Q=>∃i j,x=.str i∧y=.str j∧Q (.bl (inS i j)) H
def a8a:R2:=fun x y H Q=>∃i j,x=.str i∧y=.str j∧Q (.bl (!inS i j)) H
def b2x (K:Qd):R2:=fun x y H Q=>b8c x y H Q∨rIn K false x y H Q
def a7H (K:Qd):R2:=fun x y H Q=>a8a x y H Q∨rIn K true x y H Q
theorem b4t:OpR X (compareOp .In) b8c:=a8t
theorem a7z:OpR X (compareOp .NotIn) a8a:=a4j
theorem a1A:OpR X (compareOp .In) (b2x X.K):=b4t.or a6U
theorem a4D:OpR X (compareOp .NotIn) (a7H X.K):=a7z.or a4n
def b1R (K:Qd):List V→Hp→VK→Prop:=fun xs H Q=>(∃x n,xs=[x]∧b7p K x H n∧Q (.int n) H)∨∃a kvs,xs=[V.ref a]∧H a=some (.dK kvs)∧Q (.int kvs.length) H
theorem a0s:a1U X (.builtin "len") (b1R X.K):=a9Q.or a7k
theorem a0t {K:Qd} {a:Addr} {xs:List V} {H:Hp} {Q:VK} (h:SqL K H a xs) (q:Q (.int xs.length) H):b1R K [.ref a] H Q:=.inl ⟨.ref a,xs.length,rfl,.inl ⟨xs,h,rfl⟩,q⟩
def b6X (K:Qd):V→Option Int→Option Int→Hp→VK→Prop:=fun x lo hi H Q=>b9F x lo hi H Q∨c0m K x lo hi H Q∨b8z K x lo hi H Q
theorem a1o:SlR X (b6X X.K):=b4z.or (b1K.or b6e)
theorem a5z {K:Qd} {z:Str} {lo hi:Option Int} {H:Hp} {Q:VK}:b6X K (.str z) lo hi H Q↔(z.length≤sizeLine∧Q (.str (Jv z lo hi)) H):=by
 constructor
 ·rintro (⟨x,e1,q⟩ | ⟨a,xs,e1,_⟩ | ⟨a,xs,e1,_⟩)
  ·cases e1;exact q
  ·cases e1
  ·cases e1
 ·exact fun q=>.inl ⟨z,rfl,q⟩
theorem a5d {K:Qd} {z:Str} {i:Int} {H:Hp} {Q:VK}:rIx K (.str z) (.int i) H Q↔(z.length≤sizeLine∧∃c,atI z.cps.toList i=some c∧Q (.str ⟨#[c]⟩) H):=by
 constructor
 ·rintro (⟨p,xs,j,v,e1,_⟩ | ⟨p,xs,j,v,e1,_⟩ | ⟨y,j,c,e1,e2,h1,h2,q⟩)
  ·cases e1
  ·cases e1
  ·cases e1;cases e2;exact ⟨h1,c,h2,q⟩
 ·rintro ⟨h1,c,h2,q⟩
  exact .inr (.inr ⟨z,i,c,rfl,rfl,h1,h2,q⟩)
theorem a0n {K:Qd} {a:Addr} {xs:List V} {i:Int} {v:V} {H:Hp} {Q:VK} (h:SqL K H a xs) (e:atI xs i=some v) (q:Q v H):rIx K (.ref a) (.int i) H Q:=.inl ⟨a,xs,i,v,rfl,rfl,h,e,q⟩
theorem a0Z {K:Qd} {a:Addr} {xs:List V} {i:Int} {v:V} {H:Hp} {Q:VK} (h:SqT K H a xs) (e:atI xs i=some v) (q:Q v H):rIx K (.ref a) (.int i) H Q:=.inr (.inl ⟨a,xs,i,v,rfl,rfl,h,e,q⟩)
theorem a0Y {C:Int→Int→Prop} {g:Int→Int→V} {i j:Int} {H:Hp} {Q:VK}:rI C g (.int i) (.int j) H Q↔(C i j∧Q (g i j) H):=by
 constructor
 ·rintro ⟨a,b,e1,e2,q⟩;cases e1;cases e2;exact q
 ·exact fun q=>⟨i,j,rfl,rfl,q⟩
theorem b2m {g:Int→Int→V} {i j:Int} {H:Hp} {Q:VK}:rI0 g (.int i) (.int j) H Q↔Q (g i j) H:=by
 constructor
 ·rintro ⟨a,b,e1,e2,q⟩;cases e1;cases e2;exact q
 ·exact fun q=>⟨i,j,rfl,rfl,q⟩
theorem b0n {g:Int→V} {i:Int} {H:Hp} {Q:VK}:rU g (.int i) H Q↔Q (g i) H:=by
 constructor
 ·rintro ⟨a,e1,q⟩;cases e1;exact q
 ·exact fun q=>⟨i,rfl,q⟩
theorem a1p {k:Bool} {P:Bool→Prop}:(∃c,V.bl k=V.bl c∧P c)↔P k:=by
 constructor
 ·rintro ⟨c,e,q⟩;cases e;exact q
 ·exact fun q=>⟨k,rfl,q⟩
theorem a2B {k:Int} {P:Int→Prop}:(∃c,V.int k=V.int c∧P c)↔P k:=by
 constructor
 ·rintro ⟨c,e,q⟩;cases e;exact q
 ·exact fun q=>⟨k,rfl,q⟩
theorem a0b {v:V} {P:V→Prop}:(∃x,some (some v)=some (some x)∧P x)↔P v:=by
 constructor
 ·rintro ⟨c,e,q⟩;cases e;exact q
 ·exact fun q=>⟨v,rfl,q⟩
end
theorem a0h.upd {H:Hp} {a:Addr} {o:HO} (h:H a=none):a0h H (upd H a o):=fun b u e=>by rw [a0d (a0c e h)];exact e
section
variable {X:Cx} {st:Stmt} {a3x:List Stmt} {t u:TS}
def c1p (t u:TS):TS:=fun D σ H=>∃M:St→Hp→Prop,t {D with nx:=M} σ H∧∀σ' H',M σ' H'→u D σ' H'
theorem b0W (h1:PS X st t) (h2:PSs X a3x u):PSs X (st::a3x) (c1p t u):=by
 intro pins s σ H D I h
 obtain ⟨M,q1,q2⟩:=h
 refine wpAny_execs_cons (thn (h1 pins s σ H {D with nx:=M} I q1) fun f s1 q=>?_)
 cases f with
 | next=>
  obtain ⟨σ',H',I',q⟩:=q
  exact h2 pins s1 σ' H' D I' (q2 σ' H' q)
 | ret v=>exact q
 | brk=>exact q
 | cont=>exact q
end
theorem a1u {k:Addr} {P:Addr→Prop}:(∃c,V.ref k=V.ref c∧P c)↔P k:=by
 constructor
 ·rintro ⟨c,e,q⟩;cases e;exact q
 ·exact fun q=>⟨k,rfl,q⟩
theorem a7A {i j:Str} {H:Hp} {Q:VK}:rNe (.str i) (.str j) H Q↔Q (.bl (!decide (i=j))) H:=by
 unfold rNe
 have e:decide (V.str i=V.str j)=decide (i=j):=by
  by_cases h:i=j
  ·subst h;simp
  ·simp [h]
 rw [e]
 exact ⟨fun h=>h.2,fun h=>⟨rfl,h⟩⟩
theorem a2e {α:Type} {xs:List α} {i:Int} (h0:0≤i) (h1:i < xs.length):∃v,atI xs i=some v∧v∈xs∧xs[i.toNat]?=some v:=by
 have hk:i.toNat < xs.length:=by omega
 refine ⟨xs[i.toNat],?_,Qq hk,Qe hk⟩
 unfold atI ixN
 rw [if_pos h0,if_pos h1]
 exact Qe hk
theorem a1i {i j:Int} (h:0 < j):0≤i % j∧i % j < j:=⟨Int.emod_nonneg _ ‹om›,Int.emod_lt_of_pos _ h⟩
theorem a2g {A B:Prop}:(if false=true then A else B)=B:=if_neg Qp
theorem b2R {A B:Prop}:(if true=false then A else B)=B:=if_neg ‹dc›
theorem a0J {H:Hp} {p:Addr} (hp:H p=none) (o:HO):∃H',upd H p o=H'∧a0h H H'∧H' p=some o:=⟨_,rfl,a0h.upd hp,a0f⟩
def c0P (J:It) (g:TG) (tb:TS) (D:a8P) (σ:St) (H:Hp):Prop:=∃W:Nat→Nat→St→Hp→Prop,(∃m,W 0 m σ H)∧∀i m σ H,W i m σ H→
 (J.stop i H∧D.nx σ H)∨(J.go i H∧∃N:St→Hp→Prop,(∀σ' H',N σ' H'→∃m',m' < m∧W (i+1) m' σ' H')∧∀x H',J.yld i H x H'→g x σ H' fun σ2 H2=>tb {D with nx:=N,ct:=N,bk:=D.nx} σ2 H2)
theorem a0A {wi:TI} {g:TG} {tb:TS} {D:a8P} {σ:St} {H:Hp}:b9X wi g tb D σ H=wi σ H fun J H1=>c0P J g tb D σ H1:=rfl
theorem a0r {js:List (Option Nat)} {wi:TI} {g:TG} {tt:TT} {te:TE} {σ:St} {H:Hp} {Q:VK}:b1Z js wi g tt te σ H Q=wi σ H fun J H1=>a4O J js g tt te σ H1 Q:=rfl
theorem a4B {J:It} {n:Nat} {f:Nat→V} {Ok:Hp→Prop} {js:List (Option Nat)} {te:TE} {σ:St} {H:Hp} {Q:VK} (S:Src J n f Ok) (hn:n≤sizeLine) (σr:St) (hσ:a1Y js σ=none::σr) (Pr:Nat→V→Prop)
  (hOk:∀H',a0h H H'→Ok H') (hs:∀i H' (R:V→Hp→Prop),i < n→a0h H H'→(∀v H'',a0h H' H''→Pr i v→R v H'')→te (some (f i)::σr) H' R)
  (hd:∀D H' ys,H D=none→a0h H H'→H' D=some (.lst ys)→ys.length=n→(∀i v,ys[i]?=some v→Pr i v)→Q (.ref D) H'):a4O J js (a0w 0) b4R te σ H Q:=by
 refine a5p S hn (fun D i σ' H' ys=>(∃a,σ'=a::σr)∧a0h H H'∧H' D=some (.lst ys)∧ys.length=i∧∀j v,ys[j]?=some v→Pr j v) ?_ ?_ ?_ ?_
 ·intro D hD
  exact ⟨⟨none,hσ⟩,a0h.upd hD,a0f,rfl,fun j v e=>by simp at e⟩
 ·rintro D i σ' H' ys hD hi ⟨_,s,h,hl,_⟩
  exact ⟨hOk _ s,h,Ue hl⟩
 ·rintro D i σ' H' ys R hD hi ⟨⟨a,rfl⟩,s,h,hl,hp⟩ hR
  show te (some (f i)::σr) H' _
  refine hs i H' _ hi s fun v H'' s2 pv=>⟨s2 _ _ h,hR _ _ _ ⟨⟨_,rfl⟩,?_,a0f,by simp [hl],fun j v' e=>?_⟩⟩
  ·intro b o e
   rw [a0d (a0c e hD)]
   exact s2 b o (s b o e)
  ·rw [Vf] at e
   split at e
   ·exact hp j v' e
   ·rename_i hj
    have e1:j=ys.length:=by
     have:=(Qv.mp e).1
     simp at this;omega
    subst e1
    simp at e
    subst e
    rw [hl];exact pv
 ·rintro D σ' H' ys hD ⟨_,s,h,hl,hp⟩
  exact hd D H' ys hD s h hl hp
section
variable {K:Qd} {H:Hp} {Q:VK}
def a6X:V→List V→Hp→VK→Prop:=fun x xs H Q=>∃a b,x=.str a∧xs=[.str b]∧Q (.bl (Zk a b)) H
def b5u (K:Qd):V→List V→Hp→VK→Prop:=fun x xs H Q=>∃z p ys,x=.str z∧xs=[.ref p]∧(SqL K H p (ys.map V.str)∨SqT K H p (ys.map V.str))∧(ys.map (·.length)).sum+ys.length * z.length≤16777216∧Q (.str (Txt.join z ys)) H
theorem a6H {a b:Str}:a6X (.str a) [.str b] H Q↔Q (.bl (Zk a b)) H:=⟨by rintro ⟨_,_,e1,e2,q⟩;cases e1;cases e2;exact q,fun q=>⟨_,_,rfl,rfl,q⟩⟩
theorem a5G {z:Str} {p:Addr} {ys:List Str} (h:SqL K H p (ys.map V.str)∨SqT K H p (ys.map V.str)) (hl:(ys.map (·.length)).sum+ys.length * z.length≤16777216) (q:Q (.str (Txt.join z ys)) H):b5u K (.str z) [.ref p] H Q:=⟨z,p,ys,rfl,rfl,h,hl,q⟩
theorem a6O {z:Str} {P:Prop}:(tyV K "str" (.str z) H∧P)↔P:=⟨fun h=>h.2,fun h=>⟨rfl,h⟩⟩
def b6k (K:Qd):List V→Hp→VK→Prop:=fun xs H Q=>∃p ys,xs=[.ref p]∧((SqL K H p ys∧∀l,H l=none→Q (.ref l) (upd H l (.tup ys)))∨SqT K H p ys∧Q (.ref p) H)
def b2o (K:Qd):List V→Hp→VK→Prop:=fun xs H Q=>∃p ys,xs=[.ref p]∧(SqL K H p ys∨SqT K H p ys)∧∀l,H l=none→Q (.ref l) (upd H l (.lst ys))
end
mutual
inductive Den (K:Qd) (H:Hp):V→PyData→Prop
 | non:Den K H .non .none
 | bl (b:Bool):Den K H (.bl b) (.bool b)
 | int (i:Int):Den K H (.int i) (.int i)
 | str (x:Str):Den K H (.str x) (.str x)
 | lst {a:Addr} {xs:List V} {ds:List PyData}:SqL K H a xs→DenAll K H xs ds→Den K H (.ref a) (.list ds)
 | tup {a:Addr} {xs:List V} {ds:List PyData}:SqT K H a xs→DenAll K H xs ds→Den K H (.ref a) (.tuple ds)
inductive DenAll (K:Qd) (H:Hp):List V→List PyData→Prop
 | nil:DenAll K H [] []
 | cons {x:V} {xs:List V} {d:PyData} {ds:List PyData}:Den K H x d→DenAll K H xs ds→DenAll K H (x::xs) (d::ds)
end
theorem a6T {K:Qd} {H:Hp}:∀ys:List Str,DenAll K H (ys.map V.str) (ys.map Uc)
 | []=>.nil
 | y::ys=>.cons (.str y) (a6T ys)
def b9d (K:Qd):R2:=fun x y H Q=>∃d e,Den K H x d∧Den K H y e∧Zv d=true∧Zv e=true∧Q (.bl (Yw d e)) H
def c0r (K:Qd):R2:=fun x y H Q=>∃d e,Den K H x d∧Den K H y e∧Zv d=true∧Zv e=true∧Q (.bl (!PyData.eqv d e)) H
def b6n (K:Qd):R2:=fun x y H Q=>rEq x y H Q∨b9d K x y H Q
def b6m (K:Qd):R2:=fun x y H Q=>rNe x y H Q∨c0r K x y H Q
section
variable {K:Qd} {H:Hp} {Q:VK}
theorem a1a {i j:Str}:b6n K (.str i) (.str j) H Q↔Q (.bl (decide (i=j))) H:=by
 constructor
 ·rintro (h | ⟨d,e,h1,h2,_,_,q⟩)
  ·exact a7L.mp h
  ·cases h1;cases h2
   rw [show decide (i=j)=Yw (.str i) (.str j) from by simp only [Yw];by_cases z:i=j<;>simp [z]];exact q
 ·exact fun q=>.inl (a7L.mpr q)
theorem a1r {i j:Int}:b6n K (.int i) (.int j) H Q↔Q (.bl (decide (i=j))) H:=by
 constructor
 ·rintro (h | ⟨d,e,h1,h2,_,_,q⟩)
  ·exact a7X.mp h
  ·cases h1;cases h2
   rw [show decide (i=j)=Yw (.int i) (.int j) from by simp only [Yw];by_cases z:i=j<;>simp [z]];exact q
 ·exact fun q=>.inl (a7X.mpr q)
theorem a3O {i j:Str}:b6m K (.str i) (.str j) H Q↔Q (.bl (!decide (i=j))) H:=by
 constructor
 ·rintro (h | ⟨d,e,h1,h2,_,_,q⟩)
  ·exact a7A.mp h
  ·cases h1;cases h2
   rw [show decide (i=j)=Yw (.str i) (.str j) from by simp only [Yw];by_cases z:i=j<;>simp [z]];exact q
 ·exact fun q=>.inl (a7A.mpr q)
end
section
variable {X:Cx}
theorem a7q:MtR X "str.startswith" a6X:=a3V
theorem a3I:∀{ys:List Str} {us:List Value},a0H (ys.map V.str) us→StrsAre us ys
 | [],_,r=>by rw [Ui] at r;cases r;exact .nil
 | y::ys,_,r=>by
  rw [Xm] at r
  cases r with
  | cons h t=>obtain ⟨tk,rfl⟩:=h;exact .cons y tk (a3I t)
theorem a8C:MtR X "str.join" (b5u X.K):=by
 intro pins s σ H x xs v us Q I rx rs h
 obtain ⟨z,p,ys,rfl,rfl,hq,hl,q⟩:=h
 obtain ⟨t,rfl⟩:=rx
 obtain ⟨u,rfl,ru⟩:=a3C rs
 cases ru
 rcases hq with hq | hq
 ·obtain ⟨its,r,pl,_⟩:=I.list hq
  exact join_list pl.isList (by simpa using a3I r) hl fun t' k=>⟨.str _,H,I.tok _,⟨_,rfl⟩,q⟩
 ·obtain ⟨its,r,pl,_⟩:=I.tuple hq
  exact join_tuple pl (by simpa using a3I r) hl fun t' k=>⟨.str _,H,I.tok _,⟨_,rfl⟩,q⟩
theorem a3q:a1U X (.type "tuple") (b6k X.K):=by
 intro pins s σ H xs us Q I r h
 obtain ⟨p,ys,e,h⟩:=h
 exact a3U pins s σ H xs us Q I r ⟨p,ys,e,h⟩
theorem a0C:a1U X (.type "list") (b2o X.K):=a4f
mutual
theorem Den.reads {pins:List (Addr×Obj)} {σ:St} {H:Hp} {s:Shared} (I:Inv X pins σ H s):∀{x:V} {d:PyData} {u:Value},Den X.K H x d→a0O x u→∃as,Reads s.heap u d as
 | _,_,_,.non,r=>by cases r;exact ⟨_,.none⟩
 | _,_,_,.bl b,r=>by cases r;exact ⟨_,.bool b⟩
 | _,_,_,.int i,r=>by obtain ⟨t,rfl⟩:=r;exact ⟨_,.int i t⟩
 | _,_,_,.str x,r=>by obtain ⟨t,rfl⟩:=r;exact ⟨_,.str x t⟩
 | _,_,_,.lst h hs,r=>by
  cases r
  obtain ⟨its,rv,pl,_⟩:=I.list h
  obtain ⟨o,ho,hc,n,hd⟩:=pl.isList
  obtain ⟨as,ra⟩:=DenAll.reads I hs rv
  exact ⟨_,.list ho hc hd (by simpa using ra)⟩
 | _,_,_,.tup h hs,r=>by
  cases r
  obtain ⟨its,rv,pl,_⟩:=I.tuple h
  obtain ⟨o,ho,hc,n,hd⟩:=pl
  obtain ⟨as,ra⟩:=DenAll.reads I hs rv
  exact ⟨_,.tuple ho hc hd (by simpa using ra)⟩
theorem DenAll.reads {pins:List (Addr×Obj)} {σ:St} {H:Hp} {s:Shared} (I:Inv X pins σ H s):∀{xs:List V} {ds:List PyData} {us:List Value},DenAll X.K H xs ds→a0H xs us→∃as,ReadsAll s.heap us ds as
 | _,_,_,.nil,r=>by cases r;exact ⟨_,.nil⟩
 | _,_,_,.cons h hs,r=>by
  cases r with
  | cons r1 r2=>
   obtain ⟨as,ra⟩:=Den.reads I h r1
   obtain ⟨bs,rb⟩:=DenAll.reads I hs r2
   exact ⟨_,.cons ra rb⟩
end
theorem b5V (hu:X.A.units+64 < cLine):OpR X (compareOp .Eq) (b9d X.K):=by
 intro pins s σ H x y v u Q I rx ry h
 obtain ⟨d,e,h1,h2,s1,s2,q⟩:=h
 obtain ⟨as,ra⟩:=h1.reads I rx
 obtain ⟨bs,rb⟩:=h2.reads I ry
 exact eq_dataH ra rb s1 s2 hu ⟨.bl _,H,I,rfl,q⟩
theorem b3E (hu:X.A.units+64 < cLine):OpR X (compareOp .NotEq) (c0r X.K):=by
 intro pins s σ H x y v u Q I rx ry h
 obtain ⟨d,e,h1,h2,s1,s2,q⟩:=h
 obtain ⟨as,ra⟩:=h1.reads I rx
 obtain ⟨bs,rb⟩:=h2.reads I ry
 exact ne_dataH ra rb s1 s2 hu ⟨.bl _,H,I,rfl,q⟩
theorem a1n (hu:X.A.units+64 < cLine):OpR X (compareOp .Eq) (b6n X.K):=b6K.or (b5V hu)
theorem a4F (hu:X.A.units+64 < cLine):OpR X (compareOp .NotEq) (b6m X.K):=b6T.or (b3E hu)
variable {K:Qd}
theorem b0X (h:X.K=K):OpR X (binaryOp .Add) (a6o K):=h ▸ a0m
theorem b0f (h:X.K=K):OpR X (compareOp .In) (b2x K):=h ▸ a1A
theorem a4J (hu:X.A.units+64 < cLine) (h:X.K=K):OpR X (compareOp .Eq) (b6n K):=h ▸ a1n hu
theorem b3V (hu:X.A.units+64 < cLine) (h:X.K=K):OpR X (compareOp .NotEq) (b6m K):=h ▸ a4F hu
theorem a1H (h:X.K=K):IxR X (rIx K):=h ▸ a0k
theorem b1o (h:X.K=K):SlR X (b6X K):=h ▸ a1o
end
end L2
namespace L2
open PySem PySem.Spec PyProof.Rows PySem.W
end L2
namespace L2
open PySem PySem.Spec PyProof.Rows
theorem a7l {J:It} {n:Nat} {f:Nat→V} {Ok:Hp→Prop} {js:List (Option Nat)} {te:TE} {σ:St} {H:Hp} {Q:VK} (S:Src J n f Ok) (hn:n≤sizeLine) (σr:St) (hσ:a1Y js σ=none::σr) (Pr:Addr→Nat→V→Hp→Prop)
  (mono:∀D i v (H1 H2:Hp),(∀b o,b≠D→H1 b=some o→H2 b=some o)→Pr D i v H1→Pr D i v H2)
  (hOk:∀H',a0h H H'→Ok H') (hs:∀D i H' (R:V→Hp→Prop),i < n→H D=none→a0h H H'→(∃ys,H' D=some (.lst ys))→(∀v H'',a0h H' H''→Pr D i v H''→R v H'')→te (some (f i)::σr) H' R)
  (hd:∀D H' ys,H D=none→a0h H H'→H' D=some (.lst ys)→ys.length=n→(∀i v,ys[i]?=some v→Pr D i v H')→Q (.ref D) H'):a4O J js (a0w 0) b4R te σ H Q:=by
 refine a5p S hn (fun D i σ' H' ys=>(∃a,σ'=a::σr)∧a0h H H'∧H' D=some (.lst ys)∧ys.length=i∧∀j v,ys[j]?=some v→Pr D j v H') ?_ ?_ ?_ ?_
 ·intro D hD
  exact ⟨⟨none,hσ⟩,a0h.upd hD,a0f,rfl,fun j v e=>by simp at e⟩
 ·rintro D i σ' H' ys hD hi ⟨_,s,h,hl,_⟩
  exact ⟨hOk _ s,h,Ue hl⟩
 ·rintro D i σ' H' ys R hD hi ⟨⟨a,rfl⟩,s,h,hl,hp⟩ hR
  show te (some (f i)::σr) H' _
  refine hs D i H' _ hi hD s ⟨_,h⟩ fun v H'' s2 pv=>⟨s2 _ _ h,hR _ _ _ ⟨⟨_,rfl⟩,?_,a0f,by simp [hl],fun j v' e=>?_⟩⟩
  ·intro b o e
   rw [a0d (a0c e hD)]
   exact s2 b o (s b o e)
  ·have up:∀b o,b≠D→H'' b=some o→upd H'' D (.lst (ys++[v])) b=some o:=fun b o hb e=>by rw [a0d hb];exact e
   rw [Vf] at e
   split at e
   ·exact mono _ _ _ _ _ (fun b o hb e=>up b o hb (s2 b o e)) (hp j v' e)
   ·have e1:j=ys.length:=by
     have:=(Qv.mp e).1
     simp at this;omega
    subst e1
    simp at e
    subst e
    rw [hl];exact mono _ _ _ _ _ up pv
 ·rintro D σ' H' ys hD ⟨_,s,h,hl,hp⟩
  exact hd D H' ys hD s h hl hp
theorem b0K {J:It} {n:Nat} {f:Nat→V} {Ok:Hp→Prop} {js:List (Option Nat)} {tt:TT} {te:TE} {σ:St} {H:Hp} {Q:VK} (S:Src J n f Ok) (hn:n≤sizeLine) (σr:St) (hσ:a1Y js σ=none::σr) (keep:Nat→Bool) (val:Nat→V)
  (hOk:∀H',a0h H H'→Ok H') (hs:∀i H' (R:Bool→Hp→Prop),i < n→a0h H H'→(∀H'',a0h H' H''→R (keep i) H'')→tt (some (f i)::σr) H' R)
  (he:∀i H' (R:V→Hp→Prop),i < n→a0h H H'→(∀H'',a0h H' H''→R (val i) H'')→te (some (f i)::σr) H' R)
  (hd:∀D H',H D=none→a0h H H'→H' D=some (.lst (((Yq n).filter keep).map val))→Q (.ref D) H'):a4O J js (a0w 0) tt te σ H Q:=by
 refine a5p S hn (fun D i σ' H' ys=>(∃a,σ'=a::σr)∧a0h H H'∧H' D=some (.lst ys)∧ys=((Yq i).filter keep).map val) ?_ ?_ ?_ ?_
 ·intro D hD
  exact ⟨⟨none,hσ⟩,a0h.upd hD,a0f,rfl⟩
 ·rintro D i σ' H' ys hD hi ⟨_,s,h,rfl⟩
  refine ⟨hOk _ s,h,?_⟩
  rw [Qc]
  exact Qi (Qw _ _) (by simp)
 ·rintro D i σ' H' ys R hD hi ⟨⟨a,rfl⟩,s,h,rfl⟩ hR
  show tt (some (f i)::σr) H' _
  refine hs i H' _ hi s fun H2 s2=>?_
  cases hk:keep i with
  | false=>
   rw [if_neg Qp]
   refine hR _ _ _ ⟨⟨_,rfl⟩,s.trans s2,s2 _ _ h,?_⟩
   rw [List.range_succ,Zw,Ze,hk];simp
  | true=>
   rw [if_pos rfl]
   refine he i H2 _ hi (s.trans s2) fun H3 s3=>⟨s3 _ _ (s2 _ _ h),hR _ _ _ ⟨⟨_,rfl⟩,?_,a0f,?_⟩⟩
   ·intro b o e
    rw [a0d (a0c e hD)]
    exact s3 b o (s2 b o (s b o e))
   ·rw [List.range_succ,Zw,Ze,hk];simp
 ·rintro D σ' H' ys hD ⟨_,s,h,rfl⟩
  exact hd D H' hD s h
structure b4o (K:Qd) (C:Addr) (m:Str) (f:Addr):Prop where
 ga:Wa K (.ref C) "__getattribute__"=some (some (.builtin "type.__getattribute__"))
 rd:PySem.W.readsIn K C (.type "type")=true
 at_:PySem.W.findCls K (.ref C) (.type "type") m=some (.val (.ref f))
 kp:Zc K (.ref f)=true
structure TyI (K:Qd) (C:Addr):Prop where
 ha:Yj K (.ref C) "__class__"=some (some (.builtin "object.__class__"))
 hn:Wa K (.builtin "object.__class__") "__get__"=some (some (.builtin "getset_descriptor.__get__"))
 htk:PySem.W.takesIn K (.builtin "object.__class__")=some true
 hm:PySem.W.mroIn K C (.type "object")=some true
theorem b2V {K:Qd} {C D:Addr} {cd:ClassData} {b:Bool} (hc:PySem.W.clsIn K D=some cd) (ht:Va K (.ref D)=some (.type "type")) (hs:Vk K (.ref C) (.ref D)=some b) (ho:Vk K (.ref C) (.ref C)=some true):
  Yd K (.ref C) (.ref D)=some b:=by
 unfold Yd
 by_cases e:(Value.ref C == Value.ref D)=true
 ·rw [if_pos e]
  have e':C=D:=by
   have:=eq_of_beq e
   injection this
  rw [←e',ho] at hs
  exact hs
 ·rw [if_neg e]
  show (if ((PySem.W.clsIn K D).isSome && Va K (.ref D) == some (.type "type"))=true then Vk K (.ref C) (.ref D) else none)=_
  rw [hc,ht,if_pos (by simp),hs]
section
variable {X:Cx}
def c1e:R2:=fun x y H Q=>∃i j,x=.str i∧y=.str j∧Q (.bl (decide (i.cps.toList < j.cps.toList))) H
def b8T:R2:=fun x y H Q=>rI0 (fun i j=>.bl (decide (i < j))) x y H Q∨c1e x y H Q
theorem a3m:OpR X (compareOp .Lt) b8T:=b6P.or a6M
theorem a1R {i j:Int} {H:Hp} {Q:VK}:b8T (.int i) (.int j) H Q↔Q (.bl (decide (i < j))) H:=by
 constructor
 ·rintro (⟨a,b,e1,e2,q⟩ | ⟨a,b,e1,_⟩)
  ·cases e1;cases e2;exact q
  ·cases e1
 ·exact fun q=>.inl ⟨i,j,rfl,rfl,q⟩
end
section
variable {X:Cx} {o e:Expr} {es:List Expr} {apos pos:Pos} {m:Str} {C f:Addr} {fd:FuncData} {ps:List Str} {sp:Sp} {CX:CXT} {k:Nat} {E:XK} {dvs:List V} {ds:List Value} {ta:TE} {t:TA}
def b5W (t u:TE):TE:=fun σ H Q=>t σ H Q∨u σ H Q
theorem b5P {t u:TE} (h1:PE X e t) (h2:PE X e u):PE X e (b5W t u):=fun pins s σ H Q I h=>h.elim (h1 pins s σ H Q I) (h2 pins s σ H Q I)
def b0N (C:Addr) (sp:Sp) (dvs:List V) (E:XK) (ta:TE) (t:TA):TE:=fun σ H Q=>ta σ H fun x H1=>x=.ref C∧t σ H1 fun vs H2=>sp (vs++dvs) H2 Q E
theorem a9e {pl:Sem Bool} (he:PE X o ta) (hm:b4o X.K C m f) (F:a0S X.prog X.w X.K X.mg X.base CX k f fd ps sp) (hr:a2p k X.A) (hb:a0p X.K fd ps ds) (hd:a0H dvs ds) (hx:a2w CX X E) (ha:PA X (e::es) t)
  (hst:starEach (e::es) X.env=(false,eval e X.env)::starEach es X.env:=by rfl) (hpl:(backTo pos (starEach es X.env)).any (·.1)=false:=by rfl)
  (ht:eval (.Call (.Attribute o m apos) (e::es) [] pos) X.env=(do
   let ov ←eval o X.env
   standAt apos.atName
   let (f,first) ←holding [ov] (getMethod ov m pl)
   callWith pos f first (backTo pos (starEach (e::es) X.env)) (backToKw pos (keywordEach [] X.env))):=by rfl):
  PE X (.Call (.Attribute o m apos) (e::es) [] pos) (b0N C sp dvs E ta t):=by
 intro pins s σ H Q I h
 refine Jg (pl:=pl) (thn (he pins s σ H _ I h) fun u s1 ⟨x,H1,I1,rx,ex,q⟩=>?_) ht
 subst ex
 obtain rfl:u=Value.ref C:=rx
 refine PySem.W.method_cls I1.kIn hm.ga (PySem.W.cls_value I1.kIn hm.rd hm.at_ rfl ?_)
 refine Zt (first:=[]) (h₀:=X.base) I.ok.mod.kin hm.kp (thn (ha pos pins _ σ H1 _ (I1.tok _) q) fun us s2 ⟨vs,H2,I2,r,q2⟩=>⟨I2.kIn,?_⟩) hst hpl
 exact a5J (us:=us) (vs:=vs) F hr hb hd hx I2 r q2
end
theorem a7t {c:TT} {tb:TS} {D:a8P} {σ:St} {H:Hp} (W:Nat→St→Hp→Prop) (m0:Nat) (h0:W m0 σ H)
  (hs:∀m σ H,W m σ H→c σ H fun b H1=>if b=true then ∃N:St→Hp→Prop,(∀σ' H',N σ' H'→∃m',m' < m∧W m' σ' H')∧tb {D with nx:=N,ct:=N,bk:=D.nx} σ H1 else D.nx σ H1):b0t c tb D σ H:=⟨W,⟨m0,h0⟩,hs⟩
theorem a2s {α β:Type} (d:α) (P:α→Bool) (g:α→β):∀ps:List α,((Yq ps.length).filter fun i=>P ((ps[i]?).getD d)).map (fun i=>g ((ps[i]?).getD d))=(ps.filter P).map g:=by
 intro ps
 have h:(Yq ps.length).map (fun i=>(ps[i]?).getD d)=ps:=by
  refine Zz fun i=>?_
  rw [Qy]
  by_cases hi:i < ps.length
  ·rw [List.getElem?_range hi,Qe hi,Zr,Qe hi];rfl
  ·rw [Ye (by simp;omega),Ye ‹om›];rfl
 conv=>rhs;rw [←h]
 rw [Yh,Ym];rfl
theorem a5m (z:Str) (r:List Str):inV (.str z) (r.map V.str)=decide (z∈r):=by
 unfold inV
 rw [Yg,Xv,decide_eq_true_eq]
 constructor
 ·rintro ⟨v,hv,e⟩
  obtain ⟨l,hl,rfl⟩:=Qn.mp hv
  have e':(l == z)=true:=e
  rw [←eq_of_beq e'];exact hl
 ·intro h
  exact ⟨.str z,Qn.mpr ⟨z,h,rfl⟩,(beq_self_eq_true z:(z == z)=true)⟩
theorem a2Z (qs:List Str):(qs.map V.str).all a3S=true:=by
 rw [Yu];intro v hv
 obtain ⟨l,_,rfl⟩:=Qn.mp hv;rfl
theorem a1K {K:Qd} {H:Hp} {Q:VK} {z:Str} {a:Addr} {r:List Str} (h:SqL K H a (r.map V.str)) (q:Q (.bl (decide (z∈r))) H):b2x K (.str z) (.ref a) H Q:=
 .inr ⟨a,_,rfl,.inl h,rfl,a2Z _,by rw [if_neg Qp,a5m];exact q⟩
theorem a3y {K:Qd} {H:Hp} {Q:VK} {z:Str} {a:Addr} {r:List Str} (h:SqL K H a (r.map V.str)) (q:Q (.bl (!decide (z∈r))) H):a7H K (.str z) (.ref a) H Q:=
 .inr ⟨a,_,rfl,.inl h,rfl,a2Z _,by rw [if_pos rfl,a5m];exact q⟩
theorem none_of {H H':Hp} (s:a0h H H') {p:Addr} (h:H' p=none):H p=none:=by
 cases e:H p with
 | none=>rfl
 | some o=>rw [s _ _ e] at h;cases h
section
variable {X:Cx}
theorem b2w {K:Qd} {pos:Pos} {es:List Expr} {k:Nat} {t:TGs} {n:Nat} (hK:X.K=K) (hc:X.calm=true) (h:PGs X es t)
  (hn:(assignEach es X.env).length=n:=by rfl) (hst:(assignEach es X.env).findIdx? (·.1)=none:=by rfl):PG X (.Tuple es k pos) (b6l K n t):=hK ▸ b0m hc h hn hst
end
end L2
namespace L2
open PySem PySem.Spec PyProof.Rows PySem.W
def Ite (K:Qd) (a:Addr):It:=
 ⟨fun i H=>∃xs x,SqL K H a xs∧xs[i]?=some x,fun i H x H'=>∃p v,H p=none∧(∀xs,SqL K H a xs→xs[i]?=some v)∧x=.ref p∧H'=upd H p (.tup [.int i,v]),fun i H=>∃xs,SqL K H a xs∧xs.length≤i⟩
def b4M (K:Qd) (ta:TA):TI:=fun σ H R=>ta σ H fun vs H1=>∃a,vs=[.ref a]∧(∃xs,SqL K H1 a xs)∧R (Ite K a) H1
theorem b3w {K:Qd} {a:Addr} {xs:List V} {js:List (Option Nat)} {te:TE} {σ:St} {H:Hp} {Q:VK} (hn:xs.length≤sizeLine) (σr:St) (hσ:a1Y js σ=none::none::σr) (Pr:Addr→Nat→V→Hp→Prop)
  (mono:∀D i v (H1 H2:Hp),(∀b o,b≠D→H1 b=some o→H2 b=some o)→Pr D i v H1→Pr D i v H2)
  (ha:SqL K H a xs) (hs:∀D i H' (R:V→Hp→Prop) (hi:i < xs.length),H D=none→a0h H H'→(∃ys,H' D=some (.lst ys))→(∀v H'',a0h H' H''→Pr D i v H''→R v H'')→te (some (.int i)::some xs[i]::σr) H' R)
  (hd:∀D H' ys,H D=none→a0h H H'→H' D=some (.lst ys)→ys.length=xs.length→(∀i v,ys[i]?=some v→Pr D i v H')→Q (.ref D) H'):a4O (Ite K a) js (b6l K 2 (a9q (a0w 0) (a9q (a0w 1) b6U))) b4R te σ H Q:=by
 intro D hD
 refine ⟨fun i m σ' H' ys=>m=xs.length - i∧i≤xs.length∧(∃u v,σ'=u::v::σr)∧a0h H H'∧H' D=some (.lst ys)∧ys.length=i∧∀j v,ys[j]?=some v→Pr D j v H',⟨xs.length,by simp,Xr _,⟨none,none,hσ⟩,a0h.upd hD,a0f,rfl,fun j v e=>by simp at e⟩,?_⟩
 rintro i m σ' H' ys ⟨rfl,hi,⟨u,v,rfl⟩,s,h,hl,hp⟩
 refine ⟨h,?_⟩
 by_cases hlt:i < xs.length
 ·refine .inr ⟨⟨xs,xs[i],s.seq ha,Qe hlt⟩,by omega,?_⟩
  rintro x H2 ⟨p,w,hpn,hw,rfl,rfl⟩
  have ew:w=xs[i]:=by have:=hw xs (s.seq ha);rw [Qe hlt] at this;exact (Option.some.inj this).symm
  subst ew
  obtain ⟨H3,e3,s3,h3⟩:∃H3,upd H' p (.tup [.int i,xs[i]])=H3∧a0h H' H3∧H3 p=some (.tup [.int i,xs[i]]):=⟨_,rfl,a0h.upd hpn,a0f⟩
  rw [e3]
  refine ⟨p,_,rfl,SqT.of h3,rfl,_,_,rfl,_,_,rfl,rfl,?_⟩
  unfold b4R;dsimp only
  rw [if_pos rfl]
  show te (some (.int i)::some xs[i]::σr) H3 _
  refine hs D i H3 _ hlt hD (s.trans s3) ⟨_,s3 _ _ h⟩ fun v H'' s2 pv=>⟨s2 _ _ (s3 _ _ h),xs.length - (i+1),by omega,rfl,hlt,⟨_,_,rfl⟩,?_,a0f,by simp [hl],fun j v' e=>?_⟩
  ·intro b o e
   rw [a0d (a0c e hD)];exact s2 _ _ (s3 _ _ (s b o e))
  ·have up:∀b o,b≠D→H'' b=some o→upd H'' D (.lst (ys++[v])) b=some o:=fun b o hb q=>by rw [a0d hb];exact q
   by_cases hj:j < ys.length
   ·rw [Xy hj] at e
    exact mono _ _ _ _ _ up (mono _ _ _ _ _ (fun b o _ q=>s2 _ _ (s3 _ _ q)) (hp j v' e))
   ·have hj2:=(Qv.mp e).1
    have ej:j=ys.length:=by simp at hj2;omega
    subst ej
    rw [Xw (Qk _),Vw] at e
    cases e
    rw [hl];exact mono _ _ _ _ _ up pv
 ·have e:i=xs.length:=by omega
  subst e
  exact .inl ⟨⟨xs,s.seq ha,Qk _⟩,hd D H' ys hD s h hl hp⟩
def a9u (K:Qd) (te:TE):TE:=fun σ H Q=>te σ H fun x H1=>∃a xs,x=.ref a∧SqL K H1 a xs∧∀p,H1 p=none→Q (.ref p) (upd H1 p (.lst xs.reverse))
section
variable {X:Cx} {pins:List (Addr×Obj)} {σ:St} {H:Hp} {s:Shared} {h':Heap} {tg:Expr}
theorem Inv.turned2 {t':Nat} {e it:Addr} (I:Inv X pins σ H s) (k:∀b o,b≠e→b≠it→s.heap.get? b=some o→h'.get? b=some o) (f1:a6C X pins H e) (f2:a6C X pins H it):Inv X pins σ H {s with heap:=h',toks:=t'}:=by
 obtain ⟨a0,a1,a2,a3,a4,a5⟩:=f1
 obtain ⟨b0,b1,b2,b3,b4,b5⟩:=f2
 have ne:∀b u,H b=some u→b≠e:=fun b u q z=>by rw [z,a0] at q;cases q
 have nit:∀b u,H b=some u→b≠it:=fun b u q z=>by rw [z,b0] at q;cases q
 refine I.step (g':=s.gens) (d':=s.drawn) (ch:=[e,it]) (fun b hb=>?_) (fun b o _ _ hc q _=>k b o (fun z=>hc (by simp [z])) (fun z=>hc (by simp [z])) q) (fun b o _ _ hc q _=>⟨o.slots,k b o (fun z=>hc (by simp [z])) (fun z=>hc (by simp [z])) q⟩) (fun _ _ _ _ n=>n)
  (fun b o hc q=>⟨o,k b o (fun z=>hc (by simp [z])) (fun z=>hc (by simp [z])) q⟩) (fun _ _ q=>q) (fun _ _ _ q=>q) (fun b ps q=>⟨#[],by rw [q];simp⟩) (fun m hm=>?_) (fun b u q=>?_) I.bare
 ·rcases Qx.mp hb with z | z
  ·subst z;exact ⟨a3,a1,a4,a5⟩
  ·rw [Qt.mp z];exact ⟨b3,b1,b4,b5⟩
 ·obtain ⟨o,es,ep,ho,r⟩:=hm
  exact ⟨o,es,ep,k _ o (Ne.symm a1) (Ne.symm b1) ho,r⟩
 ·refine (I.hok b u q).stay (fun c v hc z=>k c v ?_ ?_ z) (fun _ z=>z) fun _ _ z=>z
  ·rcases hc with z | z
   ·rw [z];exact ne b u q
   ·exact ne c _ z
  ·rcases hc with z | z
   ·rw [z];exact nit b u q
   ·exact nit c _ z
theorem a7a {P:Program} {w:World} {K:Qd} {elts:List Expr} {x1:Nat} {pos:Pos} (a e it:Addr) (hei:e≠it):b2A P w K (.Tuple elts x1 pos) (Ite K a) [e,it] e (fun i h=>(∃old,IsEnum h e it i old)∧h.IsListIter it a i) where
 mem:=by simp
 obj:=fun i h st b hb=>by
  obtain ⟨⟨old,he⟩,o,e1,c,d⟩:=st
  rcases Qx.mp hb with z | z
  ·subst z;exact ⟨_,he,fun v z=>by cases z⟩
  ·rw [Qt.mp z];exact ⟨o,e1,fun v z=>by rw [d] at z;cases z⟩
 keep:=fun i h h' st k=>by
  obtain ⟨⟨old,he⟩,hit⟩:=st
  exact ⟨⟨old,k e (by simp) _ he⟩,hit.at fun o q=>k it (by simp) o q⟩
 item:=by
  intro X hP hw hK hc i pins s σ H E I hf st hg
  subst hP hw hK
  obtain ⟨⟨old,he⟩,hit⟩:=st
  obtain ⟨xs,x,hq,hx⟩:=hg
  obtain ⟨its,rv,p,hz⟩:=I.list hq
  obtain ⟨u,hu,ru⟩:=rv.get hx
  refine wpAny_pyNext_enum_item he hit p.isList (x:=u) (by simpa using hu) hei fun h' ho hit' hT hsz hk=>?_
  refine ⟨_,rfl,?_⟩
  refine wpAny_letOwnedTupleGo_enum ho fun h2 he2 hs2=>?_
  have hfr:H s.heap.objs.size=none:=I.hok.fresh (Qk _)
  have helt:e < s.heap.objs.size:=Qo he
  have hilt:it < s.heap.objs.size:=by obtain ⟨_,z,_⟩:=hit;exact Qo z
  have hL:=Xh s.heap (o:={cls:=.type "tuple",data:=.seq #[.int i s.toks,u]}) rfl
  have I1:Inv X pins σ (upd H s.heap.objs.size (.tup [.int i,x])) {s with heap:=s.heap.push {cls:=.type "tuple",data:=.seq #[.int i s.toks,u]},toks:=s.toks+1}:=
   I.laid (t':=s.toks+1) (fun b o q=>Qm _ q) (Qk _) ⟨by simp only [Qj,Qr];decide,[.int i s.toks,u],.cons ⟨_,rfl⟩ (.cons ru .nil),⟨_,hL,rfl,_,rfl⟩⟩
  have up:∀b,b < s.heap.objs.size→upd H s.heap.objs.size (.tup [.int i,x]) b=H b:=fun b hb=>a0d (Xc hb)
  have fp:∀b,b < s.heap.objs.size→a6C X pins H b→a6C X pins (upd H s.heap.objs.size (.tup [.int i,x])) b:=fun b hb ⟨c0,c1,c2,c3,c4,c5⟩=>⟨by rw [up b hb];exact c0,c1,c2,c3,c4,c5⟩
  have I2:Inv X pins σ (upd H s.heap.objs.size (.tup [.int i,x])) {s with heap:=h2,toks:=s.toks+1}:=by
   refine I1.turned2 (h':=h2) (t':=s.toks+1) (fun b o h1 h3 q=>?_) (fp e helt (hf e (by simp))) (fp it hilt (hf it (by simp)))
   rw [hs2.2 b h1]
   by_cases z:b=s.heap.objs.size
   ·subst z
    have q':(s.heap.push {cls:=.type "tuple",data:=.seq #[.int i s.toks,u]}).get? s.heap.objs.size=some o:=q
    rw [hL] at q';rw [←q'];exact hT
   ·have q':s.heap.get? b=some o:=by
     have q2:(s.heap.push {cls:=.type "tuple",data:=.seq #[.int i s.toks,u]}).get? b=some o:=q
     rw [Heap.get?_push_ne _ _ _ z] at q2;exact q2
    exact hk b o h1 h3 q'
  exact ⟨.ref s.heap.objs.size,_,I2,rfl,⟨s.heap.objs.size,x,hfr,fun ys hy=>by rw [I.list_inj hy hq];exact hx,rfl,rfl⟩,⟨⟨_,by simpa using he2⟩,hit'.at fun o y=>(hs2.2 it hei.symm).trans y⟩,fun b hb=>by
   have hb':b < s.heap.objs.size:=by
    rcases Qx.mp hb with z | z
    ·rw [z];exact helt
    ·rw [Qt.mp z];exact hilt
   rw [up b hb'];exact (hf b hb).1⟩
 done:=by
  intro X hP hw hK hc i pins s σ H E I hf st hg
  subst hP hw hK
  obtain ⟨⟨old,he⟩,hit⟩:=st
  obtain ⟨xs,hq,hx⟩:=hg
  obtain ⟨its,rv,p,hz⟩:=I.list hq
  have hl:=rv.length
  exact wpAny_pyNext_enum_end (I.ok.hd hc) he hit p.isList (by simp;omega) fun h' hk=>⟨rfl,I.turned2 (t':=s.toks) (fun b o h1 h3 q=>hk b o h3 q) (hf e (by simp)) (hf it (by simp))⟩
 self:=fun _ _ _ _ _ st h=>by
  obtain ⟨⟨old,he⟩,_⟩:=st
  exact wpAny_pyIter_enum he h
theorem a2N:bootBuiltins "enumerate"=some (.type "enumerate"):=by decide+kernel
theorem b1D {a:Expr} {ta:TA} {p pos:Pos} {elts:List Expr} {x1:Nat} {tpos:Pos} (hg:Gl X "enumerate") (hm:X.mg "enumerate"=none) (ha:PA X [a] ta) (hs:starEach [a] X.env=[(false,eval a X.env)]:=by rfl):PI X (.Tuple elts x1 tpos) (.Call (.Name "enumerate" p) [a] [] pos) (b4M X.K ta):=by
 intro pins s σ H R I h
 refine Call_ (a2T I hg hm a2N (PyProof.Rows.callWith_type1 (thn (ha pos pins s σ H _ I h) fun us s1 ⟨vs,H1,I1,r1,q1⟩=>?_) hs rfl))
 obtain ⟨l,e,⟨xs,hq⟩,q⟩:=q1
 subst e
 cases r1 with
 | cons r rr=>
  cases rr
  cases r
  obtain ⟨its,rv,pl,hz⟩:=I1.list hq
  refine call_enumerate_list pl.isList fun h' he hit hsz hk=>?_
  refine wpAny_pyIter_enum he ?_
  have I2:=I1.kept (t':=s1.toks) hk
  refine ⟨s1.heap.objs.size+1,[s1.heap.objs.size+1,s1.heap.objs.size],_,_,H1,rfl,I2,a7a l _ _ (Nat.succ_ne_self _),⟨⟨_,he⟩,hit⟩,fun b hb=>?_,q⟩
  have hb':s1.heap.objs.size≤b:=by
   rcases Qx.mp hb with z | z
   ·rw [z];exact Zj _
   ·rw [Qt.mp z];exact Qk _
  exact I1.fpOk hb' (I1.hok.fresh hb')
theorem b1G {K:Qd} {e:Expr} {ta:TE} {f:Str} {pos:Pos} (hK:X.K=K) (he:PE X e ta) (hb:attributeBase e f X.env (eval e X.env)=eval e X.env):PE X (.Attribute e f pos) (a2Y K ta f):=hK ▸ b0U he hb
end
section
variable {prog:Program} {w:World} {A:Around} {E:Value→Shared→Prop} {s:Shared}
theorem a8x:typeLookup (.type "list_reverseiterator") "__len__"=pure none:=by rw [typeLookup_type,builtinLookup_eq_fast];kernel_rfl
theorem a9B:typeLookup (.type "list_reverseiterator") "__length_hint__"=pure (some (.builtin "list_reverseiterator.__length_hint__")):=by rw [typeLookup_type,builtinLookup_eq_fast];kernel_rfl
theorem a3j {I l:Addr} {i:Int} {Q:Bool→Shared→Prop} (hit:s.heap.IsRevIter I l i) (h:Q false s):wpAny (model prog w) A (Builtin.List.listLengthHint (.ref I)) Q E s:=by
 unfold Builtin.List.listLengthHint
 refine wpAny_bind (wpAny_specialOf hit.typeIs a8x ?_)
 show wpAny _ A (specialOf (Value.ref I) (Xs "__length_hint__") >>= _) _ _ _
 refine wpAny_bind (wpAny_specialOf hit.typeIs a9B ?_)
 generalize hid:("list_reverseiterator.__length_hint__":String)=id0
 wp_delta
 rw [show splitId id0=some ("list_reverseiterator","__length_hint__") from by subst hid;decide+kernel]
 subst hid
 refine wpAny_bind (wpAny_isInstance (b:=true) hit.typeIs (by rw [isSubtype_type];kernel_rfl) ?_)
 exact wpAny_pure h
theorem a2z {R:Result→Shared→Prop} {I l:Addr} {items:Array Value} (hh:A.handled=none) (hit:s.heap.IsRevIter I l ((items.size:Int) - 1)) (hl:s.heap.IsList l items) (hlI:l≠I) (hsz:items.size≤sizeLine) (S:Addr) (res:Value) (c₀:Nat)
  (hS:s.heap.get? S=some {cls:=.type "list",data:=.seq #[] c₀}) (hSI:S≠I) (hSl:S≠l)
  (hR:∀h' tk acc' c',(∀b o,b≠S→b≠I→s.heap.get? b=some o→h'.get? b=some o)→h'.get? S=some {cls:=.type "list",dict:=none,data:=.seq acc' c',slots:=#[]}→
   ItemsOf (fun i v=>items[items.size - 1 - i]?=some v) acc' items.size→R (.ok (.ret res)) {s with heap:=h',toks:=tk}):
  wpAny (model prog w) A.in1 (Builtin.List.listExtendWith (.ref S) (.ref I) res)
   (fun fin s'=>match fin with | .done f=>R (.ok f) s' | .again c'=>c'.quiet=true∧codeAny (model prog w) A c' R s') (fun e s'=>R (.error e) s') s:=by
 have W:=(Walks.listRev (prog:=prog) (w:=w) (A:=A.in1) hh I l hlI items).toS
 have hSf:S∉[I,l]:=fun hm=>by
  rcases Qx.mp hm with z | z
  ·exact hSI z
  ·exact hSl (Qt.mp z)
 unfold Builtin.List.listExtendWith
 refine wpAny_bind (wpAny_typeOf hit.typeIs ?_)
 have h1:Builtin.List.listSameRef (.ref S) (.ref I)=false:=by simp [Builtin.List.listSameRef,hSI]
 have h2:(Value.type "list_reverseiterator" == Value.type "list")=false:=by decide
 have h3:(Value.type "list_reverseiterator" == Value.type "tuple")=false:=by decide
 simp only [h1,h2,h3,Bool.or_false,Ju,if_false]
 refine wpAny_bind (wpAny_pyIter_revIter hit ?_)
 refine wpAny_bind (wpAny_holding (a3j hit ?_))
 refine wpAny_ite_split (fun hab=>absurd hab ‹dc›) (fun _=>wpAny_pure ⟨plainId_quiet F.plain_extend_loop _,codeAny_extend_loopS W hsz S hSf res items.size 0 _ #[] c₀ rfl (Xr _) ⟨Xr _,by simpa using hit,hl⟩ hS (ItemsOf.nil _) fun s' acc' c' hm hS' hacc=>?_⟩)
 rw [Moved.eq_with hm]
 refine hR s'.heap s'.toks acc' c' (fun b o hb hbI e=>hm.heap b o (fun hmem=>?_) e) hS' hacc
 rcases Qx.mp hmem with e' | hmem
 ·exact hb e'
 ·exact hbI (Qt.mp hmem)
theorem a3M {Q:Value→Shared→Prop} {I l:Addr} {items:Array Value} (hh:A.handled=none) (hit:s.heap.IsRevIter I l ((items.size:Int) - 1)) (hl:s.heap.IsList l items) (hlI:l≠I) (hsz:items.size≤sizeLine)
  (hQ:∀h' tk acc' c',(∀b o,b≠I→s.heap.get? b=some o→h'.get? b=some o)→
   h'.get? s.heap.objs.size=some {cls:=.type "list",dict:=none,data:=.seq acc' c',slots:=#[]}→ItemsOf (fun i v=>items[items.size - 1 - i]?=some v) acc' items.size→Q (.ref s.heap.objs.size) {s with heap:=h',toks:=tk}):
  wpAny (model prog w) A (call (.type "list") [.ref I]) Q E s:=by
 refine callType_codes (Q₁:=fun obj s₁=>obj=.ref s.heap.objs.size∧s₁={s with heap:=s.heap.push {cls:=.type "list",data:=.seq #[]}}) F.called_list (F.typeCall_list_1 _) F.entry_list_init
  (code_list_new _ ⟨rfl,rfl⟩) fun obj s₁ h₁=>?_
 obtain ⟨rfl,rfl⟩:=h₁
 have hS:(s.heap.push {cls:=.type "list",data:=.seq #[]}).get? s.heap.objs.size=some {cls:=.type "list",data:=.seq #[]}:=Xh _ rfl
 have hIlt:I < s.heap.objs.size:=by obtain ⟨_,z,_⟩:=hit;exact Qo z
 have hllt:l < s.heap.objs.size:=by obtain ⟨_,z,_⟩:=hl;exact Qo z
 refine ⟨⟨_,hS,rfl⟩,F.args_list_init_2 _ _,?_⟩
 show wpAny _ _ (do let old ←Builtin.List.listItems (.ref s.heap.objs.size);Builtin.List.listUpdate (.ref s.heap.objs.size) (fun _=>#[]);letGo old.toList.reverse;Builtin.List.listExtendWith (.ref s.heap.objs.size) (.ref I) .none) _ _ _
 refine wpAny_bind ?_
 unfold Builtin.List.listItems
 refine wpAny_bind (wpAny_seqItems hS rfl (wpAny_pure ?_))
 show wpAny _ _ (updateSeq s.heap.objs.size (fun _=>#[]) >>= fun _=>letGo (#[]:Array Value).toList.reverse >>= fun _=>Builtin.List.listExtendWith (.ref s.heap.objs.size) (.ref I) .none) _ _ _
 refine wpAny_bind (wpAny_updateSeq hS rfl ?_)
 have hS₂:=Vb (Obj.mapSeq (fun _=>(#[]:Array Value))) hS rfl
 have oth:∀b o,b≠s.heap.objs.size→s.heap.get? b=some o→((s.heap.push {cls:=.type "list",data:=.seq #[]}).update s.heap.objs.size (Obj.mapSeq (fun _=>(#[]:Array Value)))).get? b=some o:=
  fun b o hb e=>(Ja _ _ (Ne.symm hb)).trans (Qm _ e)
 refine wpAny_bind (wpAny_letGo ?_)
 refine a2z (A:=A.in1) hh (hit.at fun o e=>oth I o (Xc hIlt) e) (hl.at fun o e=>oth l o (Xc hllt) e) hlI hsz s.heap.objs.size .none _ hS₂ (Vs hIlt) (Vs hllt) fun h' tk acc' c' hk hS' hacc=>?_
 exact ⟨rfl,hQ h' tk acc' c' (fun b o hb e=>hk b o (Xc (Qo e)) hb (oth b o (Xc (Qo e)) e)) hS' hacc⟩
end
section
variable {X:Cx}
theorem a3i:bootBuiltins "reversed"=some (.type "reversed"):=by decide+kernel
theorem a8z {its:List Value} {acc:Array Value} (h:ItemsOf (fun i v=>its.toArray[its.toArray.size - 1 - i]?=some v) acc its.toArray.size):acc.toList=its.reverse:=by
 obtain ⟨h1,h2⟩:=h
 have h1':acc.size=its.length:=by simpa using h1
 refine Zz fun i=>?_
 by_cases hi:i < its.length
 ·have hi':i < acc.size:=by omega
  have e:its[its.length - 1 - i]?=some acc[i]:=by simpa using h2 i acc[i] (Array.getElem?_eq_getElem hi')
  rw [List.getElem?_reverse hi,e]
  simp [hi']
 ·rw [Ye (by simp;omega),Ye (by simp;omega)]
theorem a6k {e:Expr} {te:TE} {p1 p2 q1 q2:Pos} (hc:X.calm=true) (hg1:Gl X "list") (hm1:X.mg "list"=none) (hg2:Gl X "reversed") (hm2:X.mg "reversed"=none) (he:PE X e te)
  (hs1:starEach [Expr.Call (.Name "reversed" p2) [e] [] q2] X.env=[(false,eval (.Call (.Name "reversed" p2) [e] [] q2) X.env)]:=by rfl) (hs2:starEach [e] X.env=[(false,eval e X.env)]:=by rfl):
  PE X (.Call (.Name "list" p1) [.Call (.Name "reversed" p2) [e] [] q2] [] q1) (a9u X.K te):=by
 intro pins s σ H Q I h
 refine Call_ (a2T I hg1 hm1 a0E (PyProof.Rows.callWith_type1 ?_ hs1 rfl))
 rw [hs1]
 show wpAny _ _ (spliced ((false,eval (.Call (.Name "reversed" p2) [e] [] q2) X.env)::[])) _ _ s
 refine Calls.spliced_cons ?_
 refine Call_ (a2T I hg2 hm2 a3i (PyProof.Rows.callWith_type1 ?_ hs2 rfl))
 rw [hs2]
 show wpAny _ _ (spliced ((false,eval e X.env)::[])) _ _ s
 refine Calls.spliced_cons (thn (he pins s σ H _ I h) fun u s1 ⟨x,H1,I1,r1,q1⟩=>?_)
 refine Calls.spliced_nil ?_
 obtain ⟨a,xs,rfl,hq,q⟩:=q1
 cases r1
 obtain ⟨its,rv,pl,hz⟩:=I1.list hq
 have hl:=pl.isList
 have hlt:a < s1.heap.objs.size:=by obtain ⟨_,z,_⟩:=hl;exact Qo z
 refine call_reversed_list hl ?_
 refine Calls.spliced_nil ?_
 have hlen:=rv.length
 refine a3M (I:=s1.heap.objs.size) (l:=a) (items:=its.toArray) (I1.ok.hd hc) ⟨_,Xh _ rfl,rfl,rfl⟩ (hl.push _) (Xc hlt) (by rw [Ql,←hlen];exact hz) fun h' tk acc' c' hk hS' hacc=>?_
 have hp:(s1.heap.push (revObj a ((its.toArray.size:Int) - 1))).objs.size=s1.heap.objs.size+1:=Jq ..
 have keep:∀b u,s1.heap.get? b=some u→h'.get? b=some u:=fun b u z=>hk b u (Xc (Qo z)) (Qm _ z)
 have hfr:H1 (s1.heap.objs.size+1)=none:=I1.hok.fresh (Zj _)
 have hS2:h'.get? (s1.heap.objs.size+1)=some {cls:=.type "list",dict:=none,data:=.seq acc' c',slots:=#[]}:=by rw [←hp];exact hS'
 have ea:acc'=its.reverse.toArray:=by rw [←a8z hacc]
 refine ⟨.ref (s1.heap.objs.size+1),upd H1 (s1.heap.objs.size+1) (.lst xs.reverse),I1.laid (t':=tk) keep (Zj _) ⟨by rw [Vn];exact hz,its.reverse,c',rv.reverse,by rw [hS2,ea]⟩,?_,q _ hfr⟩
 show Value.ref _=Value.ref _
 rw [←hp]
end
section
variable {X:Cx} {pins:List (Addr×Obj)} {σ:St} {H:Hp} {s:Shared} {a:Addr} {kvs:List (Key×V)} {k:Key} {u:Value} {A:Around} {E:Value→Shared→Prop}
theorem b2E {z:V} {r:Value} {Q:Value→Shared→Prop} (I:Inv X pins σ H s) (e:H a=some (.dK kvs)) (ry:a0O (kV k) u) (rz:a0O z r) (hz:kvs.length < sizeLine)
  (h1:∀v w' s',a1F kvs k=some v→Inv X pins σ H s'→a0O v w'→Q w' s') (h2:a1F kvs k=none→∀s',Inv X pins σ (upd H a (.dK (a3h kvs k z))) s'→Q r s'):
  wpAny (model X.prog X.w) A (call (.builtin "dict.setdefault") [.ref a,u,r]) Q E s:=by
 obtain ⟨z0,hd,vs,rel,dd⟩:=b3e I.hok e
 refine call_meetsIn Js dd.typeIs PySem.F.entry_dict_setdefault (PySem.F.args_dict_setdefault_3 _ _ _) (kt_meets_setdefault (a0R X.prog X.w) a (a7U ry) hd r) ⟨vs,dd,by rw [←rel.length];exact z0,fun v hv=>?_,fun hn h' dd' hs=>?_⟩
 ·cases l:a1F kvs k with
  | none=>
   have:=a3N.none_of (o:=valueAt vs k) (by rw [←l];exact rel.val k)
   rw [this] at hv;cases hv
  | some x=>
   obtain ⟨w',hw,rw'⟩:=a3N.some_of (v:=x) (o:=valueAt vs k) (by rw [←l];exact rel.val k)
   rw [hw] at hv;cases hv
   exact h1 x _ _ l (I.tok _) rw'
 ·have l:a1F kvs k=none:=by
   cases l:a1F kvs k with
   | none=>rfl
   | some x=>
    obtain ⟨w',hw,_⟩:=a3N.some_of (v:=x) (o:=valueAt vs k) (by rw [←l];exact rel.val k)
    rw [hw] at hn;cases hn
  refine h2 l _ ?_
  have he:∃q,h'.get? a=some q:=let ⟨q,_,_,hq,_⟩:=dd';⟨q,hq⟩
  exact a5b I (by rw [e];exact True.intro) hs he (b0w (by have:=a1g kvs k z;omega) hd (rel.put k rz) dd')
end
def b0D (td ty tx:TE):TE:=fun σ H Q=>td σ H fun x H1=>∃a,x=.ref a∧IsD H1 a∧ty σ H1 fun y H2=>tx σ H2 fun z H3=>∃kvs k,H3 a=some (.dK kvs)∧y=kV k∧kvs.length < sizeLine∧
 (∀v,a1F kvs k=some v→Q v H3)∧(a1F kvs k=none→Q z (upd H3 a (.dK (a3h kvs k z))))
section
variable {X:Cx} {o e f:Expr} {apos cpos:Pos} {td ty tx:TE}
theorem a9N (ho:PE X o td) (he:PE X e ty) (hf:PE X f tx) (m:M2 X o "setdefault" apos e f cpos):PE X (.Call (.Attribute o "setdefault" apos) [e,f] [] cpos) (b0D td ty tx):=by
 intro pins s σ H Q I h
 refine wpAny_Call_method m.base m.few m.line Up Js PySem.F.type_dict_setdefault (thn (ho pins s σ H _ I h) fun u s1 ⟨x,H1,I1,rx,a,ex,d,q1⟩=>?_)
 subst ex
 obtain rfl:u=Value.ref a:=rx
 obtain ⟨t1,t2,_⟩:=b0C I1 d
 refine ⟨t1,t2,?_⟩
 rw [m.trees]
 refine Calls.callWith_builtin rfl (Calls.evalArgs_plain (Calls.spliced_cons (thn (he pins s1 σ H1 _ I1 q1) fun iv s2 ⟨y,H2,I2,ry,q2⟩=>
  Calls.spliced_cons (thn (hf pins s2 σ H2 _ I2 q2) fun fv s3 ⟨z,H3,I3,rz,kvs,k,hH,ey,hz,q3,q4⟩=>Calls.spliced_nil ?_))))
 subst ey
 exact b2E I3 hH ry rz hz (fun v w' s' l I' r'=>⟨v,H3,I',r',q3 v l⟩) (fun l s' I'=>⟨z,_,I',rz,q4 l⟩)
end
def a6g (n:Nat) (p:Array Nat):Prop:=p.Perm (Vx (Yq n))
theorem a6g.list {n:Nat} {p:Array Nat} (h:a6g n p):p.toList.Perm (Yq n):=Array.perm_iff_toList_perm.mp h
def c0M (K:Qd) (n:Nat) (t:TGs):TG:=fun v σ H Q=>∃a xs,v=.ref a∧SqL K H a xs∧xs.length=n∧t xs σ H Q
def a0l (H:Hp) (xs:List V) (pl:List (Str×Str)):Prop:=∃as:List Addr,xs=as.map V.ref∧as.length=pl.length∧∀(i:Nat) (a:Addr) (p:Str×Str),as[i]?=some a→pl[i]?=some p→H a=some (.tup [.str p.1,.str p.2])
def a3l (H:Hp) (a:Addr):Option (Str×Str):=match H a with
 | some (.tup [.str x,.str y])=>some (x,y)
 | _=>none
def c2i (K:Qd):R2:=fun x y H Q=>∃(q l:Addr) (a b:Str) (xs:List V) (pl:List (Str×Str)),x=.ref q∧y=.ref l∧H q=some (.tup [.str a,.str b])∧SqL K H l xs∧a0l H xs pl∧(Xk a=true∧Xk b=true)∧(∀p∈pl,Xk p.1=true∧Xk p.2=true)∧Q (.bl (decide ((a,b)∈pl))) H
section
variable {X:Cx} {pos:Pos}
theorem b5f {es:List Expr} {k:Nat} {t:TGs} {n:Nat} (hc:X.calm=true) (h:PGs X es t)
  (hn:(assignEach es X.env).length=n:=by rfl) (hst:(assignEach es X.env).findIdx? (·.1)=none:=by rfl):PG X (.Tuple es k pos) (c0M X.K n t):=by
 intro pins s σ H v u Q I r hw
 obtain ⟨a,xs,e1,hq,hl,hw⟩:=hw
 subst e1
 cases r
 obtain ⟨its,rv,pl,hz⟩:=I.list hq
 have hsz:(assignEach es X.env).length=its.toArray.size:=by rw [hn,←hl,rv.length];simp
 rw [assign_Tuple]
 refine wpAny_bind (wpAny_standAt ?_)
 unfold unpack
 rw [hsz,hst]
 refine wpAny_bind (wpAny_holding (kun_itemsOf (I.ok.hd hc) pl.isList fun h' hx=>?_))
 have I1:Inv X pins σ H {s with heap:=h'}:=I.kept (t':=s.toks) fun b o e=>hx b o (Xc (Qo e)) e
 exact h pins _ σ H xs _ Q I1 (by simpa using rv) hw
theorem a2J {K:Qd} {H:Hp} {a:Addr} {x y:Str} (h:H a=some (.tup [.str x,.str y])):Den K H (.ref a) (.tuple [.str x,.str y]):=.tup (SqT.of h) (.cons (.str x) (.cons (.str y) .nil))
theorem a2G {x y:Str} (h1:Xk x=true) (h2:Xk y=true):Zd (.tuple [.str x,.str y])=true:=by
 show (Zd (.str x) && (Zd (.str y) && true))=true
 rw [show Zd (.str x)=true from h1,show Zd (.str y)=true from h2];rfl
theorem a5L (x y a b:Str):Yw (.tuple [.str x,.str y]) (.tuple [.str a,.str b])=decide ((x,y)=(a,b)):=by
 have e:Yw (.tuple [.str x,.str y]) (.tuple [.str a,.str b])=(decide (x=a) && (decide (y=b) && true)):=by first | rfl | simp [Yw,PyData.eqvAll]
 rw [e]
 by_cases h1:x=a<;>by_cases h2:y=b<;>simp [h1,h2]
theorem b4h (hu:X.A.units+64 < cLine):OpR X (compareOp .In) (c2i X.K):=by
 intro pins s σ H x y v u Q I rx ry h
 obtain ⟨q,l,a,b,xs,pl,rfl,rfl,hq,hl,⟨as,rfl,hal,hat⟩,hab,hpo,qq⟩:=h
 cases rx
 cases ry
 obtain ⟨its,rv,p1,hz⟩:=I.list hl
 have hits:its=as.map Value.ref:=by
  have:∀{as:List Addr} {its:List Value},a0H (as.map V.ref) its→its=as.map Value.ref:=by
   intro as
   induction as with
   | nil=>intro its r;cases r;rfl
   | cons a as ih=>
    intro its r
    cases r with
    | cons h t=>cases h;rw [ih t];rfl
  exact this rv
 subst hits
 have hpr:∀c∈as,∃p∈pl,H c=some (.tup [.str p.1,.str p.2]):=fun c hc=>by
  obtain ⟨i,hi,rfl⟩:=Zo hc
  have hi':i < pl.length:=by omega
  exact ⟨pl[i],Qq hi',hat i _ _ (Qe hi) (Qe hi')⟩
 obtain ⟨bs,rb⟩:=(a2J (K:=X.K) hq).reads I (show a0O (V.ref q) (Value.ref q) from rfl)
 refine SeqAt.in_listAt (fun w=>match w with | .ref c=>decide (a3l H c=some (a,b)) | _=>false) p1.isList (fun w hw=>?_) ⟨.bl _,H,I,rfl,?_⟩
 ·obtain ⟨c,hc,rfl⟩:=Qn.mp (show w∈as.map Value.ref by simpa using hw)
  obtain ⟨p,hp,hc2⟩:=hpr c hc
  obtain ⟨cs,rc⟩:=(a2J (K:=X.K) hc2).reads I (show a0O (V.ref c) (Value.ref c) from rfl)
  have e0:=SeqAt.eqAt_reads _ _ X.A.in1 s _ _ _ _ rc rb (a2G (hpo p hp).1 (hpo p hp).2) (a2G hab.1 hab.2) (by
   have h1:min (Zf (.tuple [.str p.1,.str p.2])) (Zf (.tuple [.str a,.str b]))≤1:=Qi (Us _ _) (by simp [Zf,Ut])
   have h2:X.A.in1.units≤X.A.units+1:=by first | exact Qk _ | exact Zj _ | (simp [Around.in1])
   omega)
  rw [a5L] at e0
  have e1:(match Value.ref c with | .ref c=>decide (a3l H c=some (a,b)) | _=>false)=decide ((p.1,p.2)=(a,b)):=by
   show decide (a3l H c=some (a,b))=_
   have:a3l H c=some (p.1,p.2):=by unfold a3l;rw [hc2]
   rw [this,Yg,decide_eq_true_eq,decide_eq_true_eq,Option.some.injEq]
  rw [e1];exact e0
 ·have e2:(Vx (as.map Value.ref)).any (fun w=>match w with | .ref c=>decide (a3l H c=some (a,b)) | _=>false)=decide ((a,b)∈pl):=by
   rw [List.any_toArray,Yt,Yg,Xv,decide_eq_true_eq]
   constructor
   ·rintro ⟨c,hc,e⟩
    obtain ⟨p,hp,hc2⟩:=hpr c hc
    have e':a3l H c=some (a,b):=of_decide_eq_true e
    have:a3l H c=some (p.1,p.2):=by unfold a3l;rw [hc2]
    rw [this] at e'
    have e3:p=(a,b):=Option.some.inj e'
    rw [←e3];exact hp
   ·intro hm
    obtain ⟨i,hi,e⟩:=Zo hm
    have hi':i < as.length:=by omega
    have h1:=hat i _ _ (Qe hi') (Qe hi)
    refine ⟨as[i],Qq hi',decide_eq_true ?_⟩
    unfold a3l;rw [h1,e]
  rw [e2];exact qq
end
def b2F (t u:TT):TT:=fun σ H Q=>t σ H Q∨u σ H Q
theorem b4e {X:Cx} {e:Expr} {t u:TT} (h1:PT X e t) (h2:PT X e u):PT X e (b2F t u):=fun pins s σ H Q I h=>h.elim (h1 pins s σ H Q I) (h2 pins s σ H Q I)
def c1J (K:Qd):R2:=fun x y H Q=>∃(a b:Addr) (xs:List V),x=.ref a∧y=.ref b∧SqL K H a xs∧SqL K H b []∧Q (.bl (decide (xs=[]))) H
section
variable {X:Cx}
theorem b0B (hu:X.A.units+64 < cLine):OpR X (compareOp .Eq) (c1J X.K):=by
 intro pins s σ H x y v u Q I rx ry h
 obtain ⟨a,b,xs,rfl,rfl,ha,hb,q⟩:=h
 cases rx
 cases ry
 obtain ⟨its,rv,p1,_⟩:=I.list ha
 obtain ⟨its2,rv2,p2,_⟩:=I.list hb
 have hl:=rv.length
 have hl2:=rv2.length
 cases rv2
 by_cases hx:xs=[]
 ·subst hx
  cases rv
  rw [decide_eq_true rfl] at q
  exact SeqAt.eq_listAt (e:=fun _=>true) p1.isList p2.isList rfl ‹om› (fun j h1 _=>absurd h1 (by simp)) ⟨.bl _,H,I,rfl,q⟩
 ·rw [decide_eq_false hx] at q
  refine SeqAt.eq_list_lengthsAt p1.isList p2.isList ?_ ‹om› ⟨.bl _,H,I,rfl,q⟩
  have:its.length≠0:=fun z=>hx (Zh.mp ‹om›)
  simp [this]
end
end L2
namespace L2
open PySem PySem.Spec PySem.W PyProof.Rows
theorem a6g.size {n:Nat} {p:Array Nat} (h:a6g n p):p.size=n:=by
 have:=Array.Perm.size_eq h;simpa using this
theorem a6g.inj {n:Nat} {p:Array Nat} (h:a6g n p) {i j:Nat} (hi:i < n) (hj:j < n) (e:i≠j):p.getD i 0≠p.getD j 0:=by
 have nd:p.toList.Nodup:=(h.list.nodup_iff).mpr List.nodup_range
 have hs:=h.size
 rw [List.nodup_iff_pairwise_ne,List.pairwise_iff_getElem] at nd
 have e1:p.getD i 0=p[i]'‹om›:=by simp [Array.getD,show i < p.size by omega]
 have e2:p.getD j 0=p[j]'‹om›:=by simp [Array.getD,show j < p.size by omega]
 rw [e1,e2]
 rcases Nat.lt_or_gt_of_ne e with q | q
 ·exact nd i j (by simpa using (by omega:i < p.size)) (by simpa using (by omega:j < p.size)) q
 ·exact Ne.symm (nd j i (by simpa using (by omega:j < p.size)) (by simpa using (by omega:i < p.size)) q)
end L2
namespace L2
open PySem PySem.Spec PySem.W PyProof.Rows PySem.Builtin PySem.Builtin.ObjectAttr
def b0y:List Value→Bool
 | .ref _::r=>b0y r
 | [.type a,.type b,.type c,.type d]=>a == "ValueError" && b == "Exception" && c == "BaseException" && d == "object"
 | _=>false
def b5h (K:Qd) (C:Addr):Bool:=(clsIn K C).any fun cd=>b0y cd.mro
end L2
namespace L2
open PySem PySem.Spec PySem.W PySem.Calls PyProof.Rows PySem.Builtin PySem.Builtin.ObjectAttr
abbrev bmV:List Value:=[.type "ValueError",.type "Exception",.type "BaseException",.type "object"]
def c0z (K:Qd) (C:Addr):Bool:=match K.lookup C with
 | some ⟨.type "type",_,.cls cd,sl⟩=>(match cd.mro,sl.toList with
  | .ref C'::bm,[_,_,_,_,some (.builtin n),_]=>C' == C && n == "ValueError.__new__" && !cd.hasDel && !cd.abstract && tailIn K bmV bm && specialIn K (.ref C) "__call__" == some (some (.builtin "type.__call__")) && instIn K (.ref C) (.type "type") == some true
  | _,_=>false)
 | _=>false
structure c1k (K:Qd) (C:Addr):Prop where
 ga:findIn K (.ref C) "__getattribute__"=some (some (.builtin "BaseException.__getattribute__"))
 gt:findIn K (.ref C) "__getattr__"=some none
 bx:mroIn K C (.type "BaseException")=some true
 hd:hasDictIn K C=true
 cc:findIn K (.ref C) "__class__"=some (some (.builtin "object.__class__"))
 cg:specialIn K (.builtin "object.__class__") "__get__"=some (some (.builtin "getset_descriptor.__get__"))
 ct:takesIn K (.builtin "object.__class__")=some true
 mo:mroIn K C (.type "object")=some true
 sa:findIn K (.ref C) "__setattr__"=some (some (.builtin "object.__setattr__"))
 ov:b5h K C=true
 xc:c0z K C=true
end L2
namespace L2
open PySem PySem.Spec PySem.W PyProof.Rows
def b8m (x C:Addr) (od:Option Addr):HO:=.ext fun h=>∃vs sl,h.get? x=some ⟨.ref C,od,.fields vs,sl⟩∧vs[1]?=some Value.none
def b7X (x C:Addr) (od:Option Addr) (T:Addr):HO:=.ext fun h=>∃vs sl,h.get? x=some ⟨.ref C,od,.fields vs,sl⟩∧vs[1]?=some (Value.ref T)
def IsX (H:Hp) (x C:Addr) (od:Option Addr):Prop:=H x=some (b8m x C od)∨∃T,H x=some (b7X x C od T)
end L2
namespace L2
open PySem PySem.Spec PySem.W PySem.Calls PyProof.Rows
def c0G (H:Hp) (x C:Addr) (m:Str) (v:V):Prop:=∃d,IsX H x C (some d)∧H d=some (.xd [(m,v)])
def b8t (H:Hp) (x C:Addr):Option (Str×V)→Prop
 | some (m,v)=>c0G H x C m v
 | none=>IsX H x C none
def b2B (H:Hp):List Addr→List (Addr×Option (Str×V))→Prop
 | [],[]=>True
 | x::xs,e::es=>b8t H x e.1 e.2∧b2B H xs es
 | _,_=>False
theorem b2B.len {H:Hp}:∀{xs:List Addr} {es:List (Addr×Option (Str×V))},b2B H xs es→xs.length=es.length
 | [],[],_=>rfl
 | _::_,_::_,⟨_,b⟩=>congrArg (·+1) b.len
 | [],_::_,h=>h.elim
 | _::_,[],h=>h.elim
theorem b2B.get {H:Hp}:∀{xs:List Addr} {es:List (Addr×Option (Str×V))} {i:Nat} {e:Addr×Option (Str×V)},b2B H xs es→es[i]?=some e→∃x,xs[i]?=some x∧b8t H x e.1 e.2
 | _::_,_::_,0,_,⟨a,_⟩,h=>by cases h;exact ⟨_,rfl,a⟩
 | _::_,_::_,i+1,_,⟨_,b⟩,h=>b2B.get (i:=i) b (by simpa using h)
 | [],_::_,_,_,h,_=>h.elim
 | _::_,[],_,_,h,_=>h.elim
def TbO (T:Addr) (fl:Value):HO:=.ext fun h=>∃ob ts,h.get? T=some ob∧ob.data=.fields ts∧ts[3]?=some fl
def Fl (H:Hp) (x C:Addr) (od:Option Addr) (fl:Value) (T:Addr):Prop:=T≠x∧H x=some (b7X x C od T)∧H T=some (TbO T fl)
def Arr (H:Hp) (x C:Addr) (od oT:Option Addr):Prop:=(oT=none∧H x=some (b8m x C od))∨∃T,oT=some T∧Fl H x C od .none T
section
variable {X:Cx} {pins:List (Addr×Obj)} {σ:St} {H:Hp} {s:Shared}
abbrev XW:=St→Addr→Addr→Hp→Prop
def XP (X:Cx) (pins:List (Addr×Obj)) (W:XW) (e:Value) (s':Shared):Prop:=∃σ H x C od oT,e=.ref x∧Inv X pins σ H s'∧Arr H x C od oT∧c1k X.K C∧W σ x C H
end
end L2
namespace Tx
open PySem PySem.Builtin PySem.Builtin.Str PySem.StrLaws PyProof.Rows
theorem a1Z (l:List Nat) (i j:Nat):(strSub (mk l) i j).length≤l.length:=by
 rw [b3b,a1W]
 exact Qi (List.length_take_le' _ _) (by rw [Jf];omega)
end Tx
namespace L2
open PySem PySem.Spec PySem.W PySem.Calls PyProof.Rows
end L2
namespace L2
open PySem PySem.Spec PyProof.Rows PySem.W
end L2
namespace L2
open PySem PySem.Spec PyProof.Rows
def b2t (K:Qd):R2:=fun x y H Q=>∃(q l:Addr) (a b:Str) (xs:List V) (pl:List (Str×Str)),x=.ref q∧y=.ref l∧H q=some (.tup [.str a,.str b])∧SqL K H l xs∧a0l H xs pl∧(Xk a=true∧Xk b=true)∧(∀p∈pl,Xk p.1=true∧Xk p.2=true)∧Q (.bl (!decide ((a,b)∈pl))) H
section
variable {X:Cx} {pos:Pos}
theorem a4l (hu:X.A.units+64 < cLine):OpR X (compareOp .NotIn) (b2t X.K):=by
 intro pins s σ H x y v u Q I rx ry h
 obtain ⟨q,l,a,b,xs,pl,rfl,rfl,hq,hl,⟨as,rfl,hal,hat⟩,hab,hpo,qq⟩:=h
 cases rx
 cases ry
 obtain ⟨its,rv,p1,hz⟩:=I.list hl
 have hits:its=as.map Value.ref:=by
  have:∀{as:List Addr} {its:List Value},a0H (as.map V.ref) its→its=as.map Value.ref:=by
   intro as
   induction as with
   | nil=>intro its r;cases r;rfl
   | cons a as ih=>
    intro its r
    cases r with
    | cons h t=>cases h;rw [ih t];rfl
  exact this rv
 subst hits
 have hpr:∀c∈as,∃p∈pl,H c=some (.tup [.str p.1,.str p.2]):=fun c hc=>by
  obtain ⟨i,hi,rfl⟩:=Zo hc
  have hi':i < pl.length:=by omega
  exact ⟨pl[i],Qq hi',hat i _ _ (Qe hi) (Qe hi')⟩
 obtain ⟨bs,rb⟩:=(a2J (K:=X.K) hq).reads I (show a0O (V.ref q) (Value.ref q) from rfl)
 refine Vv (fun w=>match w with | .ref c=>decide (a3l H c=some (a,b)) | _=>false) p1.isList (fun w hw=>?_) ⟨.bl _,H,I,rfl,?_⟩
 ·obtain ⟨c,hc,rfl⟩:=Qn.mp (show w∈as.map Value.ref by simpa using hw)
  obtain ⟨p,hp,hc2⟩:=hpr c hc
  obtain ⟨cs,rc⟩:=(a2J (K:=X.K) hc2).reads I (show a0O (V.ref c) (Value.ref c) from rfl)
  have e0:=SeqAt.eqAt_reads _ _ X.A.in1 s _ _ _ _ rc rb (a2G (hpo p hp).1 (hpo p hp).2) (a2G hab.1 hab.2) (by
   have h1:min (Zf (.tuple [.str p.1,.str p.2])) (Zf (.tuple [.str a,.str b]))≤1:=Qi (Us _ _) (by simp [Zf,Ut])
   have h2:X.A.in1.units≤X.A.units+1:=by first | exact Qk _ | exact Zj _ | (simp [Around.in1])
   omega)
  rw [a5L] at e0
  have e1:(match Value.ref c with | .ref c=>decide (a3l H c=some (a,b)) | _=>false)=decide ((p.1,p.2)=(a,b)):=by
   show decide (a3l H c=some (a,b))=_
   have:a3l H c=some (p.1,p.2):=by unfold a3l;rw [hc2]
   rw [this,Yg,decide_eq_true_eq,decide_eq_true_eq,Option.some.injEq]
  rw [e1];exact e0
 ·have e2:(Vx (as.map Value.ref)).any (fun w=>match w with | .ref c=>decide (a3l H c=some (a,b)) | _=>false)=decide ((a,b)∈pl):=by
   rw [List.any_toArray,Yt,Yg,Xv,decide_eq_true_eq]
   constructor
   ·rintro ⟨c,hc,e⟩
    obtain ⟨p,hp,hc2⟩:=hpr c hc
    have e':a3l H c=some (a,b):=of_decide_eq_true e
    have:a3l H c=some (p.1,p.2):=by unfold a3l;rw [hc2]
    rw [this] at e'
    have e3:p=(a,b):=Option.some.inj e'
    rw [←e3];exact hp
   ·intro hm
    obtain ⟨i,hi,e⟩:=Zo hm
    have hi':i < as.length:=by omega
    have h1:=hat i _ _ (Qe hi') (Qe hi)
    refine ⟨as[i],Qq hi',decide_eq_true ?_⟩
    unfold a3l;rw [h1,e]
  rw [e2];exact qq
end
end L2
namespace L2
open PySem
theorem c0I {a b c:Prop} (h:a):a∨b∨c:=Or.inl h
theorem c1I {a b c:Prop} (h:b):a∨b∨c:=Or.inr (Or.inl h)
theorem c0Q {a b c:Prop} (h:c):a∨b∨c:=Or.inr (Or.inr h)
end L2
namespace K54
open PySem L2 Tx
abbrev b2X:List Str:=["some","told","statement"]
theorem a7i:a0e b2X ["some"] (a0a a8i):=‹sk›
abbrev b1J:List Str:=["statements","some"]
theorem b2J:a0e b1J ["statements","some"] (a0a a6I):=‹sk›
abbrev b2f:List Str:=["statements","some"]
theorem b5N:a0e b2f ["statements","some"] (a0a a6c):=‹sk›
abbrev b4y:List Str:=["statement"]
theorem b6c:a0e b4y ["statement"] (a0a a7N):=‹sk›
abbrev a6d:List Str:=["ground","some","ahead","text","ways","sure_rules"]
theorem a3Y:a0e a6d ["ground","some"] (a0a a3H):=‹sk›
abbrev b1c:List Str:=["ground","rule","beaters"]
theorem b5o:a0e b1c ["ground","rule","beaters"] (a0a a6z):=‹sk›
abbrev a9y:List Str:=["ground","sures","held","refused","q","standing"]
theorem b0h:a0e a9y ["ground","sures","held","refused","q"] (a0a a5l):=‹sk›
abbrev a9x:List Str:=["ground","sures","held","refused","q","unfallen"]
theorem b0i:a0e a9x ["ground","sures","held","refused","q"] (a0a a5n):=‹sk›
abbrev b2v:List Str:=["rows","word"]
theorem b3g:a0e b2v ["rows","word"] (a0a a6w):=‹sk›
abbrev b5j:List Str:=["ground","sures","rows","claim","held","refused"]
theorem a7s:a0e b5j ["ground","sures","rows","claim"] (a0a a7f):=‹sk›
abbrev b1b:List Str:=["ground","paper","sures","rows"]
theorem a7b:a0e b1b ["ground","paper"] (a0a a6i):=‹sk›
abbrev b3k:List Str:=["self","label","head","body"]
theorem b3s:a0e b3k ["self","label","head","body"] (a0a a7R):=‹sk›
abbrev b5t:List Str:=["self"]
theorem b3D:a0e b5t ["self"] (a0a a8w):=‹sk›
abbrev b5Z:List Str:=["self"]
theorem b3U:a0e b5Z ["self"] (a0a a8J):=‹sk›
abbrev b3Y:List Str:=["self","head"]
theorem b3h:a0e b3Y ["self","head"] (a0a a7Q):=‹sk›
abbrev b4m:List Str:=["self"]
theorem b5X:a0e b4m ["self"] (a0a a6W):=‹sk›
abbrev b5O:List Str:=["self"]
theorem b3N:a0e b5O ["self"] (a0a a8B):=‹sk›
abbrev b3Q:List Str:=["self"]
theorem b5z:a0e b3Q ["self"] (a0a a8U):=‹sk›
abbrev b3C:List Str:=["self"]
theorem b4f:a0e b3C ["self"] (a0a a8A):=‹sk›
abbrev b2S:List Str:=["self"]
theorem b4u:a0e b2S ["self"] (a0a a7m):=‹sk›
abbrev b4H:List Str:=["self"]
theorem b5c:a0e b4H ["self"] (a0a a8D):=‹sk›
abbrev b4O:List Str:=["self"]
theorem b3y:a0e b4O ["self"] (a0a a8m):=‹sk›
abbrev b5L:List Str:=["self","rules","pairs","rule","pair"]
theorem a8e:a0e b5L ["self","rules","pairs"] (a0a a7n):=‹sk›
abbrev b5Q:List Str:=["self"]
theorem b3W:a0e b5Q ["self"] (a0a a7u):=‹sk›
abbrev b3X:List Str:=["self","statement"]
theorem b2Z:a0e b3X ["self","statement"] (a0a a7W):=‹sk›
abbrev b2d:List Str:=["self","statement"]
theorem b2H:a0e b2d ["self","statement"] (a0a a6m):=‹sk›
abbrev b5F:List Str:=["self","statement"]
theorem b3u:a0e b5F ["self","statement"] (a0a a8K):=‹sk›
abbrev b6d:List Str:=["self","one","other"]
theorem b4i:a0e b6d ["self","one","other"] (a0a a8H):=‹sk›
abbrev b6j:List Str:=["_law_script","_law_k"]
theorem b5B:a0e b6j ["_law_script","_law_k"] (a0a a8p):=‹sk›
abbrev b4S:List Str:=["_law_cell","_law_k","_law_number"]
theorem a5u:a0e b4S ["_law_cell","_law_k"] (a0a a8r):=‹sk›
abbrev b1M:List Str:=["_law_cell","_law_many","_law_signs","_law_base","_law_size","_law_at","_law_found","_law_k","_law_other"]
theorem a2t:a0e b1M ["_law_cell","_law_many"] (a0a a6h):=‹sk›
abbrev b3f:List Str:=["_law_text"]
theorem b2G:a0e b3f ["_law_text"] (a0a a7V):=‹sk›
abbrev b3A:List Str:=["_law_script","_law_names","_law_things","_law_some"]
theorem a4y:a0e b3A ["_law_script"] (a0a a8b):=‹sk›
abbrev b4r:List Str:=["_law_pool_here","_law_number","_law_text"]
theorem a9Z:a0e b4r ["_law_pool_here","_law_number"] (a0a a8h):=‹sk›
abbrev b4v:List Str:=["_law_cell","_law_many","_law_size","_law_plain","_law_found","_law_rest","_law_j"]
theorem a4M:a0e b4v ["_law_cell","_law_many","_law_size","_law_plain"] (a0a a7C):=‹sk›
abbrev b2j:List Str:=["_law_pool_here","_law_cell","_law_k","_law_plain","_law_many","_law_texts","_law_way","_law_label"]
theorem a4H:a0e b2j ["_law_pool_here","_law_cell","_law_k","_law_plain"] (a0a a5Y):=‹sk›
abbrev b2O:List Str:=["_law_rules","_law_cell","_law_pairs_here","_law_k","_law_j","_law_way"]
theorem a4i:a0e b2O ["_law_rules","_law_cell"] (a0a a7O):=‹sk›
abbrev b4x:List Str:=["_law_rules","_law_cell"]
theorem b4U:a0e b4x ["_law_rules","_law_cell"] (a0a a7r):=‹sk›
abbrev b1Q:List Str:=["_law_script","_law_many","_law_pool_here","_law_cells","_law_plain","_law_rules","_law_pairs_here","_law_every","_law_text"]
theorem a2v:a0e b1Q ["_law_script","_law_many"] (a0a a6q):=‹sk›
abbrev b4P:List Str:=["_law_rule_here"]
theorem b5g:a0e b4P ["_law_rule_here"] (a0a a7D):=‹sk›
abbrev b3L:List Str:=["_law_rule_here","_law_held","_law_text"]
theorem b0z:a0e b3L ["_law_rule_here","_law_held"] (a0a a7S):=‹sk›
abbrev b2N:List Str:=["_law_rule_here","_law_refused","_law_text"]
theorem b0V:a0e b2N ["_law_rule_here","_law_refused"] (a0a a7h):=‹sk›
abbrev b1t:List Str:=["_law_scene_here","_law_text"]
theorem b4D:a0e b1t ["_law_scene_here","_law_text"] (a0a a5U):=‹sk›
abbrev b1E:List Str:=["_law_scene_here","_law_text"]
theorem b3o:a0e b1E ["_law_scene_here","_law_text"] (a0a a6x):=‹sk›
abbrev b5w:List Str:=["_law_scene_here","_law_rule_here","_law_others","_law_other"]
theorem b0M:a0e b5w ["_law_scene_here","_law_rule_here","_law_others"] (a0a a7e):=‹sk›
abbrev b1S:List Str:=["_law_scene_here","_law_sures_here","_law_held","_law_refused","_law_text","_law_standing","_law_rule_here"]
theorem a7K:a0e b1S ["_law_scene_here","_law_sures_here","_law_held","_law_refused","_law_text"] (a0a a6e):=‹sk›
abbrev b2s:List Str:=["_law_scene_here","_law_sures_here","_law_held","_law_refused","_law_text","_law_left","_law_rule_here"]
theorem a8E:a0e b2s ["_law_scene_here","_law_sures_here","_law_held","_law_refused","_law_text"] (a0a a6D):=‹sk›
abbrev b2K:List Str:=["_law_scene_here","_law_found","_law_last","_law_rule_here"]
theorem a4s:a0e b2K ["_law_scene_here"] (a0a a8j):=‹sk›
abbrev b4w:List Str:=["_law_scene_here","_law_sures_here","_law_held","_law_refused","_law_rows","_law_last","_law_text"]
theorem a3g:a0e b4w ["_law_scene_here","_law_sures_here"] (a0a a8n):=‹sk›
abbrev b1s:List Str:=["_law_scene_here","_law_cell","_law_word","_law_text","_law_found","_law_rule_here"]
theorem a4x:a0e b1s ["_law_scene_here","_law_cell"] (a0a a5V):=‹sk›
abbrev b2T:List Str:=["_law_world","_law_cells","_law_ground","_law_scene_here","_law_firm_here","_law_rows","_law_cell","_law_claim"]
theorem a3e:a0e b2T ["_law_world","_law_cells"] (a0a a7x):=‹sk›
abbrev a9o:List Str:=["_law_scene_here","_law_sures_here","_law_rows","_law_k","_law_held","_law_refused","_law_word","_law_text"]
theorem a3w:a0e a9o ["_law_scene_here","_law_sures_here","_law_rows"] (a0a a5k):=‹sk›
abbrev a4W:List Str:=["_law_script","_law_scene_here","_law_ground","_law_sures_here","_law_claims","_law_cells","_law_world","_law_rows","_law_row","_law_cell","_law_some","_law_k"]
theorem a0U:a0e a4W ["_law_script"] (a0a a2r):=‹sk›
set_option genInjectivity false in
set_option genSizeOf false in
structure Adr where
 f_z1r:Addr
 fd_z1r:FuncData
 f_z0r:Addr
 fd_z0r:FuncData
 f_z0s:Addr
 fd_z0s:FuncData
 f_z17:Addr
 fd_z17:FuncData
 f_z0d:Addr
 fd_z0d:FuncData
 f_z0t:Addr
 fd_z0t:FuncData
 f_z18:Addr
 fd_z18:FuncData
 f_z0j:Addr
 fd_z0j:FuncData
 f_z0u:Addr
 fd_z0u:FuncData
 f_z1e:Addr
 fd_z1e:FuncData
 f_z1f:Addr
 fd_z1f:FuncData
 f_z0v:Addr
 fd_z0v:FuncData
 f_z0e:Addr
 fd_z0e:FuncData
 f_z05:Addr
 fd_z05:FuncData
 f_z0x:Addr
 fd_z0x:FuncData
 f_z0y:Addr
 fd_z0y:FuncData
 f_z07:Addr
 fd_z07:FuncData
 f_z0z:Addr
 fd_z0z:FuncData
 f_z08:Addr
 fd_z08:FuncData
 f_z10:Addr
 fd_z10:FuncData
 f_z0o:Addr
 fd_z0o:FuncData
 f_z09:Addr
 fd_z09:FuncData
 f_z0h:Addr
 fd_z0h:FuncData
 f_z0a:Addr
 fd_z0a:FuncData
 f_z04:Addr
 fd_z04:FuncData
 f_z01:Addr
 fd_z01:FuncData
 f_z02:Addr
 fd_z02:FuncData
 f_z0b:Addr
 fd_z0b:FuncData
 f_z11:Addr
 fd_z11:FuncData
 f_z1s:Addr
 fd_z1s:FuncData
 f_z1g:Addr
 fd_z1g:FuncData
 f_z12:Addr
 fd_z12:FuncData
 f_z1n:Addr
 fd_z1n:FuncData
 f_z1h:Addr
 fd_z1h:FuncData
 f_z13:Addr
 fd_z13:FuncData
 f_z1o:Addr
 fd_z1o:FuncData
 f_z1i:Addr
 fd_z1i:FuncData
 f_z1b:Addr
 fd_z1b:FuncData
 f_z1j:Addr
 fd_z1j:FuncData
 f_z1p:Addr
 fd_z1p:FuncData
 f_z1c:Addr
 fd_z1c:FuncData
 f_z1k:Addr
 fd_z1k:FuncData
 f_z0p:Addr
 fd_z0p:FuncData
 f_z14:Addr
 fd_z14:FuncData
 f_z1d:Addr
 fd_z1d:FuncData
 f_z0q:Addr
 fd_z0q:FuncData
 f_z0c:Addr
 fd_z0c:FuncData
 f_z1l:Addr
 fd_z1l:FuncData
 f_z1m:Addr
 fd_z1m:FuncData
 f_z03:Addr
 fd_z03:FuncData
 f_z15:Addr
 fd_z15:FuncData
 f_z16:Addr
 fd_z16:FuncData
 f_d_law:Addr
 fd_d_law:FuncData
 C_Rule:Addr
 C_Fact:Addr
 C_Sure:Addr
 C_Most:Addr
 C_Block:Addr
 C_Ground:Addr
structure Txt (K:Qd) (mg:Str→Option Value) (t:Adr):Prop where
 F_z1r:Fun K "keyed" "keyed" a8i t.f_z1r t.fd_z1r
 b_z1r:a0p K t.fd_z1r ["some"] []
 g_z1r:mg "keyed"=some (.ref t.f_z1r)
 F_z0r:Fun K "all_among" "all_among" a6I t.f_z0r t.fd_z0r
 b_z0r:a0p K t.fd_z0r ["statements","some"] []
 g_z0r:mg "all_among"=some (.ref t.f_z0r)
 F_z0s:Fun K "any_among" "any_among" a6c t.f_z0s t.fd_z0s
 b_z0s:a0p K t.fd_z0s ["statements","some"] []
 g_z0s:mg "any_among"=some (.ref t.f_z0s)
 F_z17:Fun K "opposite" "opposite" a7N t.f_z17 t.fd_z17
 b_z17:a0p K t.fd_z17 ["statement"] []
 g_z17:mg "opposite"=some (.ref t.f_z17)
 F_z0d:Fun K "is_sure_set" "is_sure_set" a3H t.f_z0d t.fd_z0d
 b_z0d:a0p K t.fd_z0d ["ground","some"] []
 g_z0d:mg "is_sure_set"=some (.ref t.f_z0d)
 F_z0t:Fun K "is_beaten" "is_beaten" a6z t.f_z0t t.fd_z0t
 b_z0t:a0p K t.fd_z0t ["ground","rule","beaters"] []
 g_z0t:mg "is_beaten"=some (.ref t.f_z0t)
 F_z18:Fun K "holds_by" "holds_by" a5l t.f_z18 t.fd_z18
 b_z18:a0p K t.fd_z18 ["ground","sures","held","refused","q"] []
 g_z18:mg "holds_by"=some (.ref t.f_z18)
 F_z0j:Fun K "refused_by" "refused_by" a5n t.f_z0j t.fd_z0j
 b_z0j:a0p K t.fd_z0j ["ground","sures","held","refused","q"] []
 g_z0j:mg "refused_by"=some (.ref t.f_z0j)
 F_z0u:Fun K "with_word" "with_word" a6w t.f_z0u t.fd_z0u
 b_z0u:a0p K t.fd_z0u ["rows","word"] []
 g_z0u:mg "with_word"=some (.ref t.f_z0u)
 F_z1e:Fun K "follows" "follows" a7f t.f_z1e t.fd_z1e
 b_z1e:a0p K t.fd_z1e ["ground","sures","rows","claim"] []
 g_z1e:mg "follows"=some (.ref t.f_z1e)
 F_z1f:Fun K "lets_by" "lets_by" a6i t.f_z1f t.fd_z1f
 b_z1f:a0p K t.fd_z1f ["ground","paper"] []
 g_z1f:mg "lets_by"=some (.ref t.f_z1f)
 F_z0v:Fun K "__init__" "Rule.__init__" a7R t.f_z0v t.fd_z0v
 b_z0v:a0p K t.fd_z0v ["self","label","head","body"] []
 F_z0e:Fun K "speaks" "Rule.speaks" a8w t.f_z0e t.fd_z0e
 b_z0e:a0p K t.fd_z0e ["self"] []
 F_z05:Fun K "is_sure" "Rule.is_sure" a8J t.f_z05 t.fd_z05
 b_z05:a0p K t.fd_z05 ["self"] []
 F_z0x:Fun K "__init__" "Fact.__init__" a7Q t.f_z0x t.fd_z0x
 b_z0x:a0p K t.fd_z0x ["self","head"] []
 F_z0y:Fun K "word" "Fact.word" a6W t.f_z0y t.fd_z0y
 b_z0y:a0p K t.fd_z0y ["self"] []
 F_z07:Fun K "is_sure" "Fact.is_sure" a8B t.f_z07 t.fd_z07
 b_z07:a0p K t.fd_z07 ["self"] []
 F_z0z:Fun K "word" "Sure.word" a8U t.f_z0z t.fd_z0z
 b_z0z:a0p K t.fd_z0z ["self"] []
 F_z08:Fun K "is_sure" "Sure.is_sure" a8A t.f_z08 t.fd_z08
 b_z08:a0p K t.fd_z08 ["self"] []
 F_z10:Fun K "word" "Most.word" a7m t.f_z10 t.fd_z10
 b_z10:a0p K t.fd_z10 ["self"] []
 F_z0o:Fun K "word" "Block.word" a8D t.f_z0o t.fd_z0o
 b_z0o:a0p K t.fd_z0o ["self"] []
 F_z09:Fun K "speaks" "Block.speaks" a8m t.f_z09 t.fd_z09
 b_z09:a0p K t.fd_z09 ["self"] []
 F_z0h:Fun K "__init__" "Ground.__init__" a7n t.f_z0h t.fd_z0h
 b_z0h:a0p K t.fd_z0h ["self","rules","pairs"] []
 F_z0a:Fun K "rules" "Ground.rules" a7u t.f_z0a t.fd_z0a
 b_z0a:a0p K t.fd_z0a ["self"] []
 F_z04:Fun K "ruling" "Ground.ruling" a7W t.f_z04 t.fd_z04
 b_z04:a0p K t.fd_z04 ["self","statement"] []
 F_z01:Fun K "speaking" "Ground.speaking" a6m t.f_z01 t.fd_z01
 b_z01:a0p K t.fd_z01 ["self","statement"] []
 F_z02:Fun K "against" "Ground.against" a8K t.f_z02 t.fd_z02
 b_z02:a0p K t.fd_z02 ["self","statement"] []
 F_z0b:Fun K "beats" "Ground.beats" a8H t.f_z0b t.fd_z0b
 b_z0b:a0p K t.fd_z0b ["self","one","other"] []
 F_z11:Fun K "_law_cell_at" "_law_cell_at" a8p t.f_z11 t.fd_z11
 b_z11:a0p K t.fd_z11 ["_law_script","_law_k"] []
 g_z11:mg "_law_cell_at"=some (.ref t.f_z11)
 F_z1s:Fun K "_law_mix" "_law_mix" a8r t.f_z1s t.fd_z1s
 b_z1s:a0p K t.fd_z1s ["_law_cell","_law_k"] []
 g_z1s:mg "_law_mix"=some (.ref t.f_z1s)
 F_z1g:Fun K "_law_words" "_law_words" a6h t.f_z1g t.fd_z1g
 b_z1g:a0p K t.fd_z1g ["_law_cell","_law_many"] []
 g_z1g:mg "_law_words"=some (.ref t.f_z1g)
 F_z12:Fun K "_law_opposed" "_law_opposed" a7V t.f_z12 t.fd_z12
 b_z12:a0p K t.fd_z12 ["_law_text"] []
 g_z12:mg "_law_opposed"=some (.ref t.f_z12)
 F_z1n:Fun K "_law_pool" "_law_pool" a8b t.f_z1n t.fd_z1n
 b_z1n:a0p K t.fd_z1n ["_law_script"] []
 g_z1n:mg "_law_pool"=some (.ref t.f_z1n)
 F_z1h:Fun K "_law_drawn" "_law_drawn" a8h t.f_z1h t.fd_z1h
 b_z1h:a0p K t.fd_z1h ["_law_pool_here","_law_number"] []
 g_z1h:mg "_law_drawn"=some (.ref t.f_z1h)
 F_z13:Fun K "_law_numbers" "_law_numbers" a7C t.f_z13 t.fd_z13
 b_z13:a0p K t.fd_z13 ["_law_cell","_law_many","_law_size","_law_plain"] []
 g_z13:mg "_law_numbers"=some (.ref t.f_z13)
 F_z1o:Fun K "_law_rule" "_law_rule" a5Y t.f_z1o t.fd_z1o
 b_z1o:a0p K t.fd_z1o ["_law_pool_here","_law_cell","_law_k","_law_plain"] []
 g_z1o:mg "_law_rule"=some (.ref t.f_z1o)
 F_z1i:Fun K "_law_pairs" "_law_pairs" a7O t.f_z1i t.fd_z1i
 b_z1i:a0p K t.fd_z1i ["_law_rules","_law_cell"] []
 g_z1i:mg "_law_pairs"=some (.ref t.f_z1i)
 F_z1b:Fun K "_law_turned" "_law_turned" a7r t.f_z1b t.fd_z1b
 b_z1b:a0p K t.fd_z1b ["_law_rules","_law_cell"] []
 g_z1b:mg "_law_turned"=some (.ref t.f_z1b)
 F_z1j:Fun K "_law_scene" "_law_scene" a6q t.f_z1j t.fd_z1j
 b_z1j:a0p K t.fd_z1j ["_law_script","_law_many"] []
 g_z1j:mg "_law_scene"=some (.ref t.f_z1j)
 F_z1p:Fun K "_law_firm" "_law_firm" a7D t.f_z1p t.fd_z1p
 b_z1p:a0p K t.fd_z1p ["_law_rule_here"] []
 g_z1p:mg "_law_firm"=some (.ref t.f_z1p)
 F_z1c:Fun K "_law_stands" "_law_stands" a7S t.f_z1c t.fd_z1c
 b_z1c:a0p K t.fd_z1c ["_law_rule_here","_law_held"] []
 g_z1c:mg "_law_stands"=some (.ref t.f_z1c)
 F_z1k:Fun K "_law_falls" "_law_falls" a7h t.f_z1k t.fd_z1k
 b_z1k:a0p K t.fd_z1k ["_law_rule_here","_law_refused"] []
 g_z1k:mg "_law_falls"=some (.ref t.f_z1k)
 F_z0p:Fun K "_law_speaking" "_law_speaking" a5U t.f_z0p t.fd_z0p
 b_z0p:a0p K t.fd_z0p ["_law_scene_here","_law_text"] []
 g_z0p:mg "_law_speaking"=some (.ref t.f_z0p)
 F_z14:Fun K "_law_against" "_law_against" a6x t.f_z14 t.fd_z14
 b_z14:a0p K t.fd_z14 ["_law_scene_here","_law_text"] []
 g_z14:mg "_law_against"=some (.ref t.f_z14)
 F_z1d:Fun K "_law_beaten" "_law_beaten" a7e t.f_z1d t.fd_z1d
 b_z1d:a0p K t.fd_z1d ["_law_scene_here","_law_rule_here","_law_others"] []
 g_z1d:mg "_law_beaten"=some (.ref t.f_z1d)
 F_z0q:Fun K "_law_may_hold" "_law_may_hold" a6e t.f_z0q t.fd_z0q
 b_z0q:a0p K t.fd_z0q ["_law_scene_here","_law_sures_here","_law_held","_law_refused","_law_text"] []
 g_z0q:mg "_law_may_hold"=some (.ref t.f_z0q)
 F_z0c:Fun K "_law_may_refuse" "_law_may_refuse" a6D t.f_z0c t.fd_z0c
 b_z0c:a0p K t.fd_z0c ["_law_scene_here","_law_sures_here","_law_held","_law_refused","_law_text"] []
 g_z0c:mg "_law_may_refuse"=some (.ref t.f_z0c)
 F_z1l:Fun K "_law_sures" "_law_sures" a8j t.f_z1l t.fd_z1l
 b_z1l:a0p K t.fd_z1l ["_law_scene_here"] []
 g_z1l:mg "_law_sures"=some (.ref t.f_z1l)
 F_z1m:Fun K "_law_grown" "_law_grown" a8n t.f_z1m t.fd_z1m
 b_z1m:a0p K t.fd_z1m ["_law_scene_here","_law_sures_here"] []
 g_z1m:mg "_law_grown"=some (.ref t.f_z1m)
 F_z03:Fun K "_law_drawn_claims" "_law_drawn_claims" a5V t.f_z03 t.fd_z03
 b_z03:a0p K t.fd_z03 ["_law_scene_here","_law_cell"] []
 g_z03:mg "_law_drawn_claims"=some (.ref t.f_z03)
 F_z15:Fun K "_law_written" "_law_written" a7x t.f_z15 t.fd_z15
 b_z15:a0p K t.fd_z15 ["_law_world","_law_cells"] []
 g_z15:mg "_law_written"=some (.ref t.f_z15)
 F_z16:Fun K "_law_follows" "_law_follows" a5k t.f_z16 t.fd_z16
 b_z16:a0p K t.fd_z16 ["_law_scene_here","_law_sures_here","_law_rows"] []
 g_z16:mg "_law_follows"=some (.ref t.f_z16)
 F_d_law:Fun K "law" "law" a2r t.f_d_law t.fd_d_law
 b_d_law:a0p K t.fd_d_law ["_law_script"] []
 g_d_law:mg "law"=some (.ref t.f_d_law)
 k_HELD:∃u,mg "HELD"=some (.str "held" u)
 k_REFUSED:∃u,mg "REFUSED"=some (.str "refused" u)
 g_Rule:mg "Rule"=some (.ref t.C_Rule)
 g_Fact:mg "Fact"=some (.ref t.C_Fact)
 g_Sure:mg "Sure"=some (.ref t.C_Sure)
 g_Most:mg "Most"=some (.ref t.C_Most)
 g_Block:mg "Block"=some (.ref t.C_Block)
 g_Ground:mg "Ground"=some (.ref t.C_Ground)
 z_NotImplementedError:mg "NotImplementedError"=none
 z_all:mg "all"=none
 z_any:mg "any"=none
 z_enumerate:mg "enumerate"=none
 z_len:mg "len"=none
 z_list:mg "list"=none
 z_range:mg "range"=none
 z_reversed:mg "reversed"=none
 z_sorted:mg "sorted"=none
 z_str:mg "str"=none
 z_tuple:mg "tuple"=none
 cm_Rule:b4o K t.C_Rule "__init__" t.f_z0v
 cl_Fact:Cls K t.C_Fact
 ty_Fact:TyI K t.C_Fact
 nf_Fact_label:a0D K t.C_Fact "label"
 nf_Fact_head:a0D K t.C_Fact "head"
 nf_Fact_body:a0D K t.C_Fact "body"
 mk_Fact:Mk K t.C_Fact t.f_z0x
 me_Fact_word:a3p K t.C_Fact "word" t.f_z0y
 me_Fact_speaks:a3p K t.C_Fact "speaks" t.f_z0e
 me_Fact_is_sure:a3p K t.C_Fact "is_sure" t.f_z07
 ki_Fact_Rule:Yd K (.ref t.C_Fact) (.ref t.C_Rule)=some true
 ki_Fact_Fact:Yd K (.ref t.C_Fact) (.ref t.C_Fact)=some true
 cl_Sure:Cls K t.C_Sure
 ty_Sure:TyI K t.C_Sure
 nf_Sure_label:a0D K t.C_Sure "label"
 nf_Sure_head:a0D K t.C_Sure "head"
 nf_Sure_body:a0D K t.C_Sure "body"
 mk_Sure:Mk K t.C_Sure t.f_z0v
 me_Sure_word:a3p K t.C_Sure "word" t.f_z0z
 me_Sure_speaks:a3p K t.C_Sure "speaks" t.f_z0e
 me_Sure_is_sure:a3p K t.C_Sure "is_sure" t.f_z08
 ki_Sure_Rule:Yd K (.ref t.C_Sure) (.ref t.C_Rule)=some true
 ki_Sure_Sure:Yd K (.ref t.C_Sure) (.ref t.C_Sure)=some true
 cl_Most:Cls K t.C_Most
 ty_Most:TyI K t.C_Most
 nf_Most_label:a0D K t.C_Most "label"
 nf_Most_head:a0D K t.C_Most "head"
 nf_Most_body:a0D K t.C_Most "body"
 mk_Most:Mk K t.C_Most t.f_z0v
 me_Most_word:a3p K t.C_Most "word" t.f_z10
 me_Most_speaks:a3p K t.C_Most "speaks" t.f_z0e
 me_Most_is_sure:a3p K t.C_Most "is_sure" t.f_z05
 ki_Most_Rule:Yd K (.ref t.C_Most) (.ref t.C_Rule)=some true
 ki_Most_Most:Yd K (.ref t.C_Most) (.ref t.C_Most)=some true
 cl_Block:Cls K t.C_Block
 ty_Block:TyI K t.C_Block
 nf_Block_label:a0D K t.C_Block "label"
 nf_Block_head:a0D K t.C_Block "head"
 nf_Block_body:a0D K t.C_Block "body"
 mk_Block:Mk K t.C_Block t.f_z0v
 me_Block_word:a3p K t.C_Block "word" t.f_z0o
 me_Block_speaks:a3p K t.C_Block "speaks" t.f_z09
 me_Block_is_sure:a3p K t.C_Block "is_sure" t.f_z05
 ki_Block_Rule:Yd K (.ref t.C_Block) (.ref t.C_Rule)=some true
 ki_Block_Block:Yd K (.ref t.C_Block) (.ref t.C_Block)=some true
 cl_Ground:Cls K t.C_Ground
 ty_Ground:TyI K t.C_Ground
 nf_Ground_in_order:a0D K t.C_Ground "in_order"
 nf_Ground_by_head:a0D K t.C_Ground "by_head"
 nf_Ground_pairs:a0D K t.C_Ground "pairs"
 mk_Ground:Mk K t.C_Ground t.f_z0h
 me_Ground_rules:a3p K t.C_Ground "rules" t.f_z0a
 me_Ground_ruling:a3p K t.C_Ground "ruling" t.f_z04
 me_Ground_speaking:a3p K t.C_Ground "speaking" t.f_z01
 me_Ground_against:a3p K t.C_Ground "against" t.f_z02
 me_Ground_beats:a3p K t.C_Ground "beats" t.f_z0b
 ki_Ground_Ground:Yd K (.ref t.C_Ground) (.ref t.C_Ground)=some true
def a6A:List Nat:=[97,98,99,100,101,102,103,104,105,106,107,108,109,110,111,112,113,114,115,116,117,118,119,120,121,122]
abbrev sv (l:List Nat):V:=.str (mk l)
theorem b4q:("abcdefghijklmnopqrstuvwxyz":Str)=mk a6A:=by decide+kernel
theorem b3d {c:Nat} (h:c∈a6A):c < 128:=by revert c;decide
theorem a2l {n:Nat} (h:n≤100000):n≤sizeLine:=Qi h ‹dc›
theorem a9P {l:List Nat} (h:∀c∈l,c < 1114112):Xk (mk l)=true:=by
 unfold Xk;simpa using h
def OkS (z:Str):Prop:=Xk z=true∧z.length≤40
theorem OkS.of {l:List Nat} (h:∀c∈l,c < 128) (hl:l.length≤40):OkS (mk l):=⟨a9P fun c hc=>by have:=h c hc;omega,by rw [a1W];exact hl⟩
def b2i:Nat→Str
 | 0=>"fact"
 | 1=>"sure"
 | 2=>"most"
 | _=>"block"
abbrev Rw:=Nat×Str×Str×List Str
def a3t (r:Rw):Prop:=r.1 < 4∧(r.1=0→r.2.2.2=[]∧r.2.1="")∧OkS r.2.1∧OkS r.2.2.1∧(∀q∈r.2.2.2,OkS q)∧r.2.2.2.length≤4
def b4j (K:Qd):Sp:=fun vs H Q _=>∃(a:Addr) (ns:List Int) (k:Int),vs=[.ref a,.int k]∧SqL K H a (ns.map V.int)∧ns.length≤63∧0≤k∧k≤1000∧∀i,Q (.int i) H
def b5q:Sp:=fun vs H Q _=>∃(c k:Int),vs=[.int c,.int k]∧∀r:Int,0≤r→Q (.int r) H
theorem a1I {c k:Int} {H:Hp} {Q:VK} {E:XK}:b5q [.int c,.int k] H Q E↔∀r:Int,0≤r→Q (.int r) H:=⟨by rintro ⟨_,_,e,q⟩;cases e;exact q,fun q=>⟨_,_,rfl,q⟩⟩
def IsW (l:List Nat):Prop:=1≤l.length∧l.length≤8∧∀c∈l,c∈a6A
abbrev pv' (ps:List (List Nat)):List V:=ps.map fun l=>V.str (mk l)
def b2r (c:List Nat):List (List Nat)→List Nat
 | []=>[]
 | a::r=>a++r.flatMap fun b=>c++b
theorem a6u (c:List Nat):∀(r:List (List Nat)) (a:Array Nat),(r.map mk).foldl (fun acc p=>acc++(mk c).cps++p.cps) a=a++(r.flatMap fun b=>c++b).toArray:=by
 intro r
 induction r with
 | nil=>intro a;simp
 | cons b r ih=>
  intro a
  rw [Xm,List.foldl_cons,ih]
  show a++c.toArray++b.toArray++_=_
  simp
theorem a8O (c:List Nat) (xs:List (List Nat)):Txt.join (mk c) (xs.map mk)=mk (b2r c xs):=by
 cases xs with
 | nil=>rfl
 | cons a r=>
  show (⟨(r.map mk).foldl (fun acc p=>acc++(mk c).cps++p.cps) a.toArray⟩:Str)=_
  rw [a6u]
  simp [b2r,mk]
def b1z:Sp:=fun vs H Q _=>∃(c m:Int),vs=[.int c,.int m]∧(0≤m∧m≤8)∧∀(D:Addr) (ws:List (List Nat)) (H':Hp),a0h H H'→H D=none→H' D=some (.lst (pv' ws))→ws.length=m.toNat→(∀w∈ws,IsW w)→Q (.ref D) H'
theorem a3F (xs:List V) {n:Int} (h:0≤n):a2x xs none (some n)=xs.take n.toNat:=by
 unfold a2x HT.sIx
 simp only [Jj,Zl]
 rw [if_neg ‹om›]
 by_cases c:n.toNat≤xs.length
 ·rw [Jk c]
 ·rw [Nat.min_eq_right ‹om›,Uy (Qk _),Uy ‹om›]
def sgl (cs:List Nat):List (List Nat):=cs.map fun c=>[c]
theorem a5t (cs:List Nat):b2r [] (sgl cs)=cs:=by
 have h:∀r:List Nat,((sgl r).flatMap fun b=>[]++b)=r:=by
  intro r
  induction r with
  | nil=>rfl
  | cons c r ih=>
   have e:sgl (c::r)=[c]::sgl r:=rfl
   rw [e,List.flatMap_cons,ih];rfl
 cases cs with
 | nil=>rfl
 | cons c r=>
  show [c]++((sgl r).flatMap fun b=>[]++b)=_
  rw [h];rfl
theorem a7J:∀cs:List Nat,(((sgl cs).map mk).map (·.length)).sum=cs.length
 | []=>rfl
 | c::cs=>by
  have e:sgl (c::cs)=[c]::sgl cs:=rfl
  rw [e,Xm,Xm,List.sum_cons,a7J cs,a1W]
  simp;omega
theorem a7p (cs:List Nat):(sgl cs).length=cs.length:=Qc _
theorem b0T:∀{ys:List V},(∀(i:Nat) v,ys[i]?=some v→∃c,v=sv [c]∧c∈a6A)→∃cs:List Nat,ys=pv' (sgl cs)∧∀c∈cs,c∈a6A
 | [],_=>⟨[],rfl,by simp⟩
 | y::ys,h=>by
  obtain ⟨cs,rfl,hc⟩:=b0T (ys:=ys) fun i v e=>h (i+1) v e
  obtain ⟨c,rfl,h0⟩:=h 0 y rfl
  refine ⟨c::cs,rfl,fun d hd=>?_⟩
  rcases Qx.mp hd with z | z
  ·rw [z];exact h0
  ·exact hc d z
theorem a6R (ws:List (List Nat)) (n:Nat):(pv' ws).take n=pv' (ws.take n):=(Yn).symm
theorem a5Q (cs:List Nat) (n:Nat):(sgl cs).take n=sgl (cs.take n):=(Yn).symm
theorem b1a (cs:List Nat) (j d:Nat):(pv' (sgl cs)).set j (sv [d])=pv' (sgl (cs.set j d)):=by
 unfold sgl
 rw [List.map_set]
 exact (List.map_set (f:=fun l=>V.str (mk l))).symm
theorem b0k {cs:List Nat} {k:Nat} (hl:cs.length=8) (hc:∀c∈cs,c∈a6A) (h1:1≤k) (h8:k≤8):IsW (cs.take k):=by
 refine ⟨by rw [Xp];omega,by rw [Xp];omega,fun c h=>hc c (Zm h)⟩
theorem a9M {p:Addr} {xs:List V} {k:Int} {v:V} {H:Hp} {Q:Hp→Prop} (h:H p=some (.lst xs)) (h0:0≤k) (h1:k < xs.length) (q:Q (upd H p (.lst (xs.set k.toNat v)))):b5e (.ref p) (.int k) v H Q:=
 ⟨p,xs,k,k.toNat,rfl,rfl,h,by unfold ixN;rw [if_pos h0,if_pos h1],q⟩
theorem b4L (ws:List (List Nat)) (w:List Nat):pv' ws++[sv w]=pv' (ws++[w]):=(Xo (f:=fun l=>V.str (mk l)) (l₁:=ws) (l₂:=[w])).symm
theorem a3a {α:Type} (d:α) (r:List α):atI (d::r) 0=some d:=by
 unfold atI ixN;rw [if_pos ‹dc›,if_pos (by simp only [Qj];omega)];rfl
def a6J (lb hd:V) (t:Addr):List (Str×V):=a1q "body" (.ref t) (a1q "head" hd (a1q "label" lb []))
theorem a0X (lb hd:V) (t:Addr):(a6J lb hd t).lookup ("label":Str)=some lb:=by
 unfold a6J;rw [a0g,if_neg ‹dk›,a0g,if_neg ‹dk›,a0g,if_pos rfl]
theorem a0M (lb hd:V) (t:Addr):(a6J lb hd t).lookup ("head":Str)=some hd:=by
 unfold a6J;rw [a0g,if_neg ‹dk›,a0g,if_pos rfl]
theorem a1m (lb hd:V) (t:Addr):(a6J lb hd t).lookup ("body":Str)=some (.ref t):=by
 unfold a6J;rw [a0g,if_pos rfl]
theorem b1n (lb hd:V) (t:Addr) {m:Str} (h1:¬m="body") (h2:¬m="head") (h3:¬m="label"):(a6J lb hd t).lookup m=none:=by
 unfold a6J;rw [a0g,if_neg h1,a0g,if_neg h2,a0g,if_neg h3];rfl
def a1t (H:Hp) (r C:Addr) (lb hd:V) (bs:List V):Prop:=∃dx t,H r=some (.ins C dx (a6J lb hd t))∧H t=some (.tup bs)
theorem a1t.same {H H':Hp} {r C:Addr} {lb hd:V} {bs:List V} (s:a0h H H') (h:a1t H r C lb hd bs):a1t H' r C lb hd bs:=let ⟨d,t,a,b⟩:=h;⟨d,t,s _ _ a,s _ _ b⟩
def b4N (K:Qd):Sp:=fun vs H Q _=>∃x C dx lb hd b bs,vs=[.ref x,lb,hd,.ref b]∧H x=some (.ins C dx [])∧(Cls K C∧a0D K C "label"∧a0D K C "head"∧a0D K C "body")∧(SqL K H b bs∨SqT K H b bs∧H b=some (.tup bs))∧
 ∀H',(∀c o,H c=some o→c≠x→H' c=some o)→a1t H' x C lb hd bs→Q .non H'
def b1r (K:Qd) (C:Addr):Sp:=fun vs H Q _=>∃x dx hd,vs=[.ref x,hd]∧H x=some (.ins C dx [])∧
 ∀H',(∀c o,H c=some o→c≠x→H' c=some o)→a1t H' x C (.str "") hd []→Q .non H'
def a2L (t:Adr):Nat→Addr
 | 0=>t.C_Fact
 | 1=>t.C_Sure
 | 2=>t.C_Most
 | _=>t.C_Block
def a0Q (b:Bool):Sp:=fun vs H Q _=>∃x,vs=[x]∧Q (.bl b) H
theorem a2q {b:Bool} {x:V} {H:Hp} {Q:VK} {E:XK}:a0Q b [x] H Q E↔Q (.bl b) H:=⟨by rintro ⟨_,e,q⟩;cases e;exact q,fun q=>⟨_,rfl,q⟩⟩
structure c2r (K:Qd) (t:Adr) (C:Addr):Prop where
 cl:Cls K C
 ty:TyI K C
 nl:a0D K C "label"
 nh:a0D K C "head"
 nb:a0D K C "body"
 kr:Yd K (.ref C) (.ref t.C_Rule)=some true
theorem a3R {K:Qd} {mg:Str→Option Value} {t:Adr} (T:Txt K mg t) {kind:Nat} (h:kind < 4):c2r K t (a2L t kind):=by
 match kind,h with
 | 0,_=>exact ⟨T.cl_Fact,T.ty_Fact,T.nf_Fact_label,T.nf_Fact_head,T.nf_Fact_body,T.ki_Fact_Rule⟩
 | 1,_=>exact ⟨T.cl_Sure,T.ty_Sure,T.nf_Sure_label,T.nf_Sure_head,T.nf_Sure_body,T.ki_Sure_Rule⟩
 | 2,_=>exact ⟨T.cl_Most,T.ty_Most,T.nf_Most_label,T.nf_Most_head,T.nf_Most_body,T.ki_Most_Rule⟩
 | 3,_=>exact ⟨T.cl_Block,T.ty_Block,T.nf_Block_label,T.nf_Block_head,T.nf_Block_body,T.ki_Block_Rule⟩
def a9J (kind:Nat) (a b c d:Sp):Sp:=match kind with
 | 0=>a
 | 1=>b
 | 2=>c
 | _=>d
theorem a4T {kind:Nat} (h:kind < 4):a9J kind (a0Q true) (a0Q true) (a0Q false) (a0Q false)=a0Q (decide ((kind:Int) < 2)):=by
 match kind,h with
 | 0,_=>rfl
 | 1,_=>rfl
 | 2,_=>rfl
 | 3,_=>rfl
theorem b4Z {t:Adr} {m:Str} {s0 s1 s2 s3:Sp} {ta:TE} {σ:St} {H:Hp} {Q:VK} {r:Addr} {kind:Nat} {lb hd:V} {bs:List V} (hk:kind < 4) (hta:∀R:VK,R (.ref r) H→ta σ H R) (hR:a1t H r (a2L t kind) lb hd bs)
  (hm:¬m="body"∧¬m="head"∧¬m="label") (q:a9J kind s0 s1 s2 s3 [.ref r] H Q E0):
  b5W (a2b t.C_Fact m s0 [] E0 ta a0y) (b5W (a2b t.C_Sure m s1 [] E0 ta a0y) (b5W (a2b t.C_Most m s2 [] E0 ta a0y) (a2b t.C_Block m s3 [] E0 ta a0y))) σ H Q:=by
 obtain ⟨dx,t0,h1,_⟩:=hR
 have hn:=b1n lb hd t0 hm.1 hm.2.1 hm.2.2
 match kind,hk with
 | 0,_=>exact .inl (hta _ ⟨r,dx,_,rfl,h1,hn,q⟩)
 | 1,_=>exact .inr (.inl (hta _ ⟨r,dx,_,rfl,h1,hn,q⟩))
 | 2,_=>exact .inr (.inr (.inl (hta _ ⟨r,dx,_,rfl,h1,hn,q⟩)))
 | 3,_=>exact .inr (.inr (.inr (hta _ ⟨r,dx,_,rfl,h1,hn,q⟩)))
theorem a0W {i:Nat} {σ:St} {H:Hp} {v:V} (h:σ[i]?=some (some v)):∀R:VK,R v H→a0o i σ H R:=fun R q=>⟨v,h,q⟩
section
variable {α:Type} [DecidableEq α]
def a1E (b S:List α):Bool:=b.all fun q=>decide (q∈S)
theorem a1j {b S:List α}:a1E b S=true↔∀q∈b,q∈S:=by
 unfold a1E;rw [Yu]
 exact ⟨fun h q hq=>by simpa using h q hq,fun h q hq=>by simpa using h q hq⟩
end
theorem b7x:∀zs:List Str,(∀z∈zs,Xk z=true)→PyData.canLayAll0 (zs.map Uc)=true∧Ut (zs.map Uc)=0
 | [],_=>⟨rfl,rfl⟩
 | z::zs,h=>by
  obtain ⟨a,b⟩:=b7x zs fun p hp=>h p (Qu _ hp)
  refine ⟨?_,?_⟩
  ·show (Zd (.str z) && _)=true
   rw [a,Vl];exact h z Xg
  ·show max (Zf (.str z)) _=0
   rw [b];rfl
theorem b2a {zs:List Str} (h:∀z∈zs,Xk z=true):Zv (.list (zs.map Uc))=true:=by
 obtain ⟨a,b⟩:=b7x zs h
 unfold Zv
 simp only [Zd,Zf,a,b]
 decide
def a5I (t:Adr) (H:Hp) (v:V) (r:Rw):Prop:=∃p,v=.ref p∧a1t H p (a2L t r.1) (.str r.2.1) (.str r.2.2.1) (r.2.2.2.map V.str)
theorem a5I.same {t:Adr} {H H':Hp} {v:V} {r:Rw} (s:a0h H H') (h:a5I t H v r):a5I t H' v r:=let ⟨p,a,b⟩:=h;⟨p,a,b.same s⟩
structure a1G (t:Adr) (H:Hp) (xs:List V) (rs:List Rw):Prop where
 len:xs.length=rs.length
 get:∀(i:Nat) (r:Rw),rs[i]?=some r→∃x,xs[i]?=some x∧a5I t H x r
theorem a1G.same {t:Adr} {H H':Hp} {xs:List V} {rs:List Rw} (s:a0h H H') (h:a1G t H xs rs):a1G t H' xs rs:=⟨h.len,fun i r e=>let ⟨x,a,b⟩:=h.get i r e;⟨x,a,b.same s⟩⟩
theorem a1G.at {t:Adr} {H:Hp} {xs:List V} {rs:List Rw} (h:a1G t H xs rs) {i:Nat} (hi:i < xs.length):∃(hi':i < rs.length) (p:Addr),xs[i]=.ref p∧a1t H p (a2L t rs[i].1) (.str rs[i].2.1) (.str rs[i].2.2.1) (rs[i].2.2.2.map V.str):=by
 have hi':i < rs.length:=by rw [←h.len];exact hi
 obtain ⟨x,e,p,rfl,hp⟩:=h.get i rs[i] (Qe hi')
 rw [Qe hi] at e
 exact ⟨hi',p,Option.some.inj e,hp⟩
abbrev VR:=V×Rw
def a3W (t:Adr) (H:Hp) (ws:List VR):Prop:=∀p∈ws,a5I t H p.1 p.2∧a3t p.2
theorem a3W.same {t:Adr} {H H':Hp} {ws:List VR} (s:a0h H H') (h:a3W t H ws):a3W t H' ws:=fun p hp=>⟨(h p hp).1.same s,(h p hp).2⟩
theorem a1G.zip {t:Adr} {H:Hp}:∀{xs:List V} {rs:List Rw},a1G t H xs rs→(∀r∈rs,a3t r)→∃zr:List VR,zr.map (·.1)=xs∧zr.map (·.2)=rs∧a3W t H zr
 | [],[],_,_=>⟨[],rfl,rfl,fun _ h=>by cases h⟩
 | [],_::_,h,_=>by have:=h.len;simp at this
 | _::_,[],h,_=>by have:=h.len;simp at this
 | x::xs,r::rs,h,ho=>by
  have h':a1G t H xs rs:=⟨by have:=h.len;simpa using this,fun i r e=>h.get (i+1) r e⟩
  obtain ⟨zr,e1,e2,hz⟩:=a1G.zip h' fun r hr=>ho r (Qu _ hr)
  obtain ⟨x',ex,hx⟩:=h.get 0 r rfl
  cases ex
  refine ⟨(x,r)::zr,by rw [Xm,e1],by rw [Xm,e2],fun p hp=>?_⟩
  rcases Qx.mp hp with z | z
  ·rw [z];exact ⟨hx,ho r Xg⟩
  ·exact hz p z
theorem a1b {K:Qd} {t:Adr} {a:Addr} {js:List (Option Nat)} {tt:TT} {te:TE} {σ:St} {H:Hp} {Q:VK} (ws:List VR) (hW:H a=some (.lst (ws.map (·.1)))) (hl:ws.length≤1000) (hz:a3W t H ws) (σr:St) (hσ:a1Y js σ=none::σr) (P:Rw→Bool) (g:VR→V)
  (hs:∀(x:Addr) (r:Rw) H' (R:Bool→Hp→Prop),a3t r→a1t H' x (a2L t r.1) (.str r.2.1) (.str r.2.2.1) (r.2.2.2.map V.str)→a0h H H'→(∀H'',a0h H' H''→R (P r) H'')→tt (some (.ref x)::σr) H' R)
  (he:∀(x:Addr) (r:Rw) H' (R:V→Hp→Prop),a3t r→a1t H' x (a2L t r.1) (.str r.2.1) (.str r.2.2.1) (r.2.2.2.map V.str)→a0h H H'→(∀H'',a0h H' H''→R (g (.ref x,r)) H'')→te (some (.ref x)::σr) H' R)
  (hd:∀D H',H D=none→a0h H H'→H' D=some (.lst ((ws.filter fun p=>P p.2).map g))→Q (.ref D) H'):a4O (Itl K a) js (a0w 0) tt te σ H Q:=by
 let d0:VR:=(.non,0,"","",[])
 refine b0K (a2E (xs:=ws.map (·.1))) (Qi (show (ws.map (·.1)).length≤1000 by simpa using hl) ‹dc›) σr hσ (fun i=>P ((ws[i]?).getD d0).2) (fun i=>g ((ws[i]?).getD d0)) (fun H' s=>SqL.of (s _ _ hW)) (fun i H' R hi s hR=>?_) (fun i H' R hi s hR=>?_) (fun D H' hD s h=>?_)
 ·have hi':i < ws.length:=by simpa using hi
  obtain ⟨⟨x,ex,hx⟩,ho⟩:=hz _ (Qq hi')
  have e2:((ws.map (·.1))[i]?).getD .non=.ref x:=by rw [Qy,Qe hi'];exact ex
  rw [e2]
  rw [Qe hi',Yr] at hR
  exact hs x _ H' R ho (hx.same s) s hR
 ·have hi':i < ws.length:=by simpa using hi
  obtain ⟨⟨x,ex,hx⟩,ho⟩:=hz _ (Qq hi')
  have e2:((ws.map (·.1))[i]?).getD .non=.ref x:=by rw [Qy,Qe hi'];exact ex
  rw [e2]
  rw [Qe hi',Yr] at hR
  refine he x _ H' R ho (hx.same s) s ?_
  rw [show ((V.ref x,ws[i].2):VR)=ws[i] from by rw [←ex]]
  exact hR
 ·rw [show (ws.map (·.1)).length=ws.length by simp,a2s d0 (fun p:VR=>P p.2) g ws] at h
  exact hd D H' hD s h
def RuD (t:Adr) (D:Addr) (v:V) (r:Rw) (H:Hp):Prop:=∃p dx t0,v=.ref p∧p≠D∧t0≠D∧H p=some (.ins (a2L t r.1) dx (a6J (.str r.2.1) (.str r.2.2.1) t0))∧H t0=some (.tup (r.2.2.2.map V.str))
def gfl (io bh pr:Addr):List (Str×V):=a1q "pairs" (.ref pr) (a1q "by_head" (.ref bh) (a1q "in_order" (.ref io) []))
theorem b5T (io bh pr:Addr):(gfl io bh pr).lookup ("in_order":Str)=some (.ref io):=by
 unfold gfl;rw [a0g,if_neg ‹dk›,a0g,if_neg ‹dk›,a0g,if_pos rfl]
theorem b2L (io bh pr:Addr):(gfl io bh pr).lookup ("by_head":Str)=some (.ref bh):=by
 unfold gfl;rw [a0g,if_neg ‹dk›,a0g,if_pos rfl]
theorem a2j (io bh pr:Addr) {m:Str} (h1:¬m="pairs") (h2:¬m="by_head") (h3:¬m="in_order"):(gfl io bh pr).lookup m=none:=by
 unfold gfl;rw [a0g,if_neg h1,a0g,if_neg h2,a0g,if_neg h3];rfl
def hdF (rs:List Rw) (h:Str):List Rw:=rs.filter fun r=>decide (r.2.2.1=h)
def b6p (t:Adr) (H:Hp) (kvs:List (Key×V)) (rs:List Rw):Prop:=∀h:Str,(a1F kvs (Sum.inr h:Key)=none∧hdF rs h=[])∨∃L ys,a1F kvs (Sum.inr h:Key)=some (.ref L)∧H L=some (.lst ys)∧a1G t H ys (hdF rs h)
theorem b6p.same {t:Adr} {H H':Hp} {kvs:List (Key×V)} {rs:List Rw} (s:a0h H H') (h:b6p t H kvs rs):b6p t H' kvs rs:=fun x=>(h x).imp id fun ⟨L,ys,a,b,c⟩=>⟨L,ys,a,s _ _ b,c.same s⟩
def b6C (kvs:List (List Key×V)) (pl:List (Str×Str)):Prop:=∀a b:Str,a1F kvs [Sum.inr a,Sum.inr b]=if (a,b)∈pl then some (V.bl true) else none
def a4U (t:Adr) (H:Hp) (g:Addr) (rs:List Rw) (pl:List (Str×Str)):Prop:=∃dx io bh pr xs kvs kps,H g=some (.ins t.C_Ground dx (gfl io bh pr))∧H io=some (.tup xs)∧a1G t H xs rs∧H bh=some (.dK kvs)∧b6p t H kvs rs∧H pr=some (.dT kps)∧b6C kps pl
theorem a4U.same {t:Adr} {H H':Hp} {g:Addr} {rs:List Rw} {pl:List (Str×Str)} (s:a0h H H') (h:a4U t H g rs pl):a4U t H' g rs pl:=let ⟨dx,io,bh,pr,xs,kvs,kps,a,b,c,d,e,f,k⟩:=h;⟨dx,io,bh,pr,xs,kvs,kps,s _ _ a,s _ _ b,c.same s,s _ _ d,e.same s,s _ _ f,k⟩
theorem a1G.refs {t:Adr} {H H':Hp} {xs:List V} {rs:List Rw} (h:a1G t H xs rs) {x dx:Addr} {C:Addr} (hx:H x=some (.ins C dx [])) (k:∀c o,H c=some o→c≠x→H' c=some o):a1G t H' xs rs:=⟨h.len,fun i r e=>by
 obtain ⟨v,a,p,rfl,dx',t0,h1,h2⟩:=h.get i r e
 have hp:p≠x:=fun z=>by
  rw [z,hx] at h1
  injection h1 with h1
  injection h1 with _ _ h3
  have:=a0M (.str r.2.1) (.str r.2.2.1) t0
  rw [←h3] at this;cases this
 have ht:t0≠x:=a1O h2 hx ‹iz›
 exact ⟨_,a,p,rfl,dx',t0,k _ _ h1 hp,k _ _ h2 ht⟩⟩
theorem b0v (io bh pr:Addr):(gfl io bh pr).lookup ("pairs":Str)=some (.ref pr):=by
 unfold gfl;rw [a0g,if_pos rfl]
theorem a0l.same {H H':Hp} {xs:List V} {pl:List (Str×Str)} (s:a0h H H') (h:a0l H xs pl):a0l H' xs pl:=let ⟨as,a,b,c⟩:=h;⟨as,a,b,fun i x p e1 e2=>s _ _ (c i x p e1 e2)⟩
def b6O (t:Adr):Sp:=fun vs H Q _=>∃(x dx b pb:Addr) (xs:List V) (rs:List Rw) (ps:List V) (pl:List (Str×Str)),vs=[.ref x,.ref b,.ref pb]∧H x=some (.ins t.C_Ground dx [])∧H b=some (.lst xs)∧a1G t H xs rs∧(∀r∈rs,a3t r)∧rs.length≤63∧H pb=some (.lst ps)∧a0l H ps pl∧pl.length≤200∧
 ∀H',(∀c o,H c=some o→c≠x→H' c=some o)→a4U t H' x rs pl→Q .non H'
def a5Z (t:Adr):Sp:=fun vs H Q _=>∃(g:Addr) (h:Str) (rs:List Rw) (pl:List (Str×Str)),vs=[.ref g,.str h]∧a4U t H g rs pl∧∀D ys H',a0h H H'→H D=none→H' D=some (.lst ys)→a1G t H' ys (hdF rs h)→Q (.ref D) H'
theorem a9D {K:Qd} {H:Hp} {Q:VK} {a b:Addr} {l m:List Str} (ha:H a=some (.lst (l.map V.str))) (hb:H b=some (.lst (m.map V.str))) (hl:l.length+m.length≤1000) (q:∀p,H p=none→Q (.ref p) (upd H p (.lst ((l++m).map V.str)))):a6o K (.ref a) (.ref b) H Q:=by
 refine .inr (.inr (.inl ⟨a,b,_,_,rfl,rfl,ha,hb,Qi (show _≤1000 by simp only [Qc];exact hl) ‹dc›,fun p hp=>?_⟩))
 rw [←Xo];exact q p hp
def a1T (z:Str):Str:=if Zk z "-"=true then Jv z (some 1) none else "-"++z
def b6W:Sp:=fun vs H Q _=>∃z:Str,vs=[.str z]∧z.length≤100∧Q (.str (a1T z)) H
def a2a (b S:List Str):Bool:=b.any fun q=>decide (q∈S)
def spk (r:Rw):Bool:=decide (r.1 < 3)
def btn (pl:List (Str×Str)) (bs:List Rw) (r:Rw):Bool:=bs.any fun b=>decide ((b.2.1,r.2.1)∈pl)
def a1N (rs:List Rw) (U:List Str) (q:Str):List Rw:=((hdF rs q).filter spk).filter fun r=>a1E r.2.2.2 U
def unf (rs:List Rw) (D:List Str) (q:Str):List Rw:=((hdF rs q).filter spk).filter fun r=>!a2a r.2.2.2 D
def a1e (rs:List Rw) (pl:List (Str×Str)) (S U D:List Str) (q:Str):Bool:=if q∈S then true else if a1N rs U q=[]∨a1T q∈S then false else (hdF rs (a1T q)).all fun r=>a2a r.2.2.2 D || btn pl (a1N rs U q) r
def a3K (rs:List Rw) (pl:List (Str×Str)) (S U D:List Str) (q:Str):Bool:=if q∈S then false else if unf rs D q=[]∨a1T q∈S then true else (hdF rs (a1T q)).any fun r=>a1E r.2.2.2 U && !btn pl (unf rs D q) r
def a1L (H:Hp) (v:V) (S:List Str):Prop:=(∃a,v=.ref a∧H a=some (.lst (S.map V.str)))∨∃a kvs,v=.ref a∧H a=some (.dK kvs)∧∀x:Str,(a1F kvs (Sum.inr x:Key)).isSome=decide (x∈S)
theorem a1L.same {H H':Hp} {v:V} {S:List Str} (s:a0h H H') (h:a1L H v S):a1L H' v S:=h.imp (fun ⟨a,e,b⟩=>⟨a,e,s _ _ b⟩) fun ⟨a,k,e,b,c⟩=>⟨a,k,e,s _ _ b,c⟩
theorem a7M {K:Qd} {tl tr:TE} {σ:St} {H:Hp} {Q:VK} {v:V} {S:List Str} {x:Str} (h:a1L H v S) (hl:∀R:VK,R (.str x) H→tl σ H R) (hr:∀R:VK,R v H→tr σ H R) (q:Q (.bl (decide (x∈S))) H):b5W (b2C tl tr) (tOp (b2x K) tl tr) σ H Q:=by
 rcases h with ⟨a,rfl,ha⟩ | ⟨a,kvs,rfl,ha,hk⟩
 ·exact .inr (hl _ (hr _ (a1K (SqL.of ha) q)))
 ·refine .inl (hl _ (hr _ ⟨a,_,rfl,a5K.k (k:=(Sum.inr x:Key)) ha,?_⟩))
  rw [hk];exact q
theorem a2K {K:Qd} {tl tr:TE} {σ:St} {H:Hp} {Q:Bool→Hp→Prop} {v:V} {S:List Str} {x:Str} (h:a1L H v S) (hl:∀R:VK,R (.str x) H→tl σ H R) (hr:∀R:VK,R v H→tr σ H R) (q:Q (decide (x∈S)) H):b2F (tB (b2C tl tr)) (a0I (tOp (b2x K) tl tr)) σ H Q:=by
 rcases h with ⟨a,rfl,ha⟩ | ⟨a,kvs,rfl,ha,hk⟩
 ·exact .inr (hl _ (hr _ (a1K (SqL.of ha) ⟨_,rfl,q⟩)))
 ·refine .inl (hl _ (hr _ ⟨a,_,rfl,a5K.k (k:=(Sum.inr x:Key)) ha,_,rfl,?_⟩))
  rw [hk];exact q
def a5w:Sp:=fun vs H Q _=>∃(t:Addr) (v:V) (bd S:List Str),vs=[.ref t,v]∧H t=some (.tup (bd.map V.str))∧bd.length≤1000∧a1L H v S∧∀H',a0h H H'→Q (.bl (a1E bd S)) H'
def b2P:Sp:=fun vs H Q _=>∃(t:Addr) (v:V) (bd S:List Str),vs=[.ref t,v]∧H t=some (.tup (bd.map V.str))∧bd.length≤1000∧a1L H v S∧∀H',a0h H H'→Q (.bl (a2a bd S)) H'
def b1w (t:Adr):Sp:=fun vs H Q _=>∃(g x y:Addr) (rs:List Rw) (pl:List (Str×Str)) (r1 r2:Rw),vs=[.ref g,.ref x,.ref y]∧a4U t H g rs pl∧a5I t H (.ref x) r1∧a5I t H (.ref y) r2∧a3t r1∧a3t r2∧∀H',a0h H H'→Q (.bl (decide ((r1.2.1,r2.2.1)∈pl))) H'
def a9C (t:Adr):Sp:=fun vs H Q _=>∃(g x L:Addr) (rs:List Rw) (pl:List (Str×Str)) (r:Rw) (zr:List VR),vs=[.ref g,.ref x,.ref L]∧a4U t H g rs pl∧a5I t H (.ref x) r∧a3t r∧H L=some (.lst (zr.map (·.1)))∧a3W t H zr∧zr.length≤63∧∀H',a0h H H'→Q (.bl (btn pl (zr.map (·.2)) r)) H'
def a6F (t:Adr):Sp:=fun vs H Q _=>∃(g:Addr) (h:Str) (rs:List Rw) (pl:List (Str×Str)),vs=[.ref g,.str h]∧a4U t H g rs pl∧(∀r∈rs,a3t r)∧rs.length≤63∧∀D (zr:List VR) H',a0h H H'→H D=none→H' D=some (.lst (zr.map (·.1)))→a3W t H' zr→zr.map (·.2)=(hdF rs h).filter spk→Q (.ref D) H'
def a7I (t:Adr):Sp:=fun vs H Q _=>∃(g:Addr) (h:Str) (rs:List Rw) (pl:List (Str×Str)),vs=[.ref g,.str h]∧a4U t H g rs pl∧(∀r∈rs,a3t r)∧h.length≤100∧∀D (zr:List VR) H',a0h H H'→H D=none→H' D=some (.lst (zr.map (·.1)))→a3W t H' zr→zr.map (·.2)=hdF rs (a1T h)→Q (.ref D) H'
def a6K (t:Adr) (f:List Rw→List (Str×Str)→List Str→List Str→List Str→Str→Bool):Sp:=fun vs H Q _=>∃(g:Addr) (v1 v2 v3:V) (q:Str) (rs:List Rw) (pl:List (Str×Str)) (S U D:List Str),vs=[.ref g,v1,v2,v3,.str q]∧a4U t H g rs pl∧(∀r∈rs,a3t r)∧rs.length≤63∧a1L H v1 S∧a1L H v2 U∧a1L H v3 D∧q.length≤100∧∀H',a0h H H'→Q (.bl (f rs pl S U D q)) H'
theorem a5c {kind:Nat} (h:kind < 4):a9J kind (a0Q true) (a0Q true) (a0Q true) (a0Q false)=a0Q (decide (kind < 3)):=by
 match kind,h with
 | 0,_=>rfl
 | 1,_=>rfl
 | 2,_=>rfl
 | 3,_=>rfl
theorem b0x {H:Hp} {S:Addr} {d:List (Key×V)} (h:H S=some (.dK d)):IsD H S:=.inl ⟨_,.inl h⟩
def b3z (pl:List (Str×Str)):Prop:=∀p∈pl,Xk p.1=true∧Xk p.2=true
theorem a3E {H:Hp} {xs:List V} {pl:List (Str×Str)} {a:Addr} {p:Str×Str} (h:a0l H xs pl) (ha:H a=some (.tup [.str p.1,.str p.2])):a0l H (xs++[.ref a]) (pl++[p]):=by
 obtain ⟨as,rfl,hl,hat⟩:=h
 refine ⟨as++[a],by rw [Xo];rfl,by simp [hl],fun i b q e1 e2=>?_⟩
 by_cases hi:i < as.length
 ·rw [Xy hi] at e1
  rw [Xy ‹om›] at e2
  exact hat i b q e1 e2
 ·have hi2:=(Qv.mp e1).1
  have ei:i=as.length:=by simp at hi2;omega
  subst ei
  rw [Xw (Qk _),Vw] at e1
  rw [Xw ‹om›,hl,Vw] at e2
  cases e1;cases e2;exact ha
theorem a2I {H H':Hp} {xs:List V} {pl:List (Str×Str)} {D:Addr} (h:a0l H xs pl) (hD:∃ys,H D=some (.lst ys)) (up:∀b o,b≠D→H b=some o→H' b=some o):a0l H' xs pl:=by
 obtain ⟨as,e,hl,hat⟩:=h
 obtain ⟨ys,hD⟩:=hD
 refine ⟨as,e,hl,fun i b q e1 e2=>?_⟩
 have:=hat i b q e1 e2
 exact up _ _ (a1O this hD ‹iz›) this
def TxN (n:Nat) (z:Str):Prop:=∃c r,z=mk (c::r)∧(c::r).length≤n∧∀x∈c::r,x < 128
theorem TxN.ok {n:Nat} {z:Str} (h:TxN n z) (hn:n≤40):OkS z:=by
 obtain ⟨c,r,rfl,h1,h2⟩:=h
 exact OkS.of h2 ‹om›
theorem TxN.len {n:Nat} {z:Str} (h:TxN n z):z.length≤n:=by
 obtain ⟨c,r,rfl,h1,h2⟩:=h
 rw [a1W];exact h1
theorem TxN.of {n:Nat} {l:List Nat} (h0:l≠[]) (h1:l.length≤n) (h2:∀x∈l,x < 128):TxN n (mk l):=by
 cases l with
 | nil=>exact absurd rfl h0
 | cons c r=>exact ⟨c,r,rfl,h1,h2⟩
theorem TxN.up {n m:Nat} {z:Str} (h:TxN n z) (hm:n≤m):TxN m z:=by
 obtain ⟨c,r,e,h1,h2⟩:=h
 exact ⟨c,r,e,by omega,h2⟩
theorem TxN.neg {n:Nat} {z:Str} (h:TxN n z):TxN (n+1) ("-"++z):=by
 obtain ⟨c,r,rfl,h1,h2⟩:=h
 rw [show ("-":Str)=mk [45] by decide+kernel,b0S]
 refine ⟨45,c::r,rfl,by simp at h1 ⊢;omega,fun x hx=>?_⟩
 rcases Qx.mp hx with e | e
 ·omega
 ·exact h2 x e
def a6N:Sp:=fun vs H Q _=>∃(n:Nat) (z:Str),vs=[.str z]∧TxN n z∧n≤100∧Q (.str (a1T z)) H
theorem b5r {c:Nat} {r:List Nat}:a1T (mk (c::r))=if c=45 then Jv (mk (c::r)) (some 1) none else "-"++mk (c::r):=by
 unfold a1T
 rw [show ("-":Str)=mk [45] by decide+kernel,a6f]
 by_cases h:c=45
 ·rw [if_pos h,if_pos (by rw [h];rfl)]
 ·rw [if_neg h,if_neg (by simpa using h)]
def a9m (K:Qd):Sp:=fun vs H Q _=>∃(a:Addr) (ns:List Int),vs=[.ref a]∧SqL K H a (ns.map V.int)∧ns.length≤63∧∀(D:Addr) (pl:List Str) H',a0h H H'→H D=none→H' D=some (.lst (pl.map V.str))→1≤pl.length→pl.length≤7→(∀z∈pl,TxN 30 z)→Q (.ref D) H'
def a9w (pl:List Str):List Str:=pl.flatMap fun x=>[x,"-"++x]
theorem b6x {pl:List Str} {z:Str} (h:z∈pl):z∈a9w pl:=List.mem_flatMap.mpr ⟨z,h,Xg⟩
theorem b3K {pl:List Str} {z:Str} (h:z∈pl):"-"++z∈a9w pl:=List.mem_flatMap.mpr ⟨z,h,Qu _ Xg⟩
def RwE (ev:List Str) (r:Rw):Prop:=r.2.2.1∈ev∧∀q∈r.2.2.2,q∈ev
def b1j:Sp:=fun vs H Q _=>∃(P:Addr) (n:Int) (pl:List Str),vs=[.ref P,.int n]∧H P=some (.lst (pl.map V.str))∧1≤pl.length∧pl.length≤7∧(∀z∈pl,TxN 30 z)∧∀z,TxN 31 z→z∈a9w pl→Q (.str z) H
def a7d:Sp:=fun vs H Q _=>∃(c m sz:Int) (p:Bool),vs=[.int c,.int m,.int sz,.bl p]∧(0≤m∧m≤10)∧(0 < sz∧sz≤1000)∧∀(D:Addr) (is:List Int) H',a0h H H'→H D=none→H' D=some (.lst (is.map V.int))→is.length=m.toNat→Q (.ref D) H'
def RwT (r:Rw):Prop:=a3t r∧TxN 31 r.2.2.1∧∀q∈r.2.2.2,TxN 31 q
def a9I (t:Adr):Sp:=fun vs H Q _=>∃(P:Addr) (c k:Int) (p:Bool) (pl:List Str),vs=[.ref P,.int c,.int k,.bl p]∧H P=some (.lst (pl.map V.str))∧1≤pl.length∧pl.length≤7∧(∀z∈pl,TxN 30 z)∧(0≤k∧k < 40)∧∀x r H',a0h H H'→RwT r→RwE (a9w pl) r→a1t H' x (a2L t r.1) (.str r.2.1) (.str r.2.2.1) (r.2.2.2.map V.str)→Q (.ref x) H'
theorem b5A:∀k:Nat,k < 40→OkS (Xs "r"++Xs (toString (k:Int))):=by
 intro k hk
 have h1:Xk (Xs "r"++Xs (toString (k:Int)))=true:=by
  revert k;decide+kernel
 have h2:(Xs "r"++Xs (toString (k:Int))).length≤40:=by
  revert k;decide+kernel
 exact ⟨h1,h2⟩
theorem b0F {K:Qd} {l m:List Nat} {H:Hp} {Q:VK} (h:l.length+m.length≤1000) (q:Q (sv (l++m)) H):a6o K (sv l) (sv m) H Q:=by
 rw [a1C,b0S]
 exact ⟨by rw [a1W,a1W];exact Qi h ‹dc›,q⟩
theorem b4A {P:Str→Prop} {ys:List V} (h:∀(i:Nat) (v:V),ys[i]?=some v→∃z,v=V.str z∧P z):∃zs:List Str,ys=zs.map V.str∧∀z∈zs,P z:=by
 induction ys with
 | nil=>exact ⟨[],rfl,by simp⟩
 | cons y ys ih=>
  obtain ⟨zs,e,ho⟩:=ih fun i v e=>h (i+1) v e
  obtain ⟨z,ez,hz⟩:=h 0 y rfl
  refine ⟨z::zs,by rw [e,ez];rfl,fun x hx=>?_⟩
  rcases Qx.mp hx with w | w
  ·rw [w];exact hz
  ·exact ho x w
theorem b1y (x:V) (xs:List V):a2x (x::xs) (some 1) none=xs:=by
 unfold a2x HT.sIx
 simp
theorem b3j {H0:Hp} {x dx:Addr} {C:Addr} (h1:H0 x=none) (h2:H0 dx=none):(a0h H0 (upd (upd H0 dx (.own x)) x (.ins C dx [])))∧(upd (upd H0 dx (.own x)) x (.ins C dx [])) x=some (.ins C dx []):=
 ⟨fun c o e=>by rw [a0d (a0c e h1),a0d (a0c e h2)];exact e,a0f⟩
def b3P (H:Hp) (Q:VK):Prop:=∀(D:Addr) (ps:List V) (pl:List (Str×Str)) H',a0h H H'→H D=none→H' D=some (.lst ps)→a0l H' ps pl→pl.length≤60→b3z pl→Q (.ref D) H'
def a1M (t:Adr) (H:Hp) (a:Addr) (zr:List VR):Prop:=H a=some (.lst (zr.map (·.1)))∧a3W t H zr∧zr.length≤30∧∀p∈zr,RwT p.2
theorem a1M.same {t:Adr} {H H':Hp} {a:Addr} {zr:List VR} (s:a0h H H') (h:a1M t H a zr):a1M t H' a zr:=⟨s _ _ h.1,h.2.1.same s,h.2.2⟩
theorem a1M.at {t:Adr} {H:Hp} {a:Addr} {zr:List VR} (h:a1M t H a zr) {i:Nat} (hi:i < zr.length):∃x,atI (zr.map (·.1)) (i:Int)=some (.ref x)∧a1t H x (a2L t zr[i].2.1) (.str zr[i].2.2.1) (.str zr[i].2.2.2.1) (zr[i].2.2.2.2.map V.str)∧RwT zr[i].2:=by
 obtain ⟨h1,h2,h3,h4⟩:=h
 obtain ⟨⟨x,ex,hx⟩,ho⟩:=h2 _ (Qq hi)
 refine ⟨x,?_,hx,h4 _ (Qq hi)⟩
 unfold atI ixN
 rw [if_pos ‹om›,if_pos (by rw [Qc];omega)]
 show (zr.map (·.1))[((i:Int)).toNat]?=_
 rw [Ua,Qy,Qe hi,←ex];rfl
def a7G (t:Adr):Sp:=fun vs H Q _=>∃(a:Addr) (c:Int) (zr:List VR),vs=[.ref a,.int c]∧a1M t H a zr∧b3P H Q
def a9n (t:Adr):Sp:=fun vs H Q _=>∃(a:Addr) (c:Int) (zr:List VR),vs=[.ref a,.int c]∧a1M t H a zr∧∀D zr' H',a0h H H'→H D=none→a1M t H' D zr'→(∀p∈zr',p∈zr)→Q (.ref D) H'
structure a1h (t:Adr) (H:Hp) (s T P E:Addr) (zr:List VR) (ps:List V) (pl:List (Str×Str)) (ev:List Str):Prop where
 s:H s=some (.lst [.ref T,.ref P,.ref E])
 r:a1M t H T zr
 p:H P=some (.lst ps)
 prs:a0l H ps pl
 po:b3z pl
 pn:pl.length≤60
 e:H E=some (.lst (ev.map V.str))
 eo:∀z∈ev,TxN 31 z
 en:1≤ev.length∧ev.length≤14
 ez:∀p∈zr,RwE ev p.2
theorem a1h.same {t:Adr} {H H':Hp} {s T P E:Addr} {zr:List VR} {ps:List V} {pl:List (Str×Str)} {ev:List Str} (k:a0h H H') (h:a1h t H s T P E zr ps pl ev):a1h t H' s T P E zr ps pl ev:=
 ⟨k _ _ h.s,h.r.same k,k _ _ h.p,a0l.same k h.prs,h.po,h.pn,k _ _ h.e,h.eo,h.en,h.ez⟩
def b2q (K:Qd) (t:Adr):Sp:=fun vs H Q _=>∃(a:Addr) (ns:List Int),vs=[.ref a,.int 24]∧SqL K H a (ns.map V.int)∧ns.length≤63∧∀s T P E zr ps pl ev H',a0h H H'→a1h t H' s T P E zr ps pl ev→Q (.ref s) H'
def a1V (s:Str):Sp:=fun vs H Q _=>∃x,vs=[x]∧Q (.str s) H
theorem a4a {s:Str} {x:V} {H:Hp} {Q:VK} {E:XK}:a1V s [x] H Q E↔Q (.str s) H:=⟨by rintro ⟨_,e,q⟩;cases e;exact q,fun q=>⟨_,rfl,q⟩⟩
theorem a4S {kind:Nat} (h:kind < 4):a9J kind (a1V "fact") (a1V "sure") (a1V "most") (a1V "block")=a1V (b2i kind):=by
 match kind,h with
 | 0,_=>rfl
 | 1,_=>rfl
 | 2,_=>rfl
 | 3,_=>rfl
def wOf (rl:List (Str×Str)) (w:Str):List Str:=(rl.filter fun p=>decide (p.1=w)).map (·.2)
def a5e (H:Hp) (D:Addr) (zs:List Str):Prop:=∃kvs,H D=some (.dK kvs)∧∀x:Str,(a1F kvs (Sum.inr x:Key)).isSome=decide (x∈zs)
theorem a5e.some {H:Hp} {D:Addr} {zs:List Str} (h:a5e H D zs):a1L H (.ref D) zs:=let ⟨k,a,b⟩:=h;.inr ⟨D,k,rfl,a,b⟩
theorem a5e.same {H H':Hp} {D:Addr} {zs:List Str} (s:a0h H H') (h:a5e H D zs):a5e H' D zs:=let ⟨k,a,b⟩:=h;⟨k,s _ _ a,b⟩
def b1x:Sp:=fun vs H Q _=>∃(a:Addr) (zs:List Str),vs=[.ref a]∧H a=some (.lst (zs.map V.str))∧zs.length≤100∧∀D H',a0h H H'→a5e H' D zs→Q (.ref D) H'
def a5W:Sp:=fun vs H Q _=>∃(a:Addr) (w:Str) (ps:List V) (rl:List (Str×Str)),vs=[.ref a,.str w]∧H a=some (.lst ps)∧a0l H ps rl∧rl.length≤60∧∀D H',a0h H H'→a5e H' D (wOf rl w)→Q (.ref D) H'
def b3S (rs:List Rw) (pl:List (Str×Str)) (S:List Str) (rl:List (Str×Str)) (b:Bool) (q:Str):Bool:=if b then a1e rs pl S (wOf rl "held") (wOf rl "refused") q else a3K rs pl S (wOf rl "held") (wOf rl "refused") q
def clW (b:Bool):Str:=if b then "held" else "refused"
def a8T (t:Adr):Sp:=fun vs H Q _=>∃(g a c:Addr) (v1:V) (rs:List Rw) (pl rl:List (Str×Str)) (ps:List V) (S:List Str) (b:Bool) (q:Str),vs=[.ref g,v1,.ref a,.ref c]∧a4U t H g rs pl∧(∀r∈rs,a3t r)∧rs.length≤63∧a1L H v1 S∧H a=some (.lst ps)∧a0l H ps rl∧rl.length≤60∧H c=some (.tup [.str (clW b),.str q])∧q.length≤100∧∀H',a0h H H'→Q (.bl (b3S rs pl S rl b q)) H'
def a5E (t:Adr) (f:List Str→List Str→Bool):Sp:=fun vs H Q _=>∃(x a:Addr) (r:Rw) (U:List Str),vs=[.ref x,.ref a]∧a5I t H (.ref x) r∧a3t r∧H a=some (.lst (U.map V.str))∧∀H',a0h H H'→Q (.bl (f r.2.2.2 U)) H'
def b0j (t:Adr) (H:Hp) (rs:List Rw) (Q:VK):Prop:=∀D (zr:List VR) H',a0h H H'→H' D=some (.lst (zr.map (·.1)))→a3W t H' zr→zr.length≤30→zr.map (·.2)=rs→Q (.ref D) H'
def b6R (t:Adr):Sp:=fun vs H Q _=>∃(s T P E:Addr) (zr:List VR) (ps:List V) (pl:List (Str×Str)) (ev:List Str) (q:Str),vs=[.ref s,.str q]∧a1h t H s T P E zr ps pl ev∧b0j t H ((hdF (zr.map (·.2)) q).filter spk) Q
def b6B (t:Adr):Sp:=fun vs H Q _=>∃(s T P E:Addr) (zr:List VR) (ps:List V) (pl:List (Str×Str)) (ev:List Str) (q:Str),vs=[.ref s,.str q]∧a1h t H s T P E zr ps pl ev∧TxN 31 q∧b0j t H (hdF (zr.map (·.2)) (a1T q)) Q
def b6s (t:Adr):Sp:=fun vs H Q _=>∃(s T P E x L:Addr) (zr:List VR) (ps:List V) (pl:List (Str×Str)) (ev:List Str) (r:Rw) (zo:List VR),vs=[.ref s,.ref x,.ref L]∧a1h t H s T P E zr ps pl ev∧a5I t H (.ref x) r∧a3t r∧H L=some (.lst (zo.map (·.1)))∧a3W t H zo∧zo.length≤30∧∀H',a0h H H'→Q (.bl (btn pl (zo.map (·.2)) r)) H'
def b3I (t:Adr) (f:List Rw→List (Str×Str)→List Str→List Str→List Str→Str→Bool):Sp:=fun vs H Q _=>∃(s T P E a1 a2 a3:Addr) (zr:List VR) (ps:List V) (pl:List (Str×Str)) (ev:List Str) (S U D:List Str) (q:Str),vs=[.ref s,.ref a1,.ref a2,.ref a3,.str q]∧a1h t H s T P E zr ps pl ev∧TxN 31 q∧H a1=some (.lst (S.map V.str))∧H a2=some (.lst (U.map V.str))∧H a3=some (.lst (D.map V.str))∧∀H',a0h H H'→Q (.bl (f (zr.map (·.2)) pl S U D q)) H'
theorem a9T (a b:Str):(a++b).length=a.length+b.length:=by
 show (a.cps++b.cps).size=_
 exact Array.size_append
theorem a1P {α:Type} {f:α→V} {l:List α} {i:Nat} {v:V} (h:(l.map f)[i]?=some v):∃hi:i < l.length,v=f l[i]:=by
 rw [Qy] at h
 obtain ⟨y,e,rfl⟩:=Uz.mp h
 obtain ⟨hi,rfl⟩:=Qv.mp e
 exact ⟨hi,rfl⟩
theorem a0l.at {H:Hp} {ps:List V} {rl:List (Str×Str)} (h:a0l H ps rl) {i:Nat} (hi:i < rl.length):∃x,ps[i]?=some (.ref x)∧H x=some (.tup [.str rl[i].1,.str rl[i].2]):=by
 obtain ⟨as,rfl,hl,hat⟩:=h
 have hi':i < as.length:=by omega
 exact ⟨as[i],by rw [Qy,Qe hi'];rfl,hat i _ _ (Qe hi') (Qe hi)⟩
theorem a0l.len {H:Hp} {ps:List V} {rl:List (Str×Str)} (h:a0l H ps rl):ps.length=rl.length:=by
 obtain ⟨as,rfl,hl,_⟩:=h
 rw [Qc];exact hl
theorem a3L {K:Qd} {a:Addr} {js:List (Option Nat)} {tt:TT} {te:TE} {σ:St} {H:Hp} {Q:VK} {ps:List V} {rl:List (Str×Str)} (ha:H a=some (.lst ps)) (hP:a0l H ps rl) (hl:rl.length≤1000) (σr:St) (hσ:a1Y js σ=none::σr) (P:Str×Str→Bool) (g:Str×Str→V)
  (hs:∀(x:Addr) (p:Str×Str) H' (R:Bool→Hp→Prop),H' x=some (.tup [.str p.1,.str p.2])→a0h H H'→(∀H'',a0h H' H''→R (P p) H'')→tt (some (.ref x)::σr) H' R)
  (he:∀(x:Addr) (p:Str×Str) H' (R:V→Hp→Prop),H' x=some (.tup [.str p.1,.str p.2])→a0h H H'→(∀H'',a0h H' H''→R (g p) H'')→te (some (.ref x)::σr) H' R)
  (hd:∀D H',H D=none→a0h H H'→H' D=some (.lst ((rl.filter P).map g))→Q (.ref D) H'):a4O (Itl K a) js (a0w 0) tt te σ H Q:=by
 let d0:Str×Str:=("","")
 have hpl:=a0l.len hP
 refine b0K (a2E (xs:=ps)) (Qi (show ps.length≤1000 by omega) ‹dc›) σr hσ (fun i=>P ((rl[i]?).getD d0)) (fun i=>g ((rl[i]?).getD d0)) (fun H' s=>SqL.of (s _ _ ha)) (fun i H' R hi s hR=>?_) (fun i H' R hi s hR=>?_) (fun D H' hD s h=>?_)
 ·have hi':i < rl.length:=by omega
  obtain ⟨x,ex,hx⟩:=a0l.at hP hi'
  rw [ex,Yr]
  rw [Qe hi',Yr] at hR
  exact hs x _ H' R (s _ _ hx) s hR
 ·have hi':i < rl.length:=by omega
  obtain ⟨x,ex,hx⟩:=a0l.at hP hi'
  rw [ex,Yr]
  rw [Qe hi',Yr] at hR
  exact he x _ H' R (s _ _ hx) s hR
 ·rw [hpl,a2s d0 P g rl] at h
  exact hd D H' hD s h
theorem a1s {α:Type} {l:List α} {i:Nat} (hi:i < l.length) (x:α):x∈l.take (i+1)↔x∈l.take i∨x=l[i]:=by
 rw [Xl hi,Xn,Qt]
theorem a1M.at2 {t:Adr} {H:Hp} {a:Addr} {zr:List VR} (h:a1M t H a zr) {k:Int} (h0:0≤k) (h1:k < zr.length):∃x r,atI (zr.map (·.1)) k=some (.ref x)∧a1t H x (a2L t r.1) (.str r.2.1) (.str r.2.2.1) (r.2.2.2.map V.str)∧RwT r:=by
 obtain ⟨n,rfl⟩:∃n:Nat,k=(n:Int):=⟨k.toNat,by omega⟩
 obtain ⟨x,e,hx,hr⟩:=h.at (i:=n) ‹om›
 exact ⟨x,_,e,hx,hr⟩
theorem b5S {t:Adr} {D:Addr} {H:Hp} {ev:List Str}:∀{ys:List V},(∀(i:Nat) v,ys[i]?=some v→∃r,(RwT r∧RwE ev r)∧RuD t D v r H)→∃zr:List VR,zr.map (·.1)=ys∧a3W t H zr∧∀p∈zr,RwT p.2∧RwE ev p.2
 | [],_=>⟨[],rfl,fun p hp=>absurd hp Yi,fun p hp=>absurd hp Yi⟩
 | y::ys,h=>by
  obtain ⟨zr,e,hw,hr⟩:=b5S (ys:=ys) fun i v e=>h (i+1) v e
  obtain ⟨r,hrt,p,dx,t0,ev,_,_,h1,h2⟩:=h 0 y rfl
  refine ⟨(y,r)::zr,by rw [Xm,e],fun q hq=>?_,fun q hq=>?_⟩
  ·rcases Qx.mp hq with z | z
   ·rw [z];exact ⟨⟨p,ev,dx,t0,h1,h2⟩,hrt.1.1⟩
   ·exact hw q z
  ·rcases Qx.mp hq with z | z
   ·rw [z];exact hrt
   ·exact hr q z
theorem b6S (ns:List Int):∃cs:List Int,a2x (ns.map V.int) (some 3) (some (3+24))=cs.map V.int∧cs.length≤30:=by
 unfold a2x
 refine ⟨(ns.drop (HT.sIx (ns.map V.int).length 0 (some 3))).take (HT.sIx (ns.map V.int).length (ns.map V.int).length (some (3+24)) - HT.sIx (ns.map V.int).length 0 (some 3)),by rw [Yn,List.map_drop],?_⟩
 rw [Xp]
 refine Qi (Us _ _) ?_
 rw [show (some (3+24:Int))=some ((27:Nat):Int) from rfl,show (some (3:Int))=some ((3:Nat):Int) from rfl,HT.sIx_nat,HT.sIx_nat]
 omega
theorem a9b {k:Nat} (h:k < 4):(!decide (b2i k=Xs "block"))=decide (k < 3):=by
 match k,h with
 | 0,_=>decide+kernel
 | 1,_=>decide+kernel
 | 2,_=>decide+kernel
 | 3,_=>decide+kernel
/-! ### sure sets,as in k33 -/
section
variable {α:Type} [DecidableEq α]
abbrev SR (α:Type):=Bool×α×List α
def b4I (l:List α) (x:α):List α:=if x∈l then l else l++[x]
def a3v (rs:List (SR α)) (S:List α) (x:α):Bool:=rs.any fun r=>(r.1 && decide (r.2.1=x)) && a1E r.2.2 S
theorem a9k {rs:List (SR α)} {S:List α} {x:α}:a3v rs S x=true↔∃b,(true,x,b)∈rs∧∀q∈b,q∈S:=by
 unfold a3v
 rw [Xv]
 constructor
 ·rintro ⟨⟨a,h,b⟩,hr,e⟩
  rw [Qs,Qs,decide_eq_true_eq,a1j] at e
  obtain ⟨⟨e1,e2⟩,e3⟩:=e
  dsimp only at e1 e2 e3
  subst e1 e2
  exact ⟨b,hr,e3⟩
 ·rintro ⟨b,hr,hb⟩
  exact ⟨_,hr,by rw [Qs,Qs,decide_eq_true_eq,a1j];exact ⟨⟨rfl,rfl⟩,hb⟩⟩
def a3c (rs:List (SR α)):List α→List α→Bool
 | _,[]=>true
 | S,x::xs=>(!decide (x∈S) && a3v rs S x) && a3c rs (S++[x]) xs
def a5h (rs:List (SR α)) (S:List α):Bool:=rs.all fun r=>!(r.1 && a1E r.2.2 S) || decide (r.2.1∈S)
theorem a2X {rs:List (SR α)} {S:List α}:a5h rs S=true↔∀x b,(true,x,b)∈rs→(∀q∈b,q∈S)→x∈S:=by
 unfold a5h
 rw [Yu]
 constructor
 ·intro h x b hr hb
  have e:=h _ hr
  rw [Bool.or_eq_true] at e
  rcases e with e | e
  ·rw [Xb,Yo,a1j.mpr hb] at e;cases e
  ·simpa using e
 ·rintro h ⟨a,x,b⟩ hr
  cases a with
  | false=>rfl
  | true=>
   rw [Bool.or_eq_true]
   by_cases hb:∀q∈b,q∈S
   ·exact .inr (by simpa using h x b hr hb)
   ·refine .inl ?_
    rw [Xb,Yo]
    cases e:a1E b S with
    | false=>rfl
    | true=>exact absurd (a1j.mp e) hb
theorem a4L {rs:List (SR α)} {S xs:List α} {x:α}:a3c rs S (x::xs)=true↔x∉S∧a3v rs S x=true∧a3c rs (S++[x]) xs=true:=by
 show ((!decide (x∈S) && a3v rs S x) && a3c rs (S++[x]) xs)=true↔_
 rw [Qs,Qs,Xb,decide_eq_false_iff_not,and_assoc]
theorem a3z {rs:List (SR α)}:∀{l S:List α},a3c rs S l=true→S.Nodup→(S++l).Nodup
 | [],S,_,h=>by rw [Qf];exact h
 | x::l,S,h,hS=>by
  obtain ⟨h1,_,h3⟩:=a4L.mp h
  have:=a3z h3 (List.nodup_append.mpr ⟨hS,by simp,fun a ha b hb e=>h1 (by rw [Qt] at hb;rw [←hb,←e];exact ha)⟩)
  rw [Yl] at this;exact this
theorem a2D {rs:List (SR α)} {C:List α} (hC:∀x b,(true,x,b)∈rs→(∀q∈b,q∈C)→x∈C):∀{l S:List α},a3c rs S l=true→(∀x∈S,x∈C)→∀x∈l,x∈C
 | [],_,_,_=>by simp
 | x::l,S,h,hS=>by
  obtain ⟨_,h2,h3⟩:=a4L.mp h
  obtain ⟨b,hr,hb⟩:=a9k.mp h2
  have hx:=hC x b hr fun q hq=>hS q (hb q hq)
  intro y hy
  rcases Qx.mp hy with e | e
  ·rw [e];exact hx
  ·exact a2D hC h3 (fun z hz=>by
    rcases Xn.mp hz with w | w
    ·exact hS z w
    ·rw [Qt.mp w];exact hx) y e
theorem a9U {S:List α} {x:α} (h:x∉S):b4I S x=S++[x]:=by unfold b4I;rw [if_neg h]
end
def srW (r:Rw):SR Str:=(decide (r.1 < 2),r.2.2.1,r.2.2.2)
def bv (S:List Str):List (Key×V):=S.map fun x=>(Sum.inr x,V.bl true)
theorem a3Q (x:Str):∀S:List Str,a1F (bv S) (Sum.inr x:Key)=if x∈S then some (V.bl true) else none
 | []=>rfl
 | y::r=>by
  have ih:=a3Q x r
  by_cases e:y=x
  ·rw [show bv (y::r)=(Sum.inr y,V.bl true)::bv r from rfl,a0V (by rw [e]),if_pos (by rw [e];exact Xg)]
  ·rw [show bv (y::r)=(Sum.inr y,V.bl true)::bv r from rfl,a0T (fun z=>e (Sum.inr.inj z)),ih]
   by_cases h:x∈r
   ·rw [if_pos h,if_pos (Qu _ h)]
   ·rw [if_neg h,if_neg (by simp [h];exact fun z=>e z.symm)]
theorem b4E (S:List Str) (x:Str):a3h (bv S) (Sum.inr x:Key) (V.bl true)=bv (b4I S x):=by
 unfold a3h b4I
 rw [a2k,a3Q]
 by_cases h:x∈S
 ·rw [if_pos h,if_pos (by rfl),if_pos h]
  unfold bv
  rw [Ym]
  refine Vo fun y _=>?_
  simp only [Function.comp]
  split<;>rfl
 ·rw [if_neg h,if_neg (by simp),if_neg h]
  unfold bv;rw [Xo];rfl
theorem b7a {H:Hp} {D:Addr} {S:List Str} (h:H D=some (.dK (bv S))) (x:Str):a5K H D (.str x) (if x∈S then some (V.bl true) else none):=by
 have:=a5K.k (k:=(Sum.inr x:Key)) h
 rw [a3Q] at this;exact this
theorem c1W {H:Hp} {D:Addr} {S:List Str} (h:H D=some (.dK (bv S))) (hl:S.length≤100000) (x:Str):a8W H D (.str x) (V.bl true) (upd H D (.dK (bv (b4I S x)))):=by
 have:=a8W.k (k:=(Sum.inr x:Key)) (v:=V.bl true) h (by unfold bv;rw [Qc];exact Xj hl ‹dc›)
 rw [b4E] at this;exact this
theorem b5k (rs:List Rw) (S:List Str) (h:Str):(((hdF rs h).filter fun r=>(srW r).1).any fun r=>a1E (srW r).2.2 S)=a3v (rs.map srW) S h:=by
 unfold hdF a3v
 rw [Jw,List.any_filter,Yt]
 refine congrArg (fun f=>List.any rs f) (funext fun r=>?_)
 simp only [Function.comp]
 rfl
theorem b5U (rs:List Rw) (S:List Str):(((rs.filter fun r=>(srW r).1).filter fun r=>a1E (srW r).2.2 S).all fun r=>decide ((srW r).2.1∈S))=a5h (rs.map srW) S:=by
 unfold a5h
 rw [Jw,List.all_filter,Zx]
 refine congrArg (fun f=>List.all rs f) (funext fun r=>?_)
 simp only [Function.comp]
 rw [Bool.and_comm]
def isS (rs:List Rw) (l:List Str):Bool:=a3c (rs.map srW) [] l && a5h (rs.map srW) l
def a7Y (t:Adr):Sp:=fun vs H Q _=>∃(g:Addr) (rs:List Rw) (pl:List (Str×Str)),vs=[.ref g]∧a4U t H g rs pl∧∀D xs H',a0h H H'→H D=none→H' D=some (.lst xs)→a1G t H' xs rs→Q (.ref D) H'
def c0S (t:Adr):Sp:=fun vs H Q _=>∃(g s:Addr) (rs:List Rw) (pl:List (Str×Str)) (l:List Str),vs=[.ref g,.ref s]∧a4U t H g rs pl∧(∀r∈rs,a3t r)∧rs.length≤63∧H s=some (.lst (l.map V.str))∧l.length≤100∧∀H',a0h H H'→Q (.bl (isS rs l)) H'
/-! ### claims that are let by -/
def cw (c:Bool×Str):Str×Str:=(clW c.1,c.2)
def a1X (rs:List Rw) (pl:List (Str×Str)) (S:List Str) (acc:List (Bool×Str)) (c:Bool×Str):Bool:=b3S rs pl S (acc.map cw) c.1 c.2
def a1B (rs:List Rw) (pl:List (Str×Str)) (S:List Str):List (Bool×Str)→List (Bool×Str)→Bool
 | _,[]=>true
 | acc,c::r=>a1X rs pl S acc c && a1B rs pl S (acc++[c]) r
def b2D (rs:List Rw) (pl:List (Str×Str)) (S:List Str) (acc cl:List (Bool×Str)) (i:Nat):Bool:=match cl[i]? with
 | some c=>a1X rs pl S (acc++cl.take i) c
 | none=>true
theorem a5M {rs:List Rw} {pl:List (Str×Str)} {S:List Str}:∀(cl acc:List (Bool×Str)),((Yq cl.length).map (b2D rs pl S acc cl)).all id=a1B rs pl S acc cl
 | [],_=>rfl
 | c::r,acc=>by
  rw [Qj,List.range_succ_eq_map,Xm,Ym,Vj]
  show ((a1X rs pl S (acc++[]) c) && _)=(a1X rs pl S acc c && a1B rs pl S (acc++[c]) r)
  rw [Qf,←a5M r (acc++[c])]
  congr 2
  refine Vo fun i _=>?_
  show b2D rs pl S acc (c::r) (i+1)=_
  unfold b2D
  rw [Qb,List.take_succ_cons,Yl];rfl
theorem a3b {rs:List Rw} {pl:List (Str×Str)} {S:List Str}:∀(l acc:List (Bool×Str)) (c:Bool×Str),a1B rs pl S acc (l++[c])=(a1B rs pl S acc l && a1X rs pl S (acc++l) c)
 | [],acc,c=>by show (a1X rs pl S acc c && true)=(true && _);rw [Qf,Vl,Yo]
 | d::l,acc,c=>by
  show (a1X rs pl S acc d && a1B rs pl S (acc++[d]) (l++[c]))=((a1X rs pl S acc d && a1B rs pl S (acc++[d]) l) && _)
  rw [a3b l,Yl,Bool.and_assoc];rfl
theorem a2c {H:Hp} {ps:List V} {pl:List (Str×Str)} (h:a0l H ps pl) (n:Nat):a0l H (ps.take n) (pl.take n):=by
 obtain ⟨as,rfl,e,g⟩:=h
 refine ⟨as.take n,by rw [Yn],by rw [Xp,Xp,e],fun i a p h1 h2=>?_⟩
 rw [List.getElem?_take] at h1 h2
 by_cases hi:i < n
 ·rw [if_pos hi] at h1 h2;exact g i a p h1 h2
 ·rw [if_neg hi] at h1;cases h1
def b3q (t:Adr):Sp:=fun vs H Q _=>∃(g p a1 a2:Addr) (rs:List Rw) (pl:List (Str×Str)) (S:List Str) (ps:List V) (cl:List (Bool×Str)),vs=[.ref g,.ref p]∧a4U t H g rs pl∧(∀r∈rs,a3t r)∧rs.length≤63∧H p=some (.tup [.ref a1,.ref a2])∧H a1=some (.lst (S.map V.str))∧S.length≤100∧H a2=some (.lst ps)∧a0l H ps (cl.map cw)∧cl.length≤60∧(∀c∈cl,c.2.length≤100)∧∀H',a0h H H'→Q (.bl (isS rs S && a1B rs pl S [] cl)) H'
/-! ### the law's own sure statements -/
theorem a6Z {n:Nat} (h:n < 4):decide (b2i n∈(["fact","sure"]:List Str))=decide (n < 2):=by
 match n,h with
 | 0,_=>decide+kernel
 | 1,_=>decide+kernel
 | 2,_=>decide+kernel
 | 3,_=>decide+kernel
theorem a4z {rs:List (SR Str)} {x:Str}:∀(l S:List Str),a3c rs S (l++[x])=(a3c rs S l && (!decide (x∈S++l) && a3v rs (S++l) x))
 | [],S=>by
  show ((!decide (x∈S) && a3v rs S x) && true)=(true && (!decide (x∈S++[]) && a3v rs (S++[]) x))
  rw [Qf,Vl,Yo]
 | y::l,S=>by
  show ((!decide (y∈S) && a3v rs S y) && a3c rs (S++[y]) (l++[x]))=(((!decide (y∈S) && a3v rs S y) && a3c rs (S++[y]) l) && _)
  rw [a4z l (S++[y]),Bool.and_assoc ((!decide (y∈S) && a3v rs S y)),Yl];rfl
theorem a1Z {α:Type} [DecidableEq α]:∀{l m:List α},l.Nodup→(∀x∈l,x∈m)→l.length≤m.length
 | [],m,_,_=>Xr _
 | x::l,m,h,s=>by
  rw [Yx] at h
  have h1:=a1Z (l:=l) (m:=m.erase x) h.2 (fun y hy=>(List.mem_erase_of_ne (fun z=>h.1 (by rw [←z];exact hy))).mpr (s y (Qu _ hy)))
  have h2:x∈m:=s x Xg
  have h3:=List.length_erase_of_mem h2
  have h4:=List.length_pos_of_mem h2
  simp only [Qj];omega
theorem a2F {rs:List Rw} {l:List Str} (h:a3c (rs.map srW) [] l=true):l.Nodup∧(∀x∈l,∃r∈rs,r.2.2.1=x)∧l.length≤rs.length:=by
 have hn:l.Nodup:=by have:=a3z h Zy;rwa [Zs] at this
 have hm:∀x∈l,x∈rs.map (·.2.2.1):=a2D (C:=rs.map (·.2.2.1)) (fun x b hr _=>by
  obtain ⟨r,hr,e⟩:=Qn.mp hr
  have:r.2.2.1=x:=congrArg (fun z:SR Str=>z.2.1) e
  exact Qn.mpr ⟨r,hr,this⟩) h (fun _ z=>by cases z)
 refine ⟨hn,fun x hx=>by obtain ⟨r,hr,e⟩:=Qn.mp (hm x hx);exact ⟨r,hr,e⟩,?_⟩
 have:=a1Z hn hm
 rw [Qc] at this;exact this
theorem b1Y {rs:List Rw} {l m:List Str} (h:isS rs l=true) (h':isS rs m=true):l.length=m.length:=by
 unfold isS at h h'
 rw [Qs] at h h'
 have s1:=a2D (a2X.mp h'.2) h.1 (fun _ z=>by cases z)
 have s2:=a2D (a2X.mp h.2) h'.1 (fun _ z=>by cases z)
 exact Nat.le_antisymm (a1Z (a2F h.1).1 s1) (a1Z (a2F h'.1).1 s2)
def b4T (t:Adr):Sp:=fun vs H Q _=>∃(x:Addr) (r:Rw),vs=[.ref x]∧a5I t H (.ref x) r∧a3t r∧∀H',a0h H H'→Q (.bl (srW r).1) H'
def a9f (t:Adr):Sp:=fun vs H Q _=>∃(s T P E:Addr) (zr:List VR) (ps:List V) (pl:List (Str×Str)) (ev:List Str),vs=[.ref s]∧a1h t H s T P E zr ps pl ev∧∀D L H',a0h H H'→H D=none→H' D=some (.lst (L.map V.str))→isS (zr.map (·.2)) L=true→Q (.ref D) H'
theorem a7P {K:Qd} {H:Hp} {Q:VK} {z:Str} {a:Addr} {r:List Str} (h:SqT K H a (r.map V.str)) (q:Q (.bl (decide (z∈r))) H):b2x K (.str z) (.ref a) H Q:=
 .inr ⟨a,_,rfl,.inr h,rfl,a2Z _,by rw [if_neg Qp,a5m];exact q⟩
/-! ### words that grow,never both,as few as can be -/
section
variable {rs:List Rw} {pl:List (Str×Str)} {S U U' D D':List Str} {q:Str}
theorem a4t {b:List Str} (h:∀x∈U,x∈U') (e:a1E b U=true):a1E b U'=true:=by
 rw [a1j] at e ⊢;exact fun q hq=>h q (e q hq)
theorem a3J {b:List Str}:a2a b S=true↔∃q∈b,q∈S:=by
 unfold a2a;rw [Xv];simp
theorem a4c {b:List Str} (h:∀x∈U,x∈U') (e:a2a b U=true):a2a b U'=true:=by
 rw [a3J] at e ⊢
 obtain ⟨q,a,c⟩:=e
 exact ⟨q,a,h q c⟩
theorem a3P {bs bs':List Rw} {r:Rw} (h:∀b∈bs,b∈bs') (e:btn pl bs r=true):btn pl bs' r=true:=by
 unfold btn at e ⊢
 rw [Xv] at e ⊢
 obtain ⟨b,hb,c⟩:=e
 exact ⟨b,h b hb,c⟩
theorem a4e {r:Rw}:r∈a1N rs U q↔(r∈hdF rs q∧spk r=true)∧a1E r.2.2.2 U=true:=by
 unfold a1N;rw [Xi,Xi]
theorem a7E {r:Rw}:r∈unf rs D q↔(r∈hdF rs q∧spk r=true)∧a2a r.2.2.2 D=false:=by
 unfold unf;rw [Xi,Xi,Xb]
theorem a4V {α:Type} {l m:List α} (h:∀r∈l,r∈m) (e:m=[]):l=[]:=List.eq_nil_iff_forall_not_mem.mpr fun r hr=>by
 have:=h r hr;rw [e] at this;cases this
theorem a4o:a1e rs pl S U D q=true↔q∈S∨(q∉S∧a1N rs U q≠[]∧a1T q∉S∧∀r∈hdF rs (a1T q),a2a r.2.2.2 D=true∨btn pl (a1N rs U q) r=true):=by
 unfold a1e
 by_cases h:q∈S
 ·simp [h]
 ·rw [if_neg h]
  by_cases c:a1N rs U q=[]∨a1T q∈S
  ·rw [if_pos c]
   constructor
   ·intro z;cases z
   ·rintro (z | ⟨_,a,b,_⟩)
    ·exact absurd z h
    ·exact (c.elim a b).elim
  ·rw [if_neg c,Yu]
   rw [not_or] at c
   constructor
   ·intro z;exact .inr ⟨h,c.1,c.2,fun r hr=>Vp.mp (z r hr)⟩
   ·rintro (z | ⟨_,_,_,z⟩)
    ·exact absurd z h
    ·exact fun r hr=>Vp.mpr (z r hr)
theorem a7c:a3K rs pl S U D q=true↔q∉S∧(unf rs D q=[]∨a1T q∈S∨∃r∈hdF rs (a1T q),a1E r.2.2.2 U=true∧btn pl (unf rs D q) r=false):=by
 unfold a3K
 by_cases h:q∈S
 ·simp [h]
 ·rw [if_neg h]
  by_cases c:unf rs D q=[]∨a1T q∈S
  ·rw [if_pos c]
   exact ⟨fun _=>⟨h,c.imp id .inl⟩,fun _=>rfl⟩
  ·rw [if_neg c,Xv]
   rw [not_or] at c
   constructor
   ·rintro ⟨r,hr,z⟩
    rw [Qs,Xb] at z
    exact ⟨h,.inr (.inr ⟨r,hr,z⟩)⟩
   ·rintro ⟨_,z | z | ⟨r,hr,z⟩⟩
    ·exact absurd z c.1
    ·exact absurd z c.2
    ·exact ⟨r,hr,by rw [Qs,Xb];exact z⟩
theorem a6v (hU:∀x∈U,x∈U') (hD:∀x∈D,x∈D') (e:a1e rs pl S U D q=true):a1e rs pl S U' D' q=true:=by
 rw [a4o] at e ⊢
 rcases e with e | ⟨a,b,c,d⟩
 ·exact .inl e
 ·have hs:∀r∈a1N rs U q,r∈a1N rs U' q:=fun r hr=>by rw [a4e] at hr ⊢;exact ⟨hr.1,a4t hU hr.2⟩
  exact .inr ⟨a,fun z=>b (a4V hs z),c,fun r hr=>(d r hr).imp (a4c hD) (a3P hs)⟩
theorem a8Z (hU:∀x∈U,x∈U') (hD:∀x∈D,x∈D') (e:a3K rs pl S U D q=true):a3K rs pl S U' D' q=true:=by
 rw [a7c] at e ⊢
 have hs:∀r∈unf rs D' q,r∈unf rs D q:=fun r hr=>by
  rw [a7E] at hr ⊢
  refine ⟨hr.1,?_⟩
  cases z:a2a r.2.2.2 D with
  | false=>rfl
  | true=>have:=hr.2;rw [a4c hD z] at this;cases this
 refine ⟨e.1,?_⟩
 rcases e.2 with z | z | ⟨r,hr,a,b⟩
 ·exact .inl (a4V hs z)
 ·exact .inr (.inl z)
 ·refine .inr (.inr ⟨r,hr,a4t hU a,?_⟩)
  cases z:btn pl (unf rs D' q) r with
  | false=>rfl
  | true=>rw [a3P hs z] at b;cases b
theorem a3k (hc:∀x∈U,x∉D) (h:a1e rs pl S U D q=true):a3K rs pl S U D q=false:=by
 cases e:a3K rs pl S U D q with
 | false=>rfl
 | true=>
  exfalso
  rw [a4o] at h;rw [a7c] at e
  rcases h with h | ⟨_,b,c,d⟩
  ·exact e.1 h
  ·have hs:∀r∈a1N rs U q,r∈unf rs D q:=fun r hr=>by
    rw [a4e] at hr;rw [a7E]
    refine ⟨hr.1,?_⟩
    cases z:a2a r.2.2.2 D with
    | false=>rfl
    | true=>
     obtain ⟨p,hp,hd⟩:=a3J.mp z
     exact absurd hd (hc p (a1j.mp hr.2 p hp))
   rcases e.2 with z | z | ⟨r,hr,a,b'⟩
   ·exact b (a4V hs z)
   ·exact c z
   ·rcases d r hr with w | w
    ·obtain ⟨p,hp,hd⟩:=a3J.mp w
     exact hc p (a1j.mp a p hp) hd
    ·rw [a3P hs w] at b';cases b'
end
/-! ### claims that come in,as few as can be -/
theorem b5E {cl:List (Bool×Str)} {b:Bool} {x:Str}:x∈wOf (cl.map cw) (clW b)↔(b,x)∈cl:=by
 unfold wOf
 rw [Qn]
 constructor
 ·rintro ⟨p,hp,rfl⟩
  obtain ⟨h1,h2⟩:=Xi.mp hp
  obtain ⟨c,hc,rfl⟩:=Qn.mp h1
  have:clW c.1=clW b:=of_decide_eq_true h2
  have e:c.1=b:=by
   cases h:c.1<;>cases b<;>first | rfl | (rw [h] at this;exact absurd this ‹dk›)
  rw [←e];exact hc
 ·exact fun h=>⟨cw (b,x),Xi.mpr ⟨Qn.mpr ⟨_,h,rfl⟩,by simp [cw]⟩,rfl⟩
theorem a4G {cl:List (Bool×Str)} {x:Str}:x∈wOf (cl.map cw) "held"↔(true,x)∈cl:=b5E (b:=true)
theorem a4E {cl:List (Bool×Str)} {x:Str}:x∈wOf (cl.map cw) "refused"↔(false,x)∈cl:=b5E (b:=false)
section
variable {rs:List Rw} {pl:List (Str×Str)} {S ev:List Str} {acc acc' G:List (Bool×Str)} {c:Bool×Str}
theorem a5s (h:∀c∈acc,c∈acc') (e:a1X rs pl S acc c=true):a1X rs pl S acc' c=true:=by
 unfold a1X b3S at e ⊢
 have hU:∀x∈wOf (acc.map cw) "held",x∈wOf (acc'.map cw) "held":=fun x hx=>a4G.mpr (h _ (a4G.mp hx))
 have hD:∀x∈wOf (acc.map cw) "refused",x∈wOf (acc'.map cw) "refused":=fun x hx=>a4E.mpr (h _ (a4E.mp hx))
 by_cases b:c.1=true
 ·rw [if_pos b] at e ⊢;exact a6v hU hD e
 ·rw [if_neg b] at e ⊢;exact a8Z hU hD e
theorem a4g:∀{l acc:List (Bool×Str)},a1B rs pl S acc l=true→∀c∈l,a1X rs pl S (acc++l) c=true
 | [],_,_,_,h=>by cases h
 | d::l,acc,e,c,h=>by
  have e':(a1X rs pl S acc d && a1B rs pl S (acc++[d]) l)=true:=e
  rw [Qs] at e'
  rcases Qx.mp h with rfl | m
  ·exact a5s (fun x hx=>Yz _ hx) e'.1
  ·have:=a4g e'.2 c m
   rwa [Yl] at this
theorem a2S:∀{l acc:List (Bool×Str)} (k:Nat),a1B rs pl S acc l=true→a1B rs pl S acc (l.take k)=true
 | [],_,k,_=>by rw [List.take_nil];rfl
 | d::l,acc,0,_=>rfl
 | d::l,acc,k+1,e=>by
  have e':(a1X rs pl S acc d && a1B rs pl S (acc++[d]) l)=true:=e
  rw [Qs] at e'
  show (a1X rs pl S acc d && a1B rs pl S (acc++[d]) (l.take k))=true
  rw [e'.1,a2S k e'.2];rfl
structure Grw (rs:List Rw) (pl:List (Str×Str)) (S ev:List Str) (G:List (Bool×Str)):Prop where
 l:a1B rs pl S [] G=true
 n:(G.map (·.2)).Nodup
 e:∀c∈G,c.2∈ev
def GrC (rs:List Rw) (pl:List (Str×Str)) (S ev:List Str) (G:List (Bool×Str)):Prop:=∀q∈ev,q∉G.map (·.2)→a1X rs pl S G (true,q)=false∧a1X rs pl S G (false,q)=false
theorem a3s {α:Type} {l:List α} {x:α} (h:l.Nodup) (hx:x∉l):(l++[x]).Nodup:=
 List.nodup_append.mpr ⟨h,Yx.mpr ⟨Yi,Zy⟩,fun a ha b hb e=>hx (by rw [←Qt.mp hb,←e];exact ha)⟩
theorem Grw.len (h:Grw rs pl S ev G):G.length≤ev.length:=by
 have:=a1Z h.n (fun x hx=>by obtain ⟨c,hc,e⟩:=Qn.mp hx;rw [←e];exact h.e c hc)
 rwa [Qc] at this
theorem Grw.snoc (h:Grw rs pl S ev G) (hq:c.2∈ev) (hn:c.2∉G.map (·.2)) (hd:a1X rs pl S G c=true):Grw rs pl S ev (G++[c]):=by
 refine ⟨by rw [a3b,h.l,Zs,hd];rfl,?_,fun d hd=>?_⟩
 ·rw [Xo];exact a3s h.n hn
 ·rcases Xn.mp hd with m | m
  ·exact h.e d m
  ·rw [Qt.mp m];exact hq
theorem a4k {α β:Type} {f:α→β}:∀{l:List α} {x y:α},(l.map f).Nodup→x∈l→y∈l→f x=f y→x=y
 | [],_,_,_,h,_,_=>by cases h
 | z::l,x,y,n,hx,hy,e=>by
  rw [Xm,Yx] at n
  rcases Qx.mp hx with rfl | mx<;>rcases Qx.mp hy with rfl | my
  ·rfl
  ·exact absurd (Qn.mpr ⟨y,my,e.symm⟩) n.1
  ·exact absurd (Qn.mpr ⟨x,mx,e⟩) n.1
  ·exact a4k n.2 mx my e
theorem a8o (hG:Grw rs pl S ev G) (hC:GrC rs pl S ev G):∀{R acc:List (Bool×Str)},a1B rs pl S acc R=true→(∀c∈acc,c∈G)→(∀c∈R,c.2∈ev)→∀c∈R,c∈G
 | [],_,_,_,_,_,h=>by cases h
 | d::R,acc,e,ha,hR,c,h=>by
  have e':(a1X rs pl S acc d && a1B rs pl S (acc++[d]) R)=true:=e
  rw [Qs] at e'
  have hd:d∈G:=by
   have h1:=a5s ha e'.1
   obtain ⟨b,q⟩:=d
   have hq:q∈ev:=hR _ Xg
   by_cases m:q∈G.map (·.2)
   ·obtain ⟨⟨b',q'⟩,hc,rfl⟩:=Qn.mp m
    have h2:=a4g hG.l _ hc
    rw [Zs] at h2
    have hcons:∀x∈wOf (G.map cw) "held",x∉wOf (G.map cw) "refused":=fun x hx hy=>by
     have:=a4k hG.n (a4G.mp hx) (a4E.mp hy) rfl
     cases this
    cases b<;>cases b'
    ·exact hc
    ·have h3:a1e rs pl S (wOf (G.map cw) "held") (wOf (G.map cw) "refused") q'=true:=h2
     have h4:a3K rs pl S (wOf (G.map cw) "held") (wOf (G.map cw) "refused") q'=true:=h1
     rw [a3k hcons h3] at h4;cases h4
    ·have h3:a1e rs pl S (wOf (G.map cw) "held") (wOf (G.map cw) "refused") q'=true:=h1
     have h4:a3K rs pl S (wOf (G.map cw) "held") (wOf (G.map cw) "refused") q'=true:=h2
     rw [a3k hcons h3] at h4;cases h4
    ·exact hc
   ·have h2:=hC q hq m
    cases b
    ·rw [h2.2] at h1;cases h1
    ·rw [h2.1] at h1;cases h1
  rcases Qx.mp h with rfl | m
  ·exact hd
  ·refine a8o hG hC e'.2 (fun x hx=>?_) (fun x hx=>hR x (Qu _ hx)) c m
   rcases Xn.mp hx with m | m
   ·exact ha x m
   ·rw [Qt.mp m];exact hd
end
theorem b0o (l:List (Bool×Str)) (c:Bool×Str) (w:Str):wOf ((l++[c]).map cw) w=wOf (l.map cw) w++if clW c.1=w then [c.2] else []:=by
 unfold wOf
 rw [Xo,Zw,Xo]
 congr 1
 show Vg _ (List.filter _ [cw c])=_
 rw [Ze]
 by_cases h:clW c.1=w
 ·rw [if_pos (show decide ((cw c).1=w)=true from decide_eq_true h),if_pos h];rfl
 ·rw [if_neg (show ¬decide ((cw c).1=w)=true from fun z=>h (of_decide_eq_true z)),if_neg h];rfl
def b1I (t:Adr):Sp:=fun vs H Q _=>∃(s T P E a1:Addr) (zr:List VR) (ps:List V) (pl:List (Str×Str)) (ev S:List Str),vs=[.ref s,.ref a1]∧a1h t H s T P E zr ps pl ev∧H a1=some (.lst (S.map V.str))∧∀D G qs H',a0h H H'→H D=none→H' D=some (.lst qs)→a0l H' qs (G.map cw)→Grw (zr.map (·.2)) pl S ev G→GrC (zr.map (·.2)) pl S ev G→Q (.ref D) H'
structure GrI (H H':Hp) (A1 A2 A3:Addr) (rs:List Rw) (pl:List (Str×Str)) (S ev:List Str) (G:List (Bool×Str)) (qs:List V):Prop where
 s:a0h H H'
 u:H' A1=some (.lst ((wOf (G.map cw) "held").map V.str))
 d:H' A2=some (.lst ((wOf (G.map cw) "refused").map V.str))
 r:H' A3=some (.lst qs)
 p:a0l H' qs (G.map cw)
 g:Grw rs pl S ev G
theorem GrI.same {H H' H2:Hp} {A1 A2 A3:Addr} {rs:List Rw} {pl:List (Str×Str)} {S ev:List Str} {G:List (Bool×Str)} {qs:List V} (h:GrI H H' A1 A2 A3 rs pl S ev G qs) (s:a0h H' H2):GrI H H2 A1 A2 A3 rs pl S ev G qs:=⟨h.s.trans s,s _ _ h.u,s _ _ h.d,s _ _ h.r,a0l.same s h.p,h.g⟩
theorem GrI.add {H H':Hp} {A1 A2 A3 Ab p:Addr} {rs:List Rw} {pl:List (Str×Str)} {S ev:List Str} {G:List (Bool×Str)} {qs:List V} {b:Bool} {q:Str} (h:GrI H H' A1 A2 A3 rs pl S ev G qs) (n12:A1≠A2) (n13:A1≠A3) (n23:A2≠A3) (f1:H A1=none) (f2:H A2=none) (f3:H A3=none) (hb:(b=true∧Ab=A1)∨(b=false∧Ab=A2)) (hg:Grw rs pl S ev (G++[(b,q)])) (hp:upd H' Ab (.lst ((wOf (G.map cw) (clW b)).map V.str++[V.str q])) p=none):
  GrI H (upd (upd (upd H' Ab (.lst ((wOf (G.map cw) (clW b)).map V.str++[V.str q]))) p (.tup [.str (clW b),.str q])) A3 (.lst (qs++[.ref p]))) A1 A2 A3 rs pl S ev (G++[(b,q)]) (qs++[.ref p]):=by
 have hpb:p≠Ab:=fun z=>by rw [z,a0f] at hp;cases hp
 have hp':H' p=none:=by rw [a0d hpb] at hp;exact hp
 have k1:p≠A1:=fun z=>by rw [z,h.u] at hp';cases hp'
 have k2:p≠A2:=fun z=>by rw [z,h.d] at hp';cases hp'
 have k3:p≠A3:=fun z=>by rw [z,h.r] at hp';cases hp'
 have b3:Ab≠A3:=by rcases hb with ⟨_,rfl⟩ | ⟨_,rfl⟩<;>assumption
 have up:∀c o,c≠Ab→c≠A3→H' c=some o→(upd (upd (upd H' Ab (.lst ((wOf (G.map cw) (clW b)).map V.str++[V.str q]))) p (.tup [.str (clW b),.str q])) A3 (.lst (qs++[.ref p]))) c=some o:=fun c o c1 c2 e=>by
  rw [a0d c2,a0d (a0c e hp'),a0d c1];exact e
 have hbl:∃ys,H' Ab=some (.lst ys):=by
  rcases hb with ⟨_,rfl⟩ | ⟨_,rfl⟩
  ·exact ⟨_,h.u⟩
  ·exact ⟨_,h.d⟩
 refine ⟨fun c o e=>up c o ?_ (a0c e f3) (h.s _ _ e),?_,?_,a0f,?_,hg⟩
 ·rcases hb with ⟨_,rfl⟩ | ⟨_,rfl⟩
  ·exact a0c e f1
  ·exact a0c e f2
 ·rw [b0o]
  rcases hb with ⟨rfl,rfl⟩ | ⟨rfl,rfl⟩
  ·rw [a0d n13,a0d k1.symm,a0f,if_pos (show clW true="held" from rfl),Xo];rfl
  ·rw [up _ _ n12 n13 h.u,if_neg (show ¬clW false="held" by decide+kernel),Qf]
 ·rw [b0o]
  rcases hb with ⟨rfl,rfl⟩ | ⟨rfl,rfl⟩
  ·rw [up _ _ n12.symm n23 h.d,if_neg (show ¬clW true="refused" by decide+kernel),Qf]
  ·rw [a0d n23,a0d k2.symm,a0f,if_pos (show clW false="refused" from rfl),Xo];rfl
 ·rw [Xo]
  refine a3E (p:=cw (b,q)) ?_ (by rw [a0d k3,a0f];rfl)
  obtain ⟨as,e,hl,hat⟩:=h.p
  obtain ⟨ys,hb'⟩:=hbl
  exact ⟨as,e,hl,fun i a z e1 e2=>by
   have:=hat i a z e1 e2
   exact up _ _ (a1O this hb' ‹iz›) (a1O this h.r ‹iz›) this⟩
def b6V (H:Hp) (D:Addr) (ev:List Str) (cl:List (Bool×Str)):Prop:=∃qs,H D=some (.lst qs)∧a0l H qs (cl.map cw)∧∀c∈cl,c.2∈ev
def a9s (t:Adr):Sp:=fun vs H Q _=>∃(s T P E:Addr) (c:Int) (zr:List VR) (ps:List V) (pl:List (Str×Str)) (ev:List Str),vs=[.ref s,.int c]∧a1h t H s T P E zr ps pl ev∧∀D cl H',a0h H H'→H D=none→b6V H' D ev cl→cl.length≤7→Q (.ref D) H'
def a8I (t:Adr):Sp:=fun vs H Q _=>∃(W g s T P E a1 C:Addr) (zr:List VR) (ps:List V) (pl:List (Str×Str)) (ev S:List Str) (cs:List Int),vs=[.ref W,.ref C]∧H W=some (.lst [.ref g,.ref s,.ref a1])∧a4U t H g (zr.map (·.2)) pl∧a1h t H s T P E zr ps pl ev∧H a1=some (.lst (S.map V.str))∧S.length≤100∧H C=some (.lst (cs.map V.int))∧cs.length≤1000∧
 ∀D R H',a0h H H'→H D=none→b6V H' D ev R→a1B (zr.map (·.2)) pl S [] R=true→R.Nodup→(R≠[]→isS (zr.map (·.2)) S=true)→Q (.ref D) H'
def a5T (t:Adr):Sp:=fun vs H Q _=>∃(s T P E a1 D:Addr) (zr:List VR) (ps:List V) (pl:List (Str×Str)) (ev S:List Str) (R:List (Bool×Str)),vs=[.ref s,.ref a1,.ref D]∧a1h t H s T P E zr ps pl ev∧H a1=some (.lst (S.map V.str))∧b6V H D ev R∧R.length≤60∧a1B (zr.map (·.2)) pl S [] R=true∧∀H',a0h H H'→Q (.bl true) H'
theorem b6g {H:Hp} {ev:List Str}:∀{ys:List V},(∀(i:Nat) v,ys[i]?=some v→∃(x:Addr) (c:Bool×Str),v=.ref x∧H x=some (.tup [.str (clW c.1),.str c.2])∧c.2∈ev)→∃cl:List (Bool×Str),a0l H ys (cl.map cw)∧∀c∈cl,c.2∈ev
 | [],_=>⟨[],⟨[],rfl,rfl,fun i a p e=>(by cases e)⟩,fun c hc=>(by cases hc)⟩
 | y::ys,h=>by
  obtain ⟨cl,⟨as,e,hl,hat⟩,hc⟩:=b6g (ys:=ys) fun i v e=>h (i+1) v e
  obtain ⟨x,c,ey,hx,he⟩:=h 0 y rfl
  refine ⟨c::cl,⟨x::as,by rw [ey,e];rfl,by rw [Xm,Qj,Qj,hl],fun i a p e1 e2=>?_⟩,fun d hd=>?_⟩
  ·cases i with
   | zero=>cases e1;cases e2;exact hx
   | succ i=>exact hat i a p e1 e2
  ·rcases Qx.mp hd with z | z
   ·rw [z];exact he
   ·exact hc d z
theorem a3A {H:Hp} {xs ys:List V} {a b:List (Str×Str)} (h:a0l H xs a) (k:a0l H ys b):a0l H (xs++ys) (a++b):=by
 obtain ⟨as,rfl,hl,hat⟩:=h
 obtain ⟨bs,rfl,kl,kat⟩:=k
 refine ⟨as++bs,by rw [Xo],by rw [Xa,Xa,hl,kl],fun i x p e1 e2=>?_⟩
 by_cases hi:i < as.length
 ·rw [Xy hi] at e1
  rw [Xy ‹om›] at e2
  exact hat i x p e1 e2
 ·rw [Xw ‹om›] at e1
  rw [Xw ‹om›,←hl] at e2
  exact kat _ x p e1 e2
theorem a4Z {a b:Bool} (h:clW a=clW b):a=b:=by
 cases a<;>cases b<;>first | rfl | exact absurd h ‹dk›
theorem b0p {R:List (Bool×Str)} {c:Bool×Str}:cw c∈R.map cw↔c∈R:=by
 constructor
 ·intro h
  obtain ⟨d,hd,e⟩:=Qn.mp h
  have e1:clW d.1=clW c.1:=congrArg (fun z:Str×Str=>z.1) e
  have e2:d.2=c.2:=congrArg (fun z:Str×Str=>z.2) e
  rw [←Prod.ext (a4Z e1) e2];exact hd
 ·exact fun h=>Qn.mpr ⟨c,h,rfl⟩
theorem b5i {R:List (Bool×Str)} {ev:List Str} (h:R.Nodup) (he:∀c∈R,c.2∈ev):R.length≤2 * ev.length:=by
 have:=a1Z (m:=ev.map (fun q=>(true,q))++ev.map (fun q=>(false,q))) h (fun c hc=>by
  obtain ⟨b,q⟩:=c
  cases b
  ·exact Xu _ (Qn.mpr ⟨q,he _ hc,rfl⟩)
  ·exact Yz _ (Qn.mpr ⟨q,he _ hc,rfl⟩))
 rw [Xa,Qc,Qc] at this
 omega
theorem a5D (b:Bool):Xk (clW b)=true:=by cases b<;>decide+kernel
structure WrI (H H':Hp) (D:Addr) (rs:List Rw) (pl:List (Str×Str)) (S ev:List Str) (R:List (Bool×Str)) (qs:List V):Prop where
 s:a0h H H'
 d:H' D=some (.lst qs)
 p:a0l H' qs (R.map cw)
 e:∀c∈R,c.2∈ev
 l:a1B rs pl S [] R=true
 n:R.Nodup
 i:R≠[]→isS rs S=true
theorem WrI.same {H H' H2:Hp} {D:Addr} {rs:List Rw} {pl:List (Str×Str)} {S ev:List Str} {R:List (Bool×Str)} {qs:List V} (h:WrI H H' D rs pl S ev R qs) (s:a0h H' H2):WrI H H2 D rs pl S ev R qs:=⟨h.s.trans s,s _ _ h.d,a0l.same s h.p,h.e,h.l,h.n,h.i⟩
theorem b2h (zs:List Str):Yw (.list (zs.map Uc)) (.list [])=decide (zs=[]):=by
 cases zs with
 | nil=>rfl
 | cons z zs=>rfl
theorem a8N {K:Qd} {H:Hp} {Q:VK} {a b:Addr} {zs:List Str} (ha:SqL K H a (zs.map V.str)) (hb:SqL K H b []) (ho:∀z∈zs,Xk z=true) (q:Q (.bl (!decide (zs=[]))) H):b6m K (.ref a) (.ref b) H Q:=
 .inr ⟨_,_,.lst ha (a6T zs),.lst hb .nil,b2a ho,by decide,by rw [b2h];exact q⟩
theorem a8d (ns:List Int) (lo hi:Option Int):∃cs:List Int,a2x (ns.map V.int) lo hi=cs.map V.int∧cs.length≤ns.length:=by
 unfold a2x
 refine ⟨(ns.drop (HT.sIx (ns.map V.int).length 0 lo)).take (HT.sIx (ns.map V.int).length (ns.map V.int).length hi - HT.sIx (ns.map V.int).length 0 lo),by rw [Yn,List.map_drop],?_⟩
 rw [Xp,Jf]
 omega
theorem b5x {ys:List V} (h:∀(i:Nat) (v:V),ys[i]?=some v→∃n,v=V.int n):∃zs:List Int,ys=zs.map V.int:=by
 induction ys with
 | nil=>exact ⟨[],rfl⟩
 | cons y ys ih=>
  obtain ⟨zs,e⟩:=ih fun i v e=>h (i+1) v e
  obtain ⟨z,ez⟩:=h 0 y rfl
  exact ⟨z::zs,by rw [e,ez];rfl⟩
theorem b0A {α β:Type} (f:α→β):∀(l:List α) (j:Nat),(l.map f).eraseIdx j=(l.eraseIdx j).map f
 | [],_=>rfl
 | _::_,0=>rfl
 | x::l,j+1=>congrArg (f x::·) (b0A f l j)
def b1l (K:Qd):Sp:=fun vs H Q _=>∃(a:Addr) (ns:List Int),vs=[.ref a]∧SqL K H a (ns.map V.int)∧ns.length≤63∧∀H',Q (.bl true) H'
theorem a8Y {K:Qd} {H:Hp} {a:Addr} {ns:List Int} (hl:ns.length≤63) (_:b4b H) (hS:SqL K H a (ns.map V.int)):b1l K [.ref a] H (fun v _=>v=.bl true) fun _ _ _=>False:=⟨a,ns,rfl,hS,hl,fun _=>rfl⟩
end K54
namespace K54
open PySem L2 Tx
local macro_rules
 | `(‹$n:num›)=>`(@pv _ $n _ _ (by rfl) (by first | exact c0I rfl | exact c1I rfl | exact c0Q rfl) ‹dc› ‹dc›)
local macro_rules | `(tactic| trivial)=>`(tactic| first | exact Or.inl rfl | exact Or.inr rfl | assumption)
set_option hygiene false
local macro_rules
 | `(‹($x)›)=>`(‹$x›)
 | `(‹A0 $a $b›)=>`(@b2b _ _ _ _ _ ‹$a› ‹$b› (by rfl))
 | `(‹A1›)=>`(@b2M _)
 | `(‹A2›)=>`(@b4K _ _ _ _)
 | `(‹A3 $a›)=>`(@b1h _ _ _ ‹$a›)
 | `(‹A4 $a $b›)=>`(@a9K _ _ _ _ _ ‹$a› ‹$b›)
 | `(‹A5 $a›)=>`(@b6h _ _ _ _ ‹$a›)
 | `(‹A6 $a $b $c›)=>`(@b6F _ _ _ _ _ _ _ _ $a ‹$b› ‹$c›)
 | `(‹A7 $a $b $c $d $e›)=>`(@b1O _ _ _ _ _ _ _ _ _ _ _ _ _ _ _ _ $a (hr.mono ‹dc›) rfl $b $c $d .nil a8M ‹$e› ‹dc› (by rfl) (by rfl))
 | `(‹A8 $a $b $c›)=>`(@b6Y _ _ _ _ _ _ _ $a ‹$b› ‹$c› (fun _ _=>rfl))
 | `(‹A9 $a $b $c›)=>`(@b3n _ _ $a _ _ _ _ $b rfl (by trivial) ‹$c› (by rfl) (by trivial))
 | `(‹B0 $a $b›)=>`(@b1X _ _ $a _ $b rfl (by trivial) (by trivial))
 | `(‹B1 $a $b $c $d›)=>`(@b2p _ _ _ _ _ _ _ _ $a ‹$b› ‹$c› $d)
 | `(‹B2 $a $b $c›)=>`(@b6u _ _ _ _ _ _ _ _ ‹$a› ‹$b› ‹$c›)
 | `(‹B3›)=>`(@b6i _ _ _ _)
 | `(‹B4›)=>`(@b0Z _)
 | `(‹B5›)=>`(@b6Q _ _ _ _)
 | `(‹B6 $a›)=>`(@b2e _ _ _ _ ‹$a›)
 | `(‹B7 $a›)=>`(@b4C _ _ _ _ ‹$a›)
 | `(‹B8 $a $b $c $d›)=>`(@a9l _ _ _ _ _ _ _ _ _ $a rfl $b $c ‹$d› ‹dc› ‹dc› (by rfl) (by rfl))
 | `(‹B9 $a›)=>`(@b3F _ _ _ ‹$a› (by intro _;rfl))
 | `(‹C0 $a $b $c $d›)=>`(@a8S _ $a $b $c $d _ rfl rfl ‹dk›)
 | `(‹C1 $a›)=>`(@b0U _ _ _ _ _ ‹$a› rfl)
 | `(‹C2 $a $b $c›)=>`(@b2Q _ _ _ _ _ _ _ _ PassesOwn.never rfl ‹$a› ‹$b› ‹$c› (by intro _;rfl))
 | `(‹C3 $a $b $c $d $e›)=>`(@a9d _ _ _ _ _ _ _ _ _ _ _ _ _ _ _ _ _ ‹$a› $b $c $d (hr.mono ‹dc›) $e .nil a8M (by rfl))
 | `(‹C4 $a $b $c $d $e $f›)=>`(@b6L _ _ _ _ _ _ _ _ _ _ _ _ $a $b $c $d ‹$e› ‹$f› (by rfl) (by rfl) (by rfl) (by rfl) (by rfl))
 | `(‹C5 $a›)=>`(@b1H _ _ _ ‹$a›)
 | `(‹C6 $a›)=>`(@b1e _ _ _ _ ‹$a› (by rfl))
 | `(‹C7 $a›)=>`(@PW.pt _ _ _ ‹$a›)
 | `(‹C8 $a $b›)=>`(@b5P _ _ _ _ ‹$a› ‹$b›)
 | `(‹C9 $a $b $c $d›)=>`(@a9S _ _ _ _ _ _ _ _ _ _ $a ‹$b› ‹$c› ‹$d›)
 | `(‹D0 $a›)=>`(@b5Y _ _ _ _ _ ‹$a›)
 | `(‹D1 $a $b $c $d $e›)=>`(@b1L _ _ _ _ _ _ _ _ _ _ _ _ _ ‹$a› rfl ‹$b› (fun _ _ _ _ _=>‹$c›) (fun _ _ _ _ _=>‹$d›) (fun _ _ _ _ _=>‹$e›) (by intro _;rfl))
 | `(‹D2›)=>`(@b2l _)
 | `(‹D3 $a $b $c $d›)=>`(@a6P _ _ _ _ _ _ _ _ _ $a rfl $b $c ‹$d› ‹dc› ‹dc› (by rfl) (by rfl))
 | `(‹D4 $a›)=>`(@b1F _ _ _ ‹$a›)
 | `(‹D5 $a $b›)=>`(@b4d _ _ _ _ _ _ _ ‹$a› ‹$b›)
 | `(‹D6›)=>`(@b1C _)
 | `(‹D7 $a›)=>`(@b1p _ _ _ _ ‹$a›)
 | `(‹D8 $a›)=>`(@b3t _ _ _ _ ‹$a›)
 | `(‹D9 $a $b $c $d $e $f $g›)=>`(@a6n _ _ _ _ _ _ _ _ _ _ _ _ _ $a _ _ _ ‹$b› rfl ‹$c› (fun _ _ _ _ _=>‹$d›) (fun _ _ _ _ _=>‹$e›) (fun _ _ _ _ _=>‹$f›) $g rfl (by trivial) rfl (by intro _;rfl) (by trivial))
 | `(‹E0 $a›)=>`(@b1G _ (K) _ _ _ _ rfl ‹$a› rfl)
 | `(‹E1 $a $b›)=>`(@b0W _ _ _ _ _ ‹$a› ‹$b›)
 | `(‹E2 $a $b $c $d $e›)=>`(@b1m _ _ _ _ _ _ _ _ _ _ _ _ _ _ _ _ _ _ _ _ ‹$a› T.cl_Ground $b $c (hr.mono ‹dc›) $d .nil a8M ‹$e› (by rfl) (by rfl) (by rfl))
 | `(‹E3 $a›)=>`(@a7g _ _ _ _ _ _ rfl T.z_range ‹$a› (by rfl))
 | `(‹E4 $a $b›)=>`(@a9h _ _ _ _ _ ‹$a› ‹$b› (by rfl))
 | `(‹E5 $a $b›)=>`(@b3H _ _ _ _ _ _ _ _ ‹$a› ‹$b› rfl)
 | `(‹E6 $a›)=>`(@b4k _ _ _ _ ‹$a›)
 | `(‹E7 $a $b›)=>`(@b6z _ _ _ _ _ _ _ ‹$a› ‹$b›)
 | `(‹E8 $a›)=>`(@b2Y _ _ _ _ ‹$a›)
 | `(‹E9 $a $b $c›)=>`(@b1U _ _ $a _ _ rfl $b $c ‹dc›)
 | `(‹F0 $a $b $c $d $e›)=>`(@b1A _ _ _ _ _ _ _ _ _ _ _ _ _ _ _ _ _ $a $b (hr.mono ‹dc›) rfl $c $d .nil a8M ‹$e› ‹dc› (by rfl) (by rfl))
 | `(‹F1 $a›)=>`(@b2U _ _ _ _ _ _ $a (by with_unfolding_all rfl))
 | `(‹F2 $a $b $c $d›)=>`(@b1f _ _ _ _ _ _ _ _ $a ‹$b› ‹$c› $d)
 | `(‹F3 $a›)=>`(@b3l _ _ _ _ _ _ $a (by with_unfolding_all rfl))
 | `(‹F4 $a $b›)=>`(@b4e _ _ _ _ ‹$a› ‹$b›)
 | `(‹F5›)=>`(@a9A _ _)
 | `(‹F6 $a $b $c›)=>`(@b0Y _ _ _ _ _ _ _ _ _ (a2U hr) ‹$a› ‹$b› ‹$c› rfl)
 | `(‹F7 $a $b›)=>`(@b4G _ _ _ _ _ _ ‹$a› ‹$b› (by rfl) (by rfl) (by rfl))
 | `(‹F8›)=>`(@b1v _)
 | `(‹F9 $a›)=>`(@b6y _ _ _ _ _ _ b5v ‹$a›)
 | `(‹G0 $a $b›)=>`(@a8X _ _ _ _ _ _ PassesOwn.never ‹$a› ‹$b›)
 | `(‹G1 $a›)=>`(@b3v _ _ _ _ _ ‹$a›)
 | `(‹G2 $a $b $c $d›)=>`(@a9N _ _ _ _ _ _ _ _ _ ‹$a› ‹$b› ‹$c› $d)
 | `(‹G3›)=>`(@a9X _ _)
 | `(‹G4 $a $b›)=>`(@b0m _ _ _ _ _ _ $a ‹$b› (by rfl) (by rfl))
 | `(‹G5›)=>`(@a5q _ _)
 | `(‹G6 $a $b $c›)=>`(@a6Y _ _ _ _ _ _ _ $a $b ‹$c› (by rfl) (by rfl))
 | `(‹G7 $a $b $c›)=>`(@b3i _ _ _ _ _ _ _ ‹$a› ‹$b› $c (by intro _;rfl))
 | `(‹G8 $a $b $c $d $e $f $g $h›)=>`(@a9e _ _ _ _ _ _ _ _ _ _ _ _ _ _ _ _ _ _ _ _ ‹$a› $b $c $d $e $f $g ‹$h› (by rfl) (by rfl) (by rfl))
 | `(‹G9 $a $b $c $d $e $f›)=>`(@a6k _ _ _ _ _ _ _ $a $b $c $d $e ‹$f› (by rfl) (by rfl))
 | `(‹H0 $a $b $c $d $e›)=>`(@a9j _ _ _ _ _ _ _ _ _ $a ‹$b› ‹$c› ‹$d› $e)
 | `(‹H1 $a $b $c›)=>`(@a9g _ _ _ _ _ _ _ _ ‹$a› ‹$b› ‹$c›)
 | `(‹H2 $a $b›)=>`(@b6t _ _ _ _ _ _ _ ‹$a› ‹$b›)
 | `(‹H3 $a $b›)=>`(@b3Z _ _ _ _ _ _ _ ‹$a› ‹$b›)
 | `(‹H4 $a›)=>`(@b4p _ _ _ _ ‹$a›)
 | `(‹H5 $a $b $c›)=>`(@b1D _ _ _ _ _ _ _ _ $a $b ‹$c› (by rfl))
 | `(‹H6 $a $b $c $d $e›)=>`(@b2w _ $a _ _ _ _ $b $c $d ‹$e› (by rfl) (by rfl))
 | `(‹H7 $a $b›)=>`(@b5f _ _ _ _ _ _ $a ‹$b› (by rfl) (by rfl))

section
variable {P:Program} {w:World} {K:Qd} {mg:Str→Option Value} {base:Heap} {t:Adr}
theorem b6a (T:Txt K mg t):a0S P w K mg base CX0 1 t.f_z0h t.fd_z0h ["self","rules","pairs"] (b6O t):=by
 refine T.F_z0h.ok a8e (fun vs H Q E h=>?_) (fun cdv A outer s H vs Q E hr h=>?_)
 ·obtain ⟨x,dx,b,pb,xs,rs,ps,pl,rfl,hx,hb,hA,hO,hrl,hpb,hPr,hpll,q⟩:=h;rfl
 ·obtain ⟨x,dx,b,pb,xs,rs,ps,pl,rfl,hx,hb,hA,hO,hrl,hpb,hPr,hpll,q⟩:=h
  refine ⟨_,‹A4 (E5 0 (D3 a3q T.z_tuple a3f (A0 1 A1))) (A4 (E5 0 F5) (A4 (C2 (E6 (C1 0)) (B0 3 a8e.nd) (A3 (C6 (C4 Qz Xe Xf a0B (G2 (C1 0) (C1 3) (B7 A1) ⟨rfl,rfl,rfl,rfl⟩) (A0 3 A1))))) (A4 (E5 0 G3) (A3 (C2 (B6 2) (B0 4 a8e.nd) (A3 (F6 (C1 0) (D0 (A0 (A8 a0k 4 A2) (A0 (A8 a0k 4 A2) A1))) B5)))))))›,?_⟩
  rw [show a0q b5L [V.ref x,V.ref b,V.ref pb]=[some (V.ref x),some (V.ref b),some (V.ref pb),none,none] from rfl]
  have hxl:=hA.len
  simp only [a1y,b6o,tCB,a0i,a0o,Qb,Qa,a0y,a5x,a0A,b1i,a2Y,a0b]
  refine ⟨b,xs,rfl,.inl ⟨SqL.of hb,fun io hio=>?_⟩⟩
  obtain ⟨H1,e1,s1,h1⟩:=a0J hio (.tup xs);rw [e1]
  have hiox:io≠x:=fun z=>by rw [z,hx] at hio;cases hio
  refine ⟨x,t.C_Ground,dx,_,rfl,s1 _ _ hx,T.cl_Ground,T.nf_Ground_in_order,by show 0 < 1000;decide,?_⟩
  obtain ⟨H2,e2,k2,h2x,h2io⟩:∃H',upd H1 x (.ins t.C_Ground dx (a1q "in_order" (.ref io) []))=H'∧(∀c o,H c=some o→c≠x→H' c=some o)∧H' x=some (.ins t.C_Ground dx (a1q "in_order" (.ref io) []))∧H' io=some (.tup xs):=⟨_,rfl,fun c o e hc=>by rw [a0d hc];exact s1 _ _ e,a0f,by rw [a0d hiox];exact h1⟩
  rw [e2]
  intro bh hbh
  obtain ⟨H3,e3,s3,h3⟩:=a0J hbh (.dK []);rw [e3]
  have hbhx:bh≠x:=fun z=>by rw [z,h2x] at hbh;cases hbh
  have hbhn:H bh=none:=by
   cases e:H bh with
   | none=>rfl
   | some o=>rw [k2 _ _ e hbhx] at hbh;cases hbh
  refine ⟨x,t.C_Ground,dx,_,rfl,s3 _ _ h2x,T.cl_Ground,T.nf_Ground_by_head,by show 1 < 1000;decide,?_⟩
  have e2f:a1q "by_head" (V.ref bh) (a1q "in_order" (V.ref io) [])=([("in_order",V.ref io),("by_head",V.ref bh)]:List (Str×V)):=by
   show (if ("in_order":Str)="by_head" then _ else _)=_
   rw [if_neg ‹dk›];rfl
  obtain ⟨H4,e4,k4,h4x,h4io,h4bh⟩:∃H',upd H3 x (.ins t.C_Ground dx (a1q "by_head" (.ref bh) (a1q "in_order" (.ref io) [])))=H'∧(∀c o,H c=some o→c≠x→H' c=some o)∧H' x=some (.ins t.C_Ground dx (a1q "by_head" (.ref bh) (a1q "in_order" (.ref io) [])))∧H' io=some (.tup xs)∧H' bh=some (.dK []):=
   ⟨_,rfl,fun c o e hc=>by rw [a0d hc];exact s3 _ _ (k2 c o e hc),a0f,by rw [a0d hiox];exact s3 _ _ h2io,by rw [a0d hbhx];exact h3⟩
  rw [e4]
  have lio:(a1q "by_head" (V.ref bh) (a1q "in_order" (V.ref io) [])).lookup ("in_order":Str)=some (V.ref io):=by rw [a0g,if_neg ‹dk›,a0g,if_pos rfl]
  have lbh:(a1q "by_head" (V.ref bh) (a1q "in_order" (V.ref io) [])).lookup ("by_head":Str)=some (V.ref bh):=by rw [a0g,if_pos rfl]
  refine ⟨x,_,dx,_,_,rfl,h4x,T.cl_Ground,T.nf_Ground_in_order,lio,?_⟩
  simp only [a1u]
  refine ⟨⟨_,SqT.of h4io⟩,?_⟩
  refine a4X (K:=K) (a:=io) (xs:=xs) (fun i σ H'=>∃(kvs:List (Key×V)) (y3:Option V),σ=[some (V.ref x),some (V.ref b),some (V.ref pb),y3,none]∧(∀c o,H c=some o→c≠x→H' c=some o)∧H' x=some (.ins t.C_Ground dx (a1q "by_head" (.ref bh) (a1q "in_order" (.ref io) [])))∧H' io=some (.tup xs)∧H' bh=some (.dK kvs)∧kvs.length≤i∧
    (∀h:Str,(a1F kvs (Sum.inr h:Key)=none∧hdF (rs.take i) h=[])∨∃L ys,a1F kvs (Sum.inr h:Key)=some (.ref L)∧H L=none∧H' L=some (.lst ys)∧ys.length≤i∧a1G t H ys (hdF (rs.take i) h))∧
    (∀(h h':Str) (L:Addr),a1F kvs (Sum.inr h:Key)=some (.ref L)→a1F kvs (Sum.inr h':Key)=some (.ref L)→h=h'))
   ⟨[],_,rfl,k4,h4x,h4io,h4bh,Qk _,fun h=>.inl ⟨rfl,rfl⟩,fun h h' L e=>by cases e⟩ (fun i σ H' _ h=>by obtain ⟨_,_,_,_,_,h,_⟩:=h;exact SqT.of h) ?_ ?_
  ·rintro i v σ H5 hi ⟨kvs,y3,rfl,k5,h5x,h5io,h5bh,hkl,hF,hinj⟩
   have hil:i < rs.length:=by rw [←hA.len];exact (Qv.mp hi).1
   obtain ⟨v',ev,p,rfl,hp⟩:=hA.get i rs[i] (Qe hil)
   rw [hi] at ev;cases ev
   have hro:=hO _ (Qq hil)
   have CF:=a3R T hro.1
   have hru:a5I t H (.ref p) rs[i]:=⟨p,rfl,hp⟩
   have esn:∀h,hdF (rs.take (i+1)) h=hdF (rs.take i) h++(if rs[i].2.2.1=h then [rs[i]] else []):=fun h=>by
    unfold hdF
    rw [Xl hil,Zw,Ze]
    by_cases z:rs[i].2.2.1=h
    ·rw [if_pos z,if_pos (decide_eq_true z)];rfl
    ·rw [if_neg z,if_neg (by simpa using z)];rfl
   generalize rs[i]=r at hp hro CF hru esn
   obtain ⟨dx',t0,hp1,hp2⟩:=hp
   have hpx:p≠x:=fun z=>by
    rw [z,hx] at hp1
    injection hp1 with hp1
    injection hp1 with _ _ h3
    have:=a0M (.str r.2.1) (.str r.2.2.1) t0
    rw [←h3] at this;cases this
   have hp5:=k5 _ _ hp1 hpx
   simp only [a0w,a2y,tBM,b0D,a2Y,a0o,Qg,Qh,Qa,Qb,a2W,a0y,a0i,a0b]
   refine ⟨x,_,dx,_,_,rfl,h5x,T.cl_Ground,T.nf_Ground_by_head,lbh,?_⟩
   simp only [a1u]
   refine ⟨b0x h5bh,p,_,dx',_,_,rfl,hp5,CF.cl,CF.nh,a0M _ _ _,by decide,fun N hN=>?_⟩
   obtain ⟨H6,e6,s6,h6⟩:=a0J hN (.lst []);rw [e6]
   have hNx:N≠x:=fun z=>by rw [z,h5x] at hN;cases hN
   have hNio:N≠io:=fun z=>by rw [z,h5io] at hN;cases hN
   have hNbh:N≠bh:=fun z=>by rw [z,h5bh] at hN;cases hN
   have hNn:H N=none:=by
    cases e:H N with
    | none=>rfl
    | some o=>rw [k5 _ _ e hNx] at hN;cases hN
   refine ⟨kvs,Sum.inr r.2.2.1,s6 _ _ h5bh,rfl,Xj (show kvs.length≤1000 by omega) ‹dc›,fun u hu=>?_,fun hu=>?_⟩
   ·rcases hF r.2.2.1 with ⟨e,_⟩ | ⟨L,ys,e,hLn,hL5,hyl,hR⟩
    ·rw [e] at hu;cases hu
    rw [e] at hu;cases hu
    have hL6:=s6 _ _ hL5
    have hLx:L≠x:=a1O hL5 h5x ‹iz›
    have hLio:L≠io:=a1O hL5 h5io ‹iz›
    have hLbh:L≠bh:=a1O hL5 h5bh ‹iz›
    try skip
    refine ⟨.inl ⟨rfl,_,SqL.of hL6⟩,L,_,_,rfl,rfl,hL6,Xj (show ys.length≤1000 by omega) ‹dc›,?_⟩
    refine ⟨kvs,_,rfl,fun c o e hc=>?_,?_,?_,?_,by omega,fun h=>?_,hinj⟩
    ·rw [a0d (a0c e hLn)];exact s6 _ _ (k5 c o e hc)
    ·rw [a0d hLx.symm];exact s6 _ _ h5x
    ·rw [a0d hLio.symm];exact s6 _ _ h5io
    ·rw [a0d hLbh.symm];exact s6 _ _ h5bh
    ·rw [esn]
     by_cases z:r.2.2.1=h
     ·subst z
      rw [if_pos rfl]
      refine .inr ⟨L,ys++[V.ref p],e,hLn,a0f,by simp;omega,?_⟩
      refine ⟨by simp [hR.len],fun j r' ej=>?_⟩
      by_cases hj:j < (hdF (rs.take i) r.2.2.1).length
      ·rw [Xy hj] at ej
       rw [Xy (by rw [hR.len];exact hj)]
       exact hR.get j r' ej
      ·rw [Xw ‹om›] at ej
       rw [Xw (by rw [hR.len];omega),hR.len]
       have hj0:=(Qv.mp ej).1
       have ej0:j - (hdF (rs.take i) r.2.2.1).length=0:=by simp at hj0;omega
       rw [ej0] at ej ⊢
       cases ej
       exact ⟨_,rfl,hru⟩
     ·rw [if_neg z,Qf]
      rcases hF h with ⟨e',g⟩ | ⟨L',ys',e',g1,g2,g3,g4⟩
      ·exact .inl ⟨e',g⟩
      ·refine .inr ⟨L',ys',e',g1,?_,by omega,g4⟩
       have:L'≠L:=fun w=>z (hinj _ _ L e (by rw [←w];exact e'))
       rw [a0d this];exact s6 _ _ g2
   ·try skip
    have hbN:bh≠N:=hNbh.symm
    refine ⟨.inl ⟨rfl,_,SqL.of (show upd H6 bh (.dK (a3h kvs (Sum.inr r.2.2.1) (V.ref N))) N=some (.lst []) by rw [a0d hNbh];exact h6)⟩,N,_,_,rfl,rfl,(by rw [a0d hNbh];exact h6),by decide,?_⟩
    have kvl:=a1g kvs (Sum.inr r.2.2.1:Key) (V.ref N)
    refine ⟨a3h kvs (Sum.inr r.2.2.1) (V.ref N),_,rfl,fun c o e hc=>?_,?_,?_,?_,by omega,fun h=>?_,fun h h' L e1 e2=>?_⟩
    ·rw [a0d (a0c e hNn),a0d (a0c e hbhn)];exact s6 _ _ (k5 c o e hc)
    ·rw [a0d hNx.symm,a0d hbhx.symm];exact s6 _ _ h5x
    ·rw [a0d hNio.symm,a0d (a1O h5io h5bh ‹iz›)];exact s6 _ _ h5io
    ·rw [a0d hbN,a0f]
    ·rw [esn,a2H]
     by_cases z:r.2.2.1=h
     ·subst z
      rw [if_pos rfl,if_pos rfl]
      rcases hF r.2.2.1 with ⟨e',g⟩ | ⟨L',ys',e',_⟩
      ·rw [g]
       refine .inr ⟨N,[V.ref p],rfl,hNn,a0f,by simp,⟨rfl,fun j r' ej=>?_⟩⟩
       cases j with
       | zero=>cases ej;exact ⟨_,rfl,hru⟩
       | succ j=>simp at ej
      ·rw [e'] at hu;cases hu
     ·rw [if_neg z,Qf,if_neg (fun w=>z (Sum.inr.inj w).symm)]
      rcases hF h with ⟨e',g⟩ | ⟨L',ys',e',g1,g2,g3,g4⟩
      ·exact .inl ⟨e',g⟩
      ·refine .inr ⟨L',ys',e',g1,?_,by omega,g4⟩
       have hLN:L'≠N:=fun w=>by rw [w,hN] at g2;cases g2
       rw [a0d hLN,a0d (a1O g2 h5bh ‹iz›)];exact s6 _ _ g2
    ·rw [a2H] at e1 e2
     by_cases z1:(Sum.inr h:Key)=Sum.inr r.2.2.1
     ·by_cases z2:(Sum.inr h':Key)=Sum.inr r.2.2.1
      ·rw [Sum.inr.inj z1,Sum.inr.inj z2]
      ·rw [if_pos z1] at e1;cases e1
       rw [if_neg z2] at e2
       rcases hF h' with ⟨e',_⟩ | ⟨L',ys',e',_,g2,_⟩
       ·rw [e'] at e2;cases e2
       ·rw [e'] at e2;cases e2;rw [hN] at g2;cases g2
     ·rw [if_neg z1] at e1
      by_cases z2:(Sum.inr h':Key)=Sum.inr r.2.2.1
      ·rw [if_pos z2] at e2;cases e2
       rcases hF h with ⟨e',_⟩ | ⟨L',ys',e',_,g2,_⟩
       ·rw [e'] at e1;cases e1
       ·rw [e'] at e1;cases e1;rw [hN] at g2;cases g2
      ·rw [if_neg z2] at e2
       exact hinj _ _ L e1 e2
  rintro σ H5 ⟨kvs,y3,rfl,k5,h5x,h5io,h5bh,hkl,hF,hinj⟩
  rw [show rs.take xs.length=rs by rw [hxl];exact Xz] at hF
  simp only [a1y,b6o,a0o,Qa,a0A,a1c,Qb,a0b,a1u]
  intro pr hpr
  obtain ⟨H6,e6,s6,h6⟩:=a0J hpr (.dT []);rw [e6]
  have hprx:pr≠x:=fun z=>by rw [z,h5x] at hpr;cases hpr
  have hprn:H pr=none:=by
   cases e:H pr with
   | none=>rfl
   | some o=>rw [k5 _ _ e hprx] at hpr;cases hpr
  refine ⟨x,t.C_Ground,dx,_,rfl,s6 _ _ h5x,T.cl_Ground,T.nf_Ground_pairs,by rw [e2f];show 2 < 1000;decide,?_⟩
  rw [show a1q "pairs" (V.ref pr) (a1q "by_head" (V.ref bh) (a1q "in_order" (V.ref io) []))=gfl io bh pr from rfl]
  obtain ⟨as,eas,hal,hat⟩:=hPr
  have hiopr:io≠pr:=fun z=>by rw [z,hpr] at h5io;cases h5io
  have hbhpr:bh≠pr:=fun z=>by rw [z,hpr] at h5bh;cases h5bh
  have base:∀H',(∀c o,upd H6 x (.ins t.C_Ground dx (gfl io bh pr)) c=some o→c≠pr→H' c=some o)→(∀c o,H c=some o→c≠x→H' c=some o)∧(∀kps,H' pr=some (.dT kps)→b6C kps pl→a4U t H' x rs pl):=fun H' kk=>by
   have k7:∀c o,H c=some o→c≠x→H' c=some o:=fun c o e hc=>kk c o (by rw [a0d hc];exact s6 _ _ (k5 c o e hc)) (a0c e hprn)
   refine ⟨k7,fun kps hk hp=>⟨dx,io,bh,pr,xs,kvs,kps,kk _ _ a0f hprx.symm,kk _ _ (by rw [a0d hiox];exact s6 _ _ h5io) hiopr,hA.refs hx k7,kk _ _ (by rw [a0d hbhx];exact s6 _ _ h5bh) hbhpr,fun h=>?_,hk,hp⟩⟩
   rcases hF h with z | ⟨L,ys,e,_,g2,_,g4⟩
   ·exact .inl z
   ·exact .inr ⟨L,ys,e,kk _ _ (by rw [a0d (a1O g2 h5x ‹iz›)];exact s6 _ _ g2) (fun z=>by rw [z,hpr] at g2;cases g2),g4.refs hx k7⟩
  have hpb7:upd H6 x (.ins t.C_Ground dx (gfl io bh pr)) pb=some (.lst ps):=by
   have hpx:=a1O hpb hx ‹iz›
   rw [a0d hpx];exact s6 _ _ (k5 _ _ hpb hpx)
  have hpr7:upd H6 x (.ins t.C_Ground dx (gfl io bh pr)) pr=some (.dT []):=by rw [a0d hprx];exact h6
  have hx7:upd H6 x (.ins t.C_Ground dx (gfl io bh pr)) x=some (.ins t.C_Ground dx (gfl io bh pr)):=a0f
  have hpbpr:pb≠pr:=a0c hpb hprn
  obtain ⟨H7,e7⟩:∃H7,upd H6 x (.ins t.C_Ground dx (gfl io bh pr))=H7:=⟨_,rfl⟩
  rw [e7] at base hpb7 hpr7 hx7 ⊢
  refine ⟨⟨_,SqL.of hpb7⟩,?_⟩
  refine a0P (K:=K) (a:=pb) (xs:=ps) (fun i σ H'=>∃(kps:List (List Key×V)) (y4:Option V),σ=[some (V.ref x),some (V.ref b),some (V.ref pb),y3,y4]∧(∀c o,H7 c=some o→c≠pr→H' c=some o)∧H' pr=some (.dT kps)∧kps.length≤i∧b6C kps (pl.take i))
   ⟨[],_,rfl,fun c o e _=>e,hpr7,Qk _,fun a b=>by rw [List.take_zero,if_neg (by simp)];rfl⟩ (fun i σ H' _ h=>by obtain ⟨_,_,_,kk,_⟩:=h;exact SqL.of (kk _ _ hpb7 hpbpr)) ?_ ?_
  ·rintro i v σ H8 hi ⟨kps,y4,rfl,kk,h8,hkl8,hpo⟩
   have hil:i < as.length:=by
    have:=(Qv.mp hi).1
    rw [eas,Qc] at this;exact this
   have hil':i < pl.length:=by omega
   have ev:v=V.ref as[i]:=by
    rw [eas,Qy,Qe hil] at hi
    exact (Option.some.inj hi).symm
   subst ev
   have hp:=hat i _ _ (Qe hil) (Qe hil')
   have hp8:=(base H8 kk).1 _ _ hp (a1O hp hx ‹iz›)
   have hx8:=kk _ _ hx7 hprx.symm
   rw [Xl hil']
   generalize pl[i]=pp at hp hp8
   generalize pl.take i=pt at hpo
   simp only [a0w,a9L,tC,a2Y,a0o,Qg,Qh,Qa,a5a,a0i,tOp,Qb,a0y,a0b]
   refine ⟨x,_,dx,_,_,rfl,hx8,T.cl_Ground,T.nf_Ground_pairs,b0v _ _ _,?_⟩
   refine a0Z (SqT.of hp8) rfl (a0Z (SqT.of hp8) rfl ⟨by simp only [Qj,Qr];decide,fun c hc=>?_⟩)
   obtain ⟨H9,e9,s9,h9⟩:=a0J hc (.tup [V.str pp.1,V.str pp.2]);rw [e9]
   refine ⟨pr,_,rfl,a8W.t (k:=[Sum.inr pp.1,Sum.inr pp.2]) (s9 _ _ h8) h9 (Xj (show kps.length≤1000 by omega) ‹dc›),a3h kps [Sum.inr pp.1,Sum.inr pp.2] (V.bl true),_,rfl,?_,a0f,by have:=a1g kps ([Sum.inr pp.1,Sum.inr pp.2]:List Key) (V.bl true);omega,fun a b=>?_⟩
   ·intro d o e hd;rw [a0d hd];exact s9 _ _ (kk d o e hd)
   ·rw [a2H,hpo]
    by_cases z:(a,b)=pp
    ·rw [if_pos (by rw [←z]),if_pos (by rw [←z];simp)]
    ·rw [if_neg (fun w=>z (by
      have w1:=congrArg (fun l:List Key=>l.head?) w
      have w2:=congrArg (fun l:List Key=>l.getLast?) w
      simp at w1 w2
      exact Prod.ext w1 w2))]
     by_cases y:(a,b)∈pt
     ·rw [if_pos y,if_pos (Yz _ y)]
     ·rw [if_neg y,if_neg (by simp [y,z])]
  ·rintro σ H8 ⟨kps,y4,rfl,kk,h8,hkl8,hpo⟩
   rw [show pl.take ps.length=pl by rw [eas,Qc,hal,Xz]] at hpo
   simp only []
   obtain ⟨b1,b2⟩:=base H8 kk
   exact q _ b1 (b2 kps h8 hpo)
theorem a2V (T:Txt K mg t):a0S P w K mg base CX0 1 t.f_z11 t.fd_z11 ["_law_script","_law_k"] (b4j K):=by
 refine T.F_z11.ok b5B (fun vs H Q E h=>?_) (fun cdv A outer s H vs Q E hr h=>?_)
 ·obtain ⟨a,ns,k,rfl,hS,hl,k0,k1,q⟩:=h;rfl
 ·obtain ⟨a,ns,k,rfl,hS,hl,k0,k1,q⟩:=h
  refine ⟨_,‹A4 (B2 (B1 a3m 1 (B8 a0s T.z_len a0u (A0 0 A1)) (a0v _)) (A3 (A5 (A8 a0k 0 1))) B4) (A3 (A5 A2))›,?_⟩
  rw [show a0q b6j [V.ref a,V.int k]=[some (V.ref a),some (V.int k)] from rfl]
  simp only [a1y,a1J,a0I,tOp,a0o,Qb,Qa,tCB,a0i,a0y,a0K,a0b,a0L,tC]
  refine a0t hS ?_
  simp only [a1R,a1p,decide_eq_true_eq]
  refine a1d (fun c=>?_) (fun c=>q 0)
  obtain ⟨v,e,hv,_⟩:=a2e (xs:=ns.map V.int) (i:=k) k0 (by simpa using c)
  obtain ⟨i,_,rfl⟩:=Qn.mp hv
  exact a0n hS e (q i)
theorem a4Q (T:Txt K mg t):a0S P w K mg base CX0 1 t.f_z12 t.fd_z12 ["_law_text"] a6N:=by
 refine T.F_z12.ok b2G (fun vs H Q E h=>?_) (fun cdv A outer s H vs Q E hr h=>?_)
 ·obtain ⟨n,z,rfl,hz,hn,q⟩:=h;rfl
 ·obtain ⟨n,z,rfl,hz,hn,q⟩:=h
  refine ⟨_,‹A4 (B2 (B1 (a1n hr.units) (A8 a0k 0 A2) B3 (a0v _)) (A3 (A5 (C9 a1o 0 (C5 A2) D2))) B4) (A3 (A5 (A6 a0m B3 0)))›,?_⟩
  rw [show a0q b3f [V.str z]=[some (V.str z)] from rfl]
  have hlen:=hz.len
  obtain ⟨c,r,rfl,h1,h2⟩:=hz
  rw [b5r] at q
  simp only [a1y,a1J,a0I,tOp,a0o,Qa,tC,a0K,tSl,a2o,a1w,a2B,a0b,a5z,a0L,a1C,a5d,a1a,a1p,decide_eq_true_eq]
  refine ⟨a2l ‹om›,c,a3a c r,a1d (fun e=>?_) (fun e=>?_)⟩
  ·rw [if_pos (by
    rw [show (Xs "-")=mk [45] by decide+kernel] at e
    have:=congrArg (fun z:Str=>z.cps.toList) e
    exact (List.cons.inj this).1)] at q
   exact ⟨a2l ‹om›,q⟩
  ·rw [if_neg (fun z=>e (by rw [z,show (Xs "-")=mk [45] by decide+kernel]))] at q
   exact ⟨Qi (Jt (show (Xs "-").length≤1 by decide+kernel) hlen) (Qi (show 1+n≤1000 by omega) ‹dc›),q⟩
theorem b0R (T:Txt K mg t):a0S P w K mg base CX0 2 t.f_z14 t.fd_z14 ["_law_scene_here","_law_text"] (b6B t):=by
 refine T.F_z14.ok b3o (fun vs H Q E h=>?_) (fun cdv A outer s H vs Q E hr h=>?_)
 ·obtain ⟨s,T0,P0,E,zr,ps,pl,ev,q0,rfl,hs,hq,q⟩:=h;rfl
 ·obtain ⟨s,T0,P0,E,zr,ps,pl,ev,q0,rfl,hs,hq,q⟩:=h
  refine ⟨_,‹A3 (A5 (D1 (C0 (a0a a6x) b1E ["_law_rule_here","_law_text"] [none,some 1]) (B6 (A8 a0k 0 A2)) (B0 0 (show Xq (["_law_rule_here","_law_text"]:List Str) by decide+kernel)) (D4 (B1 (a4J hr.units (K:=K) rfl) (E0 0) (A7 (a4Q T) T.g_z12 T.F_z12.kp T.b_z12 (A0 1 A1)) (a0v _))) 0))›,?_⟩
  rw [show a0q b1E [V.ref s,V.str q0]=[some (V.ref s),some (V.str q0)] from rfl]
  simp only [a0K,a0r,a1c,tOp,a0o,Qa,tC,a0b]
  refine a0n (SqL.of hs.s) rfl ⟨T0,rfl,⟨_,SqL.of hs.r.1⟩,?_⟩
  refine a1b zr hs.r.1 (by have:=hs.r.2.2.1;omega) hs.r.2.1 [some (V.str q0)] rfl (fun r=>decide (r.2.2.1=a1T q0)) (fun p=>p.1) (fun x r H' R ho hr' s' hR=>?_) (fun x r H' R ho hr' s' hR=>?_) (fun D H' hD s' hD'=>?_)
  ·have CF:=a3R T ho.1
   obtain ⟨dx,t0,g1,g2⟩:=id hr'
   simp only [a0I,tOp,a2Y,a0o,Qa,a0z,a0i,Qb,a0y,Qf,a0b]
   refine ⟨x,_,dx,_,_,rfl,g1,CF.cl,CF.nh,a0M _ _ _,31,q0,rfl,hq,by decide,?_⟩
   simp only [a1a,a1p]
   exact hR _ (a0h.refl _)
  ·simp only [a0o,Qa,a0b]
   exact hR _ (a0h.refl _)
  have hf:∀p∈zr.filter (fun p=>decide (p.2.2.2.1=a1T q0)),p∈zr:=fun p hp=>(Xi.mp hp).1
  refine q D _ H' s' hD' (fun p hp=>(hs.r.2.1.same s') p (hf p hp)) (Qi (Qw _ _) hs.r.2.2.1) ?_
  unfold hdF
  rw [Yh];rfl
theorem b0Q (T:Txt K mg t):a0S P w K mg base CX0 1 t.f_z1d t.fd_z1d ["_law_scene_here","_law_rule_here","_law_others"] (b6s t):=by
 refine T.F_z1d.ok b0M (fun vs H Q E h=>?_) (fun cdv A outer s H vs Q E hr h=>?_)
 ·obtain ⟨s,T0,P0,E,x,L,zr,ps,pl,ev,r,zo,rfl,hs,hru,ho,hL,hz,hzl,q⟩:=h;rfl
 ·obtain ⟨s,T0,P0,E,x,L,zr,ps,pl,ev,r,zo,rfl,hs,hru,ho,hL,hz,hzl,q⟩:=h
  refine ⟨_,‹A4 (C2 (B6 2) (B0 3 b0M.nd) (A3 (B2 (B1 (b4h hr.units) (D0 (A0 (C1 3) (A0 (C1 1) A1))) (A8 a0k 0 A2) (by with_unfolding_all rfl)) (A3 (A5 B5)) B4))) (A3 (A5 B5))›,?_⟩
  rw [show a0q b5w [V.ref s,V.ref x,V.ref L]=[some (V.ref s),some (V.ref x),some (V.ref L),none] from rfl]
  obtain ⟨x',ex,dx,t0,g1,g2⟩:=hru
  cases ex
  have CF:=a3R T ho.1
  simp only [a1y,a0A,a1c,a0o,Qb,Qa,a0b,a1u]
  refine ⟨⟨_,SqL.of hL⟩,?_⟩
  refine a0P (K:=K) (a:=L) (xs:=zo.map (·.1)) (fun i σ H'=>a0h H H'∧(∀b∈zo.take i,(b.2.2.1,r.2.1)∉pl)∧∃y,σ=[some (V.ref s),some (V.ref x),some (V.ref L),y]) ⟨a0h.refl _,by simp,_,rfl⟩ (fun i σ H' _ h=>SqL.of (h.1 _ _ hL)) ?_ ?_
  ·rintro i v σ H' hi ⟨s',hU,y,rfl⟩
   obtain ⟨hi',ev⟩:=a1P hi
   obtain ⟨⟨x2,ex2,dx2,t2,f1,f2⟩,ho2⟩:=hz _ (Qq hi')
   rw [ex2] at ev
   subst ev
   have CF2:=a3R T ho2.1
   simp only [a0w,a1J,a0I,tOp,a5a,a0i,a2Y,a0o,Qg,Qh,Qb,Qa,a0y,tC,a0K,a0L,a0b]
   refine ⟨x2,_,dx2,_,_,rfl,s' _ _ f1,CF2.cl,CF2.nl,a0X _ _ _,x,_,dx,_,_,rfl,s' _ _ g1,CF.cl,CF.nl,a0X _ _ _,(show 2≤sizeLine by decide),fun Z hZ=>?_⟩
   obtain ⟨H1,e1,s1,h1⟩:=a0J hZ (.tup [V.str zo[i].2.2.1,V.str r.2.1]);rw [e1]
   have s01:=s'.trans s1
   refine a0n (SqL.of (s01 _ _ hs.s)) rfl ⟨Z,P0,_,_,_,_,rfl,rfl,h1,SqL.of (s01 _ _ hs.p),a0l.same s01 hs.prs,⟨ho2.2.2.1.1,ho.2.2.1.1⟩,hs.po,?_⟩
   refine ⟨_,rfl,a1d (fun c=>?_) (fun c=>⟨s01,fun b hb=>?_,_,rfl⟩)⟩
   ·have:=q _ s01
    rwa [show btn pl (zo.map (·.2)) r=true from ?_] at this
    unfold btn
    exact Xv.mpr ⟨_,Qn.mpr ⟨_,Qq hi',rfl⟩,c⟩
   ·rcases (a1s hi' b).mp hb with z | z
    ·exact hU _ z
    ·rw [z];exact fun w=>c (decide_eq_true w)
  ·rintro σ H' ⟨s',hU,y,rfl⟩
   rw [Qc,Xz] at hU
   simp only [a0K,tC]
   have:=q _ s'
   rwa [show btn pl (zo.map (·.2)) r=false from ?_] at this
   refine Yp.mpr fun z=>?_
   unfold btn at z
   obtain ⟨w,h1,h2⟩:=Xv.mp z
   obtain ⟨b,hb,rfl⟩:=Qn.mp h1
   exact hU b hb (by simpa using h2)
theorem b0P (T:Txt K mg t):a0S P w K mg base CX0 1 t.f_z1k t.fd_z1k ["_law_rule_here","_law_refused"] (a5E t a2a):=by
 refine T.F_z1k.ok b0V (fun vs H Q E h=>?_) (fun cdv A outer s H vs Q E hr h=>?_)
 ·obtain ⟨x,a,r,U,rfl,hru,ho,ha,q⟩:=h;rfl
 ·obtain ⟨x,a,r,U,rfl,hru,ho,ha,q⟩:=h
  refine ⟨_,‹A4 (C2 (E6 (C1 0)) (B0 2 b0V.nd) (A3 (B2 (B1 a1A 2 1 (by with_unfolding_all rfl)) (A3 (A5 B5)) B4))) (A3 (A5 B5))›,?_⟩
  rw [show a0q b2N [V.ref x,V.ref a]=[some (V.ref x),some (V.ref a),none] from rfl]
  obtain ⟨x',ex,dx,t0,g1,g2⟩:=hru
  cases ex
  have CF:=a3R T ho.1
  simp only [a1y,a0A,b1i,a2Y,a0o,Qa,a0b]
  refine ⟨x,_,dx,_,_,rfl,g1,CF.cl,CF.nb,a1m _ _ _,t0,rfl,⟨_,SqT.of g2⟩,?_⟩
  refine a4X (K:=K) (a:=t0) (xs:=r.2.2.2.map V.str) (fun i σ H'=>H=H'∧(∀q∈r.2.2.2.take i,q∉U)∧∃y,σ=[some (V.ref x),some (V.ref a),y]) ⟨rfl,by simp,_,rfl⟩ (fun i σ H' _ h=>by rw [←h.1];exact SqT.of g2) ?_ ?_
  ·rintro i v σ H' hi ⟨rfl,hU,y,rfl⟩
   obtain ⟨hi',rfl⟩:=a1P hi
   simp only [a0w,a1J,a0I,tOp,a0o,Qg,Qh,Qb,Qa,a0K,tC,a0L,a0b]
   refine a1K (SqL.of ha) ?_
   simp only [a1p,decide_eq_true_eq]
   refine a1d (fun c=>?_) (fun c=>⟨by trivial,fun q hq=>?_,_,rfl⟩)
   ·have:=q _ (a0h.refl _)
    rwa [show a2a r.2.2.2 U=true from ?_] at this
    unfold a2a;exact Xv.mpr ⟨_,Qq hi',by simpa using c⟩
   ·rw [Xl hi'] at hq
    rcases Xn.mp hq with z | z
    ·exact hU _ z
    ·rw [Qt.mp z];exact c
  ·rintro σ H' ⟨rfl,hU,y,rfl⟩
   rw [Qc,Xz] at hU
   simp only [a0K,tC]
   have:=q _ (a0h.refl _)
   rwa [show a2a r.2.2.2 U=false from ?_] at this
   refine Yp.mpr fun z=>?_;unfold a2a at z;obtain ⟨w,h1,h2⟩:=Xv.mp z;exact hU w h1 (by simpa using h2)
theorem a9Y (T:Txt K mg t):a0S P w K mg base CX0 1 t.f_z0o t.fd_z0o ["self"] (a1V "block"):=by
 refine T.F_z0o.ok b5c (fun vs H Q E h=>?_) (fun cdv A outer s H vs Q E hr h=>?_)
 ·obtain ⟨x,rfl,q⟩:=h;rfl
 ·obtain ⟨x,rfl,q⟩:=h
  refine ⟨_,‹A3 (A5 B3)›,?_⟩
  rw [show a0q b4H [x]=[some (x)] from rfl]
  simp only [a0K,tC]
  exact q
theorem b0J (T:Txt K mg t):a0S P w K mg base CX0 1 t.f_z0y t.fd_z0y ["self"] (a1V "fact"):=by
 refine T.F_z0y.ok b5X (fun vs H Q E h=>?_) (fun cdv A outer s H vs Q E hr h=>?_)
 ·obtain ⟨x,rfl,q⟩:=h;rfl
 ·obtain ⟨x,rfl,q⟩:=h
  refine ⟨_,‹A3 (A5 B3)›,?_⟩
  rw [show a0q b4m [x]=[some (x)] from rfl]
  simp only [a0K,tC]
  exact q
theorem b0G (T:Txt K mg t):a0S P w K mg base CX0 1 t.f_z10 t.fd_z10 ["self"] (a1V "most"):=by
 refine T.F_z10.ok b4u (fun vs H Q E h=>?_) (fun cdv A outer s H vs Q E hr h=>?_)
 ·obtain ⟨x,rfl,q⟩:=h;rfl
 ·obtain ⟨x,rfl,q⟩:=h
  refine ⟨_,‹A3 (A5 B3)›,?_⟩
  rw [show a0q b2S [x]=[some (x)] from rfl]
  simp only [a0K,tC]
  exact q
theorem b0q (T:Txt K mg t):a0S P w K mg base CX0 1 t.f_z0z t.fd_z0z ["self"] (a1V "sure"):=by
 refine T.F_z0z.ok b5z (fun vs H Q E h=>?_) (fun cdv A outer s H vs Q E hr h=>?_)
 ·obtain ⟨x,rfl,q⟩:=h;rfl
 ·obtain ⟨x,rfl,q⟩:=h
  refine ⟨_,‹A3 (A5 B3)›,?_⟩
  rw [show a0q b3Q [x]=[some (x)] from rfl]
  simp only [a0K,tC]
  exact q
theorem b0H (T:Txt K mg t):a0S P w K mg base CX0 2 t.f_z0p t.fd_z0p ["_law_scene_here","_law_text"] (b6R t):=by
 refine T.F_z0p.ok b4D (fun vs H Q E h=>?_) (fun cdv A outer s H vs Q E hr h=>?_)
 ·obtain ⟨s,T0,P0,E,zr,ps,pl,ev,q0,rfl,hs,q⟩:=h;rfl
 ·obtain ⟨s,T0,P0,E,zr,ps,pl,ev,q0,rfl,hs,q⟩:=h
  refine ⟨_,‹A3 (A5 (D1 (C0 (a0a a5U) b1t ["_law_rule_here","_law_text"] [none,some 1]) (B6 (A8 a0k 0 A2)) (B0 0 (show Xq (["_law_rule_here","_law_text"]:List Str) by decide+kernel)) (D4 (C7 (D5 (B1 (a4J hr.units (K:=K) rfl) (E0 0) 1 (a0v _)) (D7 (B1 (b3V hr.units (K:=K) rfl) (C8 (C3 0 T.cl_Fact T.me_Fact_word (b0J T) T.b_z0y) (C8 (C3 0 T.cl_Sure T.me_Sure_word (b0q T) T.b_z0z) (C8 (C3 0 T.cl_Most T.me_Most_word (b0G T) T.b_z10) (C3 0 T.cl_Block T.me_Block_word (a9Y T) T.b_z0o)))) B3 (a0v _)))))) 0))›,?_⟩
  rw [show a0q b1t [V.ref s,V.str q0]=[some (V.ref s),some (V.str q0)] from rfl]
  simp only [a0K,a0r,a1c,tOp,a0o,Qa,tC,a0b]
  refine a0n (SqL.of hs.s) rfl ⟨T0,rfl,⟨_,SqL.of hs.r.1⟩,?_⟩
  refine a1b zr hs.r.1 (by have:=hs.r.2.2.1;omega) hs.r.2.1 [some (V.str q0)] rfl (fun r=>decide (r.2.2.1=q0) && spk r) (fun p=>p.1) (fun x r H' R ho hr' s' hR=>?_) (fun x r H' R ho hr' s' hR=>?_) (fun D H' hD s' hD'=>?_)
  ·have CF:=a3R T ho.1
   obtain ⟨dx,t0,g1,g2⟩:=id hr'
   simp only [a8l,a0I,tOp,a2Y,a0o,Qa,Qb,tC,a0b]
   refine ⟨x,_,dx,_,_,rfl,g1,CF.cl,CF.nh,a0M _ _ _,?_⟩
   simp only [a1a,a1p,decide_eq_true_eq]
   refine a1d (fun c=>?_) (fun c=>?_)
   ·refine b4Z ho.1 (a0W rfl) hr' ⟨by decide+kernel,by decide+kernel,by decide+kernel⟩ ?_
    rw [a4S ho.1]
    simp only [a4a,a3O,a1p]
    have:=hR _ (a0h.refl _)
    rwa [decide_eq_true c,Yo,show spk r=_ from (a9b ho.1).symm] at this
   ·have:=hR _ (a0h.refl _)
    rwa [decide_eq_false c,Zb] at this
  ·simp only [a0o,Qa,a0b]
   exact hR _ (a0h.refl _)
  have hf:∀p∈zr.filter (fun p=>decide (p.2.2.2.1=q0) && spk p.2),p∈zr:=fun p hp=>(Xi.mp hp).1
  refine q D _ H' s' hD' (fun p hp=>(hs.r.2.1.same s') p (hf p hp)) (Qi (Qw _ _) hs.r.2.2.1) ?_
  unfold hdF
  rw [Jw,Yh]
  congr 1
  refine List.filter_congr fun p _=>?_
  show (_ && _)=(_ && _)
  exact Bool.and_comm _ _
theorem a7Z (T:Txt K mg t):a0S P w K mg base CX0 1 t.f_z1c t.fd_z1c ["_law_rule_here","_law_held"] (a5E t a1E):=by
 refine T.F_z1c.ok b0z (fun vs H Q E h=>?_) (fun cdv A outer s H vs Q E hr h=>?_)
 ·obtain ⟨x,a,r,U,rfl,hru,ho,ha,q⟩:=h;rfl
 ·obtain ⟨x,a,r,U,rfl,hru,ho,ha,q⟩:=h
  refine ⟨_,‹A4 (C2 (E6 (C1 0)) (B0 2 b0z.nd) (A3 (B2 (B1 a4D 2 1 (by with_unfolding_all rfl)) (A3 (A5 B5)) B4))) (A3 (A5 B5))›,?_⟩
  rw [show a0q b3L [V.ref x,V.ref a]=[some (V.ref x),some (V.ref a),none] from rfl]
  obtain ⟨x',ex,dx,t0,g1,g2⟩:=hru
  cases ex
  have CF:=a3R T ho.1
  simp only [a1y,a0A,b1i,a2Y,a0o,Qa,a0b]
  refine ⟨x,_,dx,_,_,rfl,g1,CF.cl,CF.nb,a1m _ _ _,t0,rfl,⟨_,SqT.of g2⟩,?_⟩
  refine a4X (K:=K) (a:=t0) (xs:=r.2.2.2.map V.str) (fun i σ H'=>H=H'∧(∀q∈r.2.2.2.take i,q∈U)∧∃y,σ=[some (V.ref x),some (V.ref a),y]) ⟨rfl,by simp,_,rfl⟩ (fun i σ H' _ h=>by rw [←h.1];exact SqT.of g2) ?_ ?_
  ·rintro i v σ H' hi ⟨rfl,hU,y,rfl⟩
   obtain ⟨hi',rfl⟩:=a1P hi
   simp only [a0w,a1J,a0I,tOp,a0o,Qg,Qh,Qb,Qa,a0K,tC,a0L,a0b]
   refine a3y (SqL.of ha) ?_
   simp only [a1p,Xb,decide_eq_false_iff_not]
   refine a1d (fun c=>?_) (fun c=>⟨by trivial,fun q hq=>?_,_,rfl⟩)
   ·have:=q _ (a0h.refl _)
    rwa [show a1E r.2.2.2 U=false from ?_] at this
    refine Yp.mpr fun z=>c (a1j.mp z _ (Qq hi'))
   ·rw [Xl hi'] at hq
    rcases Xn.mp hq with z | z
    ·exact hU _ z
    ·rw [Qt.mp z];exact Vh c
  ·rintro σ H' ⟨rfl,hU,y,rfl⟩
   rw [Qc,Xz] at hU
   simp only [a0K,tC]
   have:=q _ (a0h.refl _)
   rwa [show a1E r.2.2.2 U=true from ?_] at this
   exact a1j.mpr hU
theorem b0l (T:Txt K mg t):a0S P w K mg base CX0 3 t.f_z0q t.fd_z0q ["_law_scene_here","_law_sures_here","_law_held","_law_refused","_law_text"] (b3I t a1e):=by
 refine T.F_z0q.ok a7K (fun vs H Q E h=>?_) (fun cdv A outer s H vs Q E hr h=>?_)
 ·obtain ⟨s,T0,P0,E,a1,a2,a3,zr,ps,pl,ev,S,U,D,q0,rfl,hs,hq,h1,h2,h3,q⟩:=h;rfl
 ·obtain ⟨s,T0,P0,E,a1,a2,a3,zr,ps,pl,ev,S,U,D,q0,rfl,hs,hq,h1,h2,h3,q⟩:=h
  refine ⟨_,‹A4 (B2 (B1 a1A 4 1 (by with_unfolding_all rfl)) (A3 (A5 B5)) B4) (A4 (D9 5 (C0 (a0a a6e) b1S ["_law_rule_here","_law_held"] [none,some 2]) (B6 (A7 (b0H T) T.g_z0p T.F_z0p.kp T.b_z0p (A0 0 (A0 4 A1)))) (B0 0 (show Xq (["_law_rule_here","_law_held"]:List Str) by decide+kernel)) (D4 (B9 (A7 (a7Z T) T.g_z1c T.F_z1c.kp T.b_z1c (A0 0 (A0 1 A1))))) 0 a7K.nd) (E1 (B2 (C7 (E7 (B1 (b0B hr.units) 5 (B7 A1) (a0v _)) (E8 (B1 a1A (A7 (a4Q T) T.g_z12 T.F_z12.kp T.b_z12 (A0 4 A1)) 1 (by with_unfolding_all rfl))))) (A3 (A5 B5)) B4) (A4 (C2 (B6 (A7 (b0R T) T.g_z14 T.F_z14.kp T.b_z14 (A0 0 (A0 4 A1)))) (B0 6 a7K.nd) (A3 (B2 (C7 (D5 (D8 (B9 (A7 (b0P T) T.g_z1k T.F_z1k.kp T.b_z1k (A0 6 (A0 3 A1))))) (D7 (D8 (B9 (A7 (b0Q T) T.g_z1d T.F_z1d.kp T.b_z1d (A0 0 (A0 6 (A0 5 A1))))))))) (A3 (A5 B5)) B4))) (A3 (A5 B5)))))›,?_⟩
  rw [show a0q b1S [V.ref s,V.ref a1,V.ref a2,V.ref a3,V.str q0]=[some (V.ref s),some (V.ref a1),some (V.ref a2),some (V.ref a3),some (V.str q0),none,none] from rfl]
  obtain ⟨rs,ers⟩:∃rs,zr.map (·.2)=rs:=⟨_,rfl⟩
  rw [ers] at q
  simp only [a1y,a1J,a0I,tOp,a0o,Qb,Qa,a0K,tC,a0L,Qg,Qh,a0r,a1c,a0z,a0i,a0y,Qf,a0b]
  refine a1K (SqL.of h1) ⟨_,rfl,a1d (fun c0=>?_) (fun c0=>?_)⟩
  ·have:=q H (a0h.refl _)
   unfold a1e at this
   rwa [if_pos (by simpa using c0)] at this
  have c0':q0∉S:=by simpa using c0
  refine ⟨s,T0,P0,E,zr,ps,pl,ev,q0,rfl,hs,fun W zs H1 s1 hW1 hz1 hzl1 ez1=>?_⟩
  refine ⟨W,rfl,⟨_,SqL.of hW1⟩,?_⟩
  refine a1b zs hW1 ‹om› hz1 [some (V.ref a2)] rfl (fun r=>a1E r.2.2.2 U) (fun p=>p.1) (fun x r H' R ho hr' s' hR=>?_) (fun x r H' R ho hr' s' hR=>?_) (fun W2 H2 hW2n s2 hW2=>?_)
  ·simp only [tB,a0z,a0i,a0o,Qa,Qb,a0y,Qf,a0b]
   refine ⟨x,a2,r,U,rfl,⟨x,rfl,hr'⟩,ho,(s1.trans s') _ _ h2,fun H'' s''=>?_⟩
   simp only [a1p]
   exact hR _ s''
  ·simp only [a0o,Qa,a0b]
   exact hR _ (a0h.refl _)
  have s02:=s1.trans s2
  have hz2:a3W t H2 (zs.filter fun p=>a1E p.2.2.2.2 U):=fun p hp=>(hz1.same s2) p (Xi.mp hp).1
  have hzl2:(zs.filter fun p=>a1E p.2.2.2.2 U).length≤30:=Qi (Qw _ _) hzl1
  have est:(zs.filter fun p=>a1E p.2.2.2.2 U).map (·.2)=a1N rs U q0:=by
   unfold a1N
   rw [←ers,←ez1,Yh];rfl
  generalize (zs.filter fun p=>a1E p.2.2.2.2 U)=zw at hW2 hz2 hzl2 est
  have hneed:∀H',a0h H H'→(a1N rs U q0=[]∨a1T q0∈S)→Q (.bl false) H':=fun H' s' hc=>by
   have:=q H' s'
   unfold a1e at this
   rwa [if_neg c0',if_pos hc] at this
  refine ⟨fun σ' H'=>σ'=[some (V.ref s),some (V.ref a1),some (V.ref a2),some (V.ref a3),some (V.str q0),some (V.ref W2),none]∧a0h H2 H'∧¬(a1N rs U q0=[]∨a1T q0∈S),?_,?_⟩
  ·simp only [a1J,tOr,a0I,tOp,a0o,Qb,Qa,a2W,a0y,a0K,tC,a0L,a0z,a0i,Qf,a0b]
   refine ⟨by decide,fun N hN=>?_⟩
   obtain ⟨H3,e3,s3,h3'⟩:=a0J hN (.lst []);rw [e3]
   refine ⟨W2,N,_,rfl,rfl,SqL.of (s3 _ _ hW2),SqL.of h3',_,rfl,a1d (fun c1=>?_) (fun c1=>?_)⟩
   ·refine hneed _ (s02.trans s3) (.inl ?_)
    have:zw.map (·.1)=[]:=by simpa using c1
    rw [←est,Zp.mp this];rfl
   refine ⟨31,q0,rfl,hq,by decide,a1K (SqL.of ((s02.trans s3) _ _ h1)) ⟨_,rfl,a1d (fun c2=>hneed _ (s02.trans s3) (.inr (by simpa using c2))) (fun c2=>⟨(by trivial),s3,fun z=>z.elim (fun w=>c1 ?_) (fun w=>c2 (by simpa using w))⟩)⟩⟩
   rw [←est] at w
   have:zw=[]:=Zp.mp w
   rw [this];rfl
  rintro σ' H3 ⟨rfl,s23,hc⟩
  have s03:=s02.trans s23
  simp only [a1y,a0A,a1c,a0z,a0i,a0o,Qa,Qb,a0y,Qf,a0b]
  refine ⟨s,T0,P0,E,zr,ps,pl,ev,q0,rfl,hs.same s03,hq,fun B zb H4 s4 hB4 hzb hbl eb=>?_⟩
  rw [ers] at eb
  have s04:=s03.trans s4
  have s24:=s23.trans s4
  refine ⟨B,rfl,⟨_,SqL.of hB4⟩,?_⟩
  refine a0P (K:=K) (a:=B) (xs:=zb.map (·.1)) (fun i σ H'=>a0h H4 H'∧(∀b∈zb.take i,a2a b.2.2.2.2 D=true∨btn pl (zw.map (·.2)) b.2=true)∧∃y,σ=[some (V.ref s),some (V.ref a1),some (V.ref a2),some (V.ref a3),some (V.str q0),some (V.ref W2),y]) ⟨a0h.refl _,(fun b hb=>by simp at hb),_,rfl⟩ (fun i σ H' _ h=>SqL.of (h.1 _ _ hB4)) ?_ ?_
  ·rintro i v σ H5 hi ⟨s5,hU,y,rfl⟩
   obtain ⟨hi',ev'⟩:=a1P hi
   obtain ⟨⟨x,ex,hx⟩,ho⟩:=hzb _ (Qq hi')
   rw [ex] at ev'
   subst ev'
   have hmem:zb[i].2∈hdF rs (a1T q0):=by rw [←eb];exact Qn.mpr ⟨_,Qq hi',rfl⟩
   have s05:=s04.trans s5
   simp only [a0w,a1J,a8l,a6L,tB,a0z,a0i,a0o,Qg,Qh,Qb,Qa,a0y,Qf,Xb,a0K,tC,a0L,a0b,a2g]
   refine ⟨x,a3,_,D,rfl,⟨x,rfl,hx.same s5⟩,ho,s05 _ _ h3,fun H6 s6=>?_⟩
   simp only [a1p]
   have s06:=s05.trans s6
   have s26:=(s24.trans s5).trans s6
   refine a1d (fun c1=>?_) (fun c1=>⟨s5.trans s6,fun b hb=>?_,_,rfl⟩)
   ·refine ⟨s,T0,P0,E,x,W2,zr,ps,pl,ev,_,zw,rfl,hs.same s06,⟨x,rfl,(hx.same s5).same s6⟩,ho,s26 _ _ hW2,hz2.same s26,hzl2,fun H7 s7=>⟨_,rfl,a1d (fun c2=>?_) (fun c2=>⟨(s5.trans s6).trans s7,fun b hb=>?_,_,rfl⟩)⟩⟩
    ·have:=q _ (s06.trans s7)
     unfold a1e at this
     rw [if_neg c0',if_neg hc,←est] at this
     rwa [show (List.all _ _)=false from ?_] at this
     refine Yp.mpr fun z=>?_
     have w:=Yu.mp z _ hmem
     rw [c1,c2] at w;cases w
    ·rcases (a1s hi' b).mp hb with z | z
     ·exact hU b z
     ·rw [z];right;simpa using c2
   ·rcases (a1s hi' b).mp hb with z | z
    ·exact hU b z
    ·rw [z];left;simpa using c1
  ·rintro σ H5 ⟨s5,hU,y,rfl⟩
   rw [Qc,Xz] at hU
   simp only [a0K,tC]
   have:=q _ (s04.trans s5)
   unfold a1e at this
   rw [if_neg c0',if_neg hc,←est,←eb] at this
   rwa [Yu.mpr fun r hr=>?_] at this
   obtain ⟨p,hp,rfl⟩:=Qn.mp hr
   rcases hU p hp with w | w
   ·rw [w];rfl
   ·rw [w];exact Bool.or_true _
theorem b0d (T:Txt K mg t):a0S P w K mg base CX0 3 t.f_z0c t.fd_z0c ["_law_scene_here","_law_sures_here","_law_held","_law_refused","_law_text"] (b3I t a3K):=by
 refine T.F_z0c.ok a8E (fun vs H Q E h=>?_) (fun cdv A outer s H vs Q E hr h=>?_)
 ·obtain ⟨s,T0,P0,E,a1,a2,a3,zr,ps,pl,ev,S,U,D,q0,rfl,hs,hq,h1,h2,h3,q⟩:=h;rfl
 ·obtain ⟨s,T0,P0,E,a1,a2,a3,zr,ps,pl,ev,S,U,D,q0,rfl,hs,hq,h1,h2,h3,q⟩:=h
  refine ⟨_,‹A4 (B2 (B1 a1A 4 1 (by with_unfolding_all rfl)) (A3 (A5 B5)) B4) (A4 (D9 5 (C0 (a0a a6D) b2s ["_law_rule_here","_law_refused"] [none,some 3]) (B6 (A7 (b0H T) T.g_z0p T.F_z0p.kp T.b_z0p (A0 0 (A0 4 A1)))) (B0 0 (show Xq (["_law_rule_here","_law_refused"]:List Str) by decide+kernel)) (D4 (D8 (B9 (A7 (b0P T) T.g_z1k T.F_z1k.kp T.b_z1k (A0 0 (A0 1 A1)))))) 0 a8E.nd) (E1 (B2 (C7 (E7 (B1 (b0B hr.units) 5 (B7 A1) (a0v _)) (E8 (B1 a1A (A7 (a4Q T) T.g_z12 T.F_z12.kp T.b_z12 (A0 4 A1)) 1 (by with_unfolding_all rfl))))) (A3 (A5 B5)) B4) (A4 (C2 (B6 (A7 (b0R T) T.g_z14 T.F_z14.kp T.b_z14 (A0 0 (A0 4 A1)))) (B0 6 a8E.nd) (A3 (B2 (C7 (D5 (B9 (A7 (a7Z T) T.g_z1c T.F_z1c.kp T.b_z1c (A0 6 (A0 2 A1)))) (D7 (D8 (B9 (A7 (b0Q T) T.g_z1d T.F_z1d.kp T.b_z1d (A0 0 (A0 6 (A0 5 A1))))))))) (A3 (A5 B5)) B4))) (A3 (A5 B5)))))›,?_⟩
  rw [show a0q b2s [V.ref s,V.ref a1,V.ref a2,V.ref a3,V.str q0]=[some (V.ref s),some (V.ref a1),some (V.ref a2),some (V.ref a3),some (V.str q0),none,none] from rfl]
  obtain ⟨rs,ers⟩:∃rs,zr.map (·.2)=rs:=⟨_,rfl⟩
  rw [ers] at q
  simp only [a1y,a1J,a0I,tOp,a0o,Qb,Qa,a0K,tC,a0L,Qg,Qh,a0r,a1c,a0z,a0i,a0y,Qf,a0b]
  refine a1K (SqL.of h1) ⟨_,rfl,a1d (fun c0=>?_) (fun c0=>?_)⟩
  ·have:=q H (a0h.refl _)
   unfold a3K at this
   rwa [if_pos (by simpa using c0)] at this
  have c0':q0∉S:=by simpa using c0
  refine ⟨s,T0,P0,E,zr,ps,pl,ev,q0,rfl,hs,fun W zs H1 s1 hW1 hz1 hzl1 ez1=>?_⟩
  refine ⟨W,rfl,⟨_,SqL.of hW1⟩,?_⟩
  refine a1b zs hW1 ‹om› hz1 [some (V.ref a3)] rfl (fun r=>!a2a r.2.2.2 D) (fun p=>p.1) (fun x r H' R ho hr' s' hR=>?_) (fun x r H' R ho hr' s' hR=>?_) (fun W2 H2 hW2n s2 hW2=>?_)
  ·simp only [a6L,tB,a0z,a0i,a0o,Qa,Qb,a0y,Qf,a0b]
   refine ⟨x,a3,r,D,rfl,⟨x,rfl,hr'⟩,ho,(s1.trans s') _ _ h3,fun H'' s''=>?_⟩
   simp only [a1p]
   exact hR _ s''
  ·simp only [a0o,Qa,a0b]
   exact hR _ (a0h.refl _)
  have s02:=s1.trans s2
  have hz2:a3W t H2 (zs.filter fun p=>!a2a p.2.2.2.2 D):=fun p hp=>(hz1.same s2) p (Xi.mp hp).1
  have hzl2:(zs.filter fun p=>!a2a p.2.2.2.2 D).length≤30:=Qi (Qw _ _) hzl1
  have est:(zs.filter fun p=>!a2a p.2.2.2.2 D).map (·.2)=unf rs D q0:=by
   unfold unf
   rw [←ers,←ez1,Yh];rfl
  generalize (zs.filter fun p=>!a2a p.2.2.2.2 D)=zw at hW2 hz2 hzl2 est
  have hneed:∀H',a0h H H'→(unf rs D q0=[]∨a1T q0∈S)→Q (.bl true) H':=fun H' s' hc=>by
   have:=q H' s'
   unfold a3K at this
   rwa [if_neg c0',if_pos hc] at this
  refine ⟨fun σ' H'=>σ'=[some (V.ref s),some (V.ref a1),some (V.ref a2),some (V.ref a3),some (V.str q0),some (V.ref W2),none]∧a0h H2 H'∧¬(unf rs D q0=[]∨a1T q0∈S),?_,?_⟩
  ·simp only [a1J,tOr,a0I,tOp,a0o,Qb,Qa,a2W,a0y,a0K,tC,a0L,a0z,a0i,Qf,a0b]
   refine ⟨by decide,fun N hN=>?_⟩
   obtain ⟨H3,e3,s3,h3'⟩:=a0J hN (.lst []);rw [e3]
   refine ⟨W2,N,_,rfl,rfl,SqL.of (s3 _ _ hW2),SqL.of h3',_,rfl,a1d (fun c1=>?_) (fun c1=>?_)⟩
   ·refine hneed _ (s02.trans s3) (.inl ?_)
    have:zw.map (·.1)=[]:=by simpa using c1
    rw [←est,Zp.mp this];rfl
   refine ⟨31,q0,rfl,hq,by decide,a1K (SqL.of ((s02.trans s3) _ _ h1)) ⟨_,rfl,a1d (fun c2=>hneed _ (s02.trans s3) (.inr (by simpa using c2))) (fun c2=>⟨(by trivial),s3,fun z=>z.elim (fun w=>c1 ?_) (fun w=>c2 (by simpa using w))⟩)⟩⟩
   rw [←est] at w
   have:zw=[]:=Zp.mp w
   rw [this];rfl
  rintro σ' H3 ⟨rfl,s23,hc⟩
  have s03:=s02.trans s23
  simp only [a1y,a0A,a1c,a0z,a0i,a0o,Qa,Qb,a0y,Qf,a0b]
  refine ⟨s,T0,P0,E,zr,ps,pl,ev,q0,rfl,hs.same s03,hq,fun B zb H4 s4 hB4 hzb hbl eb=>?_⟩
  rw [ers] at eb
  have s04:=s03.trans s4
  have s24:=s23.trans s4
  refine ⟨B,rfl,⟨_,SqL.of hB4⟩,?_⟩
  refine a0P (K:=K) (a:=B) (xs:=zb.map (·.1)) (fun i σ H'=>a0h H4 H'∧(∀b∈zb.take i,a1E b.2.2.2.2 U=false∨btn pl (zw.map (·.2)) b.2=true)∧∃y,σ=[some (V.ref s),some (V.ref a1),some (V.ref a2),some (V.ref a3),some (V.str q0),some (V.ref W2),y]) ⟨a0h.refl _,(fun b hb=>by simp at hb),_,rfl⟩ (fun i σ H' _ h=>SqL.of (h.1 _ _ hB4)) ?_ ?_
  ·rintro i v σ H5 hi ⟨s5,hU,y,rfl⟩
   obtain ⟨hi',ev'⟩:=a1P hi
   obtain ⟨⟨x,ex,hx⟩,ho⟩:=hzb _ (Qq hi')
   rw [ex] at ev'
   subst ev'
   have hmem:zb[i].2∈hdF rs (a1T q0):=by rw [←eb];exact Qn.mpr ⟨_,Qq hi',rfl⟩
   have s05:=s04.trans s5
   simp only [a0w,a1J,a8l,tB,a0z,a0i,a0o,Qg,Qh,Qb,Qa,a0y,Qf,a6L,Xb,a0K,tC,a0L,a0b,a2g]
   refine ⟨x,a2,_,U,rfl,⟨x,rfl,hx.same s5⟩,ho,s05 _ _ h2,fun H6 s6=>?_⟩
   simp only [a1p]
   have s06:=s05.trans s6
   have s26:=(s24.trans s5).trans s6
   refine a1d (fun c1=>?_) (fun c1=>⟨s5.trans s6,fun b hb=>?_,_,rfl⟩)
   ·refine ⟨s,T0,P0,E,x,W2,zr,ps,pl,ev,_,zw,rfl,hs.same s06,⟨x,rfl,(hx.same s5).same s6⟩,ho,s26 _ _ hW2,hz2.same s26,hzl2,fun H7 s7=>⟨_,rfl,a1d (fun c2=>?_) (fun c2=>⟨(s5.trans s6).trans s7,fun b hb=>?_,_,rfl⟩)⟩⟩
    ·have:=q _ (s06.trans s7)
     unfold a3K at this
     rw [if_neg c0',if_neg hc,←est] at this
     rwa [show (List.any _ _)=true from ?_] at this
     exact Xv.mpr ⟨_,hmem,by rw [c1,c2];rfl⟩
    ·rcases (a1s hi' b).mp hb with z | z
     ·exact hU b z
     ·rw [z];right;simpa using c2
   ·rcases (a1s hi' b).mp hb with z | z
    ·exact hU b z
    ·rw [z];left;simpa using c1
  ·rintro σ H5 ⟨s5,hU,y,rfl⟩
   rw [Qc,Xz] at hU
   simp only [a0K,tC]
   have:=q _ (s04.trans s5)
   unfold a3K at this
   rw [if_neg c0',if_neg hc,←est,←eb] at this
   rwa [show (List.any _ _)=false from ?_] at this
   refine Yp.mpr fun z=>?_
   obtain ⟨r,h1,h2⟩:=Xv.mp z
   obtain ⟨p,hp,rfl⟩:=Qn.mp h1
   rcases hU p hp with w | w
   ·rw [w] at h2;cases h2
   ·rw [w] at h2;simp at h2
theorem b4V (T:Txt K mg t):a0S P w K mg base CX0 4 t.f_z16 t.fd_z16 ["_law_scene_here","_law_sures_here","_law_rows"] (a5T t):=by
 refine T.F_z16.ok a3w (fun vs H Q E h=>?_) (fun cdv A outer s H vs Q E hr h=>?_)
 ·obtain ⟨s,T0,P0,E,a1,D,zr,ps,pl,ev,S,R,rfl,hs,h1,hR,hRl,hL,q⟩:=h;rfl
 ·obtain ⟨s,T0,P0,E,a1,D,zr,ps,pl,ev,S,R,rfl,hs,h1,hR,hRl,hL,q⟩:=h
  refine ⟨_,‹A4 (C2 (E3 (A0 (B8 a0s T.z_len a0u (A0 2 A1)) A1)) (B0 3 a3w.nd) (A4 (D9 4 (C0 (a0a a5k) a9o ["_law_row"] [none]) (B6 (C9 a1o 2 D2 (C5 3))) (B0 0 (show Xq (["_law_row"]:List Str) by decide+kernel)) (D4 (B1 (a4J hr.units (K:=K) rfl) (A8 (a1H (K:=K) rfl) 0 A2) B3 (a0v _))) (A8 (a1H (K:=K) rfl) 0 A2) a3w.nd) (A4 (D9 5 (C0 (a0a a5k) a9o ["_law_row"] [none]) (B6 (C9 a1o 2 D2 (C5 3))) (B0 0 (show Xq (["_law_row"]:List Str) by decide+kernel)) (D4 (B1 (a4J hr.units (K:=K) rfl) (A8 (a1H (K:=K) rfl) 0 A2) B3 (a0v _))) (A8 (a1H (K:=K) rfl) 0 A2) a3w.nd) (A4 (F7 (A8 a0k 2 3) (G4 rfl (E4 (B0 6 a3w.nd) (E4 (B0 7 a3w.nd) F8)))) (E1 (B2 (C7 (D5 (B1 (a1n hr.units) 6 B3 (a0v _)) (D7 (D8 (B9 (A7 (b0l T) T.g_z0q T.F_z0q.kp T.b_z0q (A0 0 (A0 1 (A0 4 (A0 5 (A0 7 A1))))))))))) (A3 (A5 B5)) B4) (A3 (B2 (C7 (D5 (B1 (a1n hr.units) 6 B3 (a0v _)) (D7 (D8 (B9 (A7 (b0d T) T.g_z0c T.F_z0c.kp T.b_z0c (A0 0 (A0 1 (A0 4 (A0 5 (A0 7 A1))))))))))) (A3 (A5 B5)) B4))))))) (A3 (A5 B5))›,?_⟩
  rw [show a0q a9o [V.ref s,V.ref a1,V.ref D]=[some (V.ref s),some (V.ref a1),some (V.ref D),none,none,none,none,none] from rfl]
  obtain ⟨qs,hD,hP,he⟩:=hR
  have hql:=a0l.len hP
  rw [Qc] at hql
  simp only [a1y,a0r,a1c,tSl,a0o,a1w,a2o,a0A,a5j,a0i,tCB,Qb,Qa,a0y,a0b]
  refine a0t (SqL.of hD) ?_
  rw [hql]
  refine ⟨_,rfl,by omega,by omega,?_⟩
  refine a1D (n:=(R.length:Int).toNat) (lo:=0) (fun k σ H'=>∃(x3 x4 x5 x6 x7:Option V),σ=[some (V.ref s),some (V.ref a1),some (V.ref D),x3,x4,x5,x6,x7]∧a0h H H') ⟨_,_,_,_,_,rfl,a0h.refl _⟩ ?_ ?_
  ·rintro k σ H1 hk ⟨x3,x4,x5,x6,x7,rfl,s1⟩
   have hk':k < R.length:=by omega
   have h2:=a2S (k+1) hL
   rw [Xl hk',a3b,Qs,Zs] at h2
   have hdue:=h2.2
   have hce:=hs.eo _ (he _ (Qq hk'))
   obtain ⟨x,ex,hx⟩:=a0l.at hP (i:=k) (by rw [Qc];exact hk')
   rw [Zg] at hx
   generalize R[k]=c at hx hce hdue
   rw [Int.zero_add]
   have ec:a2x qs none (some (k:Int))=qs.take k:=by
    unfold a2x
    rw [HT.sIx_nat]
    show (qs.drop 0).take (min k qs.length - 0)=_
    rw [Zl,Jj,Jk ‹om›]
   have htl:((R.take k).map cw).length≤1000:=by rw [Qc,Xp];omega
   simp only [a0w,a1y,Qg,Qh,Qb,Qa,a2m,tOp,a0o,b6l,a9q,b6U,a0b,a2B]
   refine .inr (.inl ⟨D,_,rfl,SqL.of (s1 _ _ hD),fun W1 hW1=>?_⟩)
   rw [ec]
   obtain ⟨H2,e2,s2,g2⟩:=a0J hW1 (.lst (qs.take k));rw [e2]
   have s02:=s1.trans s2
   refine ⟨W1,rfl,⟨_,SqL.of g2⟩,?_⟩
   refine a3L g2 (by have:=a2c (a0l.same s02 hP) k;rw [←Yn] at this;exact this) htl [] rfl (fun p=>decide (p.1="held")) (fun p=>V.str p.2) (fun x p H' Rr hxp s' hR=>?_) (fun x p H' Rr hxp s' hR=>?_) (fun He H3 hHn s3 hH3=>?_)
   ·simp only [a0I,tOp,a0o,Qa,tC,a0b]
    refine a0Z (i:=0) (v:=.str p.1) (SqT.of hxp) (by rfl) ?_
    simp only [a1a,a1p]
    exact hR _ (a0h.refl _)
   ·simp only [tOp,a0o,Qa,tC,a0b]
    refine a0Z (i:=1) (v:=.str p.2) (SqT.of hxp) (by rfl) ?_
    exact hR _ (a0h.refl _)
   have s03:=s02.trans s3
   try skip
   refine .inr (.inl ⟨D,_,rfl,SqL.of (s03 _ _ hD),fun W2 hW2=>?_⟩)
   rw [ec]
   obtain ⟨H4,e4,s4,g4⟩:=a0J hW2 (.lst (qs.take k));rw [e4]
   have s04:=s03.trans s4
   refine ⟨W2,rfl,⟨_,SqL.of g4⟩,?_⟩
   refine a3L g4 (by have:=a2c (a0l.same s04 hP) k;rw [←Yn] at this;exact this) htl [] rfl (fun p=>decide (p.1="refused")) (fun p=>V.str p.2) (fun x p H' Rr hxp s' hR=>?_) (fun x p H' Rr hxp s' hR=>?_) (fun Re H5 hRn s5 hR5=>?_)
   ·simp only [a0I,tOp,a0o,Qa,tC,a0b]
    refine a0Z (i:=0) (v:=.str p.1) (SqT.of hxp) (by rfl) ?_
    simp only [a1a,a1p]
    exact hR _ (a0h.refl _)
   ·simp only [tOp,a0o,Qa,tC,a0b]
    refine a0Z (i:=1) (v:=.str p.2) (SqT.of hxp) (by rfl) ?_
    exact hR _ (a0h.refl _)
   have s05:=s04.trans s5
   have hH5:=(s4.trans s5) _ _ hH3
   have eat:atI qs (k:Int)=some (.ref x):=by
    unfold atI ixN
    rw [if_pos ‹om›,if_pos ‹om›]
    show qs[((k:Int)).toNat]?=_
    rw [Ua];exact ex
   have eU:∀w:Str,((((R.take k).map cw).filter fun p=>decide (p.1=w)).map fun p=>V.str p.2)=(wOf ((R.take k).map cw) w).map V.str:=fun w=>by
    unfold wOf;rw [Ym];rfl
   rw [eU] at hH5 hR5
   try skip
   refine a0n (SqL.of (s05 _ _ hD)) eat ⟨x,_,rfl,SqT.of (s05 _ _ hx),rfl,_,_,rfl,_,_,rfl,rfl,?_⟩
   refine ⟨fun σ' H'=>σ'=[some (V.ref s),some (V.ref a1),some (V.ref D),some (V.int (k:Int)),some (V.ref He),some (V.ref Re),some (V.str (clW c.1)),some (V.str c.2)]∧a0h H5 H',?_,?_⟩
   ·simp only [a1J,a8l,a0I,tOp,a0o,Qb,Qa,tC,a6L,tB,a0z,a0i,a0y,Qf,Xb,a0K,a0L,a0b,a2g,a1a,a1p,decide_eq_true_eq]
    refine a1d (fun e=>?_) (fun _=>⟨rfl,a0h.refl _⟩)
    have hb:c.1=true:=a4Z (b:=true) e
    have hd:a1e (zr.map (·.2)) pl S (wOf ((R.take k).map cw) "held") (wOf ((R.take k).map cw) "refused") c.2=true:=by
     unfold a1X b3S at hdue;rw [if_pos hb] at hdue;exact hdue
    refine ⟨s,T0,P0,E,a1,He,Re,zr,ps,pl,ev,S,_,_,c.2,rfl,hs.same s05,hce,s05 _ _ h1,hH5,hR5,fun H6 s6=>⟨_,rfl,?_⟩⟩
    rw [hd,if_neg ‹dc›]
    exact ⟨rfl,s6⟩
   ·rintro σ' H6 ⟨rfl,s6⟩
    have s06:=s05.trans s6
    simp only [a1J,a8l,a0I,tOp,a0o,Qb,Qa,tC,a6L,tB,a0z,a0i,a0y,Qf,Xb,a0K,a0L,a0b,a2g,a1a,a1p,decide_eq_true_eq]
    refine a1d (fun e=>?_) (fun _=>⟨_,_,_,_,_,rfl,s06⟩)
    have hb:c.1=false:=a4Z (b:=false) e
    have hd:a3K (zr.map (·.2)) pl S (wOf ((R.take k).map cw) "held") (wOf ((R.take k).map cw) "refused") c.2=true:=by
     unfold a1X b3S at hdue;rw [if_neg (by rw [hb];decide)] at hdue;exact hdue
    refine ⟨s,T0,P0,E,a1,He,Re,zr,ps,pl,ev,S,_,_,c.2,rfl,hs.same s06,hce,s06 _ _ h1,s6 _ _ hH5,s6 _ _ hR5,fun H7 s7=>⟨_,rfl,?_⟩⟩
    rw [hd,if_neg ‹dc›]
    exact ⟨_,_,_,_,_,rfl,s06.trans s7⟩
  ·rintro σ H1 ⟨x3,x4,x5,x6,x7,rfl,s1⟩
   simp only [a0K,tC]
   exact q _ s1
theorem b2W (T:Txt K mg t):a0S P w K mg base CX0 4 t.f_z1m t.fd_z1m ["_law_scene_here","_law_sures_here"] (b1I t):=by
 refine T.F_z1m.ok a3g (fun vs H Q E h=>?_) (fun cdv A outer s H vs Q E hr h=>?_)
 ·obtain ⟨s,T0,P0,E,a1,zr,ps,pl,ev,S,rfl,hs,h1,q⟩:=h;rfl
 ·obtain ⟨s,T0,P0,E,a1,zr,ps,pl,ev,S,rfl,hs,h1,q⟩:=h
  refine ⟨_,‹A4 (A9 2 a3g.nd (B7 A1)) (A4 (A9 3 a3g.nd (B7 A1)) (A4 (A9 4 a3g.nd (B7 A1)) (A4 (A9 5 a3g.nd (F9 A2)) (A4 (G0 (B1 a3m 5 (B8 a0s T.z_len a0u (A0 4 A1)) (a0v _)) (A4 (A9 5 a3g.nd (B8 a0s T.z_len a0u (A0 4 A1))) (A3 (C2 (B6 (A8 a0k 0 A2)) (B0 6 a3g.nd) (E1 (B2 (C7 (E7 (B1 a1A 6 2 (by with_unfolding_all rfl)) (E8 (B1 a1A 6 3 (by with_unfolding_all rfl))))) (A3 G5) B4) (A3 (B2 (B9 (A7 (b0l T) T.g_z0q T.F_z0q.kp T.b_z0q (A0 0 (A0 1 (A0 2 (A0 3 (A0 6 A1))))))) (A4 (C6 (C4 Qz Xe Xf a0B 2 (A0 6 A1))) (A3 (C6 (C4 Qz Xe Xf a0B 4 (A0 (D0 (A0 B3 (A0 6 A1))) A1))))) (A3 (B2 (B9 (A7 (b0d T) T.g_z0c T.F_z0c.kp T.b_z0c (A0 0 (A0 1 (A0 2 (A0 3 (A0 6 A1))))))) (A4 (C6 (C4 Qz Xe Xf a0B 3 (A0 6 A1))) (A3 (C6 (C4 Qz Xe Xf a0B 4 (A0 (D0 (A0 B3 (A0 6 A1))) A1))))) B4))))))))) (A3 (A5 4))))))›,?_⟩
  rw [show a0q b4w [V.ref s,V.ref a1]=[some (V.ref s),some (V.ref a1),none,none,none,none,none] from rfl]
  simp only [a1y,a2m,a2W,a0y,a0w,tUn,tC,Qg,Qh,b0n]
  refine ⟨Xr _,fun A1 hA1=>⟨Xr _,fun A2 hA2=>⟨Xr _,fun A3 hA3=>?_⟩⟩⟩
  obtain ⟨H1,e1,s1,g1⟩:=a0J hA1 (.lst [])
  rw [e1] at hA2 hA3 ⊢
  obtain ⟨H2,e2,s2,g2⟩:=a0J hA2 (.lst [])
  rw [e2] at hA3 ⊢
  obtain ⟨H3,e3,s3,g3⟩:=a0J hA3 (.lst [])
  rw [e3]
  have s03:=(s1.trans s2).trans s3
  have n12:A1≠A2:=fun z=>by rw [z] at g1;rw [g1] at hA2;cases hA2
  have n13:A1≠A3:=fun z=>by rw [←z,s2 _ _ g1] at hA3;cases hA3
  have n23:A2≠A3:=fun z=>by rw [←z,g2] at hA3;cases hA3
  have f2:H A2=none:=none_of s1 hA2
  have f3:H A3=none:=none_of (s1.trans s2) hA3
  have hel:=hs.en.2
  refine a7t (fun m σ H'=>∃(G:List (Bool×Str)) (qs:List V) (z:Int) (x6:Option V),σ=[some (V.ref s),some (V.ref a1),some (V.ref A1),some (V.ref A2),some (V.ref A3),some (V.int z),x6]∧GrI H H' A1 A2 A3 (zr.map (·.2)) pl S ev G qs∧z≤G.length∧(z=G.length→GrC (zr.map (·.2)) pl S ev G)∧m=if z < G.length then ev.length+1 - G.length else 0)
   (ev.length+1) ⟨[],[],-1,_,rfl,⟨s03,s3 _ _ (s2 _ _ g1),s3 _ _ g2,g3,⟨[],rfl,rfl,fun i a p e=>(by cases e)⟩,⟨rfl,Zy,fun c hc=>(by cases hc)⟩⟩,by decide,fun z=>(by cases z),by rw [if_pos ‹dc›];rfl⟩ ?_
  rintro m σ H4 ⟨G,qs,z,x6,rfl,hI,hz,hc,rfl⟩
  have hql:qs.length=G.length:=by have:=a0l.len hI.p;rwa [Qc] at this
  simp only [a0I,tOp,a0o,Qb,Qa,tCB,a0i,a0y,a1y,a2m,a0w,Qg,Qh,a0A,a1c,tC,a0b,a0K]
  refine a0t (SqL.of hI.r) ?_
  rw [hql]
  simp only [a1R,a1p,decide_eq_true_eq]
  refine a1d (fun c1=>?_) (fun c1=>q A3 G qs H4 hI.s f3 hI.r hI.p hI.g (hc ‹om›))
  rw [if_pos c1]
  refine ⟨_,fun _ _ h=>h,?_⟩
  refine a0t (SqL.of hI.r) ?_
  rw [hql]
  refine a0n (SqL.of (hI.s _ _ hs.s)) rfl ⟨E,rfl,⟨_,SqL.of (hI.s _ _ hs.e)⟩,?_⟩
  refine a0P (K:=K) (a:=E) (xs:=ev.map V.str) (fun j σ H'=>∃(G':List (Bool×Str)) (qs':List V) (x6:Option V),σ=[some (V.ref s),some (V.ref a1),some (V.ref A1),some (V.ref A2),some (V.ref A3),some (V.int (G.length:Int)),x6]∧GrI H H' A1 A2 A3 (zr.map (·.2)) pl S ev G' qs'∧((G'=G∧∀q∈ev.take j,q∉G.map (·.2)→a1X (zr.map (·.2)) pl S G (true,q)=false∧a1X (zr.map (·.2)) pl S G (false,q)=false)∨G.length < G'.length))
   ⟨G,qs,_,rfl,hI,.inl ⟨rfl,fun r hr=>(by cases hr)⟩⟩ (fun i σ H' _ ⟨_,_,_,_,h,_⟩=>SqL.of (h.s _ _ hs.e)) ?_ ?_
  ·rintro j x σ H5 hj ⟨G',qs',y6,rfl,hJ,hL⟩
   obtain ⟨hj',rfl⟩:=a1P hj
   have hqo:ev[j]∈ev:=Qq hj'
   have etk:=a1s hj'
   generalize ev[j]=q0 at hqo etk
   have htx:=hs.eo q0 hqo
   have hl2:=hJ.g.len
   have hql':qs'.length=G'.length:=by have:=a0l.len hJ.p;rwa [Qc] at this
   have stay:∀H',a0h H5 H'→(G'=G→q0∉G.map (·.2)→a1X (zr.map (·.2)) pl S G (true,q0)=false∧a1X (zr.map (·.2)) pl S G (false,q0)=false)→∃(G':List (Bool×Str)) (qs':List V) (x6:Option V),[some (V.ref s),some (V.ref a1),some (V.ref A1),some (V.ref A2),some (V.ref A3),some (V.int (G.length:Int)),some (V.str q0)]=[some (V.ref s),some (V.ref a1),some (V.ref A1),some (V.ref A2),some (V.ref A3),some (V.int (G.length:Int)),x6]∧GrI H H' A1 A2 A3 (zr.map (·.2)) pl S ev G' qs'∧((G'=G∧∀q∈ev.take (j+1),q∉G.map (·.2)→a1X (zr.map (·.2)) pl S G (true,q)=false∧a1X (zr.map (·.2)) pl S G (false,q)=false)∨G.length < G'.length):=fun H' s' hc=>
    ⟨G',qs',_,rfl,hJ.same s',hL.elim (fun h=>.inl ⟨h.1,fun x hx=>((etk x).mp hx).elim (h.2 x) fun e=>by rw [e];exact hc h.1⟩) .inr⟩
   have put:∀(b:Bool) (Ab p:Addr) (H6:Hp),a0h H5 H6→(b=true∧Ab=A1)∨(b=false∧Ab=A2)→q0∉G'.map (·.2)→a1X (zr.map (·.2)) pl S G' (b,q0)=true→upd H6 Ab (.lst ((wOf (G'.map cw) (clW b)).map V.str++[V.str q0])) p=none→∃(G2:List (Bool×Str)) (qs2:List V) (x6:Option V),[some (V.ref s),some (V.ref a1),some (V.ref A1),some (V.ref A2),some (V.ref A3),some (V.int (G.length:Int)),some (V.str q0)]=[some (V.ref s),some (V.ref a1),some (V.ref A1),some (V.ref A2),some (V.ref A3),some (V.int (G.length:Int)),x6]∧GrI H (upd (upd (upd H6 Ab (.lst ((wOf (G'.map cw) (clW b)).map V.str++[V.str q0]))) p (.tup [.str (clW b),.str q0])) A3 (.lst (qs'++[.ref p]))) A1 A2 A3 (zr.map (·.2)) pl S ev G2 qs2∧((G2=G∧∀q∈ev.take (j+1),q∉G.map (·.2)→a1X (zr.map (·.2)) pl S G (true,q)=false∧a1X (zr.map (·.2)) pl S G (false,q)=false)∨G.length < G2.length):=fun b Ab p H6 s6 hb hn hd hp=>
    ⟨G'++[(b,q0)],qs'++[.ref p],_,rfl,(hJ.same s6).add n12 n13 n23 hA1 f2 f3 hb (hJ.g.snoc hqo hn hd) hp,.inr (by rw [Xa,Yy];rcases hL with ⟨rfl,_⟩ | h<;>omega)⟩
   refine ⟨fun σ' H'=>σ'=[some (V.ref s),some (V.ref a1),some (V.ref A1),some (V.ref A2),some (V.ref A3),some (V.int (G.length:Int)),some (V.str q0)]∧a0h H5 H'∧q0∉G'.map (·.2),?_,?_⟩
   ·simp only [a1J,tOr,a0I,tOp,a0o,Qg,Qh,Qb,Qa,b5a,a0L,a0b]
    refine a1K (SqL.of hJ.u) ?_
    simp only [a1p,decide_eq_true_eq]
    have no:∀b,(b,q0)∈G'→G'=G→q0∉G.map (·.2)→a1X (zr.map (·.2)) pl S G (true,q0)=false∧a1X (zr.map (·.2)) pl S G (false,q0)=false:=fun b h e hn=>absurd (Qn.mpr ⟨(b,q0),e ▸ h,rfl⟩) hn
    refine a1d (fun c=>?_) (fun c=>?_)
    ·rw [if_pos trivial]
     exact stay _ (a0h.refl _) (no true (a4G.mp c))
    refine a1K (SqL.of hJ.d) ?_
    simp only [a1p,decide_eq_true_eq]
    refine a1d (fun c'=>stay _ (a0h.refl _) (no false (a4E.mp c'))) (fun c'=>⟨trivial,a0h.refl _,fun h=>?_⟩)
    obtain ⟨⟨b,x⟩,hx,rfl⟩:=Qn.mp h
    cases b
    ·exact c' (a4E.mpr hx)
    ·exact c (a4G.mpr hx)
   ·rintro σ' H6 ⟨rfl,s6,hn⟩
    have h6:=hJ.same s6
    have hw:∀w,(wOf (G'.map cw) w).length≤G'.length:=fun w=>by
     unfold wOf
     rw [Qc]
     exact Qi (Qw _ _) (by rw [Qc];exact Qk _)
    simp only [a1J,tB,a0z,a0i,a0o,Qa,Qb,a0y,Qf,a1y,a2y,tBM,a5a,tC,a0b,a0L]
    refine ⟨s,T0,P0,E,a1,A1,A2,zr,ps,pl,ev,S,_,_,q0,rfl,hs.same h6.s,htx,h6.s _ _ h1,h6.u,h6.d,fun H7 s7=>⟨_,rfl,a1d (fun c2=>?_) (fun c2=>?_)⟩⟩
    ·have h7:=h6.same s7
     refine ⟨.inl ⟨rfl,_,SqL.of h7.u⟩,A1,_,_,rfl,rfl,h7.u,Xj (show _≤1000 by rw [Qc];have:=hw "held";omega) ‹dc›,?_⟩
     have h3:upd H7 A1 (.lst ((wOf (G'.map cw) "held").map V.str++[V.str q0])) A3=some (.lst qs'):=by rw [a0d n13.symm];exact h7.r
     refine ⟨.inl ⟨rfl,_,SqL.of h3⟩,by simp only [Qj,Qr];decide,fun p hp=>?_⟩
     exact ⟨A3,_,_,rfl,rfl,by rw [a0d (a0c h3 hp)];exact h3,Xj (show _≤1000 by omega) ‹dc›,put true A1 p H7 (s6.trans s7) (.inl ⟨rfl,rfl⟩) hn c2 hp⟩
    have h7':=h6.same s7
    refine ⟨s,T0,P0,E,a1,A1,A2,zr,ps,pl,ev,S,_,_,q0,rfl,hs.same h7'.s,htx,h7'.s _ _ h1,h7'.u,h7'.d,fun H7 s8=>⟨_,rfl,a1d (fun c3=>?_) (fun c3=>stay _ ((s6.trans s7).trans s8) fun e _=>?_)⟩⟩
    ·have h7:=h7'.same s8
     refine ⟨.inl ⟨rfl,_,SqL.of h7.d⟩,A2,_,_,rfl,rfl,h7.d,Xj (show _≤1000 by rw [Qc];have:=hw "refused";omega) ‹dc›,?_⟩
     have h3:upd H7 A2 (.lst ((wOf (G'.map cw) "refused").map V.str++[V.str q0])) A3=some (.lst qs'):=by rw [a0d n23.symm];exact h7.r
     refine ⟨.inl ⟨rfl,_,SqL.of h3⟩,by simp only [Qj,Qr];decide,fun p hp=>?_⟩
     exact ⟨A3,_,_,rfl,rfl,by rw [a0d (a0c h3 hp)];exact h3,Xj (show _≤1000 by omega) ‹dc›,put false A2 p H7 ((s6.trans s7).trans s8) (.inr ⟨rfl,rfl⟩) hn c3 hp⟩
    ·rw [←e]
     exact ⟨Yp.mpr c2,Yp.mpr c3⟩
  ·rintro σ H5 ⟨G',qs',y6,rfl,hJ,hL⟩
   rw [Qc,Xz] at hL
   have hl2:=hJ.g.len
   have hl1:=hI.g.len
   rcases hL with ⟨rfl,h⟩ | h
   ·exact ⟨0,by omega,G',qs',_,_,rfl,hJ,Int.le_refl _,fun _=>h,by rw [if_neg ‹om›]⟩
   ·exact ⟨ev.length+1 - G'.length,by omega,G',qs',_,_,rfl,hJ,by omega,fun z=>‹om›,by rw [if_pos ‹om›]⟩
theorem a2u (T:Txt K mg t):a0S P w K mg base CX0 1 t.f_z1s t.fd_z1s ["_law_cell","_law_k"] b5q:=by
 refine T.F_z1s.ok a5u (fun vs H Q E h=>?_) (fun cdv A outer s H vs Q E hr h=>?_)
 ·obtain ⟨c,k,rfl,q⟩:=h;rfl
 ·obtain ⟨c,k,rfl,q⟩:=h
  refine ⟨_,‹A4 (A9 2 a5u.nd (A6 a0F (A6 a0m (A6 a0m (A6 a0F 0 A2) (A6 a3n A2 1)) A2) A2)) (A4 (A9 2 a5u.nd (A6 a0F (A6 a3n 2 2) A2)) (A4 (A9 2 a5u.nd (A6 a0F (A6 a0m (A6 a3n 2 A2) 1) A2)) (A3 (A5 (A6 a0F (A6 a3n 2 2) A2)))))›,?_⟩
  rw [show a0q b4S [V.int c,V.int k]=[some (V.int c),some (V.int k),none] from rfl]
  simp only [a1y,a2m,tOp,a0o,Qa,tC,Qb,a0w,Qg,Qh,a0K,a0b,a0Y,b2z,a0N]
  have h1:=a1i (i:=c % 2147483647+7919 * k+12345) (j:=2147483647) ‹dc›
  generalize (c % 2147483647+7919 * k+12345) % 2147483647=n at h1 ⊢
  have h2:=a1i (i:=n * n) (j:=2147483629) ‹dc›
  generalize n * n % 2147483629=m at h2 ⊢
  have h3:=a1i (i:=m * 48271+k) (j:=2147483647) ‹dc›
  generalize (m * 48271+k) % 2147483647=l at h3 ⊢
  exact ⟨by decide,.inl ‹dc›,by decide,.inl ‹om›,by decide,.inl ‹om›,by decide,.inl ‹om›,by decide,q _ (Int.emod_nonneg _ ‹dc›)⟩
theorem b5D (T:Txt K mg t):a0S P w K mg base CX0 2 t.f_z1i t.fd_z1i ["_law_rules","_law_cell"] (a7G t):=by
 refine T.F_z1i.ok a4i (fun vs H Q E h=>?_) (fun cdv A outer s H vs Q E hr h=>?_)
 ·obtain ⟨a,c,zr,rfl,hR,q⟩:=h;rfl
 ·obtain ⟨a,c,zr,rfl,hR,q⟩:=h
  refine ⟨_,‹A4 (A9 2 a4i.nd (B7 A1)) (A4 (C2 (E3 (A0 (B8 a0s T.z_len a0u (A0 0 A1)) A1)) (B0 3 a4i.nd) (A3 (C2 (G6 rfl T.z_range (A0 (A6 a0m 3 A2) (A0 (B8 a0s T.z_len a0u (A0 0 A1)) A1))) (B0 4 a4i.nd) (A3 (B2 (C7 (D5 (B1 (a1n hr.units) (C1 (A8 a0k 0 3)) (A7 (a4Q T) T.g_z12 T.F_z12.kp T.b_z12 (A0 (C1 (A8 a0k 0 4)) A1)) (a0v _)) (D5 (B1 (a4F hr.units) (C1 (A8 a0k 0 3)) B3 (a0v _)) (D7 (B1 (a4F hr.units) (C1 (A8 a0k 0 4)) B3 (a0v _)))))) (A4 (A9 5 a4i.nd (A6 a0F (A7 (a2u T) T.g_z1s T.F_z1s.kp T.b_z1s (A0 1 (A0 (A6 a0m (A6 a3n A2 3) 4) A1))) A2)) (A3 (B2 (C7 (D5 (B1 a3m 5 A2 (a0v _)) (D7 (B1 a3m (B8 a0s T.z_len a0u (A0 2 A1)) A2 (a0v _))))) (A3 (C6 (C4 Qz Xe Xf a0B 2 (A0 (D0 (A0 (C1 (A8 a0k 0 3)) (A0 (C1 (A8 a0k 0 4)) A1))) A1)))) B4))) B4))))) (A3 (A5 2)))›,?_⟩
  rw [show a0q b2O [V.ref a,V.int c]=[some (V.ref a),some (V.int c),none,none,none,none] from rfl]
  simp only [a1y,a2m,a2W,a0y,a0w,Qg,Qh,a0A,a5j,a0i,tCB,a0o,Qa,a0b]
  refine ⟨by decide,fun D hD=>?_⟩
  obtain ⟨H1,e1,s1,h1⟩:=a0J hD (.lst []);rw [e1]
  have hR1:=hR.same s1
  have hzl:=hR.2.2.1
  refine a0t (SqL.of hR1.1) ?_
  rw [Qc]
  refine ⟨_,rfl,by omega,by omega,?_⟩
  have inv0:a0l H1 [] []:=⟨[],rfl,rfl,fun i a p e=>by cases e⟩
  refine a1D (n:=(zr.length:Int).toNat) (lo:=0) (fun i σ H'=>∃(ps:List V) (pl:List (Str×Str)) (x3 x4 x5:Option V),σ=[some (V.ref a),some (V.int c),some (V.ref D),x3,x4,x5]∧a0h H H'∧H' D=some (.lst ps)∧a0l H' ps pl∧pl.length≤60∧b3z pl)
   ⟨[],[],_,_,_,rfl,s1,h1,inv0,by decide,fun p hp=>absurd hp Yi⟩ ?_ ?_
  ·rintro i σ H2 hi ⟨ps,pl,x3,x4,x5,rfl,s2,hD2,hps,hpl,hpo⟩
   have hR2:=hR.same s2
   simp only [a0w,Qg,Qh,a0A,b4s,a0i,tOp,a0o,Qb,Qa,tC,tCB,a0y,a0b,a0N]
   refine a0t (SqL.of hR2.1) ?_
   rw [Qc]
   refine ⟨_,_,rfl,by omega,?_⟩
   obtain ⟨xa,ra,ea,hxa,hra⟩:=hR.at2 (k:=0+(i:Int)) ‹om› ‹om›
   have CA:=a3R T hra.1.1
   obtain ⟨dxa,ta,fa1,fa2⟩:=hxa
   refine a1D (lo:=0+(i:Int)+1) (fun j σ H'=>∃(ps:List V) (pl:List (Str×Str)) (x4 x5:Option V),σ=[some (V.ref a),some (V.int c),some (V.ref D),some (V.int (0+(i:Int))),x4,x5]∧a0h H H'∧H' D=some (.lst ps)∧a0l H' ps pl∧pl.length≤60∧b3z pl)
    ⟨ps,pl,_,_,rfl,s2,hD2,hps,hpl,hpo⟩ ?_ ?_
   ·clear hps hpl hpo hD2
    rintro j σ H3 hj ⟨ps,pl,x4,x5,rfl,s3,hD3,hps,hpl,hpo⟩
    obtain ⟨xb,rb,eb,hxb,hrb⟩:=hR.at2 (k:=0+(i:Int)+1+(j:Int)) ‹om› ‹om›
    have CB:=a3R T hrb.1.1
    obtain ⟨dxb,tb,fb1,fb2⟩:=hxb
    have hR3:=(hR.same s3).1
    simp only [a0w,a1J,a8l,a0I,tOp,a2Y,a0o,Qg,Qh,Qa,Qb,a0z,a0i,a0y,Qf,tC,a1y,a2m,tCB,a2y,tBM,a5a,a0b,a0L,a2g,a0Y,b2z,a0N,a1I,a1R,a1p,decide_eq_true_eq]
    refine a0n (SqL.of hR3) ea ⟨xa,_,dxa,_,_,rfl,s3 _ _ fa1,CA.cl,CA.nh,a0M _ _ _,?_⟩
    refine a0n (SqL.of hR3) eb ⟨xb,_,dxb,_,_,rfl,s3 _ _ fb1,CB.cl,CB.nh,a0M _ _ _,31,_,rfl,hrb.2.1,by decide,?_⟩
    simp only [a1a,a1p,decide_eq_true_eq]
    have keep:∀x5',∃(ps':List V) (pl':List (Str×Str)) (x4' x5'':Option V),[some (V.ref a),some (V.int c),some (V.ref D),some (V.int (0+(i:Int))),some (V.int (0+(i:Int)+1+(j:Int))),x5']=[some (V.ref a),some (V.int c),some (V.ref D),some (V.int (0+(i:Int))),x4',x5'']∧a0h H H3∧H3 D=some (.lst ps')∧a0l H3 ps' pl'∧pl'.length≤60∧b3z pl':=fun x5'=>⟨ps,pl,_,_,rfl,s3,hD3,hps,hpl,hpo⟩
    refine a1d (fun _=>?_) (fun _=>keep _)
    refine a0n (SqL.of hR3) ea ⟨xa,_,dxa,_,_,rfl,s3 _ _ fa1,CA.cl,CA.nl,a0X _ _ _,?_⟩
    simp only [a3O,a1p,Xb,decide_eq_false_iff_not]
    refine a1d (fun _=>?_) (fun _=>keep _)
    refine a0n (SqL.of hR3) eb ⟨xb,_,dxb,_,_,rfl,s3 _ _ fb1,CB.cl,CB.nl,a0X _ _ _,?_⟩
    simp only [a3O,a1p,Xb,decide_eq_false_iff_not]
    refine a1d (fun _=>?_) (fun _=>keep _)
    refine ⟨.inl ‹dc›,fun r hr'=>⟨by decide,a1d (fun _=>?_) (fun _=>keep _)⟩⟩
    refine a0t (SqL.of hD3) ?_
    have hpn:=a0l.len hps
    simp only [a1R,a1p,decide_eq_true_eq]
    refine a1d (fun c60=>?_) (fun _=>keep _)
    refine ⟨.inl ⟨rfl,_,SqL.of hD3⟩,?_⟩
    refine a0n (SqL.of hR3) ea ⟨xa,_,dxa,_,_,rfl,s3 _ _ fa1,CA.cl,CA.nl,a0X _ _ _,?_⟩
    refine a0n (SqL.of hR3) eb ⟨xb,_,dxb,_,_,rfl,s3 _ _ fb1,CB.cl,CB.nl,a0X _ _ _,(show 2≤sizeLine by decide),fun Z hZ=>?_⟩
    obtain ⟨H4,e4,s4,h4⟩:=a0J hZ (.tup [V.str ra.2.1,V.str rb.2.1]);rw [e4]
    refine ⟨D,_,_,rfl,rfl,s4 _ _ hD3,Xj (show ps.length≤1000 by omega) ‹dc›,?_⟩
    have hZD:Z≠D:=fun z=>by rw [z,hD3] at hZ;cases hZ
    have hps4:a0l (upd H4 D (.lst (ps++[V.ref Z]))) ps pl:=a2I (a0l.same s4 hps) ⟨_,s4 _ _ hD3⟩ fun b o hb e=>by rw [a0d hb];exact e
    refine ⟨ps++[V.ref Z],pl++[(ra.2.1,rb.2.1)],_,_,rfl,fun b o e=>by rw [a0d (a0c e hD)];exact s4 _ _ (s3 _ _ e),a0f,a3E hps4 (by rw [a0d hZD];exact h4),?_,fun p hp=>?_⟩
    ·rw [Xa];simp;omega
    ·rcases Xn.mp hp with z | z
     ·exact hpo p z
     ·rw [Qt.mp z];exact ⟨hra.1.2.2.1.1,hrb.1.2.2.1.1⟩
   ·rintro σ H3 ⟨ps,pl,x4,x5,rfl,s3,hD3,hps,hpl,hpo⟩
    exact ⟨ps,pl,_,_,_,rfl,s3,hD3,hps,hpl,hpo⟩
  ·rintro σ H2 ⟨ps,pl,x3,x4,x5,rfl,s2,hD2,hps,hpl,hpo⟩
   simp only [a0K,a0o,Qb,Qa,a0b]
   exact q D ps pl H2 s2 hD hD2 hps hpl hpo
theorem b0e (T:Txt K mg t):a0S P w K mg base CX0 2 t.f_z1g t.fd_z1g ["_law_cell","_law_many"] b1z:=by
 refine T.F_z1g.ok a2t (fun vs H Q E h=>?_) (fun cdv A outer s H vs Q E hr h=>?_)
 ·obtain ⟨c,m,rfl,hm,q⟩:=h;rfl
 ·obtain ⟨c,m,rfl,hm,q⟩:=h
  refine ⟨_,‹A4 (A9 2 a2t.nd B3) (A4 (D9 3 (C0 (a0a a6h) b1M ["_law_k","_law_signs","_law_cell"] [none,some 2,some 0]) (E3 (A0 A2 A1)) (B0 0 (show Xq (["_law_k","_law_signs","_law_cell"]:List Str) by decide+kernel)) D6 (A8 (a1H (K:=K) rfl) 1 (A6 a0F (A7 (a2u T) T.g_z1s T.F_z1s.kp T.b_z1s (A0 2 (A0 (A6 (b0X (K:=K) rfl) A2 0) A1))) A2)) a2t.nd) (A4 (A9 4 a2t.nd (A6 a0m A2 (A6 a0F (A7 (a2u T) T.g_z1s T.F_z1s.kp T.b_z1s (A0 0 (A0 A2 A1))) A2))) (A4 (A9 5 a2t.nd (A6 a0F (A7 (a2u T) T.g_z1s T.F_z1s.kp T.b_z1s (A0 0 (A0 A2 A1))) 4)) (A4 (A9 6 a2t.nd (B7 A1)) (A4 (C2 (E3 (A0 1 A1)) (B0 7 a2t.nd) (A4 (A9 8 a2t.nd (D3 a0C T.z_list a0E (A0 3 A1))) (A4 (F7 (A8 a0k 2 (A6 a0F (A6 a0m (A7 (a2u T) T.g_z1s T.F_z1s.kp T.b_z1s (A0 0 (A0 A2 A1))) 7) A2)) (G7 8 5 a9F)) (A3 (B2 (B1 (a1n hr.units) (A6 a0F 0 A2) A2 (a0v _)) (A3 (C6 (C4 Qz Xe Xf a0B 6 (A0 (C4 Jb Vc Vd a8C B3 (A0 (C9 a1o 3 D2 (C5 (A6 a0m A2 7))) A1)) A1)))) (A3 (C6 (C4 Qz Xe Xf a0B 6 (A0 (C4 Jb Vc Vd a8C B3 (A0 (C9 a1o 8 D2 (C5 4)) A1)) A1))))))))) (A3 (A5 6)))))))›,?_⟩
  rw [show a0q b1M [V.int c,V.int m]=[some (V.int c),some (V.int m),none,none,none,none,none,none,none] from rfl]
  simp only [a1y,a2m,tC,a0w,Qg,Qh,tOp,a0z,a0i,a0o,Qa,a0y,Qf,Qb,a2W,a0A,a5j,a0b,a1I,a0Y,a0N,a0r]
  rw [b4q]
  refine ⟨8,rfl,by decide,by decide,?_⟩
  refine a4B a4w (Qi (show (8:Int).toNat≤1000 by decide) ‹dc›) [some (V.str (mk a6A)),some (V.int c)] rfl (fun i v=>∃d,v=sv [d]∧d∈a6A) (fun _ _=>trivial) (fun i H' R hi s hR=>?_) (fun B H1 ys hBn s1 hB hl hv=>?_)
  ·simp only [tOp,a0o,Qb,Qa,a0z,a0i,tC,a0y,Qf,a0b,a0N,a1I,a0Y,a5d]
   intro r hr
   have m26:=a1i (i:=r) (j:=26) ‹dc›
   obtain ⟨d,e,hd,_⟩:=a2e (xs:=a6A) m26.1 m26.2
   exact ⟨by decide,a2l (by rw [a1W];decide),d,e,hR _ _ (a0h.refl _) ⟨d,rfl,hd⟩⟩
  obtain ⟨cs,rfl,hcs⟩:=b0T hv
  have hcl:cs.length=8:=by rw [Qc,a7p] at hl;exact hl
  intro r hr
  have m8:=a1i (i:=r) (j:=8) ‹dc›
  refine ⟨by decide,fun r1 hr1=>?_⟩
  have mz:=a1i (i:=r1) (j:=1+r % 8) ‹om›
  refine ⟨by omega,by decide,fun F hF=>⟨_,rfl,by omega,by omega,?_⟩⟩
  have hsz:1≤1+r % 8∧1+r % 8≤8:=by omega
  generalize 1+r % 8=sz at mz hsz ⊢
  generalize r1 % sz=at0 at mz ⊢
  obtain ⟨H2,e2,s2,h2⟩:=a0J hF (.lst []);rw [e2]
  have hFn:H F=none:=none_of s1 hF
  refine a1D (n:=m.toNat) (lo:=0) (fun i σ H'=>∃(ws:List (List Nat)) (x7 x8:Option V),σ=[some (V.int c),some (V.int m),some (V.str (mk a6A)),some (V.ref B),some (V.int sz),some (V.int at0),some (V.ref F),x7,x8]∧a0h H H'∧H' B=some (.lst (pv' (sgl cs)))∧H' F=some (.lst (pv' ws))∧ws.length=i∧∀w∈ws,IsW w)
   ⟨[],_,_,rfl,s1.trans s2,s2 _ _ hB,h2,rfl,by simp⟩ ?_ ?_
  ·rintro i σ H3 hi ⟨ws,x7,x8,rfl,s3,hB3,hF3,hwl,hww⟩
   have hBF:B≠F:=a0c hB hF
   simp only [a0w,a1y,a2m,tCB,a0i,a0o,Qg,Qh,Qb,Qa,a0y,tOp,a0z,tC,Qf,b9t,a1J,a0I,a2y,tBM,tSl,a1w,a2o,a0b,a0N,a2B,a6O,a0Y,a1r,a1p,decide_eq_true_eq,a1I,a5d]
   refine ⟨B,_,rfl,.inl (SqL.of hB3),fun O hO=>?_⟩
   obtain ⟨H4,e4,s4,h4⟩:=a0J hO (.lst (pv' (sgl cs)));rw [e4]
   intro r2 hr2
   have m26:=a1i (i:=r2+(0+(i:Int))) (j:=26) ‹dc›
   obtain ⟨d,e,hd,_⟩:=a2e (xs:=a6A) m26.1 m26.2
   refine ⟨by decide,a2l (by rw [a1W];decide),d,e,?_⟩
   refine a9M h4 mz.1 (by rw [Qc,a7p,hcl];omega) ?_
   rw [show (V.str (⟨#[d]⟩:Str))=sv [d] from rfl,b1a]
   obtain ⟨H5,e5,s5,h5⟩:∃H5,upd H4 O (.lst (pv' (sgl (cs.set at0.toNat d))))=H5∧a0h H3 H5∧H5 O=some (.lst (pv' (sgl (cs.set at0.toNat d)))):=⟨_,rfl,fun b o e=>by rw [a0d (a0c e hO)];exact s4 _ _ e,a0f⟩
   rw [e5]
   have hF5:=s5 _ _ hF3
   have hB5:=s5 _ _ hB3
   have fin:∀(H6:Hp) (w:List Nat),a0h H5 H6→IsW w→∃(ws':List (List Nat)) (x7' x8':Option V),[some (V.int c),some (V.int m),some (V.str (mk a6A)),some (V.ref B),some (V.int sz),some (V.int at0),some (V.ref F),some (V.int (0+(i:Int))),some (V.ref O)]=[some (V.int c),some (V.int m),some (V.str (mk a6A)),some (V.ref B),some (V.int sz),some (V.int at0),some (V.ref F),x7',x8']∧a0h H (upd H6 F (.lst (pv' ws++[sv w])))∧upd H6 F (.lst (pv' ws++[sv w])) B=some (.lst (pv' (sgl cs)))∧upd H6 F (.lst (pv' ws++[sv w])) F=some (.lst (pv' ws'))∧ws'.length=i+1∧∀w∈ws',IsW w:=fun H6 w s6 hw=>by
    refine ⟨ws++[w],_,_,rfl,fun b o e=>by rw [a0d (a0c e hFn)];exact s6 _ _ (s5 _ _ (s3 _ _ e)),by rw [a0d hBF];exact s6 _ _ hB5,by rw [a0f,b4L],by simp [hwl],fun x hx=>?_⟩
    rcases Xn.mp hx with z | z
    ·exact hww x z
    ·rw [Qt.mp z];exact hw
   have hj:∀(ds:List Nat),ds.length≤8→(((sgl ds).map mk).map (·.length)).sum+((sgl ds).map mk).length * ("":Str).length≤16777216:=fun ds hd=>by
    rw [a7J,show ("":Str).length=0 from rfl];omega
   have hwb:(pv' ws).length < sizeLine:=Xj (show _≤1000 by rw [Qc];omega) ‹dc›
   try skip
   refine ⟨by decide,a1d (fun c1=>?_) (fun c1=>?_)⟩
   ·refine ⟨.inl ⟨rfl,_,SqL.of hF5⟩,.inr (.inl ⟨B,_,rfl,SqL.of hB5,fun Z hZ=>?_⟩)⟩
    rw [a3F _ ‹om›,a6R,a5Q]
    obtain ⟨H6,e6,s6,h6⟩:=a0J hZ (.lst (pv' (sgl (cs.take (1+(0+(i:Int))).toNat))));rw [e6]
    have hw:=b0k hcl hcs (k:=(1+(0+(i:Int))).toNat) ‹om› ‹om›
    refine a5G (ys:=(sgl (cs.take (1+(0+(i:Int))).toNat)).map mk) (.inl (by rw [Ym];exact SqL.of h6)) (hj _ hw.2.1) ?_
    rw [show ("":Str)=mk [] from rfl,a8O,a5t]
    exact ⟨F,_,_,rfl,rfl,s6 _ _ hF5,hwb,fin H6 _ s6 hw⟩
   ·refine ⟨.inl ⟨rfl,_,SqL.of hF5⟩,.inr (.inl ⟨O,_,rfl,SqL.of h5,fun Z hZ=>?_⟩)⟩
    rw [a3F _ ‹om›,a6R,a5Q]
    obtain ⟨H6,e6,s6,h6⟩:=a0J hZ (.lst (pv' (sgl ((cs.set at0.toNat d).take sz.toNat))));rw [e6]
    have hw:=b0k (cs:=cs.set at0.toNat d) (by rw [List.length_set];exact hcl) (fun x hx=>by
     rcases List.mem_or_eq_of_mem_set hx with z | z
     ·exact hcs x z
     ·rw [z];exact hd) (k:=sz.toNat) ‹om› ‹om›
    refine a5G (ys:=(sgl ((cs.set at0.toNat d).take sz.toNat)).map mk) (.inl (by rw [Ym];exact SqL.of h6)) (hj _ hw.2.1) ?_
    rw [show ("":Str)=mk [] from rfl,a8O,a5t]
    exact ⟨F,_,_,rfl,rfl,s6 _ _ hF5,hwb,fin H6 _ s6 hw⟩
  ·rintro σ H3 ⟨ws,x7,x8,rfl,s3,hB3,hF3,hwl,hww⟩
   simp only [a0K,a0o,Qb,Qa,a0b]
   exact q F ws H3 s3 hFn hF3 hwl hww
theorem b4c (T:Txt K mg t):a0S P w K mg base CX0 3 t.f_z1n t.fd_z1n ["_law_script"] (a9m K):=by
 refine T.F_z1n.ok a4y (fun vs H Q E h=>?_) (fun cdv A outer s H vs Q E hr h=>?_)
 ·obtain ⟨a,ns,rfl,hS,hl,q⟩:=h;rfl
 ·obtain ⟨a,ns,rfl,hS,hl,q⟩:=h
  refine ⟨_,‹A4 (A9 1 a4y.nd (A7 (b0e T) T.g_z1g T.F_z1g.kp T.b_z1g (A0 (A7 (a2V T) T.g_z11 T.F_z11.kp T.b_z11 (A0 0 (A0 A2 A1))) (A0 A2 A1)))) (A4 (A9 2 a4y.nd (A7 (b0e T) T.g_z1g T.F_z1g.kp T.b_z1g (A0 (A7 (a2u T) T.g_z1s T.F_z1s.kp T.b_z1s (A0 (A7 (a2V T) T.g_z11 T.F_z11.kp T.b_z11 (A0 0 (A0 A2 A1))) (A0 A2 A1))) (A0 A2 A1)))) (A4 (A9 3 a4y.nd (B7 (A0 (A8 a0k 1 A2) (A0 (A6 a0m (A6 a0m (A6 a0m (A8 a0k 1 A2) B3) (A8 a0k 2 A2)) B3) (A0 (A6 a0m (A6 a0m (A6 a0m (A6 a0m (A6 a0m (A8 a0k 1 A2) B3) (A8 a0k 2 A2)) B3) (A8 a0k 2 A2)) B3) (A0 (A8 a0k 1 A2) A1)))))) (A4 (A9 3 a4y.nd (A6 a0m 3 (B7 (A0 (A6 a0m (A6 a0m (A6 a0m (A8 a0k 1 A2) B3) (A8 a0k 2 A2)) B3) (A0 (A8 a0k 1 A2) (A0 (A6 a0m (A6 a0m (A6 a0m (A6 a0m (A6 a0m (A8 a0k 1 A2) B3) (A8 a0k 2 A2)) B3) (A8 a0k 2 A2)) B3) A1)))))) (A3 (A5 (C9 a1o 3 D2 (C5 (A6 a0m A2 (A6 a0F (A7 (a2V T) T.g_z11 T.F_z11.kp T.b_z11 (A0 0 (A0 A2 A1))) A2)))))))))›,?_⟩
  rw [show a0q b3A [V.ref a]=[some (V.ref a),none,none,none] from rfl]
  simp only [a1y,a2m,a0z,a0i,a0o,Qa,tC,a0y,Qf,a0w,Qg,Qh,a2W,tOp,Qb,a0K,tSl,a1w,a2o,a0b]
  refine ⟨a,ns,0,rfl,hS,hl,by decide,by decide,fun c0=>?_⟩
  refine ⟨c0,3,rfl,by decide,fun Na nm H1 s1 hNn hNa hNl hNw=>?_⟩
  have hS1:SqL K H1 a (ns.map V.int):=s1.seq hS
  simp only []
  refine ⟨a,ns,0,rfl,hS1,hl,by decide,by decide,fun c1=>?_⟩
  simp only [a1I]
  intro r hr
  refine ⟨r,2,rfl,by decide,fun Ta th H2 s2 hTn hTa hTl hTw=>?_⟩
  have hN2:=s2 _ _ hNa
  obtain ⟨n0,n1,n2,rfl⟩:∃n0 n1 n2,nm=[n0,n1,n2]:=by
   match nm,hNl with
   | [x,y,z],_=>exact ⟨x,y,z,rfl⟩
  obtain ⟨t0,t1,rfl⟩:∃t0 t1,th=[t0,t1]:=by
   match th,hTl with
   | [x,y],_=>exact ⟨x,y,rfl⟩
  have w0:=hNw n0 (by simp)
  have w1:=hNw n1 (by simp)
  have w2:=hNw n2 (by simp)
  have u0:=hTw t0 (by simp)
  have u1:=hTw t1 (by simp)
  clear hNl hTl
  have b0:=w0.2.1
  have b1:=w1.2.1
  have b2:=w2.2.1
  have d0:=u0.2.1
  have d1:=u1.2.1
  have lw:∀{l:List Nat},IsW l→∀x∈l,x < 128:=fun h x hx=>b3d (h.2.2 x hx)
  have ne:∀{l:List Nat},IsW l→l≠[]:=fun h z=>by have:=h.1;rw [z] at this;simp at this
  have ap:∀{l m:List Nat},IsW l→m.length≤22→(∀x∈m,x < 128)→TxN 30 (mk (l++m)):=fun {l m} h h1 h2=>TxN.of (fun z=>ne h (List.append_eq_nil_iff.mp z).1) (by rw [Xa];have:=h.2.1;omega) (fun x hx=>(Xn.mp hx).elim (lw h x) (h2 x))
  simp only []
  rw [show (Xs "(")=mk [40] by decide+kernel,show (Xs ")")=mk [41] by decide+kernel,show (Xs ",")=mk [44] by decide+kernel]
  repeat (first | refine a0n (SqL.of hN2) rfl ?_ | refine a0n (SqL.of hTa) rfl ?_ | refine b0F (by simp only [Xa,Qj,Qr];omega) ?_)
  refine ⟨by simp only [Qj,Qr];decide,fun p1 hp1=>?_⟩
  obtain ⟨H3,e3,s3,h3⟩:=a0J hp1 (.lst ([mk n0,mk (n1++[40]++t0++[41]),mk (n0++[40]++t1++[44]++t0++[41]),mk n2].map V.str))
  have e3':upd H2 p1 (.lst [V.str (mk n0),sv (n1++[40]++t0++[41]),sv (n0++[40]++t1++[44]++t0++[41]),V.str (mk n2)])=H3:=e3
  rw [e3']
  have hN3:=s3 _ _ hN2
  have hT3:=s3 _ _ hTa
  repeat (first | refine a0n (SqL.of hN3) rfl ?_ | refine a0n (SqL.of hT3) rfl ?_ | refine b0F (by simp only [Xa,Qj,Qr];omega) ?_)
  refine ⟨by simp only [Qj,Qr];decide,fun p2 hp2=>?_⟩
  obtain ⟨H4,e4,s4,h4⟩:=a0J hp2 (.lst ([mk (n1++[40]++t1++[41]),mk n1,mk (n2++[40]++t0++[44]++t0++[41])].map V.str))
  have e4':upd H3 p2 (.lst [sv (n1++[40]++t1++[41]),V.str (mk n1),sv (n2++[40]++t0++[44]++t0++[41])])=H4:=e4
  rw [e4']
  refine a9D (s4 _ _ h3) h4 (by simp) fun p3 hp3=>?_
  obtain ⟨all,eall⟩:∃all:List Str,[mk n0,mk (n1++[40]++t0++[41]),mk (n0++[40]++t1++[44]++t0++[41]),mk n2]++[mk (n1++[40]++t1++[41]),mk n1,mk (n2++[40]++t0++[44]++t0++[41])]=all:=⟨_,rfl⟩
  have hall:∀z∈all,TxN 30 z:=by
   have one:∀{l:List Nat},IsW l→∀x∈[40]++l++[41],x < 128:=fun {l} h x hx=>by
    simp only [Xn,Qt] at hx
    rcases hx with (rfl | e) | rfl
    ·decide
    ·exact lw h x e
    ·decide
   have two:∀{l m:List Nat},IsW l→IsW m→∀x∈[40]++l++[44]++m++[41],x < 128:=fun {l m} h k x hx=>by
    simp only [Xn,Qt] at hx
    rcases hx with (((rfl | e) | rfl) | e) | rfl
    ·decide
    ·exact lw h x e
    ·decide
    ·exact lw k x e
    ·decide
   intro z hz
   rw [←eall] at hz
   simp only [Xn,Qx,Yi,or_false] at hz
   rcases hz with (rfl | rfl | rfl | rfl) | (rfl | rfl | rfl)
   ·exact TxN.of (ne w0) ‹om› (lw w0)
   ·have:=ap (l:=n1) (m:=[40]++t0++[41]) w1 (by simp;omega) (one u0);simpa [Yl] using this
   ·have:=ap (l:=n0) (m:=[40]++t1++[44]++t0++[41]) w0 (by simp;omega) (two u1 u0);simpa [Yl] using this
   ·exact TxN.of (ne w2) ‹om› (lw w2)
   ·have:=ap (l:=n1) (m:=[40]++t1++[41]) w1 (by simp;omega) (one u1);simpa [Yl] using this
   ·exact TxN.of (ne w1) ‹om› (lw w1)
   ·have:=ap (l:=n2) (m:=[40]++t0++[44]++t0++[41]) w2 (by simp;omega) (two u0 u0);simpa [Yl] using this
  have hal:all.length=7:=by rw [←eall];rfl
  rw [eall]
  obtain ⟨H5,e5,s5,h5⟩:=a0J hp3 (.lst (all.map V.str));rw [e5]
  have s25:=(s3.trans s4).trans s5
  have hS5:SqL K H5 a (ns.map V.int):=(s2.trans s25).seq hS1
  try skip
  refine ⟨a,ns,1,rfl,hS5,hl,by decide,by decide,fun c2=>?_⟩
  have m6:=a1i (i:=c2) (j:=6) ‹dc›
  simp only [a0Y,a0N,a2B]
  refine ⟨by decide,.inr (.inl ⟨p3,_,rfl,SqL.of h5,fun p4 hp4=>?_⟩)⟩
  rw [a3F _ ‹om›,←Yn]
  obtain ⟨H6,e6,s6,h6⟩:=a0J hp4 (.lst ((all.take (2+c2 % 6).toNat).map V.str));rw [e6]
  have s06:=((s1.trans s2).trans s25)
  exact q p4 _ H6 (s06.trans s6) (none_of s06 hp4) h6 (by rw [Xp];omega) (by rw [Xp];omega) fun z hz=>hall z (Zm hz)
theorem a5B (T:Txt K mg t):a0S P w K mg base CX0 1 t.f_z0v t.fd_z0v ["self","label","head","body"] (b4N K):=by
 refine T.F_z0v.ok b3s (fun vs H Q E h=>?_) (fun cdv A outer s H vs Q E hr h=>?_)
 ·obtain ⟨x,C,dx,lb,hd,b,bs,rfl,hx,hC,hb,q⟩:=h;rfl
 ·obtain ⟨x,C,dx,lb,hd,b,bs,rfl,hx,hC,hb,q⟩:=h
  refine ⟨_,‹A4 (E5 0 1) (A4 (E5 0 2) (A3 (E5 0 (D3 a3q T.z_tuple a3f (A0 3 A1)))))›,?_⟩
  rw [show a0q b3k [V.ref x,lb,hd,V.ref b]=[some (V.ref x),some (lb),some (hd),some (V.ref b)] from rfl]
  obtain ⟨cl,n1,n2,n3⟩:=hC
  simp only [a1y,b6o,a0o,Qb,Qa,tCB,a0i,a0y,a0b]
  have cut:∀(H0:Hp),(∀c o,H c=some o→c≠x→H0 c=some o)→H0 x=some (.ins C dx (a1q "head" hd (a1q "label" lb [])))→∀t,H0 t=some (.tup bs)→t≠x→(∀c o,H c=some o→c≠x→upd H0 x (.ins C dx (a6J lb hd t)) c=some o)∧a1t (upd H0 x (.ins C dx (a6J lb hd t))) x C lb hd bs:=fun H0 k0 h0 t ht htx=>
   ⟨fun c o e hc=>by rw [a0d hc];exact k0 c o e hc,dx,t,a0f,by rw [a0d htx];exact ht⟩
  refine ⟨x,C,dx,_,rfl,hx,cl,n1,by show 0 < 1000;decide,x,C,dx,_,rfl,a0f,cl,n2,by show 1 < 1000;decide,?_⟩
  rw [b2n]
  obtain ⟨H1,e1,k1,h1⟩:∃H',upd H x (.ins C dx (a1q "head" hd (a1q "label" lb [])))=H'∧(∀c o,H c=some o→c≠x→H' c=some o)∧H' x=some (.ins C dx (a1q "head" hd (a1q "label" lb []))):=⟨_,rfl,fun c o e hc=>by rw [a0d hc];exact e,a0f⟩
  rw [e1]
  have hlen:(a1q "head" hd (a1q "label" lb [])).length < 1000:=by
   rw [show a1q "head" hd (a1q "label" lb [])=([("label",lb),("head",hd)]:List (Str×V)) from by
    show (if ("label":Str)="head" then _ else _)=_
    rw [if_neg ‹dk›];rfl]
   show 2 < 1000;decide
  rcases hb with hb | ⟨hb,hb'⟩
  ·have hb1:SqL K H1 b bs:=by
    rcases hb with (hb | ⟨o,hb⟩) | hb
    ·exact .inl (.inl (k1 _ _ hb (a1O hb hx ‹iz›)))
    ·exact .inl (.inr ⟨o,k1 _ _ hb (a1O hb hx ‹iz›)⟩)
    ·exact .inr hb
   refine ⟨b,bs,rfl,.inl ⟨hb1,fun t ht=>?_⟩⟩
   have htx:t≠x:=fun z=>by rw [z,h1] at ht;cases ht
   obtain ⟨H2,e2,s2,h2⟩:=a0J ht (.tup bs);rw [e2]
   obtain ⟨a1,a2⟩:=cut H2 (fun c o e hc=>s2 _ _ (k1 c o e hc)) (s2 _ _ h1) t h2 htx
   exact ⟨x,C,dx,_,rfl,s2 _ _ h1,cl,n3,hlen,q _ a1 a2⟩
  ·have hbx:b≠x:=a1O hb' hx ‹iz›
   have hb1:=k1 _ _ hb' hbx
   refine ⟨b,bs,rfl,.inr ⟨SqT.of hb1,?_⟩⟩
   obtain ⟨a1,a2⟩:=cut H1 k1 h1 b hb1 hbx
   exact ⟨x,C,dx,_,rfl,h1,cl,n3,hlen,q _ a1 a2⟩
theorem b4n (T:Txt K mg t):a0S P w K mg base CX0 2 t.f_z0x t.fd_z0x ["self","head"] (b1r K t.C_Fact):=by
 refine T.F_z0x.ok b3h (fun vs H Q E h=>?_) (fun cdv A outer s H vs Q E hr h=>?_)
 ·obtain ⟨x,dx,hd,rfl,hx,q⟩:=h;rfl
 ·obtain ⟨x,dx,hd,rfl,hx,q⟩:=h
  refine ⟨_,‹A3 (C6 (G8 (E9 (.ref t.C_Rule) T.g_Rule rfl) T.cm_Rule (a5B T) (hr.mono ‹dc›) T.b_z0v .nil a8M (A0 0 (A0 B3 (A0 1 (A0 (D0 A1) A1))))))›,?_⟩
  rw [show a0q b3Y [V.ref x,hd]=[some (V.ref x),some (hd)] from rfl]
  simp only [a2y,b0N,tC,a0i,a0o,Qa,Qb,a5a,a0y,Qf,a0b]
  refine ⟨(by trivial),by decide,fun b hb=>?_⟩
  obtain ⟨H1,e1,s1,h1⟩:=a0J hb (.tup []);rw [e1]
  refine ⟨x,t.C_Fact,dx,_,hd,b,[],rfl,s1 _ _ hx,⟨T.cl_Fact,T.nf_Fact_label,T.nf_Fact_head,T.nf_Fact_body⟩,.inr ⟨SqT.of h1,h1⟩,fun H' k r=>?_⟩
  exact q _ (fun c o e hc=>k c o (s1 _ _ e) hc) r
theorem b3O (T:Txt K mg t):a0S P w K mg base CX0 1 t.f_z1h t.fd_z1h ["_law_pool_here","_law_number"] b1j:=by
 refine T.F_z1h.ok a9Z (fun vs H Q E h=>?_) (fun cdv A outer s H vs Q E hr h=>?_)
 ·obtain ⟨P0,n,pl,rfl,hP,hp1,hp7,hpo,q⟩:=h;rfl
 ·obtain ⟨P0,n,pl,rfl,hP,hp1,hp7,hpo,q⟩:=h
  refine ⟨_,‹A4 (A9 2 a9Z.nd (A8 a0k 0 (A6 a0F (A6 a1x 1 A2) (B8 a0s T.z_len a0u (A0 0 A1))))) (A4 (B2 (B1 (a1n hr.units) (A6 a0F 1 A2) A2 (a0v _)) (A3 (A5 (A6 a0m B3 2))) B4) (A3 (A5 2)))›,?_⟩
  rw [show a0q b4r [V.ref P0,V.int n]=[some (V.ref P0),some (V.int n),none] from rfl]
  simp only [a1y,a2m,tOp,a0o,Qa,Qb,tC,tCB,a0i,a0y,a0w,a1J,a0I,Qg,Qh,a0K,a0b,a0L,a0Y,a1r,a1p,decide_eq_true_eq,a8V]
  refine ⟨⟨by decide,by decide⟩,a0t (SqL.of hP) ?_⟩
  rw [Qc]
  simp only [a0Y]
  have m1:=a1i (i:=n / 3) (j:=(pl.length:Int)) ‹om›
  obtain ⟨v,e,hv,_⟩:=a2e (xs:=pl.map V.str) (i:=n / 3 % (pl.length:Int)) m1.1 (by rw [Qc];exact m1.2)
  obtain ⟨z,hz,rfl⟩:=Qn.mp hv
  have hzo:=hpo z hz
  have hzl:=hzo.len
  refine ⟨by omega,a0n (SqL.of hP) e ⟨by decide,a1d (fun _=>?_) (fun _=>q z (hzo.up ‹dc›) (b6x hz))⟩⟩
  rw [a1C]
  exact ⟨Qi (Jt (show (Xs "-").length≤1 by decide+kernel) hzl) ‹dc›,q _ hzo.neg (b3K hz)⟩
theorem b5p (T:Txt K mg t):a0S P w K mg base CX0 2 t.f_z13 t.fd_z13 ["_law_cell","_law_many","_law_size","_law_plain"] a7d:=by
 refine T.F_z13.ok a4M (fun vs H Q E h=>?_) (fun cdv A outer s H vs Q E hr h=>?_)
 ·obtain ⟨c,m,sz,p,rfl,hm,hsz,q⟩:=h;rfl
 ·obtain ⟨c,m,sz,p,rfl,hm,hsz,q⟩:=h
  refine ⟨_,‹A4 (A9 4 a4M.nd (B7 A1)) (A4 (A9 5 a4M.nd (A6 a1x 0 A2)) (A4 (C2 (E3 (A0 1 A1)) (B0 6 a4M.nd) (A3 (B2 (B9 3) (A4 (C6 (C4 Qz Xe Xf a0B 4 (A0 (A6 a0F 5 2) A1))) (A3 (A9 5 a4M.nd (A6 a1x 5 2)))) (A3 (C6 (C4 Qz Xe Xf a0B 4 (A0 (A7 (a2u T) T.g_z1s T.F_z1s.kp T.b_z1s (A0 0 (A0 (A6 a0m A2 6) A1))) A1))))))) (A3 (A5 4))))›,?_⟩
  rw [show a0q b4v [V.int c,V.int m,V.int sz,V.bl p]=[some (V.int c),some (V.int m),some (V.int sz),some (V.bl p),none,none,none] from rfl]
  simp only [a1y,a2m,a2W,a0y,a0w,tOp,a0o,Qg,Qh,Qa,tC,a0A,a5j,a0i,Qb,a0b,a0Y,a8V]
  refine ⟨by decide,fun D hD=>⟨⟨by decide,by decide⟩,_,rfl,by omega,by omega,?_⟩⟩
  obtain ⟨H1,e1,s1,h1⟩:=a0J hD (.lst []);rw [e1]
  refine a1D (n:=m.toNat) (lo:=0) (fun i σ H'=>∃(is:List Int) (a3x:Int) (x6:Option V),σ=[some (V.int c),some (V.int m),some (V.int sz),some (V.bl p),some (V.ref D),some (V.int a3x),x6]∧a0h H H'∧H' D=some (.lst (is.map V.int))∧is.length=i)
   ⟨[],_,_,rfl,s1,h1,rfl⟩ ?_ ?_
  ·rintro i σ H2 hi ⟨is,a3x,x6,rfl,s2,hD2,hil⟩
   have hb:(is.map V.int).length < sizeLine:=Xj (show _≤1000 by rw [Qc];omega) ‹dc›
   have fin:∀y:Int,a0h H (upd H2 D (.lst (is.map V.int++[V.int y])))∧upd H2 D (.lst (is.map V.int++[V.int y])) D=some (.lst ((is++[y]).map V.int))∧(is++[y]).length=i+1:=fun y=>
    ⟨fun b o e=>by rw [a0d (a0c e hD)];exact s2 _ _ e,by rw [a0f,Xo];rfl,by simp [hil]⟩
   simp only [a0w,a1J,tB,a0o,Qg,Qh,Qb,Qa,a1y,a2y,tBM,a0i,tOp,a0y,a2m,a0b,a0Y,a8V,a0z,tC,Qf,a0N,a1I,a1p]
   refine a1d (fun _=>?_) (fun _=>?_)
   ·refine ⟨.inl ⟨rfl,_,SqL.of hD2⟩,by omega,D,_,_,rfl,rfl,hD2,hb,⟨by omega,by omega⟩,is++[a3x % sz],_,_,rfl,(fin _).1,(fin _).2.1,(fin _).2.2⟩
   ·refine ⟨.inl ⟨rfl,_,SqL.of hD2⟩,fun r hr=>⟨D,_,_,rfl,rfl,hD2,hb,is++[r],_,_,rfl,(fin _).1,(fin _).2.1,(fin _).2.2⟩⟩
  ·rintro σ H2 ⟨is,a3x,x6,rfl,s2,hD2,hil⟩
   simp only [a0K,a0o,Qb,Qa,a0b]
   exact q D is H2 s2 hD hD2 hil
theorem b4W (T:Txt K mg t):a0S P w K mg base CX0 4 t.f_z1o t.fd_z1o ["_law_pool_here","_law_cell","_law_k","_law_plain"] (a9I t):=by
 refine T.F_z1o.ok a4H (fun vs H Q E h=>?_) (fun cdv A outer s H vs Q E hr h=>?_)
 ·obtain ⟨P0,c,k,p,pl,rfl,hP,hp1,hp7,hpo,hk,q⟩:=h;rfl
 ·obtain ⟨P0,c,k,p,pl,rfl,hP,hp1,hp7,hpo,hk,q⟩:=h
  refine ⟨_,‹A4 (A9 4 a4H.nd (A8 a0k (B7 (A0 A2 (A0 A2 (A0 A2 (A0 A2 (A0 A2 (A0 A2 (A0 A2 (A0 A2 A1))))))))) (A6 a0F 1 A2))) (A4 (D9 5 (C0 (a0a a5Y) b2j ["_law_number","_law_pool_here"] [none,some 0]) (B6 (A7 (b5p T) T.g_z13 T.F_z13.kp T.b_z13 (A0 1 (A0 (A6 a0m A2 4) (A0 (A6 a3n A2 (B8 a0s T.z_len a0u (A0 0 A1))) (A0 3 A1)))))) (B0 0 (show Xq (["_law_number","_law_pool_here"]:List Str) by decide+kernel)) D6 (A7 (b3O T) T.g_z1h T.F_z1h.kp T.b_z1h (A0 1 (A0 0 A1))) a4H.nd) (A4 (A9 6 a4H.nd (A6 a0F (A6 a1x 1 A2) A2)) (A4 (A9 7 a4H.nd (A6 a0m B3 (D3 a4I T.z_str a8Q (A0 2 A1)))) (E1 (B2 (C7 (D5 (B1 (a1n hr.units) 6 A2 (a0v _)) (D7 (B1 (a1n hr.units) 4 A2 (a0v _))))) (A3 (A5 (F0 T.mk_Fact (b4n T) T.g_Fact T.b_z0x (A0 (A8 a0k 5 A2) A1)))) B4) (A4 (B2 (B1 a3m 6 A2 (a0v _)) (A3 (A5 (F0 T.mk_Sure (a5B T) T.g_Sure T.b_z0v (A0 7 (A0 (A8 a0k 5 A2) (A0 (C9 a1o 5 (C5 A2) D2) A1)))))) B4) (A4 (B2 (B1 (a1n hr.units) 6 A2 (a0v _)) (A3 (A5 (F0 T.mk_Block (a5B T) T.g_Block T.b_z0v (A0 7 (A0 (A8 a0k 5 A2) (A0 (C9 a1o 5 (C5 A2) D2) A1)))))) B4) (A3 (A5 (F0 T.mk_Most (a5B T) T.g_Most T.b_z0v (A0 7 (A0 (A8 a0k 5 A2) (A0 (C9 a1o 5 (C5 A2) D2) A1))))))))))))›,?_⟩
  rw [show a0q b2j [V.ref P0,V.int c,V.int k,V.bl p]=[some (V.ref P0),some (V.int c),some (V.int k),some (V.bl p),none,none,none,none] from rfl]
  simp only [a1y,a2m,tOp,a2W,a0i,tC,a0y,a0o,Qb,Qa,a0w,Qg,Qh,tCB,a1C,a0b,a0Y,a8V,a0r,a1c,a0z,Qf]
  refine ⟨by simp only [Qj,Qr];decide,fun p1 hp1'=>?_⟩
  obtain ⟨H1,e1,s1,h1⟩:=a0J hp1' (.lst [V.int 0,V.int 1,V.int 1,V.int 1,V.int 2,V.int 2,V.int 3,V.int 4]);rw [e1]
  have m8:=a1i (i:=c) (j:=8) ‹dc›
  obtain ⟨v8,e8,hv8,_⟩:=a2e (xs:=[V.int 0,V.int 1,V.int 1,V.int 1,V.int 2,V.int 2,V.int 3,V.int 4]) m8.1 m8.2
  obtain ⟨mn,rfl,hmn⟩:∃n:Int,v8=.int n∧(0≤n∧n≤4):=by
   simp only [Qx,Yi,or_false] at hv8
   rcases hv8 with rfl | rfl | rfl | rfl | rfl | rfl | rfl | rfl<;>exact ⟨_,rfl,by decide⟩
  refine ⟨by decide,a0n (SqL.of h1) e8 ?_⟩
  simp only [a0N]
  have hP1:=s1 _ _ hP
  refine a0t (SqL.of hP1) ?_
  rw [Qc]
  simp only [a0Y,b2z]
  refine ⟨.inl ‹dc›,?_⟩
  refine ⟨c,1+mn,_,p,rfl,by omega,by omega,fun D is H2 s2 hDn hD hil=>?_⟩
  have hP2:=s2 _ _ hP1
  simp only [a1u]
  refine ⟨⟨_,SqL.of hD⟩,?_⟩
  refine a4B (a2E (xs:=is.map V.int)) (Qi (show (is.map V.int).length≤1000 by rw [Qc];omega) ‹dc›) [some (V.ref P0)] rfl (fun i v=>∃z,v=V.str z∧(TxN 31 z∧z∈a9w pl)) (fun H' s=>SqL.of (s _ _ hD)) (fun i H' R hi s hR=>?_) (fun X H3 ys hXn s3 hX hyl hv=>?_)
  ·have hi':i < is.length:=by simpa using hi
   have e2:((is.map V.int)[i]?).getD .non=V.int is[i]:=by rw [Qy,Qe hi'];rfl
   rw [e2]
   simp only [a0z,a0i,a0o,Qb,Qa,a0y,Qf,a0b]
   exact ⟨P0,is[i],pl,rfl,s _ _ hP2,hp1,hp7,hpo,fun z hz hz2=>hR _ _ (a0h.refl _) ⟨z,rfl,hz,hz2⟩⟩
  obtain ⟨zs,rfl,hzo⟩:=b4A hv
  have hzl:zs.length=(1+mn).toNat:=by rw [Qc,Qc] at hyl;omega
  obtain ⟨z0,zr,rfl⟩:∃z0 zr,zs=z0::zr:=by
   cases zs with
   | nil=>simp at hzl;omega
   | cons z0 zr=>exact ⟨z0,zr,rfl⟩
  have hzr:zr.length≤4:=by simp at hzl;omega
  have s03:=(s1.trans s2).trans s3
  have o0:=(hzo z0 Xg).1
  have or:∀q∈zr,TxN 31 q:=fun q hq=>(hzo q (Qu _ hq)).1
  have eR:∀k lb,RwE (a9w pl) (k,lb,z0,zr):=fun _ _=>⟨(hzo z0 Xg).2,fun q hq=>(hzo q (Qu _ hq)).2⟩
  obtain ⟨kn,rfl⟩:∃kn:Nat,k=(kn:Int):=⟨k.toNat,by omega⟩
  have hlab:=b5A kn ‹om›
  try skip
  refine ⟨⟨by decide,by decide⟩,by decide,_,rfl,?_,?_,?_⟩
  ·show kn.log2 < 1920
   by_cases h0:kn=0
   ·rw [h0];decide
   ·exact (Nat.log2_lt h0).mpr (Xd (show kn < 2 ^ 6 by omega) (Nat.pow_le_pow_right ‹dc› ‹dc›))
  ·have:=hlab.2
   rw [a9T] at this
   exact Qi this ‹dc›
  obtain ⟨lb,elb⟩:∃lb,Xs "r"++Xs (toString (kn:Int))=lb:=⟨_,rfl⟩
  rw [elb] at hlab ⊢
  have okR:∀k,0 < k→k < 4→RwT (k,lb,z0,zr):=fun k h0 h4=>⟨⟨h4,fun z=>absurd (show k=0 from z) ‹om›,hlab,o0.ok ‹dc›,fun q hq=>(or q hq).ok ‹dc›,hzr⟩,o0,or⟩
  have okF:RwT (0,"",z0,[]):=⟨⟨show 0 < 4 by decide,fun _=>⟨rfl,rfl⟩,(⟨by decide+kernel,by decide+kernel⟩:OkS ""),o0.ok ‹dc›,(fun q hq=>absurd hq Yi),show 0≤4 by decide⟩,o0,(fun q hq=>absurd hq Yi)⟩
  generalize hw:c / 8 % 6=w0
  refine ⟨fun σ' H'=>σ'=[some (V.ref P0),some (V.int c),some (V.int kn),some (V.bl p),some (V.int mn),some (V.ref X),some (V.int w0),some (V.str lb)]∧H'=H3,?_,?_⟩
  ·simp only [a1J,a8l,a0I,tOp,a0o,Qb,Qa,tC,a0K,a9p,a0i,a0y,Qf,a0b,a0L,a1r,a1p,decide_eq_true_eq,a2g]
   refine a1d (fun _=>?_) (fun _=>⟨by trivial,by trivial⟩)
   refine a1d (fun _=>?_) (fun _=>⟨by trivial,by trivial⟩)
   refine a0n (SqL.of hX) (a3a _ _) ?_
   intro x dx nx ndx ne
   obtain ⟨s,hx⟩:=b3j (C:=t.C_Fact) nx ndx
   exact ⟨x,dx,_,rfl,hx,fun H' k r=>⟨rfl,q x (0,"",z0,[]) H' (fun c o e=>k c o (s _ _ (s03 _ _ e)) (a0c (s03 _ _ e) nx)) okF ⟨(eR 0 "").1,fun q hq=>absurd hq Yi⟩ r⟩⟩
  rintro σ' H' ⟨rfl,rfl⟩
  simp only [a1y,a1J,a0I,tOp,a0o,Qb,Qa,tC,a0K,a9p,a0i,tSl,a2o,a1w,a0y,Qf,a2B,a0b,a0L,a1r,a1p,decide_eq_true_eq,a1R]
  refine a1d (fun _=>?_) (fun _=>a1d (fun _=>?_) (fun _=>?_))
  ·refine a0n (SqL.of hX) (a3a _ _) (.inr (.inl ⟨X,_,rfl,SqL.of hX,fun Z hZ=>?_⟩))
   rw [show a2x (Vg V.str (z0::zr)) (some 1) none=zr.map V.str from b1y _ _]
   obtain ⟨H4,e4,s4,h4⟩:=a0J hZ (.lst (zr.map V.str));rw [e4]
   intro x dx nx ndx ne
   obtain ⟨s,hx⟩:=b3j (C:=t.C_Sure) nx ndx
   exact ⟨x,t.C_Sure,dx,_,_,Z,_,rfl,hx,⟨T.cl_Sure,T.nf_Sure_label,T.nf_Sure_head,T.nf_Sure_body⟩,.inl (SqL.of (s _ _ h4)),fun H' k r=>⟨rfl,q x (1,lb,z0,zr) H' (fun c o e=>k c o (s _ _ (s4 _ _ (s03 _ _ e))) (a0c (s4 _ _ (s03 _ _ e)) nx)) (okR 1 ‹dc› ‹dc›) (eR _ _) r⟩⟩
  ·refine a0n (SqL.of hX) (a3a _ _) (.inr (.inl ⟨X,_,rfl,SqL.of hX,fun Z hZ=>?_⟩))
   rw [show a2x (Vg V.str (z0::zr)) (some 1) none=zr.map V.str from b1y _ _]
   obtain ⟨H4,e4,s4,h4⟩:=a0J hZ (.lst (zr.map V.str));rw [e4]
   intro x dx nx ndx ne
   obtain ⟨s,hx⟩:=b3j (C:=t.C_Block) nx ndx
   exact ⟨x,t.C_Block,dx,_,_,Z,_,rfl,hx,⟨T.cl_Block,T.nf_Block_label,T.nf_Block_head,T.nf_Block_body⟩,.inl (SqL.of (s _ _ h4)),fun H' k r=>⟨rfl,q x (3,lb,z0,zr) H' (fun c o e=>k c o (s _ _ (s4 _ _ (s03 _ _ e))) (a0c (s4 _ _ (s03 _ _ e)) nx)) (okR 3 ‹dc› ‹dc›) (eR _ _) r⟩⟩
  ·refine a0n (SqL.of hX) (a3a _ _) (.inr (.inl ⟨X,_,rfl,SqL.of hX,fun Z hZ=>?_⟩))
   rw [show a2x (Vg V.str (z0::zr)) (some 1) none=zr.map V.str from b1y _ _]
   obtain ⟨H4,e4,s4,h4⟩:=a0J hZ (.lst (zr.map V.str));rw [e4]
   intro x dx nx ndx ne
   obtain ⟨s,hx⟩:=b3j (C:=t.C_Most) nx ndx
   exact ⟨x,t.C_Most,dx,_,_,Z,_,rfl,hx,⟨T.cl_Most,T.nf_Most_label,T.nf_Most_head,T.nf_Most_body⟩,.inl (SqL.of (s _ _ h4)),fun H' k r=>⟨rfl,q x (2,lb,z0,zr) H' (fun c o e=>k c o (s _ _ (s4 _ _ (s03 _ _ e))) (a0c (s4 _ _ (s03 _ _ e)) nx)) (okR 2 ‹dc› ‹dc›) (eR _ _) r⟩⟩
theorem b3p (T:Txt K mg t):a0S P w K mg base CX0 1 t.f_z1b t.fd_z1b ["_law_rules","_law_cell"] (a9n t):=by
 refine T.F_z1b.ok b4U (fun vs H Q E h=>?_) (fun cdv A outer s H vs Q E hr h=>?_)
 ·obtain ⟨a,c,zr,rfl,hR,q⟩:=h;rfl
 ·obtain ⟨a,c,zr,rfl,hR,q⟩:=h
  refine ⟨_,‹A4 (B2 (B1 (a1n hr.units) (A6 a0F (A6 a1x 1 A2) A2) A2 (a0v _)) (A3 (A5 (G9 rfl rfl T.z_list rfl T.z_reversed 0))) B4) (A3 (A5 (D3 a0C T.z_list a0E (A0 0 A1))))›,?_⟩
  rw [show a0q b4x [V.ref a,V.int c]=[some (V.ref a),some (V.int c)] from rfl]
  have fin:∀(p:Addr) (zs:List VR),H p=none→(∀x∈zs,x∈zr)→zs.length=zr.length→Q (.ref p) (upd H p (.lst (zs.map (·.1)))):=fun p zs hp hm hl=>by
   obtain ⟨H1,e1,s1,h1⟩:=a0J hp (.lst (zs.map (·.1)));rw [e1]
   exact q p zs H1 s1 hp ⟨h1,fun x hx=>(hR.2.1.same s1) x (hm x hx),by rw [hl];exact hR.2.2.1,fun x hx=>hR.2.2.2 x (hm x hx)⟩ hm
  simp only [a1y,a1J,a0I,tOp,a0o,Qb,Qa,tC,a0K,a0L,tCB,a0i,a0y,a0b,a0Y,a8V,a1r,a1p,decide_eq_true_eq]
  refine ⟨⟨by decide,by decide⟩,by decide,a1d (fun _=>?_) (fun _=>?_)⟩
  ·refine ⟨V.ref a,rfl,a,_,rfl,SqL.of hR.1,fun p hp=>?_⟩
   rw [←List.map_reverse]
   exact fin p zr.reverse hp (fun x hx=>List.mem_reverse.mp hx) (Vn)
  ·exact ⟨a,_,rfl,.inl (SqL.of hR.1),fun p hp=>fin p zr hp (fun x hx=>hx) rfl⟩
theorem b5m (T:Txt K mg t):a0S P w K mg base CX0 5 t.f_z1j t.fd_z1j ["_law_script","_law_many"] (b2q K t):=by
 refine T.F_z1j.ok a2v (fun vs H Q E h=>?_) (fun cdv A outer s H vs Q E hr h=>?_)
 ·obtain ⟨a,ns,rfl,hS,hl,q⟩:=h;rfl
 ·obtain ⟨a,ns,rfl,hS,hl,q⟩:=h
  refine ⟨_,‹A4 (A9 2 a2v.nd (A7 (b4c T) T.g_z1n T.F_z1n.kp T.b_z1n (A0 0 A1))) (A4 (A9 3 a2v.nd (C9 a1o 0 (C5 A2) (C5 (A6 a0m A2 1)))) (A4 (A9 4 a2v.nd (F2 (a1n hr.units) (A6 a0F (A6 a1x (A7 (a2V T) T.g_z11 T.F_z11.kp T.b_z11 (A0 0 (A0 A2 A1))) A2) A2) A2 (a0v _))) (A4 (D9 5 (C0 (a0a a6q) b1Q ["_law_k","_law_pool_here","_law_plain","_law_cells"] [none,some 2,some 4,some 3]) (E3 (A0 (B8 a0s T.z_len a0u (A0 3 A1)) A1)) (B0 0 (show Xq (["_law_k","_law_pool_here","_law_plain","_law_cells"]:List Str) by decide+kernel)) D6 (A7 (b4W T) T.g_z1o T.F_z1o.kp T.b_z1o (A0 1 (A0 (A8 (a1H (K:=K) rfl) 3 0) (A0 0 (A0 2 A1))))) a2v.nd) (A4 (A9 6 a2v.nd (A7 (b5D T) T.g_z1i T.F_z1i.kp T.b_z1i (A0 5 (A0 (A7 (a2V T) T.g_z11 T.F_z11.kp T.b_z11 (A0 0 (A0 A2 A1))) A1)))) (A4 (A9 7 a2v.nd (B7 A1)) (A4 (C2 (B6 2) (B0 8 a2v.nd) (A3 (C6 (C4 Qz Uk Ul a4q 7 (A0 (B7 (A0 8 (A0 (A6 a0m B3 8) A1))) A1))))) (A3 (A5 (B7 (A0 (A7 (b3p T) T.g_z1b T.F_z1b.kp T.b_z1b (A0 5 (A0 (A7 (a2V T) T.g_z11 T.F_z11.kp T.b_z11 (A0 0 (A0 A2 A1))) A1))) (A0 6 (A0 7 A1))))))))))))›,?_⟩
  rw [show a0q b1Q [V.ref a,V.int 24]=[some (V.ref a),some (V.int 24),none,none,none,none,none,none,none] from rfl]
  simp only [a1y,a2m,a0z,a0i,a0o,Qa,a0y,Qf,a0w,tSl,Qg,Qh,a2o,tC,tOp,Qb,a2W,a0A,a1c,a0b,a0r,a5j,tCB,a0N,a2B]
  refine ⟨a,ns,rfl,hS,hl,fun Pa pl H1 s1 hPn hP1 hp1 hp7 hpo=>?_⟩
  have hS1:SqL K H1 a (ns.map V.int):=s1.seq hS
  refine .inr (.inl ⟨a,_,rfl,hS1,fun Ca hCa=>?_⟩)
  obtain ⟨cs,ecs,hcl⟩:=b6S ns
  rw [ecs]
  obtain ⟨H2,e2,s2,h2⟩:=a0J hCa (.lst (cs.map V.int));rw [e2]
  have hS2:SqL K H2 a (ns.map V.int):=s2.seq hS1
  refine ⟨a,ns,1,rfl,hS2,hl,by decide,by decide,fun c1=>?_⟩
  simp only [a1u,a0Y,a8V,a1r]
  refine ⟨by decide,by decide,a0t (SqL.of h2) ?_⟩
  rw [Qc]
  refine ⟨_,rfl,by omega,by omega,?_⟩
  have hP2:=s2 _ _ hP1
  refine a7l a4w (Qi (show (cs.length:Int).toNat≤1000 by omega) ‹dc›) [some (V.ref Pa),some (V.bl (decide (c1 / 12 % 2=1))),some (V.ref Ca)] rfl (fun D i v H'=>∃r,(RwT r∧RwE (a9w pl) r)∧RuD t D v r H') ?_ (fun _ _=>trivial) (fun D i H' R hi hDn s hD hR=>?_) (fun Ru H3 ys hRn s3 hR3 hyl hv=>?_)
  ·rintro D i v Ha Hb up ⟨r,hr,p,dx,t0,e,n1,n2,g1,g2⟩
   exact ⟨r,hr,p,dx,t0,e,n1,n2,up _ _ n1 g1,up _ _ n2 g2⟩
  ·obtain ⟨zs,hD⟩:=hD
   have hi':i < cs.length:=by omega
   obtain ⟨v,e,hv,_⟩:=a2e (xs:=cs.map V.int) (i:=(0+(i:Int))) ‹om› (by rw [Qc];omega)
   obtain ⟨n,_,rfl⟩:=Qn.mp hv
   simp only [a0z,a0i,a0o,Qb,Qa,tOp,a0y,Qf,a0b]
   refine a0n (SqL.of (s _ _ h2)) e ⟨Pa,n,_,_,pl,rfl,s _ _ hP2,hp1,hp7,hpo,by omega,fun x r H' s' hr hr2 hx=>?_⟩
   obtain ⟨dx,t0,f1,f2⟩:=hx
   have hD':=s' _ _ hD
   exact hR _ _ s' ⟨r,⟨hr,hr2⟩,x,dx,t0,rfl,a1O f1 hD' ‹iz›,a1O f2 hD' ‹iz›,f1,f2⟩
  obtain ⟨zr,ezr,hzw,hzt⟩:=b5S hv
  have hzl:zr.length≤30:=by rw [←ezr,Qc] at hyl;omega
  clear hv hyl
  subst ezr
  have hR:a1M t H3 Ru zr:=⟨hR3,hzw,hzl,fun p hp=>(hzt p hp).1⟩
  have hS3:SqL K H3 a (ns.map V.int):=s3.seq hS2
  refine ⟨a,ns,2,rfl,hS3,hl,by decide,by decide,fun c2=>?_⟩
  refine ⟨Ru,c2,zr,rfl,hR,fun Pr ps prl H4 s4 hPrn hPr4 hprs hprl hpro=>?_⟩
  refine ⟨by decide,fun E hE=>?_⟩
  obtain ⟨H5,e5,s5,h5⟩:=a0J hE (.lst []);rw [e5]
  have s25:=(s3.trans s4).trans s5
  have hP5:=s25 _ _ hP2
  refine ⟨⟨_,SqL.of hP5⟩,?_⟩
  refine a0P (K:=K) (a:=Pa) (xs:=pl.map V.str) (fun i σ H'=>∃(ev:List Str) (x8:Option V),σ=[some (V.ref a),some (V.int 24),some (V.ref Pa),some (V.ref Ca),some (V.bl (decide (c1 / 12 % 2=1))),some (V.ref Ru),some (V.ref Pr),some (V.ref E),x8]∧a0h H4 H'∧H' E=some (.lst (ev.map V.str))∧ev.length=2 * i∧(∀z∈ev,TxN 31 z)∧ev=a9w (pl.take i))
   ⟨[],_,rfl,s5,h5,rfl,(fun z hz=>absurd hz Yi),rfl⟩ (fun i σ H' _ h=>by obtain ⟨_,_,_,s,_⟩:=h;exact SqL.of (s _ _ (s4 _ _ (s3 _ _ hP2)))) ?_ ?_
  ·rintro i v σ H6 hi ⟨ev,x8,rfl,s6,hE6,hel,heo,hee⟩
   obtain ⟨hi',rfl⟩:=a1P hi
   have hz:=hpo _ (Qq hi')
   simp only [a0w,a2y,tBM,a0o,Qg,Qh,Qb,Qa,a0i,a2W,tOp,tC,a0y,a0b,a1C]
   refine ⟨.inl ⟨rfl,_,SqL.of hE6⟩,?_⟩
   refine ⟨Qi (Jt (show (Xs "-").length≤1 by decide+kernel) hz.len) ‹dc›,(show 2≤sizeLine by decide),fun Z hZ=>?_⟩
   obtain ⟨H7,e7,s7,h7⟩:=a0J hZ (.lst [V.str pl[i],V.str (Xs "-"++pl[i])]);rw [e7]
   refine ⟨E,Z,_,_,rfl,rfl,s7 _ _ hE6,h7,Qi (show _≤1000 by rw [Qc];simp;omega) ‹dc›,?_⟩
   refine ⟨ev++[pl[i],"-"++pl[i]],_,rfl,fun b o e=>by rw [a0d (a0c e hE)];exact s7 _ _ (s6 _ _ e),by rw [a0f,Xo];rfl,by simp;omega,fun z hz'=>?_,by rw [hee,Xl hi'];unfold a9w;rw [List.flatMap_append];simp⟩
   rcases Xn.mp hz' with w | w
   ·exact heo z w
   ·rcases Qx.mp w with w | w
    ·rw [w];exact hz.up ‹dc›
    ·rw [Qt.mp w];exact hz.neg
  ·rintro σ H6 ⟨ev,x8,rfl,s6,hE6,hel,heo,hee⟩
   rw [Qc,Xz] at hee
   have s36:=s4.trans s6
   simp only [a0K,a2W,a0i,a0z,a0o,Qb,Qa,tC,a0y,Qf,a0b]
   refine ⟨a,ns,1,rfl,s36.seq hS3,hl,by decide,by decide,fun c3=>?_⟩
   refine ⟨Ru,c3,zr,rfl,hR.same s36,fun T0 zr' H7 s7 hTn hT hTm=>?_⟩
   refine ⟨(show 3≤sizeLine by decide),fun Z hZ=>?_⟩
   obtain ⟨H8,e8,s8,h8⟩:=a0J hZ (.lst [V.ref T0,V.ref Pr,V.ref E]);rw [e8]
   have s78:=s7.trans s8
   have s68:=s6.trans s78
   rw [Qc] at hel
   exact q Z T0 Pr E zr' ps prl ev H8 ((((s1.trans s2).trans s3).trans s4).trans s68) ⟨h8,hT.same s8,s68 _ _ hPr4,a0l.same s68 hprs,hpro,hprl,s78 _ _ hE6,heo,by omega,fun p hp=>by rw [hee];exact (hzt p (hTm p hp)).2⟩
theorem b3B (T:Txt K mg t):a0S P w K mg base CX0 2 t.f_z1p t.fd_z1p ["_law_rule_here"] (b4T t):=by
 refine T.F_z1p.ok b5g (fun vs H Q E h=>?_) (fun cdv A outer s H vs Q E hr h=>?_)
 ·obtain ⟨x,r,rfl,hx,ho,q⟩:=h;rfl
 ·obtain ⟨x,r,rfl,hx,ho,q⟩:=h
  refine ⟨_,‹A3 (A5 (F2 a1A (C8 (C3 0 T.cl_Fact T.me_Fact_word (b0J T) T.b_z0y) (C8 (C3 0 T.cl_Sure T.me_Sure_word (b0q T) T.b_z0z) (C8 (C3 0 T.cl_Most T.me_Most_word (b0G T) T.b_z10) (C3 0 T.cl_Block T.me_Block_word (a9Y T) T.b_z0o)))) (D0 (A0 B3 (A0 B3 A1))) (by with_unfolding_all rfl)))›,?_⟩
  rw [show a0q b4P [V.ref x]=[some (V.ref x)] from rfl]
  obtain ⟨x',ex,hr⟩:=id hx
  cases ex
  simp only [a0K,tOp,a5a,a0i,tC,a0y]
  refine b4Z ho.1 (a0W rfl) hr ⟨by decide+kernel,by decide+kernel,by decide+kernel⟩ ?_
  rw [a4S ho.1]
  simp only [a4a]
  refine ⟨by simp only [Qj,Qr];decide,fun p5 hp5=>?_⟩
  obtain ⟨H5,e5,s5,h5⟩:=a0J hp5 (.tup [V.str "fact",V.str "sure"]);rw [e5]
  refine a7P (r:=["fact","sure"]) (SqT.of h5) ?_
  rw [a6Z ho.1]
  exact q H5 s5
theorem b5s (T:Txt K mg t):a0S P w K mg base CX0 3 t.f_z1l t.fd_z1l ["_law_scene_here"] (a9f t):=by
 refine T.F_z1l.ok a4s (fun vs H Q E h=>?_) (fun cdv A outer s H vs Q E hr h=>?_)
 ·obtain ⟨s,T0,P0,E,zr,ps,pl,ev,rfl,hs,q⟩:=h;rfl
 ·obtain ⟨s,T0,P0,E,zr,ps,pl,ev,rfl,hs,q⟩:=h
  refine ⟨_,‹A4 (A9 1 a4s.nd (B7 A1)) (A4 (A9 2 a4s.nd (F9 A2)) (A4 (G0 (B1 a3m 2 (B8 a0s T.z_len a0u (A0 1 A1)) (a0v _)) (A4 (A9 2 a4s.nd (B8 a0s T.z_len a0u (A0 1 A1))) (A3 (C2 (B6 (A8 a0k 0 A2)) (B0 3 a4s.nd) (A3 (B2 (C7 (D5 (B9 (A7 (b3B T) T.g_z1p T.F_z1p.kp T.b_z1p (A0 3 A1))) (D5 (B1 a4D (C1 3) 1 (by with_unfolding_all rfl)) (D7 (B9 (A7 (a7Z T) T.g_z1c T.F_z1c.kp T.b_z1c (A0 3 (A0 1 A1)))))))) (A3 (C6 (C4 Qz Xe Xf a0B 1 (A0 (C1 3) A1)))) B4)))))) (A3 (A5 1))))›,?_⟩
  rw [show a0q b2K [V.ref s]=[some (V.ref s),none,none,none] from rfl]
  simp only [a1y,a2m,a2W,a0y,a0w,tUn,tC,Qg,Qh,b0n]
  refine ⟨Xr _,fun D hD=>?_⟩
  have hrl:zr.length≤30:=hs.r.2.2.1
  have hfew:∀{L:List Str},a3c ((zr.map (·.2)).map srW) [] L=true→L.length≤zr.length:=fun h=>by have:=(a2F h).2.2;rwa [Qc] at this
  refine a7t (fun m σ H'=>∃(L:List Str) (z:Int) (x3:Option V),σ=[some (V.ref s),some (V.ref D),some (V.int z),x3]∧a0h H H'∧H' D=some (.lst (L.map V.str))∧a3c ((zr.map (·.2)).map srW) [] L=true∧z≤L.length∧(z=L.length→a5h ((zr.map (·.2)).map srW) L=true)∧m=if z < L.length then zr.length+1 - L.length else 0)
   (zr.length+1) ⟨[],-1,_,rfl,a0h.upd hD,a0f,rfl,by decide,fun z=>(by cases z),by rw [if_pos ‹dc›];rfl⟩ ?_
  rintro m σ H1 ⟨L,z,x3,rfl,s1,hD1,hO,hz,hc,rfl⟩
  simp only [a0I,tOp,a0o,Qb,Qa,tCB,a0i,a0y,a1y,a2m,a0w,Qg,Qh,a0A,a1c,tC,a0b,a0K]
  refine a0t (SqL.of hD1) ?_
  rw [Qc]
  simp only [a1R,a1p,decide_eq_true_eq]
  refine a1d (fun c1=>?_) (fun c1=>?_)
  ·rw [if_pos c1]
   have hT:H T0=some (.lst (zr.map (·.1))):=hs.r.1
   refine ⟨_,fun _ _ h=>h,?_⟩
   refine a0t (SqL.of hD1) ?_
   rw [Qc]
   refine a0n (SqL.of (s1 _ _ hs.s)) rfl ⟨T0,rfl,⟨_,SqL.of (s1 _ _ hT)⟩,?_⟩
   refine a0P (K:=K) (a:=T0) (xs:=zr.map (·.1)) (fun j σ H'=>∃(L':List Str) (x3:Option V),σ=[some (V.ref s),some (V.ref D),some (V.int (L.length:Int)),x3]∧a0h H H'∧H' D=some (.lst (L'.map V.str))∧a3c ((zr.map (·.2)).map srW) [] L'=true∧((L'=L∧∀r∈(zr.take j).map (·.2),(srW r).1=true→a1E r.2.2.2 L=true→r.2.2.1∈L)∨L.length < L'.length))
    ⟨L,_,rfl,s1,hD1,hO,.inl ⟨rfl,fun r hr=>(by cases hr)⟩⟩ (fun i σ H' _ ⟨_,_,_,s',_⟩=>SqL.of (s' _ _ hT)) ?_ ?_
   ·rintro j x σ H2 hj ⟨L',y3,rfl,s2,hD2,hO2,hL2⟩
    obtain ⟨hj',rfl⟩:=a1P hj
    have hsm:=hs.r.same s2
    obtain ⟨⟨x,ex,hx⟩,ho⟩:=hsm.2.1 _ (Qq hj')
    have etk:∀r,r∈(zr.take (j+1)).map (·.2)↔r∈(zr.take j).map (·.2)∨r=zr[j].2:=fun r=>by
     rw [Xl hj',Xo,Xn,Xm,Ui,Qt]
    have hmem:zr[j].2∈zr.map (·.2):=Qn.mpr ⟨_,Qq hj',rfl⟩
    rw [ex]
    generalize zr[j].2=r at hx ho etk hmem
    have CF:=a3R T ho.1
    have hl2:=hfew hO2
    have stay:∀H',a0h H2 H'→(L'=L→(srW r).1=true→a1E r.2.2.2 L=true→r.2.2.1∈L)→∃(L':List Str) (x3:Option V),[some (V.ref s),some (V.ref D),some (V.int (L.length:Int)),some (V.ref x)]=[some (V.ref s),some (V.ref D),some (V.int (L.length:Int)),x3]∧a0h H H'∧H' D=some (.lst (L'.map V.str))∧a3c ((zr.map (·.2)).map srW) [] L'=true∧((L'=L∧∀r∈(zr.take (j+1)).map (·.2),(srW r).1=true→a1E r.2.2.2 L=true→r.2.2.1∈L)∨L.length < L'.length):=fun H' s' hc=>
     ⟨L',_,rfl,s2.trans s',s' _ _ hD2,hO2,hL2.elim (fun h=>.inl ⟨h.1,fun r' hr'=>((etk r').mp hr').elim (h.2 r') fun e=>by rw [e];exact hc h.1⟩) .inr⟩
    simp only [a0w,a1J,a8l,tB,a0z,a0i,a0o,Qg,Qh,Qb,Qa,a0y,Qf,a0I,tOp,a2Y,a2y,tBM,a0b,a0L,a2g]
    refine ⟨x,r,rfl,⟨x,rfl,hx⟩,ho,fun H3 s3=>⟨_,rfl,a1d (fun c2=>?_) (fun c2=>stay _ s3 fun _ z=>absurd z c2)⟩⟩
    obtain ⟨dx,t0,g1,g2⟩:=id (hx.same s3)
    refine ⟨x,_,dx,_,_,rfl,g1,CF.cl,CF.nh,a0M _ _ _,?_⟩
    refine a3y (SqL.of (s3 _ _ hD2)) ?_
    simp only [a1p,Xb,decide_eq_false_iff_not]
    refine a1d (fun c3=>?_) (fun c3=>stay _ s3 fun e _ _=>by rw [←e];exact Vh c3)
    refine ⟨x,D,r,L',rfl,⟨x,rfl,hx.same s3⟩,ho,s3 _ _ hD2,fun H4 s4=>⟨_,rfl,a1d (fun c4=>?_) (fun c4=>stay _ (s3.trans s4) fun e _ z=>absurd (by rw [←e] at z;exact z) c4)⟩⟩
    have s34:=s3.trans s4
    refine ⟨.inl ⟨rfl,_,SqL.of (s34 _ _ hD2)⟩,x,_,dx,_,_,rfl,s4 _ _ g1,CF.cl,CF.nh,a0M _ _ _,D,_,_,rfl,rfl,s34 _ _ hD2,Xj (show _≤1000 by rw [Qc];omega) ‹dc›,L'++[r.2.2.1],_,rfl,fun b o e=>?_,?_,?_,.inr ?_⟩
    ·rw [a0d (a0c e hD)];exact s34 _ _ (s2 _ _ e)
    ·rw [a0f,Xo];rfl
    ·rw [a4z,hO2,Zs,decide_eq_false c3,Yo,Bool.not_false,Yo]
     unfold a3v
     rw [Xv]
     refine ⟨srW r,Qn.mpr ⟨r,hmem,rfl⟩,?_⟩
     rw [c2,Yo,show (srW r).2.1=r.2.2.1 from rfl,decide_eq_true rfl,Yo]
     exact c4
    ·rw [Xa,Yy]
     rcases hL2 with ⟨rfl,_⟩ | h<;>omega
   ·rintro σ H2 ⟨L',y3,rfl,s2,hD2,hO2,hL2⟩
    rw [Qc,Xz] at hL2
    have hl2:=hfew hO2
    have hl1:=hfew hO
    rcases hL2 with ⟨rfl,h⟩ | h
    ·refine ⟨0,by omega,L',_,_,rfl,s2,hD2,hO2,Int.le_refl _,fun _=>?_,by rw [if_neg ‹om›]⟩
     rw [a2X]
     intro x b hr hb
     obtain ⟨r,hr,e⟩:=Qn.mp hr
     have e1:(srW r).1=true:=congrArg (·.1) e
     have e2:r.2.2.1=x:=congrArg (fun z:SR Str=>z.2.1) e
     have e3:r.2.2.2=b:=congrArg (fun z:SR Str=>z.2.2) e
     rw [←e2]
     exact h r hr e1 (a1j.mpr (by rw [e3];exact hb))
    ·exact ⟨zr.length+1 - L'.length,by omega,L',_,_,rfl,s2,hD2,hO2,by omega,fun z=>‹om›,by rw [if_pos ‹om›]⟩
  ·exact q D L H1 s1 hD hD1 (by unfold isS;rw [hO,hc ‹om›];rfl)
theorem b3a (T:Txt K mg t):a0S P w K mg base CX0 2 t.f_z03 t.fd_z03 ["_law_scene_here","_law_cell"] (a9s t):=by
 refine T.F_z03.ok a4x (fun vs H Q E h=>?_) (fun cdv A outer s H vs Q E hr h=>?_)
 ·obtain ⟨s,T0,P0,E,c,zr,ps,pl,ev,rfl,hs,q⟩:=h;rfl
 ·obtain ⟨s,T0,P0,E,c,zr,ps,pl,ev,rfl,hs,q⟩:=h
  refine ⟨_,‹A4 (A9 2 a4x.nd (A8 a0k (B7 (A0 B3 (A0 B3 A1))) (A6 a0F 1 A2))) (A4 (A9 3 a4x.nd (A8 a0k (A8 a0k 0 A2) (A6 a0F (A6 a1x 1 A2) (B8 a0s T.z_len a0u (A0 (A8 a0k 0 A2) A1))))) (A4 (B2 (B1 b6Z (A6 a0F (A6 a1x 1 A2) A2) A2 (a0v _)) (A3 (A5 (B7 (A0 (D0 (A0 2 (A0 3 A1))) A1)))) B4) (A4 (A9 4 a4x.nd (B7 A1)) (A4 (C2 (B6 (A8 a0k 0 A2)) (B0 5 a4x.nd) (A3 (B2 (B1 a1A (C1 5) (D0 (A0 3 (A0 (A7 (a4Q T) T.g_z12 T.F_z12.kp T.b_z12 (A0 3 A1)) A1))) (by with_unfolding_all rfl)) (A3 (C6 (C4 Qz Uk Ul a4q 4 (A0 (D1 (C0 (a0a a5V) b1s ["_law_premise","_law_cell"] [none,some 1]) (E6 (C1 5)) (B0 0 (show Xq (["_law_premise","_law_cell"]:List Str) by decide+kernel)) D6 (D0 (A0 (A8 (a1H (K:=K) rfl) (B7 (A0 B3 (A0 B3 A1))) (A6 a0F (A6 a1x 1 A2) A2)) (A0 0 A1)))) A1)))) B4))) (A3 (A5 (A6 a0m (C9 a1o 4 D2 (C5 A2)) (B7 (A0 (D0 (A0 2 (A0 3 A1))) A1)))))))))›,?_⟩
  rw [show a0q b1s [V.ref s,V.int c]=[some (V.ref s),some (V.int c),none,none,none,none] from rfl]
  obtain ⟨b,eb⟩:∃b,atI [V.str "held",V.str "refused"] (c % 2)=some (V.str (clW b)):=by
   rcases (by omega:c % 2=0∨c % 2=1) with h | h<;>rw [h]
   ·exact ⟨true,rfl⟩
   ·exact ⟨false,rfl⟩
  obtain ⟨b',eb'⟩:∃b,atI [V.str "refused",V.str "held"] (c / 512 % 2)=some (V.str (clW b)):=by
   rcases (by omega:c / 512 % 2=0∨c / 512 % 2=1) with h | h<;>rw [h]
   ·exact ⟨false,rfl⟩
   ·exact ⟨true,rfl⟩
  simp only [a1y,a2m,tOp,a2W,a0i,tC,a0y,a0o,Qb,Qa,a0w,Qg,Qh,tCB,a1J,a0I,a0K,a5a,a0b,a0L,a0A,a1c,a0Y,a8V,b2m,a1p,decide_eq_true_eq]
  refine ⟨by simp only [Qj,Qr];decide,fun p1 hp1=>⟨by decide,?_⟩⟩
  obtain ⟨H1,e1,s1,g1⟩:=a0J hp1 (.lst [V.str "held",V.str "refused"]);rw [e1]
  refine a0n (SqL.of g1) eb (a0n (SqL.of (s1 _ _ hs.s)) rfl ⟨by decide,a0n (SqL.of (s1 _ _ hs.s)) rfl (a0t (SqL.of (s1 _ _ hs.e)) ?_)⟩)
  rw [Qc]
  simp only [a0Y]
  have hen:=hs.en
  have m1:=a1i (i:=c / 2) (j:=(ev.length:Int)) ‹om›
  obtain ⟨v,e,hv,_⟩:=a2e (xs:=ev.map V.str) (i:=c / 2 % (ev.length:Int)) m1.1 (by rw [Qc];exact m1.2)
  obtain ⟨z,hz,rfl⟩:=Qn.mp hv
  have hzt:=hs.eo z hz
  refine ⟨by omega,a0n (SqL.of (s1 _ _ hs.e)) e ⟨by decide,by decide,a1d (fun _=>?_) (fun _=>?_)⟩⟩
  ·refine ⟨by simp only [Qj,Qr];decide,fun p2 hp2=>⟨by simp only [Qj,Qr];decide,fun p3 hp3=>?_⟩⟩
   obtain ⟨H2,e2,s2,g2⟩:=a0J hp2 (.tup [V.str (clW b),V.str z]);rw [e2] at hp3 ⊢
   obtain ⟨H3,e3,s3,g3⟩:=a0J hp3 (.lst [V.ref p2]);rw [e3]
   refine q p3 [(b,z)] H3 ((s1.trans s2).trans s3) (none_of (s1.trans s2) hp3) ⟨_,g3,⟨[p2],rfl,rfl,fun i a p e1 e2=>?_⟩,fun d hd=>by rw [Qt.mp hd];exact hz⟩ (by simp)
   cases i with
   | zero=>cases e1;cases e2;exact s3 _ _ g2
   | succ i=>cases e1
  refine ⟨Xr _,fun F hF=>?_⟩
  obtain ⟨H2,e2,s2,g2⟩:=a0J hF (.lst []);rw [e2]
  have s12:=s1.trans s2
  have hFn:=none_of s1 hF
  have hT:=hs.r.1
  refine a0n (SqL.of (s12 _ _ hs.s)) rfl ⟨T0,rfl,⟨_,SqL.of (s12 _ _ hT)⟩,?_⟩
  have hrl:=hs.r.2.2.1
  refine a0P (K:=K) (a:=T0) (xs:=zr.map (·.1)) (fun j σ H'=>∃(qs:List V) (cl:List (Bool×Str)) (x5:Option V),σ=[some (V.ref s),some (V.int c),some (V.str (clW b)),some (V.str z),some (V.ref F),x5]∧a0h H H'∧H' F=some (.lst qs)∧a0l H' qs (cl.map cw)∧(∀c∈cl,c.2∈ev)∧cl.length≤4 * j)
   ⟨[],[],_,rfl,s12,g2,⟨[],rfl,rfl,fun i a p e=>(by cases e)⟩,fun c hc=>(by cases hc),Xr _⟩ (fun i σ H' _ ⟨_,_,_,_,s',_⟩=>SqL.of (s' _ _ hT)) ?_ ?_
  ·rintro j x σ H3 hj ⟨qs,cl,y5,rfl,s3,hF3,hP3,hc3,hl3⟩
   obtain ⟨hj',rfl⟩:=a1P hj
   obtain ⟨⟨x,ex,hx⟩,ho⟩:=(hs.r.same s3).2.1 _ (Qq hj')
   have hre:=hs.ez _ (Qq hj')
   rw [ex]
   generalize zr[j].2=r at hx ho hre
   have CF:=a3R T ho.1
   obtain ⟨dx,t0,g1,g2⟩:=id hx
   simp only [a0w,a1J,a0I,tOp,a2Y,a0o,Qg,Qh,Qb,Qa,a5a,a0i,a0z,a0y,Qf,a2y,tBM,a0r,b1i,a0b,a0L]
   refine ⟨x,_,dx,_,_,rfl,g1,CF.cl,CF.nh,a0M _ _ _,?_⟩
   refine ⟨31,z,rfl,hzt,by decide,by simp only [Qj,Qr];decide,fun p4 hp4=>?_⟩
   obtain ⟨H4,e4,s4,g4⟩:=a0J hp4 (.tup [V.str z,V.str (a1T z)]);rw [e4]
   have s34:=s3.trans s4
   refine a7P (r:=[z,a1T z]) (SqT.of g4) ⟨_,rfl,a1d (fun c4=>?_) (fun c4=>⟨qs,cl,_,rfl,s34,s4 _ _ hF3,a0l.same s4 hP3,hc3,by omega⟩)⟩
   refine ⟨.inl ⟨rfl,_,SqL.of (s4 _ _ hF3)⟩,x,_,dx,_,_,rfl,s4 _ _ g1,CF.cl,CF.nb,a1m _ _ _,t0,rfl,⟨_,SqT.of (s4 _ _ g2)⟩,?_⟩
   have hbl:r.2.2.2.length≤4:=ho.2.2.2.2.2
   refine a7l (a5f (xs:=r.2.2.2.map V.str)) (Qi (show (r.2.2.2.map V.str).length≤1000 by rw [Qc];omega) ‹dc›) [some (V.int c)] rfl (fun D i v H'=>∃(x:Addr) (d:Bool×Str),v=.ref x∧x≠D∧H' x=some (.tup [.str (clW d.1),.str d.2])∧d.2∈ev) ?_ (fun H' s'=>SqT.of (s' _ _ (s4 _ _ g2))) (fun D i H' R hi hDn s' hD hR=>?_) (fun D H5 ys hDn s5 hD hyl hv=>?_)
   ·rintro D i v Ha Hb up ⟨x,d,e,n,h,m⟩
    exact ⟨x,d,e,n,up _ _ n h,m⟩
   ·obtain ⟨ys,hD⟩:=hD
    have hi':i < r.2.2.2.length:=by simpa using hi
    have e2:((r.2.2.2.map V.str)[i]?).getD .non=V.str r.2.2.2[i]:=by rw [Qy,Qe hi'];rfl
    rw [e2]
    have hqe:=hre.2 _ (Qq hi')
    generalize r.2.2.2[i]=pr at hqe
    simp only [a5a,a0i,tOp,a2W,tC,a0y,a0o,Qb,Qa,a0b,a0Y,a8V]
    refine ⟨by simp only [Qj,Qr];decide,fun p6 hp6=>⟨by decide,by decide,?_⟩⟩
    obtain ⟨H6,e6,s6,g6⟩:=a0J hp6 (.lst [V.str "refused",V.str "held"]);rw [e6]
    refine a0n (SqL.of g6) eb' ⟨by simp only [Qj,Qr];decide,fun p7 hp7=>?_⟩
    obtain ⟨H7,e7,s7,g7⟩:=a0J hp7 (.tup [V.str (clW b'),V.str pr]);rw [e7]
    exact hR _ _ (s6.trans s7) ⟨p7,(b',pr),rfl,(fun z=>by rw [z,s6 _ _ hD] at hp7;cases hp7),g7,hqe⟩
   ·obtain ⟨cl',hP',hc'⟩:=b6g (fun i v e=>by obtain ⟨x,d,a,_,b,c⟩:=hv i v e;exact ⟨x,d,a,b,c⟩)
    have hl':cl'.length≤4:=by
     have:=a0l.len hP'
     rw [Qc] at this hyl
     omega
    have hlq:=a0l.len hP3
    have hly:=a0l.len hP'
    rw [Qc] at hlq hly
    have hF5:=s5 _ _ (s4 _ _ hF3)
    have hP5:=a0l.same (s4.trans s5) hP3
    refine ⟨F,D,qs,ys,rfl,rfl,hF5,hD,Qi (show _≤1000 by omega) ‹dc›,qs++ys,cl++cl',_,rfl,fun a o e=>?_,a0f,?_,fun d hd=>(Xn.mp hd).elim (hc3 d) (hc' d),by rw [Xa];omega⟩
    ·rw [a0d (a0c e hFn)];exact s5 _ _ (s34 _ _ e)
    ·rw [Xo]
     exact a2I (a3A hP5 hP') ⟨_,hF5⟩ fun a o n e=>by rw [a0d n];exact e
  ·rintro σ H3 ⟨qs,cl,y5,rfl,s3,hF3,hP3,hc3,hl3⟩
   simp only [a0K,tOp,tSl,a0o,Qb,Qa,a1w,a2o,tC,a2W,a0i,a5a,a0y,a0b,a2B]
   refine .inr (.inl ⟨F,_,rfl,SqL.of hF3,fun W hW=>?_⟩)
   have ec:a2x qs none (some (6:Int))=qs.take 6:=by
    unfold a2x
    rw [show (some (6:Int))=some ((6:Nat):Int) from rfl,HT.sIx_nat]
    show (qs.drop 0).take (min 6 qs.length - 0)=_
    rw [Zl,Jj,List.take_eq_take_iff]
    omega
   rw [ec]
   obtain ⟨H4,e4,s4,g4⟩:=a0J hW (.lst (qs.take 6));rw [e4]
   refine ⟨by simp only [Qj,Qr];decide,fun p5 hp5=>⟨by simp only [Qj,Qr];decide,fun p6 hp6=>?_⟩⟩
   obtain ⟨H5,e5,s5,g5⟩:=a0J hp5 (.tup [V.str (clW b),V.str z]);rw [e5] at hp6 ⊢
   obtain ⟨H6,e6,s6,g6⟩:=a0J hp6 (.lst [V.ref p5]);rw [e6]
   have s36:=(s4.trans s5).trans s6
   refine .inr (.inr (.inl ⟨W,p6,_,_,rfl,rfl,s6 _ _ (s5 _ _ g4),g6,Qi (show _≤1000 by rw [Xp];simp only [Qj,Qr];omega) ‹dc›,fun p7 hp7=>?_⟩))
   obtain ⟨H7,e7,s7,g7⟩:=a0J hp7 (.lst (qs.take 6++[V.ref p5]));rw [e7]
   have s37:=s36.trans s7
   refine q p7 (cl.take 6++[(b,z)]) H7 (s3.trans s37) (none_of (s3.trans s36) hp7) ⟨_,g7,?_,fun d hd=>?_⟩ (by rw [Xa,Xp];simp only [Qj,Qr];omega)
   ·rw [Xo,Yn]
    exact a3A (a2c (a0l.same s37 hP3) 6) ⟨[p5],rfl,rfl,fun i a p e1 e2=>by
     cases i with
     | zero=>cases e1;cases e2;exact s7 _ _ (s6 _ _ g5)
     | succ i=>cases e1⟩
   ·rcases Xn.mp hd with m | m
    ·exact hc3 d (Zm m)
    ·rw [Qt.mp m];exact hz
theorem a7o (T:Txt K mg t):a0S P w K mg base CX0 1 t.f_z04 t.fd_z04 ["self","statement"] (a5Z t):=by
 refine T.F_z04.ok b2Z (fun vs H Q E h=>?_) (fun cdv A outer s H vs Q E hr h=>?_)
 ·obtain ⟨g,h,rs,pl,rfl,hG,q⟩:=h;rfl
 ·obtain ⟨g,h,rs,pl,rfl,hG,q⟩:=h
  refine ⟨_,‹A3 (A5 (D3 a0C T.z_list a0E (A0 (H0 (a2U hr) (C1 0) 1 (B7 A1) ⟨rfl,rfl,rfl,rfl⟩) A1)))›,?_⟩
  rw [show a0q b3X [V.ref g,V.str h]=[some (V.ref g),some (V.str h)] from rfl]
  obtain ⟨dx,io,bh,pr,xs,kvs,kps,h1,h2,h3,h4,h5,_⟩:=hG
  simp only [a0K,tCB,a0i,b0g,a2Y,a0o,Qa,Qb,a2W,a0y,a0b]
  refine ⟨g,_,dx,_,_,rfl,h1,T.cl_Ground,T.nf_Ground_by_head,b2L _ _ _,?_⟩
  simp only [a1u]
  refine ⟨b0x h4,by decide,fun N hN=>?_⟩
  obtain ⟨H6,e6,s6,h6⟩:=a0J hN (.lst []);rw [e6]
  refine ⟨_,a5K.k (k:=(Sum.inr h:Key)) (s6 _ _ h4),?_⟩
  rcases h5 h with ⟨e,g5⟩ | ⟨L,ys,e,g2,g4⟩
  ·rw [e]
   refine ⟨N,_,rfl,.inl (SqL.of h6),fun l hl=>?_⟩
   obtain ⟨H7,e7,s7,h7⟩:=a0J hl (.lst []);rw [e7]
   refine q l [] _ (s6.trans s7) (none_of s6 hl) h7 ?_
   rw [g5];exact ⟨rfl,fun i r e=>by simp at e⟩
  ·rw [e]
   refine ⟨L,_,rfl,.inl (SqL.of (s6 _ _ g2)),fun l hl=>?_⟩
   obtain ⟨H7,e7,s7,h7⟩:=a0J hl (.lst ys);rw [e7]
   exact q l ys _ (s6.trans s7) (none_of s6 hl) h7 (g4.same (s6.trans s7))
theorem a3X (T:Txt K mg t):a0S P w K mg base CX0 1 t.f_z17 t.fd_z17 ["statement"] b6W:=by
 refine T.F_z17.ok b6c (fun vs H Q E h=>?_) (fun cdv A outer s H vs Q E hr h=>?_)
 ·obtain ⟨z,rfl,hz,q⟩:=h;rfl
 ·obtain ⟨z,rfl,hz,q⟩:=h
  refine ⟨_,‹A3 (A5 (H1 (B9 (C4 Jb PySem.F.slot_str_startswith PySem.F.type_str_startswith a7q 0 (A0 B3 A1))) (C9 a1o 0 (C5 A2) D2) (A6 a0m B3 0)))›,?_⟩
  rw [show a0q b4y [V.str z]=[some (V.str z)] from rfl]
  unfold a1T at q
  simp only [a0K,tIf,tB,tBM,a0o,Qa,a0i,tC,a0y,tSl,a2o,a1w,a2B,a0b,a5z,tOp,a1C,a6H,a1p,a6O]
  refine a1d (fun c=>?_) (fun c=>?_)
  ·rw [if_pos c] at q
   exact ⟨a2l ‹om›,q⟩
  ·rw [if_neg c] at q
   exact ⟨Qi (Jt (show (Xs "-").length≤1 by decide+kernel) hz) ‹dc›,q⟩
theorem b0u (T:Txt K mg t):a0S P w K mg base CX0 2 t.f_z02 t.fd_z02 ["self","statement"] (a7I t):=by
 refine T.F_z02.ok b3u (fun vs H Q E h=>?_) (fun cdv A outer s H vs Q E hr h=>?_)
 ·obtain ⟨g,h,rs,pl,rfl,hG,hO,hhl,q⟩:=h;rfl
 ·obtain ⟨g,h,rs,pl,rfl,hG,hO,hhl,q⟩:=h
  refine ⟨_,‹A3 (A5 (E2 0 T.me_Ground_ruling (a7o T) T.b_z04 (A0 (A7 (a3X T) T.g_z17 T.F_z17.kp T.b_z17 (A0 1 A1)) A1)))›,?_⟩
  rw [show a0q b5F [V.ref g,V.str h]=[some (V.ref g),some (V.str h)] from rfl]
  obtain ⟨dx,io,bh,pr,_,_,_,hg1,_⟩:=id hG
  simp only [a0K,a2b,a0o,Qa,a0i,a0z,Qb,a0y,Qf,a0b]
  refine ⟨g,dx,_,rfl,hg1,a2j _ _ _ ‹dk› ‹dk› ‹dk›,h,rfl,hhl,?_⟩
  refine ⟨g,a1T h,rs,pl,rfl,hG,fun W ys H3 s3 hWn hW3 hR3=>?_⟩
  obtain ⟨zr,ez1,ez2,hz⟩:=hR3.zip (fun r hr=>hO r (Xi.mp hr).1)
  subst ez1
  exact q W zr H3 s3 hWn hW3 hz ez2
theorem b5d (T:Txt K mg t):a0S P w K mg base CX0 1 t.f_z09 t.fd_z09 ["self"] (a0Q false):=by
 refine T.F_z09.ok b3y (fun vs H Q E h=>?_) (fun cdv A outer s H vs Q E hr h=>?_)
 ·obtain ⟨x,rfl,q⟩:=h;rfl
 ·obtain ⟨x,rfl,q⟩:=h
  refine ⟨_,‹A3 (A5 B5)›,?_⟩
  rw [show a0q b4O [x]=[some (x)] from rfl]
  simp only [a0K,tC]
  exact q
theorem a6S (T:Txt K mg t):a0S P w K mg base CX0 1 t.f_z0e t.fd_z0e ["self"] (a0Q true):=by
 refine T.F_z0e.ok b3D (fun vs H Q E h=>?_) (fun cdv A outer s H vs Q E hr h=>?_)
 ·obtain ⟨x,rfl,q⟩:=h;rfl
 ·obtain ⟨x,rfl,q⟩:=h
  refine ⟨_,‹A3 (A5 B5)›,?_⟩
  rw [show a0q b5t [x]=[some (x)] from rfl]
  simp only [a0K,tC]
  exact q
theorem b0c (T:Txt K mg t):a0S P w K mg base CX0 2 t.f_z01 t.fd_z01 ["self","statement"] (a6F t):=by
 refine T.F_z01.ok b2H (fun vs H Q E h=>?_) (fun cdv A outer s H vs Q E hr h=>?_)
 ·obtain ⟨g,h,rs,pl,rfl,hG,hO,hrl,q⟩:=h;rfl
 ·obtain ⟨g,h,rs,pl,rfl,hG,hO,hrl,q⟩:=h
  refine ⟨_,‹A3 (A5 (D1 (C0 (a0a a6m) b2d ["rule"] [none]) (B6 (E2 0 T.me_Ground_ruling (a7o T) T.b_z04 (A0 1 A1))) (B0 0 (show Xq (["rule"]:List Str) by decide+kernel)) (D4 (B9 (C8 (C3 0 T.cl_Fact T.me_Fact_speaks (a6S T) T.b_z0e) (C8 (C3 0 T.cl_Sure T.me_Sure_speaks (a6S T) T.b_z0e) (C8 (C3 0 T.cl_Most T.me_Most_speaks (a6S T) T.b_z0e) (C3 0 T.cl_Block T.me_Block_speaks (b5d T) T.b_z09)))))) 0))›,?_⟩
  rw [show a0q b2d [V.ref g,V.str h]=[some (V.ref g),some (V.str h)] from rfl]
  obtain ⟨dx,io,bh,pr,_,_,_,hg1,_⟩:=id hG
  simp only [a0K,a0r,a1c,a2b,a0o,Qa,a0i,Qb,a0y,Qf,a0b]
  refine ⟨g,dx,_,rfl,hg1,a2j _ _ _ ‹dk› ‹dk› ‹dk›,g,h,rs,pl,rfl,hG,fun W ys H3 s3 hWn hW3 hR3=>?_⟩
  obtain ⟨zr,ez1,ez2,hz⟩:=hR3.zip (fun r hr=>hO r (Xi.mp hr).1)
  subst ez1
  have hzl:zr.length≤63:=by
   have:=congrArg Yv ez2
   rw [Qc] at this
   rw [this];exact Qi (Qw _ _) hrl
  simp only [a1u]
  refine ⟨⟨_,SqL.of hW3⟩,?_⟩
  refine a1b zr hW3 ‹om› hz [] rfl spk (fun p=>p.1) (fun x r H' R ho hr s' hR=>?_) (fun x r H' R ho hr s' hR=>?_) (fun W2 H4 hW2n s4 hW4=>?_)
  ·simp only [tB]
   refine b4Z ho.1 (a0W rfl) hr ⟨by decide+kernel,by decide+kernel,by decide+kernel⟩ ?_
   rw [a5c ho.1]
   simp only [a2q,a1p]
   exact hR _ (a0h.refl _)
  ·simp only [a0o,Qa,a0b]
   exact hR _ (a0h.refl _)
  refine q W2 (zr.filter fun p=>spk p.2) H4 (s3.trans s4) (none_of s3 hW2n) hW4 (fun p hp=>(hz.same s4) p (Xi.mp hp).1) ?_
  rw [←ez2,Yh];rfl
theorem a5P (T:Txt K mg t):a0S P w K mg base CX0 1 t.f_z0r t.fd_z0r ["statements","some"] a5w:=by
 refine T.F_z0r.ok b2J (fun vs H Q E h=>?_) (fun cdv A outer s H vs Q E hr h=>?_)
 ·obtain ⟨t0,v,bd,S,rfl,ht,hl,hD,q⟩:=h;rfl
 ·obtain ⟨t0,v,bd,S,rfl,ht,hl,hD,q⟩:=h
  refine ⟨_,‹A3 (A5 (B8 (a1k rfl) T.z_all a2d (A0 (D1 (C0 (a0a a6I) b1J ["statement","some"] [none,some 1]) (E6 0) (B0 0 (show Xq (["statement","some"]:List Str) by decide+kernel)) D6 (C8 (F3 (a2h (a2U hr) ‹0› ‹1›)) (F2 (b0f (K:=K) rfl) 0 1 (by with_unfolding_all rfl)))) A1)))›,?_⟩
  rw [show a0q b1J [V.ref t0,v]=[some (V.ref t0),some (v)] from rfl]
  simp only [a0K,tCB,a0i,a0y,a0r,b1i,a0o,Qa,a0b,a1u]
  refine ⟨⟨_,SqT.of ht⟩,?_⟩
  refine a4B (a5f (xs:=bd.map V.str)) (Qi (show (bd.map V.str).length≤1000 by simpa using hl) ‹dc›) [some v] rfl (fun i v=>∃hi:i < bd.length,v=.bl (decide (bd[i]∈S))) (fun H' s=>SqT.of (s _ _ ht)) (fun i H' R hi s hR=>?_) (fun E1 H1 ys hEn s1 hE hl1 hv1=>?_)
  ·have hi':i < bd.length:=by simpa using hi
   have e2:((bd.map V.str)[i]?).getD .non=V.str bd[i]:=by rw [Qy,Qe hi'];rfl
   rw [e2]
   exact a7M (hD.same s) (a0W rfl) (a0W rfl) (hR _ _ (a0h.refl _) ⟨hi',rfl⟩)
  have eys:ys=(bd.map fun q=>decide (q∈S)).map V.bl:=by
   refine Zz fun i=>?_
   rw [Qy,Qy]
   by_cases hi:i < ys.length
   ·obtain ⟨hi',e⟩:=hv1 i _ (Qe hi)
    rw [Qe hi,e,Qe hi'];rfl
   ·rw [Ye ‹om›,Ye (by rw [Qc] at hl1;omega)];rfl
  subst eys
  refine ⟨E1,_,rfl,SqL.of hE,?_⟩
  have:=q _ s1
  rw [Zx];exact this
theorem b0a (T:Txt K mg t):a0S P w K mg base CX0 1 t.f_z0s t.fd_z0s ["statements","some"] b2P:=by
 refine T.F_z0s.ok b5N (fun vs H Q E h=>?_) (fun cdv A outer s H vs Q E hr h=>?_)
 ·obtain ⟨t0,v,bd,S,rfl,ht,hl,hD,q⟩:=h;rfl
 ·obtain ⟨t0,v,bd,S,rfl,ht,hl,hD,q⟩:=h
  refine ⟨_,‹A3 (A5 (B8 (a1l rfl) T.z_any a2f (A0 (D1 (C0 (a0a a6c) b2f ["statement","some"] [none,some 1]) (E6 0) (B0 0 (show Xq (["statement","some"]:List Str) by decide+kernel)) D6 (C8 (F3 (a2h (a2U hr) ‹0› ‹1›)) (F2 (b0f (K:=K) rfl) 0 1 (by with_unfolding_all rfl)))) A1)))›,?_⟩
  rw [show a0q b2f [V.ref t0,v]=[some (V.ref t0),some (v)] from rfl]
  simp only [a0K,tCB,a0i,a0y,a0r,b1i,a0o,Qa,a0b,a1u]
  refine ⟨⟨_,SqT.of ht⟩,?_⟩
  refine a4B (a5f (xs:=bd.map V.str)) (Qi (show (bd.map V.str).length≤1000 by simpa using hl) ‹dc›) [some v] rfl (fun i v=>∃hi:i < bd.length,v=.bl (decide (bd[i]∈S))) (fun H' s=>SqT.of (s _ _ ht)) (fun i H' R hi s hR=>?_) (fun E1 H1 ys hEn s1 hE hl1 hv1=>?_)
  ·have hi':i < bd.length:=by simpa using hi
   have e2:((bd.map V.str)[i]?).getD .non=V.str bd[i]:=by rw [Qy,Qe hi'];rfl
   rw [e2]
   exact a7M (hD.same s) (a0W rfl) (a0W rfl) (hR _ _ (a0h.refl _) ⟨hi',rfl⟩)
  have eys:ys=(bd.map fun q=>decide (q∈S)).map V.bl:=by
   refine Zz fun i=>?_
   rw [Qy,Qy]
   by_cases hi:i < ys.length
   ·obtain ⟨hi',e⟩:=hv1 i _ (Qe hi)
    rw [Qe hi,e,Qe hi'];rfl
   ·rw [Ye ‹om›,Ye (by rw [Qc] at hl1;omega)];rfl
  subst eys
  refine ⟨E1,_,rfl,SqL.of hE,?_⟩
  have:=q _ s1
  rw [Yt];exact this
theorem b5M (T:Txt K mg t):a0S P w K mg base CX0 1 t.f_z0b t.fd_z0b ["self","one","other"] (b1w t):=by
 refine T.F_z0b.ok b4i (fun vs H Q E h=>?_) (fun cdv A outer s H vs Q E hr h=>?_)
 ·obtain ⟨g,x,y,rs,pl,r1,r2,rfl,hG,h1,h2,o1,o2,q⟩:=h;rfl
 ·obtain ⟨g,x,y,rs,pl,r1,r2,rfl,hG,h1,h2,o1,o2,q⟩:=h
  refine ⟨_,‹A3 (A5 (F3 (a2h (a2U hr) ‹D0 (A0 (C1 1) (A0 (C1 2) A1))› ‹C1 0›)))›,?_⟩
  rw [show a0q b6d [V.ref g,V.ref x,V.ref y]=[some (V.ref g),some (V.ref x),some (V.ref y)] from rfl]
  obtain ⟨dx,io,bh,pr,_,_,kps,hg1,_,_,_,_,hk,hp⟩:=id hG
  obtain ⟨_,e1,dx1,t1,a1,b1⟩:=h1
  cases e1
  obtain ⟨_,e2,dx2,t2,a2,b2⟩:=h2
  cases e2
  have C1:=a3R T o1.1
  have C2:=a3R T o2.1
  simp only [a0K,b2C,a5a,a0i,a2Y,a0o,Qb,Qa,a0y,a0b]
  refine ⟨x,_,dx1,_,_,rfl,a1,C1.cl,C1.nl,a0X _ _ _,y,_,dx2,_,_,rfl,a2,C2.cl,C2.nl,a0X _ _ _,by simp only [Qj,Qr];decide,fun c hc=>?_⟩
  obtain ⟨H1,e1,s1,h1⟩:=a0J hc (.tup [V.str r1.2.1,V.str r2.2.1]);rw [e1]
  refine ⟨g,_,dx,_,_,rfl,s1 _ _ hg1,T.cl_Ground,T.nf_Ground_pairs,b0v _ _ _,pr,_,rfl,a5K.t (k:=[Sum.inr r1.2.1,Sum.inr r2.2.1]) (s1 _ _ hk) h1,?_⟩
  have:=q _ s1
  rw [hp]
  by_cases z:(r1.2.1,r2.2.1)∈pl
  ·rw [if_pos z];rw [decide_eq_true z] at this;exact this
  ·rw [if_neg z];rw [decide_eq_false z] at this;exact this
theorem b0I (T:Txt K mg t):a0S P w K mg base CX0 2 t.f_z0t t.fd_z0t ["ground","rule","beaters"] (a9C t):=by
 refine T.F_z0t.ok b5o (fun vs H Q E h=>?_) (fun cdv A outer s H vs Q E hr h=>?_)
 ·obtain ⟨g,x,L,rs,pl,r,zr,rfl,hG,hx,hro,hL,hz,hzl,q⟩:=h;rfl
 ·obtain ⟨g,x,L,rs,pl,r,zr,rfl,hG,hx,hro,hL,hz,hzl,q⟩:=h
  refine ⟨_,‹A3 (A5 (B8 (a1l rfl) T.z_any a2f (A0 (D1 (C0 (a0a a6z) b1c ["beater","rule","ground"] [none,some 1,some 0]) (B6 2) (B0 0 (show Xq (["beater","rule","ground"]:List Str) by decide+kernel)) D6 (E2 2 T.me_Ground_beats (b5M T) T.b_z0b (A0 0 (A0 1 A1)))) A1)))›,?_⟩
  rw [show a0q b1c [V.ref g,V.ref x,V.ref L]=[some (V.ref g),some (V.ref x),some (V.ref L)] from rfl]
  simp only [a0K,tCB,a0i,a0y,a0r,a1c,a0o,Qb,Qa,a0b,a1u]
  refine ⟨⟨_,SqL.of hL⟩,?_⟩
  refine a1b zr hL ‹om› hz [some (V.ref x),some (V.ref g)] rfl (fun _=>true) (fun p=>V.bl (decide ((p.2.2.1,r.2.1)∈pl))) (fun y r' H' R ho hr s' hR=>hR _ (a0h.refl _)) (fun y r' H' R ho hr s' hR=>?_) (fun B H5 hBn s5 hB5=>?_)
  ·obtain ⟨dx,io,bh,pr,_,_,_,hg1,_⟩:=id (hG.same s')
   simp only [a2b,a0o,Qb,Qa,a0i,a0y,Qf,a0b]
   exact ⟨g,dx,_,rfl,hg1,a2j _ _ _ ‹dk› ‹dk› ‹dk›,g,y,x,rs,pl,r',r,rfl,hG.same s',⟨y,rfl,hr⟩,hx.same s',ho,hro,fun H'' s''=>hR _ s''⟩
  have hB5':H5 B=some (.lst ((zr.map fun p=>decide ((p.2.2.1,r.2.1)∈pl)).map V.bl)):=by
   rw [hB5,Zq.mpr (fun _ _=>rfl),Ym];rfl
  refine ⟨B,_,rfl,SqL.of hB5',?_⟩
  have:=q _ s5
  rw [show ((zr.map fun p=>decide ((p.2.2.1,r.2.1)∈pl)).any id)=btn pl (zr.map (·.2)) r from by unfold btn;rw [Yt,Yt];rfl]
  exact this
theorem b4J (T:Txt K mg t):a0S P w K mg base CX0 3 t.f_z18 t.fd_z18 ["ground","sures","held","refused","q"] (a6K t a1e):=by
 refine T.F_z18.ok b0h (fun vs H Q E h=>?_) (fun cdv A outer s H vs Q E hr h=>?_)
 ·obtain ⟨g,v1,v2,v3,q0,rs,pl,S,U,D,rfl,hG,hO,hrl,h1,h2,h3,hql,q⟩:=h;rfl
 ·obtain ⟨g,v1,v2,v3,q0,rs,pl,S,U,D,rfl,hG,hO,hrl,h1,h2,h3,hql,q⟩:=h
  refine ⟨_,‹A4 (B2 (F4 (F1 (a2h (a2U hr) ‹4› ‹1›)) (B1 a1A 4 1 (by with_unfolding_all rfl))) (A3 (A5 B5)) B4) (A4 (A9 5 b0h.nd (D1 (C0 (a0a a5l) a9y ["rule","held"] [none,some 2]) (B6 (E2 0 T.me_Ground_speaking (b0c T) T.b_z01 (A0 4 A1))) (B0 0 (show Xq (["rule","held"]:List Str) by decide+kernel)) (D4 (B9 (A7 (a5P T) T.g_z0r T.F_z0r.kp T.b_z0r (A0 (E0 0) (A0 1 A1))))) 0)) (E1 (B2 (C7 (E7 (B1 (a1n hr.units) (B8 a0s T.z_len a0u (A0 5 A1)) A2 (a0v _)) (E8 (F4 (F1 (a2h (a2U hr) ‹A7 (a3X T) T.g_z17 T.F_z17.kp T.b_z17 (A0 4 A1)› ‹1›)) (B1 a1A (A7 (a3X T) T.g_z17 T.F_z17.kp T.b_z17 (A0 4 A1)) 1 (by with_unfolding_all rfl)))))) (A3 (A5 B5)) B4) (A3 (A5 (B8 (a1k rfl) T.z_all a2d (A0 (D1 (C0 (a0a a5l) a9y ["rule","refused","ground","standing"] [none,some 3,some 0,some 5]) (B6 (E2 0 T.me_Ground_against (b0u T) T.b_z02 (A0 4 A1))) (B0 0 (show Xq (["rule","refused","ground","standing"]:List Str) by decide+kernel)) D6 (H2 (A7 (b0a T) T.g_z0s T.F_z0s.kp T.b_z0s (A0 (E0 0) (A0 1 A1))) (G1 (A7 (b0I T) T.g_z0t T.F_z0t.kp T.b_z0t (A0 2 (A0 0 (A0 3 A1))))))) A1))))))›,?_⟩
  rw [show a0q a9y [V.ref g,v1,v2,v3,V.str q0]=[some (V.ref g),some (v1),some (v2),some (v3),some (V.str q0),none] from rfl]
  obtain ⟨dx,io,bh,pr,_,_,_,hg1,_⟩:=id hG
  simp only [a1y,a1J,a0K,tC,a0L,a2m,a0w,Qg,Qh,a0r,a1c,a2b,a0o,Qa,a0i,Qb,a0y,Qf,a0b]
  refine a2K h1 (a0W rfl) (a0W rfl) ?_
  simp only [decide_eq_true_eq]
  refine a1d (fun c0=>?_) (fun c0=>?_)
  ·have:=q H (a0h.refl _)
   unfold a1e at this
   rw [if_pos c0] at this
   exact this
  refine ⟨g,dx,_,rfl,hg1,a2j _ _ _ ‹dk› ‹dk› ‹dk›,g,q0,rs,pl,rfl,hG,hO,hrl,fun W zr H3 s3 hWn hW3 hz ez=>?_⟩
  have hzl:zr.length≤63:=by
   have:=congrArg Yv ez
   rw [Qc] at this
   rw [this];exact Qi (Qw _ _) (Qi (Qw _ _) hrl)
  simp only [a1u]
  refine ⟨⟨_,SqL.of hW3⟩,?_⟩
  refine a1b zr hW3 ‹om› hz [some v2] rfl (fun r=>a1E r.2.2.2 U) (fun p=>p.1) (fun x r H' R ho hr s' hR=>?_) (fun x r H' R ho hr s' hR=>?_) (fun W2 H4 hW2n s4 hW4=>?_)
  ·have CF:=a3R T ho.1
   obtain ⟨dx',t0,g1,g2⟩:=hr
   simp only [tB,a0z,a0i,a2Y,a0o,Qa,Qb,a0y,Qf,a0b]
   refine ⟨x,_,dx',_,_,rfl,g1,CF.cl,CF.nb,a1m _ _ _,t0,v2,r.2.2.2,U,rfl,g2,by have:=ho.2.2.2.2.2;omega,h2.same (s3.trans s'),fun H'' s''=>?_⟩
   simp only [a1p]
   exact hR _ s''
  ·simp only [a0o,Qa,a0b]
   exact hR _ (a0h.refl _)
  have s04:=s3.trans s4
  have hz4:a3W t H4 (zr.filter fun p=>a1E p.2.2.2.2 U):=fun p hp=>(hz.same s4) p (Xi.mp hp).1
  have hzl4:(zr.filter fun p=>a1E p.2.2.2.2 U).length≤63:=Qi (Qw _ _) hzl
  have est:(zr.filter fun p=>a1E p.2.2.2.2 U).map (·.2)=a1N rs U q0:=by
   unfold a1N
   rw [←ez,Yh];rfl
  generalize (zr.filter fun p=>a1E p.2.2.2.2 U)=zs at hW4 hz4 hzl4 est
  have hneed:∀H',a0h H H'→(a1N rs U q0=[]∨a1T q0∈S)→Q (.bl false) H':=fun H' s' hc=>by
   have:=q H' s'
   unfold a1e at this
   rw [if_neg c0,if_pos hc] at this
   exact this
  refine ⟨fun σ' H'=>σ'=[some (V.ref g),some v1,some v2,some v3,some (V.str q0),some (V.ref W2)]∧H'=H4∧¬(a1N rs U q0=[]∨a1T q0∈S),?_,?_⟩
  ·simp only [a1J,tOr,a0I,tOp,tCB,a0i,a0o,Qb,Qa,a0y,tC,a0K,a0L,a0b]
   refine a0t (SqL.of hW4) ?_
   simp only [a1r,a1p,decide_eq_true_eq]
   refine a1d (fun c1=>?_) (fun c1=>?_)
   ·refine hneed _ s04 (.inl ?_)
    rw [←est]
    have:zs.length=0:=by rw [Qc] at c1;omega
    rw [Zh.mp this];rfl
   refine a2K (h1.same s04) (x:=a1T q0) (fun R hR=>?_) (a0W rfl) ?_
   ·simp only [a0z,a0i,a0o,Qb,Qa,a0y,Qf,a0b]
    exact ⟨q0,rfl,hql,hR⟩
   simp only [decide_eq_true_eq]
   refine a1d (fun c2=>hneed _ s04 (.inr c2)) (fun c2=>⟨(by trivial),(by trivial),fun z=>z.elim (fun w=>c1 ?_) c2⟩)
   rw [←est] at w
   have:zs.length=0:=by have:=congrArg Yv w;rw [Qc] at this;exact this
   rw [Qc,this];rfl
  rintro σ' H5 ⟨rfl,rfl,hc⟩
  simp only [a0K,tCB,a0i,a0y,a0r,a1c,a2b,a0o,Qa,Qb,Qf,a0b]
  refine ⟨g,dx,_,rfl,s04 _ _ hg1,a2j _ _ _ ‹dk› ‹dk› ‹dk›,g,q0,rs,pl,rfl,hG.same s04,hO,hql,fun B zb H6 s6 hBn hB6 hzb eb=>?_⟩
  have hbl:zb.length≤63:=by
   have:=congrArg Yv eb
   rw [Qc] at this
   rw [this];exact Qi (Qw _ _) hrl
  have s06:=s04.trans s6
  simp only [a1u]
  refine ⟨⟨_,SqL.of hB6⟩,?_⟩
  refine a1b zb hB6 ‹om› hzb [some v3,some (V.ref g),some (V.ref W2)] rfl (fun _=>true) (fun p=>V.bl (a2a p.2.2.2.2 D || btn pl (zs.map (·.2)) p.2)) (fun x r H' R ho hr s' hR=>hR _ (a0h.refl _)) (fun x r H' R ho hr s' hR=>?_) (fun C H7 hCn s7 hC7=>?_)
  ·have CF:=a3R T ho.1
   have hru:a5I t H' (.ref x) r:=⟨x,rfl,hr⟩
   obtain ⟨dx',t0,g1,g2⟩:=hr
   simp only [b8H,a0z,a0i,a2Y,a0o,Qa,Qb,a0y,Qf,a0b]
   refine ⟨x,_,dx',_,_,rfl,g1,CF.cl,CF.nb,a1m _ _ _,t0,v3,r.2.2.2,D,rfl,g2,by have:=ho.2.2.2.2.2;omega,h3.same (s06.trans s'),fun H'' s''=>?_⟩
   have s48:=(s6.trans s').trans s''
   have hh:=fun H'' s''=>hR H'' s''
   simp only [a1p]
   refine a1d (fun c5=>?_) (fun c5=>?_)
   ·have:=hR _ s''
    rw [c5,Bool.true_or] at this;exact this
   ·have c6:a2a r.2.2.2 D=false:=by simpa using c5
    rw [c6] at hR
    exact ⟨g,x,W2,rs,pl,r,zs,rfl,(hG.same s04).same s48,hru.same s'',ho,s48 _ _ hW4,hz4.same s48,hzl4,fun H9 s9=>hR _ (s''.trans s9)⟩
  have hC7':H7 C=some (.lst ((zb.map fun p=>(a2a p.2.2.2.2 D || btn pl (zs.map (·.2)) p.2)).map V.bl)):=by
   rw [hC7,Zq.mpr (fun _ _=>rfl),Ym];rfl
  refine ⟨C,_,rfl,SqL.of hC7',?_⟩
  have:=q _ (s06.trans s7)
  unfold a1e at this
  rw [if_neg c0,if_neg hc,←eb,Zx,←est] at this
  rw [Zx]
  exact this
theorem b4Q (T:Txt K mg t):a0S P w K mg base CX0 3 t.f_z0j t.fd_z0j ["ground","sures","held","refused","q"] (a6K t a3K):=by
 refine T.F_z0j.ok b0i (fun vs H Q E h=>?_) (fun cdv A outer s H vs Q E hr h=>?_)
 ·obtain ⟨g,v1,v2,v3,q0,rs,pl,S,U,D,rfl,hG,hO,hrl,h1,h2,h3,hql,q⟩:=h;rfl
 ·obtain ⟨g,v1,v2,v3,q0,rs,pl,S,U,D,rfl,hG,hO,hrl,h1,h2,h3,hql,q⟩:=h
  refine ⟨_,‹A4 (B2 (F4 (F1 (a2h (a2U hr) ‹4› ‹1›)) (B1 a1A 4 1 (by with_unfolding_all rfl))) (A3 (A5 B5)) B4) (A4 (A9 5 b0i.nd (D1 (C0 (a0a a5n) a9x ["rule","refused"] [none,some 3]) (B6 (E2 0 T.me_Ground_speaking (b0c T) T.b_z01 (A0 4 A1))) (B0 0 (show Xq (["rule","refused"]:List Str) by decide+kernel)) (D4 (D8 (B9 (A7 (b0a T) T.g_z0s T.F_z0s.kp T.b_z0s (A0 (E0 0) (A0 1 A1)))))) 0)) (E1 (B2 (C7 (E7 (B1 (a1n hr.units) (B8 a0s T.z_len a0u (A0 5 A1)) A2 (a0v _)) (E8 (F4 (F1 (a2h (a2U hr) ‹A7 (a3X T) T.g_z17 T.F_z17.kp T.b_z17 (A0 4 A1)› ‹1›)) (B1 a1A (A7 (a3X T) T.g_z17 T.F_z17.kp T.b_z17 (A0 4 A1)) 1 (by with_unfolding_all rfl)))))) (A3 (A5 B5)) B4) (A3 (A5 (B8 (a1l rfl) T.z_any a2f (A0 (D1 (C0 (a0a a5n) a9x ["rule","held","ground","unfallen"] [none,some 2,some 0,some 5]) (B6 (E2 0 T.me_Ground_against (b0u T) T.b_z02 (A0 4 A1))) (B0 0 (show Xq (["rule","held","ground","unfallen"]:List Str) by decide+kernel)) D6 (H3 (A7 (a5P T) T.g_z0r T.F_z0r.kp T.b_z0r (A0 (E0 0) (A0 1 A1))) (G1 (H4 (A7 (b0I T) T.g_z0t T.F_z0t.kp T.b_z0t (A0 2 (A0 0 (A0 3 A1)))))))) A1))))))›,?_⟩
  rw [show a0q a9x [V.ref g,v1,v2,v3,V.str q0]=[some (V.ref g),some (v1),some (v2),some (v3),some (V.str q0),none] from rfl]
  obtain ⟨dx,io,bh,pr,_,_,_,hg1,_⟩:=id hG
  simp only [a1y,a1J,a0K,tC,a0L,a2m,a0w,Qg,Qh,a0r,a1c,a2b,a0o,Qa,a0i,Qb,a0y,Qf,a0b]
  refine a2K h1 (a0W rfl) (a0W rfl) ?_
  simp only [decide_eq_true_eq]
  refine a1d (fun c0=>?_) (fun c0=>?_)
  ·have:=q H (a0h.refl _)
   unfold a3K at this
   rw [if_pos c0] at this
   exact this
  refine ⟨g,dx,_,rfl,hg1,a2j _ _ _ ‹dk› ‹dk› ‹dk›,g,q0,rs,pl,rfl,hG,hO,hrl,fun W zr H3 s3 hWn hW3 hz ez=>?_⟩
  have hzl:zr.length≤63:=by
   have:=congrArg Yv ez
   rw [Qc] at this
   rw [this];exact Qi (Qw _ _) (Qi (Qw _ _) hrl)
  simp only [a1u]
  refine ⟨⟨_,SqL.of hW3⟩,?_⟩
  refine a1b zr hW3 ‹om› hz [some v3] rfl (fun r=>!a2a r.2.2.2 D) (fun p=>p.1) (fun x r H' R ho hr s' hR=>?_) (fun x r H' R ho hr s' hR=>?_) (fun W2 H4 hW2n s4 hW4=>?_)
  ·have CF:=a3R T ho.1
   obtain ⟨dx',t0,g1,g2⟩:=hr
   simp only [a6L,tB,a0z,a0i,a2Y,a0o,Qa,Qb,a0y,Qf,a0b]
   refine ⟨x,_,dx',_,_,rfl,g1,CF.cl,CF.nb,a1m _ _ _,t0,v3,r.2.2.2,D,rfl,g2,by have:=ho.2.2.2.2.2;omega,h3.same (s3.trans s'),fun H'' s''=>?_⟩
   simp only [a1p]
   exact hR _ s''
  ·simp only [a0o,Qa,a0b]
   exact hR _ (a0h.refl _)
  have s04:=s3.trans s4
  have hz4:a3W t H4 (zr.filter fun p=>!a2a p.2.2.2.2 D):=fun p hp=>(hz.same s4) p (Xi.mp hp).1
  have hzl4:(zr.filter fun p=>!a2a p.2.2.2.2 D).length≤63:=Qi (Qw _ _) hzl
  have est:(zr.filter fun p=>!a2a p.2.2.2.2 D).map (·.2)=unf rs D q0:=by
   unfold unf
   rw [←ez,Yh];rfl
  generalize (zr.filter fun p=>!a2a p.2.2.2.2 D)=zs at hW4 hz4 hzl4 est
  have hneed:∀H',a0h H H'→(unf rs D q0=[]∨a1T q0∈S)→Q (.bl true) H':=fun H' s' hc=>by
   have:=q H' s'
   unfold a3K at this
   rw [if_neg c0,if_pos hc] at this
   exact this
  refine ⟨fun σ' H'=>σ'=[some (V.ref g),some v1,some v2,some v3,some (V.str q0),some (V.ref W2)]∧H'=H4∧¬(unf rs D q0=[]∨a1T q0∈S),?_,?_⟩
  ·simp only [a1J,tOr,a0I,tOp,tCB,a0i,a0o,Qb,Qa,a0y,tC,a0K,a0L,a0b]
   refine a0t (SqL.of hW4) ?_
   simp only [a1r,a1p,decide_eq_true_eq]
   refine a1d (fun c1=>?_) (fun c1=>?_)
   ·refine hneed _ s04 (.inl ?_)
    rw [←est]
    have:zs.length=0:=by rw [Qc] at c1;omega
    rw [Zh.mp this];rfl
   refine a2K (h1.same s04) (x:=a1T q0) (fun R hR=>?_) (a0W rfl) ?_
   ·simp only [a0z,a0i,a0o,Qb,Qa,a0y,Qf,a0b]
    exact ⟨q0,rfl,hql,hR⟩
   simp only [decide_eq_true_eq]
   refine a1d (fun c2=>hneed _ s04 (.inr c2)) (fun c2=>⟨(by trivial),(by trivial),fun z=>z.elim (fun w=>c1 ?_) c2⟩)
   rw [←est] at w
   have:zs.length=0:=by have:=congrArg Yv w;rw [Qc] at this;exact this
   rw [Qc,this];rfl
  rintro σ' H5 ⟨rfl,rfl,hc⟩
  simp only [a0K,tCB,a0i,a0y,a0r,a1c,a2b,a0o,Qa,Qb,Qf,a0b]
  refine ⟨g,dx,_,rfl,s04 _ _ hg1,a2j _ _ _ ‹dk› ‹dk› ‹dk›,g,q0,rs,pl,rfl,hG.same s04,hO,hql,fun B zb H6 s6 hBn hB6 hzb eb=>?_⟩
  have hbl:zb.length≤63:=by
   have:=congrArg Yv eb
   rw [Qc] at this
   rw [this];exact Qi (Qw _ _) hrl
  have s06:=s04.trans s6
  simp only [a1u]
  refine ⟨⟨_,SqL.of hB6⟩,?_⟩
  refine a1b zb hB6 ‹om› hzb [some v2,some (V.ref g),some (V.ref W2)] rfl (fun _=>true) (fun p=>V.bl (a1E p.2.2.2.2 U && !btn pl (zs.map (·.2)) p.2)) (fun x r H' R ho hr s' hR=>hR _ (a0h.refl _)) (fun x r H' R ho hr s' hR=>?_) (fun C H7 hCn s7 hC7=>?_)
  ·have CF:=a3R T ho.1
   have hru:a5I t H' (.ref x) r:=⟨x,rfl,hr⟩
   obtain ⟨dx',t0,g1,g2⟩:=hr
   simp only [b4F,a0z,a0i,a2Y,a0o,Qa,Qb,a0y,Qf,b3r,a0b]
   refine ⟨x,_,dx',_,_,rfl,g1,CF.cl,CF.nb,a1m _ _ _,t0,v2,r.2.2.2,U,rfl,g2,by have:=ho.2.2.2.2.2;omega,h2.same (s06.trans s'),fun H'' s''=>?_⟩
   have s48:=(s6.trans s').trans s''
   simp only [a1p]
   refine a1d (fun c5=>?_) (fun c5=>?_)
   ·rw [c5,Yo] at hR
    refine ⟨g,x,W2,rs,pl,r,zs,rfl,(hG.same s04).same s48,hru.same s'',ho,s48 _ _ hW4,hz4.same s48,hzl4,fun H9 s9=>?_⟩
    simp only [a1p]
    exact hR _ (s''.trans s9)
   ·have c6:a1E r.2.2.2 U=false:=by simpa using c5
    have:=hR _ s''
    rw [c6,Zb] at this
    exact this
  have hC7':H7 C=some (.lst ((zb.map fun p=>(a1E p.2.2.2.2 U && !btn pl (zs.map (·.2)) p.2)).map V.bl)):=by
   rw [hC7,Zq.mpr (fun _ _=>rfl),Ym];rfl
  refine ⟨C,_,rfl,SqL.of hC7',?_⟩
  have:=q _ (s06.trans s7)
  unfold a3K at this
  rw [if_neg c0,if_neg hc,←eb,Yt,←est] at this
  rw [Yt]
  exact this
theorem b3x (T:Txt K mg t):a0S P w K mg base CX0 1 t.f_z1r t.fd_z1r ["some"] b1x:=by
 refine T.F_z1r.ok a7i (fun vs H Q E h=>?_) (fun cdv A outer s H vs Q E hr h=>?_)
 ·obtain ⟨a,zs,rfl,ha,hl,q⟩:=h;rfl
 ·obtain ⟨a,zs,rfl,ha,hl,q⟩:=h
  refine ⟨_,‹A4 (A9 1 a7i.nd F5) (A4 (C2 (B6 0) (B0 2 a7i.nd) (A3 (F6 1 2 B5))) (A3 (A5 1)))›,?_⟩
  rw [show a0q b2X [V.ref a]=[some (V.ref a),none,none] from rfl]
  simp only [a1y,a2m,a5x,a0w,Qg,Qh,a0A,a1c,a0o,Qa,a0b,a1u]
  intro D hD
  obtain ⟨H1,e1,s1,h1⟩:=a0J hD (.dK []);rw [e1]
  refine ⟨⟨_,SqL.of (s1 _ _ ha)⟩,?_⟩
  refine a0P (K:=K) (a:=a) (xs:=zs.map V.str) (fun i σ H'=>∃(kvs:List (Key×V)) (y:Option V),σ=[some (V.ref a),some (V.ref D),y]∧a0h H H'∧H' D=some (.dK kvs)∧kvs.length≤i∧∀x:Str,(a1F kvs (Sum.inr x:Key)).isSome=decide (x∈zs.take i))
   ⟨[],_,rfl,s1,h1,Qk _,fun x=>by simp [a1F]⟩ (fun i σ H' _ h=>by obtain ⟨_,_,_,s,_⟩:=h;exact SqL.of (s _ _ ha)) ?_ ?_
  ·rintro i v σ H5 hi ⟨kvs,y,rfl,s5,h5,hkl,hF⟩
   obtain ⟨hi',rfl⟩:=a1P hi
   simp only [a0w,a9L,tC,a0o,Qg,Qh,Qb,Qa,a0b]
   refine ⟨D,_,rfl,a8W.k (k:=(Sum.inr zs[i]:Key)) h5 (Xj (show kvs.length≤1000 by omega) ‹dc›),a3h kvs (Sum.inr zs[i]) (V.bl true),_,rfl,fun b o e=>by rw [a0d (a0c e hD)];exact s5 _ _ e,a0f,?_,fun x=>?_⟩
   ·have:=a1g kvs (Sum.inr zs[i]:Key) (V.bl true);omega
   ·rw [a2H,Yg,decide_eq_true_iff,a1s hi']
    by_cases z:(Sum.inr x:Key)=Sum.inr zs[i]
    ·rw [if_pos z,Sum.inr.inj z];exact ⟨fun _=>.inr rfl,fun _=>rfl⟩
    ·rw [if_neg z,hF,decide_eq_true_iff]
     exact ⟨.inl,fun h=>h.elim id fun w=>absurd (by rw [w]) z⟩
  ·rintro σ H5 ⟨kvs,y,rfl,s5,h5,hkl,hF⟩
   simp only [a0K,a0o,Qb,Qa,a0b]
   rw [Qc,Xz] at hF
   exact q D H5 s5 ⟨kvs,h5,hF⟩
theorem b0E (T:Txt K mg t):a0S P w K mg base CX0 2 t.f_z0u t.fd_z0u ["rows","word"] a5W:=by
 refine T.F_z0u.ok b3g (fun vs H Q E h=>?_) (fun cdv A outer s H vs Q E hr h=>?_)
 ·obtain ⟨a,w,ps,rl,rfl,ha,hP,hl,q⟩:=h;rfl
 ·obtain ⟨a,w,ps,rl,rfl,ha,hP,hl,q⟩:=h
  refine ⟨_,‹A3 (A5 (A7 (b3x T) T.g_z1r T.F_z1r.kp T.b_z1r (A0 (D1 (C0 (a0a a6w) b2v ["row","word"] [none,some 1]) (B6 0) (B0 0 (show Xq (["row","word"]:List Str) by decide+kernel)) (D4 (B1 (a4J hr.units (K:=K) rfl) (A8 (a1H (K:=K) rfl) 0 A2) 1 (a0v _))) (A8 (a1H (K:=K) rfl) 0 A2)) A1)))›,?_⟩
  rw [show a0q b2v [V.ref a,V.str w]=[some (V.ref a),some (V.str w)] from rfl]
  simp only [a0K,a0z,a0i,a0y,Qf,a0r,a1c,a0o,Qa,a0b,a1u]
  refine ⟨⟨_,SqL.of ha⟩,?_⟩
  refine a3L ha hP ‹om› [some (V.str w)] rfl (fun p=>decide (p.1=w)) (fun p=>V.str p.2) (fun x p H' R hx s' hR=>?_) (fun x p H' R hx s' hR=>?_) (fun D H' hD s' hD'=>?_)
  ·simp only [a0I,tOp,a0o,Qa,tC,Qb,a0b]
   refine a0Z (SqT.of hx) rfl ?_
   simp only [a1a,a1p]
   exact hR _ (a0h.refl _)
  ·simp only [tOp,a0o,Qa,tC,a0b]
   exact a0Z (SqT.of hx) rfl (hR _ (a0h.refl _))
  refine ⟨D,wOf rl w,rfl,by rw [hD'];unfold wOf;rw [Ym];rfl,?_,fun D' H'' s'' hk=>q D' H'' (s'.trans s'') hk⟩
  unfold wOf
  rw [Qc]
  exact Qi (Qw _ _) ‹om›
theorem b5G (T:Txt K mg t):a0S P w K mg base CX0 4 t.f_z1e t.fd_z1e ["ground","sures","rows","claim"] (a8T t):=by
 refine T.F_z1e.ok a7s (fun vs H Q E h=>?_) (fun cdv A outer s H vs Q E hr h=>?_)
 ·obtain ⟨g,a,c,v1,rs,pl,rl,ps,S,b,q0,rfl,hG,hO,hrl,h1,ha,hP,hl,hc,hql,q⟩:=h;rfl
 ·obtain ⟨g,a,c,v1,rs,pl,rl,ps,S,b,q0,rfl,hG,hO,hrl,h1,ha,hP,hl,hc,hql,q⟩:=h
  obtain ⟨_,k_HELD⟩:=T.k_HELD
  obtain ⟨_,k_REFUSED⟩:=T.k_REFUSED
  refine ⟨_,‹A4 (A9 4 a7s.nd (A7 (b0E T) T.g_z0u T.F_z0u.kp T.b_z0u (A0 2 (A0 (E9 (.str "held") k_HELD ⟨_,rfl⟩) A1)))) (A4 (A9 5 a7s.nd (A7 (b0E T) T.g_z0u T.F_z0u.kp T.b_z0u (A0 2 (A0 (E9 (.str "refused") k_REFUSED ⟨_,rfl⟩) A1)))) (A4 (B2 (B1 (a1n hr.units) (A8 a0k 3 A2) (E9 (.str "held") k_HELD ⟨_,rfl⟩) (a0v _)) (A3 (A5 (A7 (b4J T) T.g_z18 T.F_z18.kp T.b_z18 (A0 0 (A0 1 (A0 4 (A0 5 (A0 (A8 a0k 3 A2) A1)))))))) B4) (A4 (B2 (B1 (a1n hr.units) (A8 a0k 3 A2) (E9 (.str "refused") k_REFUSED ⟨_,rfl⟩) (a0v _)) (A3 (A5 (A7 (b4Q T) T.g_z0j T.F_z0j.kp T.b_z0j (A0 0 (A0 1 (A0 4 (A0 5 (A0 (A8 a0k 3 A2) A1)))))))) B4) (A3 (A5 B5)))))›,?_⟩
  rw [show a0q b5j [V.ref g,v1,V.ref a,V.ref c]=[some (V.ref g),some (v1),some (V.ref a),some (V.ref c),none,none] from rfl]
  simp only [a1y,a2m,a0z,a0i,a0o,Qb,Qa,tC,a0y,Qf,a0w,Qg,Qh,a1J,a0I,tOp,a0K,a0b,a0L]
  refine ⟨a,_,ps,rl,rfl,ha,hP,hl,fun D1 H1 s1 k1=>?_⟩
  refine ⟨a,_,ps,rl,rfl,s1 _ _ ha,a0l.same s1 hP,hl,fun D2 H2 s2 k2=>?_⟩
  have s02:=s1.trans s2
  have hc2:=s02 _ _ hc
  refine a0Z (SqT.of hc2) rfl ?_
  simp only [a1a,a1p,decide_eq_true_eq]
  cases b with
  | true=>
   refine a1d (fun _=>?_) (fun c=>absurd rfl c)
   exact a0Z (SqT.of hc2) rfl ⟨g,_,_,_,q0,rs,pl,S,_,_,rfl,hG.same s02,hO,hrl,h1.same s02,(k1.same s2).some,k2.some,hql,fun H' s'=>q H' (s02.trans s')⟩
  | false=>
   refine a1d (fun c=>absurd c ‹dk›) (fun _=>?_)
   refine a0Z (SqT.of hc2) rfl ?_
   simp only [a1a,a1p,decide_eq_true_eq]
   refine a1d (fun _=>?_) (fun c=>absurd rfl c)
   exact a0Z (SqT.of hc2) rfl ⟨g,_,_,_,q0,rs,pl,S,_,_,rfl,hG.same s02,hO,hrl,h1.same s02,(k1.same s2).some,k2.some,hql,fun H' s'=>q H' (s02.trans s')⟩
theorem b0r (T:Txt K mg t):a0S P w K mg base CX0 1 t.f_z07 t.fd_z07 ["self"] (a0Q true):=by
 refine T.F_z07.ok b3N (fun vs H Q E h=>?_) (fun cdv A outer s H vs Q E hr h=>?_)
 ·obtain ⟨x,rfl,q⟩:=h;rfl
 ·obtain ⟨x,rfl,q⟩:=h
  refine ⟨_,‹A3 (A5 B5)›,?_⟩
  rw [show a0q b5O [x]=[some (x)] from rfl]
  simp only [a0K,tC]
  exact q
theorem b4X (T:Txt K mg t):a0S P w K mg base CX0 1 t.f_z0a t.fd_z0a ["self"] (a7Y t):=by
 refine T.F_z0a.ok b3W (fun vs H Q E h=>?_) (fun cdv A outer s H vs Q E hr h=>?_)
 ·obtain ⟨g,rs,pl,rfl,hG,q⟩:=h;rfl
 ·obtain ⟨g,rs,pl,rfl,hG,q⟩:=h
  refine ⟨_,‹A3 (A5 (D3 a0C T.z_list a0E (A0 (C1 0) A1)))›,?_⟩
  rw [show a0q b5Q [V.ref g]=[some (V.ref g)] from rfl]
  obtain ⟨dx,io,bh,pr,xs,kvs,kps,h1,h2,h3,h4,h5,h6',h7'⟩:=hG
  simp only [a0K,tCB,a0i,a2Y,a0o,Qa,a0y,a0b]
  refine ⟨g,_,dx,_,_,rfl,h1,T.cl_Ground,T.nf_Ground_in_order,b5T _ _ _,io,_,rfl,.inr (SqT.of h2),fun l hl=>?_⟩
  obtain ⟨H6,e6,s6,h6⟩:=a0J hl (.lst xs);rw [e6]
  exact q l xs _ s6 hl h6 (h3.same s6)
theorem a5S (T:Txt K mg t):a0S P w K mg base CX0 1 t.f_z05 t.fd_z05 ["self"] (a0Q false):=by
 refine T.F_z05.ok b3U (fun vs H Q E h=>?_) (fun cdv A outer s H vs Q E hr h=>?_)
 ·obtain ⟨x,rfl,q⟩:=h;rfl
 ·obtain ⟨x,rfl,q⟩:=h
  refine ⟨_,‹A3 (A5 B5)›,?_⟩
  rw [show a0q b5Z [x]=[some (x)] from rfl]
  simp only [a0K,tC]
  exact q
theorem b0O (T:Txt K mg t):a0S P w K mg base CX0 1 t.f_z08 t.fd_z08 ["self"] (a0Q true):=by
 refine T.F_z08.ok b4f (fun vs H Q E h=>?_) (fun cdv A outer s H vs Q E hr h=>?_)
 ·obtain ⟨x,rfl,q⟩:=h;rfl
 ·obtain ⟨x,rfl,q⟩:=h
  refine ⟨_,‹A3 (A5 B5)›,?_⟩
  rw [show a0q b3C [x]=[some (x)] from rfl]
  simp only [a0K,tC]
  exact q
theorem b3m (T:Txt K mg t):a0S P w K mg base CX0 2 t.f_z0d t.fd_z0d ["ground","some"] (c0S t):=by
 refine T.F_z0d.ok a3Y (fun vs H Q E h=>?_) (fun cdv A outer s H vs Q E hr h=>?_)
 ·obtain ⟨g,s,rs,pl,l,rfl,hG,hO,hrl,hs,hl,q⟩:=h;rfl
 ·obtain ⟨g,s,rs,pl,l,rfl,hG,hO,hrl,hs,hl,q⟩:=h
  refine ⟨_,‹A4 (A9 2 a3Y.nd F5) (A4 (C2 (B6 1) (B0 3 a3Y.nd) (A4 (D9 4 (C0 (a0a a3H) a6d ["rule"] [none]) (B6 (E2 0 T.me_Ground_ruling (a7o T) T.b_z04 (A0 3 A1))) (B0 0 (show Xq (["rule"]:List Str) by decide+kernel)) (D4 (B9 (C8 (C3 0 T.cl_Fact T.me_Fact_is_sure (b0r T) T.b_z07) (C8 (C3 0 T.cl_Sure T.me_Sure_is_sure (b0O T) T.b_z08) (C8 (C3 0 T.cl_Most T.me_Most_is_sure (a5S T) T.b_z05) (C3 0 T.cl_Block T.me_Block_is_sure (a5S T) T.b_z05)))))) 0 a3Y.nd) (E1 (B2 (C7 (E7 (F1 (a2h (a2U hr) ‹3› ‹2›)) (E8 (D8 (B9 (B8 (a1l rfl) T.z_any a2f (A0 (D1 (C0 (a0a a3H) a6d ["rule","ahead"] [none,some 2]) (B6 4) (B0 0 (show Xq (["rule","ahead"]:List Str) by decide+kernel)) D6 (A7 (a5P T) T.g_z0r T.F_z0r.kp T.b_z0r (A0 (E0 0) (A0 1 A1)))) A1))))))) (A3 (A5 B5)) B4) (A3 (F6 2 3 B5))))) (A4 (D9 5 (C0 (a0a a3H) a6d ["rule"] [none]) (B6 (C3 0 T.cl_Ground T.me_Ground_rules (b4X T) T.b_z0a)) (B0 0 (show Xq (["rule"]:List Str) by decide+kernel)) (D4 (B9 (C8 (C3 0 T.cl_Fact T.me_Fact_is_sure (b0r T) T.b_z07) (C8 (C3 0 T.cl_Sure T.me_Sure_is_sure (b0O T) T.b_z08) (C8 (C3 0 T.cl_Most T.me_Most_is_sure (a5S T) T.b_z05) (C3 0 T.cl_Block T.me_Block_is_sure (a5S T) T.b_z05)))))) 0 a3Y.nd) (A3 (A5 (B8 (a1k rfl) T.z_all a2d (A0 (D1 (C0 (a0a a3H) a6d ["rule","ahead"] [none,some 2]) (B6 5) (B0 0 (show Xq (["rule","ahead"]:List Str) by decide+kernel)) (D4 (B9 (A7 (a5P T) T.g_z0r T.F_z0r.kp T.b_z0r (A0 (E0 0) (A0 1 A1))))) (F3 (a2h (a2U hr) ‹E0 0› ‹1›))) A1))))))›,?_⟩
  rw [show a0q a6d [V.ref g,V.ref s]=[some (V.ref g),some (V.ref s),none,none,none,none] from rfl]
  unfold isS at q
  simp only [a1y,a2m,a5x,a0w,a0r,a1c,a2b,a0o,a0i,a0y,Qf,Qg,Qh,a0A,Qb,Qa,a0b,a1u]
  intro A hA0
  obtain ⟨H1,e1,s1,h1⟩:=a0J hA0 (.dK []);rw [e1]
  have sureE:∀r:Rw,decide ((r.1:Int) < 2)=(srW r).1:=fun r=>by
   show _=decide (r.1 < 2)
   rw [Yg,decide_eq_true_eq,decide_eq_true_eq];omega
  have hAm:∀(S:List Str) (x:Addr) (r:Rw) (H':Hp) (R:V→Hp→Prop),a3t r→a1t H' x (a2L t r.1) (.str r.2.1) (.str r.2.2.1) (r.2.2.2.map V.str)→H' A=some (.dK (bv S))→(∀H'',a0h H' H''→R (V.bl (a1E (srW r).2.2 S)) H'')→a0z a5w [] E0 (a0i (a2Y K (a0o 0) "body") (a0i (a0o 1) a0y)) [some (V.ref x),some (V.ref A)] H' R:=by
   intro S x r H' R ho hr hD' hR
   have CF:=a3R T ho.1
   obtain ⟨dx,t0,h1,h2⟩:=hr
   simp only [a0z,a0i,a2Y,a0o,Qa,Qb,a0y,Qf,a0b]
   refine ⟨x,_,dx,_,_,rfl,h1,CF.cl,CF.nb,a1m _ _ _,?_⟩
   exact ⟨t0,.ref A,r.2.2.2,S,rfl,h2,by have:=ho.2.2.2.2.2;omega,.inr ⟨A,_,rfl,hD',fun x=>by rw [a3Q];by_cases c:x∈S<;>simp [c]⟩,fun H'' s''=>hR _ s''⟩
  refine ⟨⟨_,SqL.of (s1 _ _ hs)⟩,?_⟩
  refine a0P (K:=K) (a:=s) (xs:=l.map V.str) (fun i σ H'=>∃(x3 x4:Option V),σ=[some (V.ref g),some (V.ref s),some (V.ref A),x3,x4,none]∧a0h H H'∧H' A=some (.dK (bv (l.take i)))∧a3c (rs.map srW) [] l=a3c (rs.map srW) (l.take i) (l.drop i))
   ⟨_,_,rfl,s1,h1,by rw [List.take_zero,Zl]⟩ (fun i σ H' _ h=>by obtain ⟨_,_,_,s',_⟩:=h;exact SqL.of (s' _ _ hs)) ?_ ?_
  ·rintro i v σ H2 hi ⟨x3,x4,rfl,s2,hA2,ho2⟩
   have hil:i < l.length:=by simpa using (Qv.mp hi).1
   have ev:v=V.str l[i]:=by
    rw [Qy,Qe hil] at hi
    exact (Option.some.inj hi).symm
   subst ev
   rw [Ub hil] at ho2
   have etk:l.take (i+1)=l.take i++[l[i]]:=Xl hil
   have hSl:(l.take i).length≤100:=by rw [Xp];omega
   have hG2:=hG.same s2
   obtain ⟨dx,io,bh,pr,_,_,_,hg1,_⟩:=id hG2
   have hAn:H A=none:=hA0
   generalize l.take i=S at hA2 ho2 etk hSl
   simp only [a0w,a1y,Qg,Qh,Qa,Qb,a0b]
   refine ⟨g,dx,_,rfl,hg1,a2j _ _ _ ‹dk› ‹dk› ‹dk›,g,l[i],rs,pl,rfl,hG2,fun W ys H3 s3 hWn hW3 hR3=>?_⟩
   obtain ⟨zr,ez1,ez2,hz⟩:=hR3.zip (fun r hr=>hO r (Xi.mp hr).1)
   subst ez1
   have hzl:zr.length≤63:=by
    have:=congrArg Yv ez2
    rw [Qc] at this
    rw [this];exact Qi (Qw _ _) hrl
   simp only [a1u]
   refine ⟨⟨_,SqL.of hW3⟩,?_⟩
   refine a1b zr hW3 ‹om› hz [] rfl (fun r=>(srW r).1) (fun p=>p.1) (fun x r H' R ho hr s' hR=>?_) (fun x r H' R ho hr s' hR=>?_) (fun W2 H4 hW2n s4 hW4=>?_)
   ·simp only [tB]
    refine b4Z ho.1 (a0W rfl) hr ⟨by decide+kernel,by decide+kernel,by decide+kernel⟩ ?_
    rw [a4T ho.1]
    simp only [a2q,a1p]
    rw [sureE]
    exact hR _ (a0h.refl _)
   ·simp only [a0o,Qa,a0b]
    exact hR _ (a0h.refl _)
   have s24:=s3.trans s4
   have hA4:=s24 _ _ hA2
   have hz4:a3W t H4 (zr.filter fun p=>(srW p.2).1):=fun p hp=>(hz.same s4) p (Xi.mp hp).1
   try skip
   refine ⟨fun σ' H'=>σ'=[some (V.ref g),some (V.ref s),some (V.ref A),some (V.str l[i]),some (V.ref W2),none]∧a0h H4 H'∧l[i]∉S∧a3v (rs.map srW) S l[i]=true,?_,?_⟩
   ·simp only [a1J,tOr,tB,b2C,a0o,Qb,Qa,a0K,tC,a0L,a6L,tCB,a0i,a0y,Xb,a1p,a0r,a1c,a0b,a1u]
    refine ⟨A,_,rfl,b7a hA4 _,?_⟩
    have qf:∀H',a0h H4 H'→((!decide (l[i]∈S) && a3v (rs.map srW) S l[i])=false)→Q (.bl false) H':=fun H' s' hf=>by
     have:=q H' ((s2.trans s24).trans s')
     rw [ho2,show a3c (rs.map srW) S (l[i]::l.drop (i+1))=((!decide (l[i]∈S) && a3v (rs.map srW) S l[i]) && a3c (rs.map srW) (S++[l[i]]) (l.drop (i+1))) from rfl,hf,Zb,Zb] at this
     exact this
    by_cases c:l[i]∈S
    ·rw [if_pos c]
     try skip
     exact qf _ (a0h.refl _) (by rw [decide_eq_true c];rfl)
    rw [if_neg c]
    try skip
    refine ⟨⟨_,SqL.of hW4⟩,?_⟩
    refine a1b (zr.filter fun p=>(srW p.2).1) hW4 (Qi (Qw _ _) ‹om›) hz4 [some (V.ref A)] rfl (fun _=>true) (fun p=>V.bl (a1E (srW p.2).2.2 S)) (fun x r H' R ho hr s' hR=>hR _ (a0h.refl _)) (fun x r H' R ho hr s' hR=>hAm S x r H' R ho hr (s' _ _ hA4) hR) (fun B H5 hBn s5 hB5=>?_)
    have eany:((zr.filter fun p=>(srW p.2).1).map fun p=>a1E (srW p.2).2.2 S).any id=a3v (rs.map srW) S l[i]:=by
     rw [←b5k,←ez2,Yh,Yt,Yt];rfl
    have hB5':H5 B=some (.lst (((zr.filter fun p=>(srW p.2).1).map fun p=>a1E (srW p.2).2.2 S).map V.bl)):=by
     rw [hB5,Zq.mpr (fun _ _=>rfl),Ym];rfl
    refine ⟨B,_,rfl,SqL.of hB5',?_⟩
    rw [eany]
    try skip
    refine a1d (fun c2=>?_) (fun c2=>?_)
    ·exact qf _ s5 (by rw [show a3v (rs.map srW) S l[i]=false from by simpa using c2,Bool.and_false])
    ·exact ⟨(by trivial),s5,c,by simpa using c2⟩
   ·rintro σ' H5 ⟨rfl,s5,hc1,hc2⟩
    have hA5:=s5 _ _ hA4
    simp only [a9L,tC,a0o,Qb,Qa,a0b]
    refine ⟨A,_,rfl,c1W hA5 ‹om› l[i],_,_,rfl,?_,?_,?_⟩
    ·intro b o e;rw [a0d (a0c e hAn)];exact s5 _ _ (s24 _ _ (s2 _ _ e))
    ·rw [a0f,a9U hc1,etk]
    ·rw [ho2,etk,show a3c (rs.map srW) S (l[i]::l.drop (i+1))=((!decide (l[i]∈S) && a3v (rs.map srW) S l[i]) && a3c (rs.map srW) (S++[l[i]]) (l.drop (i+1))) from rfl,hc2,decide_eq_false hc1]
     rfl
  ·rintro σ H2 ⟨x3,x4,rfl,s2,hA2,ho2⟩
   rw [Qc,Xz] at hA2 ho2
   rw [List.drop_length] at ho2
   have hor:a3c (rs.map srW) [] l=true:=ho2
   have hG2:=hG.same s2
   obtain ⟨dx,io,bh,pr,_,_,_,hg1,_⟩:=id hG2
   simp only [a1y,Qa,a0K,tCB,a0i,Qg,Qh,a0y,a0r,a1c,a0o,Qb,a0b]
   refine ⟨g,dx,_,rfl,hg1,a2j _ _ _ ‹dk› ‹dk› ‹dk›,g,rs,pl,rfl,hG2,fun W ys H3 s3 hWn hW3 hR3=>?_⟩
   obtain ⟨zr,ez1,ez2,hz⟩:=hR3.zip hO
   subst ez1
   have hzl:zr.length≤63:=by
    have:=congrArg Yv ez2
    rw [Qc] at this
    rw [this];exact hrl
   simp only [a1u]
   refine ⟨⟨_,SqL.of hW3⟩,?_⟩
   refine a1b zr hW3 ‹om› hz [] rfl (fun r=>(srW r).1) (fun p=>p.1) (fun x r H' R ho hr s' hR=>?_) (fun x r H' R ho hr s' hR=>?_) (fun W2 H4 hW2n s4 hW4=>?_)
   ·simp only [tB]
    refine b4Z ho.1 (a0W rfl) hr ⟨by decide+kernel,by decide+kernel,by decide+kernel⟩ ?_
    rw [a4T ho.1]
    simp only [a2q,a1p]
    rw [sureE]
    exact hR _ (a0h.refl _)
   ·simp only [a0o,Qa,a0b]
    exact hR _ (a0h.refl _)
   have s24:=s3.trans s4
   have hA4:=s24 _ _ hA2
   have hz4:a3W t H4 (zr.filter fun p=>(srW p.2).1):=fun p hp=>(hz.same s4) p (Xi.mp hp).1
   simp only [a1u]
   refine ⟨⟨_,SqL.of hW4⟩,?_⟩
   refine a1b (zr.filter fun p=>(srW p.2).1) hW4 (Qi (Qw _ _) ‹om›) hz4 [some (V.ref A)] rfl (fun r=>a1E (srW r).2.2 l) (fun p=>V.bl (decide ((srW p.2).2.1∈l))) (fun x r H' R ho hr s' hR=>?_) (fun x r H' R ho hr s' hR=>?_) (fun B H5 hBn s5 hB5=>?_)
   ·refine hAm l x r H' _ ho hr (s' _ _ hA4) fun H'' s''=>?_
    exact ⟨_,rfl,hR _ s''⟩
   ·have CF:=a3R T ho.1
    obtain ⟨dx',t0,h1,h2⟩:=hr
    simp only [b2C,a2Y,a0o,Qa,Qb,a0b]
    refine ⟨x,_,dx',_,_,rfl,h1,CF.cl,CF.nh,a0M _ _ _,A,_,rfl,b7a (s' _ _ hA4) _,?_⟩
    have:=hR _ (a0h.refl _)
    by_cases h:r.2.2.1∈l
    ·rw [if_pos h];rw [decide_eq_true (show (srW r).2.1∈l from h)] at this;exact this
    ·rw [if_neg h];rw [decide_eq_false (show ¬(srW r).2.1∈l from h)] at this;exact this
   have eall:(((zr.filter fun p=>(srW p.2).1).filter fun p=>a1E (srW p.2).2.2 l).map fun p=>decide ((srW p.2).2.1∈l)).all id=a5h (rs.map srW) l:=by
    rw [←b5U,←ez2,Yh,Yh,Zx,Zx];rfl
   have hB5':H5 B=some (.lst ((((zr.filter fun p=>(srW p.2).1).filter fun p=>a1E (srW p.2).2.2 l).map fun p=>decide ((srW p.2).2.1∈l)).map V.bl)):=by
    rw [hB5,Ym];rfl
   refine ⟨B,_,rfl,SqL.of hB5',?_⟩
   rw [eall]
   have:=q H5 ((s2.trans s24).trans s5)
   rw [hor,Yo] at this
   exact this
theorem a8L (T:Txt K mg t):a0S P w K mg base CX0 5 t.f_z1f t.fd_z1f ["ground","paper"] (b3q t):=by
 refine T.F_z1f.ok a7b (fun vs H Q E h=>?_) (fun cdv A outer s H vs Q E hr h=>?_)
 ·obtain ⟨g,p,a1,a2,rs,pl,S,ps,cl,rfl,hG,hO,hrl,hp,h1,hSl,h2,hP,hcl,hcq,q⟩:=h;rfl
 ·obtain ⟨g,p,a1,a2,rs,pl,S,ps,cl,rfl,hG,hO,hrl,hp,h1,hSl,h2,hP,hcl,hcq,q⟩:=h
  refine ⟨_,‹A4 (A9 2 a7b.nd (A8 a0k 1 A2)) (A4 (A9 3 a7b.nd (A8 a0k 1 A2)) (A4 (B2 (D8 (B9 (A7 (b3m T) T.g_z0d T.F_z0d.kp T.b_z0d (A0 0 (A0 2 A1))))) (A3 (A5 B5)) B4) (A3 (A5 (B8 (a1k rfl) T.z_all a2d (A0 (D1 (C0 (a0a a6i) b1b ["place","row","ground","sures","rows"] [none,none,some 0,some 2,some 3]) (H5 rfl T.z_enumerate (A0 3 A1)) (H6 K 2 rfl rfl (E4 (B0 0 (show Xq (["place","row","ground","sures","rows"]:List Str) by decide+kernel)) (E4 (B0 1 (show Xq (["place","row","ground","sures","rows"]:List Str) by decide+kernel)) F8))) D6 (A7 (b5G T) T.g_z1e T.F_z1e.kp T.b_z1e (A0 2 (A0 3 (A0 (C9 (b1o (K:=K) rfl) 4 D2 (C5 0)) (A0 1 A1)))))) A1))))))›,?_⟩
  rw [show a0q b1b [V.ref g,V.ref p]=[some (V.ref g),some (V.ref p),none,none] from rfl]
  simp only [a1y,a2m,tOp,a0o,Qb,Qa,tC,a0w,Qg,Qh,a1J,a6L,tB,a0z,a0i,a0y,Qf,Xb,a0K,a0L,tCB,a0r,b4M,a0b]
  refine a0Z (i:=0) (v:=.ref a1) (SqT.of hp) (by rfl) (a0Z (i:=1) (v:=.ref a2) (SqT.of hp) (by rfl) ?_)
  refine ⟨g,a1,rs,pl,S,rfl,hG,hO,hrl,h1,hSl,fun H1 s1=>⟨_,rfl,?_⟩⟩
  by_cases hS:isS rs S=true
  ·rw [hS,if_neg ‹dc›]
   rw [hS] at q
   refine ⟨a2,rfl,⟨_,SqL.of (s1 _ _ h2)⟩,?_⟩
   have hpl:ps.length=cl.length:=by have:=a0l.len hP;rw [Qc] at this;exact this
   refine b3w (xs:=ps) (Qi (show ps.length≤1000 by omega) ‹dc›) [some (V.ref g),some (V.ref a1),some (V.ref a2)] rfl (fun D i v H'=>v=V.bl (b2D rs pl S [] cl i)) (fun _ _ _ _ _ _ h=>h) (SqL.of (s1 _ _ h2)) (fun D i H' R hi hDn s hD hR=>?_) (fun B H2 ys hBn s2 hB2 hyl hv=>?_)
   ·have hi':i < cl.length:=by omega
    obtain ⟨x,ex,hx⟩:=a0l.at hP (i:=i) (by rw [Qc];exact hi')
    rw [Qe hi] at ex
    have ex':ps[i]=.ref x:=Option.some.inj ex
    rw [Zg] at hx
    have s0:=s1.trans s
    rw [ex']
    simp only [a0z,a0i,a0o,Qb,Qa,tSl,a1w,a2o,a0y,Qf,a0b,a2B]
    refine .inr (.inl ⟨a2,_,rfl,SqL.of (s0 _ _ h2),fun W hW=>?_⟩)
    have ec:a2x ps none (some (i:Int))=ps.take i:=by
     unfold a2x
     rw [HT.sIx_nat]
     show (ps.drop 0).take (min i ps.length - 0)=_
     rw [Zl,Jj,Jk ‹om›]
    rw [ec]
    obtain ⟨H3,e3,s3,h3⟩:=a0J hW (.lst (ps.take i));rw [e3]
    have s03:=s0.trans s3
    have hc:cl[i]∈cl:=Qq hi'
    refine ⟨g,W,x,.ref a1,rs,pl,(cl.take i).map cw,ps.take i,S,cl[i].1,cl[i].2,rfl,hG.same s03,hO,hrl,.inl ⟨a1,rfl,s03 _ _ h1⟩,h3,by rw [Yn];exact a2c (a0l.same s03 hP) i,by rw [Qc,Xp];omega,s03 _ _ hx,hcq _ hc,fun H4 s4=>?_⟩
    refine hR _ _ (s3.trans s4) ?_
    unfold b2D
    rw [Qe hi'];rfl
   have ey:ys=((Yq cl.length).map (b2D rs pl S [] cl)).map V.bl:=by
    refine List.ext_getElem (by rw [hyl,Qc,Qc,List.length_range,hpl]) fun i h1 h2=>?_
    rw [hv i _ (Qe h1),Zg,Zg,List.getElem_range]
   refine ⟨B,_,rfl,by rw [←ey];exact SqL.of hB2,?_⟩
   rw [a5M]
   exact q H2 (s1.trans s2)
  ·have hS':isS rs S=false:=by simpa using hS
   rw [hS',if_pos rfl]
   have:=q H1 s1
   rw [hS',Zb] at this
   exact this
theorem b0L (T:Txt K mg t):a0S P w K mg base CX0 6 t.f_z15 t.fd_z15 ["_law_world","_law_cells"] (a8I t):=by
 refine T.F_z15.ok a3e (fun vs H Q E h=>?_) (fun cdv A outer s H vs Q E hr h=>?_)
 ·obtain ⟨W,g,s,T0,P0,E,a1,C,zr,ps,pl,ev,S,cs,rfl,hW,hG,hs,h1,hSl,hC,hcl,q⟩:=h;rfl
 ·obtain ⟨W,g,s,T0,P0,E,a1,C,zr,ps,pl,ev,S,cs,rfl,hW,hG,hs,h1,hSl,hC,hcl,q⟩:=h
  refine ⟨_,‹A4 (F7 0 (H7 rfl (E4 (B0 2 a3e.nd) (E4 (B0 3 a3e.nd) (E4 (B0 4 a3e.nd) F8))))) (A4 (A9 5 a3e.nd (B7 A1)) (A4 (C2 (B6 1) (B0 6 a3e.nd) (A3 (C2 (B6 (A7 (b3a T) T.g_z03 T.F_z03.kp T.b_z03 (A0 3 (A0 6 A1)))) (B0 7 a3e.nd) (A3 (B2 (C7 (D5 (B1 (a4l hr.units) 7 5 (by with_unfolding_all rfl)) (D7 (B9 (A7 (a8L T) T.g_z1f T.F_z1f.kp T.b_z1f (A0 2 (A0 (D0 (A0 (D3 a0C T.z_list a0E (A0 4 A1)) (A0 (A6 a0m 5 (B7 (A0 7 A1))) A1))) A1))))))) (A3 (C6 (C4 Qz Xe Xf a0B 5 (A0 7 A1)))) B4))))) (A3 (A5 5))))›,?_⟩
  rw [show a0q b2T [V.ref W,V.ref C]=[some (V.ref W),some (V.ref C),none,none,none,none,none,none] from rfl]
  simp only [a1y,a2m,a0o,Qa,a0b]
  refine ⟨W,_,rfl,SqL.of hW,rfl,_,_,rfl,_,_,rfl,_,_,rfl,rfl,?_⟩
  simp only [a1y,a2m,a2W,a0y,a0w,Qg,Qh,a0A,a1c,a0o,Qb,Qa,a0b,a1u]
  refine ⟨Xr _,fun D hD=>?_⟩
  obtain ⟨H1,e1,s1,g1⟩:=a0J hD (.lst []);rw [e1]
  have hen:=hs.en
  have sok:∀z∈ev,Xk z=true:=fun z hz=>((hs.eo z hz).ok ‹dc›).1
  refine ⟨⟨_,SqL.of (s1 _ _ hC)⟩,?_⟩
  refine a0P (K:=K) (a:=C) (xs:=cs.map V.int) (fun j σ H'=>∃(R:List (Bool×Str)) (qs:List V) (x6 x7:Option V),σ=[some (V.ref W),some (V.ref C),some (V.ref g),some (V.ref s),some (V.ref a1),some (V.ref D),x6,x7]∧WrI H H' D (zr.map (·.2)) pl S ev R qs)
   ⟨[],[],_,_,rfl,s1,g1,⟨[],rfl,rfl,fun i a p e=>(by cases e)⟩,fun c hc=>(by cases hc),rfl,Zy,fun z=>absurd rfl z⟩ (fun i σ H' _ ⟨_,_,_,_,_,h⟩=>SqL.of (h.s _ _ hC)) ?_ ?_
  ·rintro j x σ H2 hj ⟨R,qs,x6,x7,rfl,hI⟩
   obtain ⟨hj',rfl⟩:=a1P hj
   simp only [a0w,Qg,Qh,a0A,a1c,a0z,a0i,a0o,Qb,Qa,a0y,Qf,a0b]
   refine ⟨s,T0,P0,E,cs[j],zr,ps,pl,ev,rfl,hs.same hI.s,fun D2 cl H3 s3 hD2n hcl2 hl2=>?_⟩
   obtain ⟨q2,hq2,hp2,he2⟩:=hcl2
   have hlq2:=a0l.len hp2
   rw [Qc] at hlq2
   have nD:D2≠D:=fun z=>by rw [z,hI.d] at hD2n;cases hD2n
   refine ⟨D2,rfl,⟨_,SqL.of hq2⟩,?_⟩
   refine a0P (K:=K) (a:=D2) (xs:=q2) (fun j' σ H'=>∃(R:List (Bool×Str)) (qs:List V) (x7:Option V),σ=[some (V.ref W),some (V.ref C),some (V.ref g),some (V.ref s),some (V.ref a1),some (V.ref D),some (V.int cs[j]),x7]∧WrI H H' D (zr.map (·.2)) pl S ev R qs∧H' D2=some (.lst q2)∧a0l H' q2 (cl.map cw))
    ⟨R,qs,_,rfl,hI.same s3,hq2,hp2⟩ (fun i σ H' _ ⟨_,_,_,_,_,h,_⟩=>SqL.of h) ?_ ?_
   ·rintro k x σ H4 hk ⟨R,qs,y7,rfl,hI,hq4,hp4⟩
    have hk':k < cl.length:=by rw [←hlq2];exact (Qv.mp hk).1
    obtain ⟨x',ex,hx⟩:=a0l.at hp4 (i:=k) (by rw [Qc];exact hk')
    rw [hk] at ex
    cases ex
    rw [Zg] at hx
    have hce:=he2 _ (Qq hk')
    generalize cl[k]=c at hx hce
    have hcl:=b5i hI.n hI.e
    have hql:=a0l.len hI.p
    rw [Qc] at hql
    simp only [a0w,a1J,a8l,a0I,tOp,a0o,Qg,Qh,Qb,Qa,tB,a0z,a0i,a5a,tCB,a0y,a2W,Qf,a2y,tBM,a0b,a0L,a2g]
    refine ⟨x',D,_,_,qs,R.map cw,rfl,rfl,hx,SqL.of hI.d,hI.p,⟨a5D _,sok _ hce⟩,fun p hp=>?_,?_⟩
    ·obtain ⟨d,hd,rfl⟩:=Qn.mp hp
     exact ⟨a5D _,sok _ (hI.e d hd)⟩
    simp only [a1p,Xb,decide_eq_false_iff_not]
    refine a1d (fun c1=>?_) (fun c1=>⟨R,qs,_,rfl,hI,hq4,hp4⟩)
    have hcn:c∉R:=fun z=>c1 (b0p.mpr z)
    refine ⟨a1,_,rfl,.inl (SqL.of (hI.s _ _ h1)),fun p5 hp5=>?_⟩
    obtain ⟨H5,e5,s5,g5⟩:=a0J hp5 (.lst (S.map V.str));rw [e5]
    refine ⟨by simp only [Qj,Qr];decide,fun p6 hp6=>?_⟩
    obtain ⟨H6,e6,s6,g6⟩:=a0J hp6 (.lst [V.ref x']);rw [e6]
    refine .inr (.inr (.inl ⟨D,p6,_,_,rfl,rfl,s6 _ _ (s5 _ _ hI.d),g6,Qi (show _≤1000 by simp only [Qj,Qr];omega) ‹dc›,fun p7 hp7=>?_⟩))
    obtain ⟨H7,e7,s7,g7⟩:=a0J hp7 (.lst (qs++[V.ref x']));rw [e7]
    refine ⟨by simp only [Qj,Qr];decide,fun p8 hp8=>?_⟩
    obtain ⟨H8,e8,s8,g8⟩:=a0J hp8 (.tup [V.ref p5,V.ref p7]);rw [e8]
    have s48:=((s5.trans s6).trans s7).trans s8
    have hI8:=hI.same s48
    have hP8:a0l H8 (qs++[V.ref x']) ((R++[c]).map cw):=by
     rw [Xo]
     exact a3E (a0l.same s48 hI.p) (s48 _ _ hx)
    have hRc:∀d∈R++[c],d.2∈ev:=fun d hd=>(Xn.mp hd).elim (hI.e d) fun z=>by rw [Qt.mp z];exact hce
    refine ⟨g,p8,p5,p7,zr.map (·.2),pl,S,_,R++[c],rfl,hG.same hI8.s,fun r hr=>?_,by rw [Qc];have:=hs.r.2.2.1;omega,g8,s8 _ _ (s7 _ _ (s6 _ _ g5)),hSl,s8 _ _ g7,hP8,by rw [Xa];simp only [Qj,Qr];omega,fun d hd=>Qi (hs.eo _ (hRc d hd)).len ‹dc›,fun H9 s9=>⟨_,rfl,a1d (fun c2=>?_) (fun c2=>⟨R,qs,_,rfl,hI8.same s9,s9 _ _ (s48 _ _ hq4),a0l.same (s48.trans s9) hp4⟩)⟩⟩
    ·obtain ⟨p,hp,rfl⟩:=Qn.mp hr
     exact (hs.r.2.2.2 p hp).1
    have hI9:=hI8.same s9
    rw [Qs] at c2
    have upD:∀a o,a≠D→H9 a=some o→upd H9 D (.lst (qs++[V.ref x'])) a=some o:=fun a o n e=>by rw [a0d n];exact e
    refine ⟨.inl ⟨rfl,_,SqL.of hI9.d⟩,D,_,_,rfl,rfl,hI9.d,Xj (show _≤1000 by omega) ‹dc›,R++[c],qs++[V.ref x'],_,rfl,⟨fun a o e=>?_,a0f,?_,hRc,c2.2,?_,fun _=>c2.1⟩,upD _ _ nD (s9 _ _ (s48 _ _ hq4)),?_⟩
    ·rw [a0d (a0c e hD)];exact hI9.s _ _ e
    ·exact a2I (a0l.same s9 hP8) ⟨_,hI9.d⟩ upD
    ·exact a3s hI.n hcn
    ·exact a2I (a0l.same (s48.trans s9) hp4) ⟨_,hI9.d⟩ upD
   ·rintro σ H4 ⟨R,qs,y7,rfl,hI,_,_⟩
    exact ⟨R,qs,_,_,rfl,hI⟩
  ·rintro σ H2 ⟨R,qs,x6,x7,rfl,hI⟩
   simp only [a0K,a0o,Qb,Qa,a0b]
   exact q D R H2 hI.s hD ⟨qs,hI.d,hI.p,hI.e⟩ hI.l hI.n hI.i
theorem a9G (T:Txt K mg t):a0S P w K mg base CX0 8 t.f_d_law t.fd_d_law ["_law_script"] (b1l K):=by
 refine T.F_d_law.ok a0U (fun vs H Q E h=>?_) (fun cdv A outer s H vs Q E hr h=>?_)
 ·obtain ⟨a,ns,rfl,hS,hl,q⟩:=h;rfl
 ·obtain ⟨a,ns,rfl,hS,hl,q⟩:=h
  refine ⟨_,‹A4 (A9 1 a0U.nd (A7 (b5m T) T.g_z1j T.F_z1j.kp T.b_z1j (A0 0 (A0 A2 A1)))) (A4 (A9 2 a0U.nd (F0 T.mk_Ground (b6a T) T.g_Ground T.b_z0h (A0 (D3 a0C T.z_list a0E (A0 (A8 a0k 1 A2) A1)) (A0 (D3 a0C T.z_list a0E (A0 (A8 a0k 1 A2) A1)) A1)))) (A4 (A9 3 a0U.nd (A7 (b5s T) T.g_z1l T.F_z1l.kp T.b_z1l (A0 1 A1))) (A4 (A9 4 a0U.nd (A7 (b2W T) T.g_z1m T.F_z1m.kp T.b_z1m (A0 1 (A0 3 A1)))) (A4 (D9 5 (C0 (a0a a2r) a4W ["_law_cell"] [none]) (B6 (C9 a1o 0 (C5 A2) (C5 A2))) (B0 0 (show Xq (["_law_cell"]:List Str) by decide+kernel)) D6 (A7 (a2u T) T.g_z1s T.F_z1s.kp T.b_z1s (A0 0 (A0 A2 A1))) a0U.nd) (A4 (A9 6 a0U.nd (B7 (A0 2 (A0 1 (A0 3 A1))))) (A4 (A9 7 a0U.nd (A7 (b0L T) T.g_z15 T.F_z15.kp T.b_z15 (A0 6 (A0 5 A1)))) (A4 (C2 (B6 7) (B0 8 a0U.nd) (A3 (B2 (B1 (a4l hr.units) 8 4 (by with_unfolding_all rfl)) (A3 (A5 B5)) B4))) (A4 (B2 (D8 (B9 (A7 (b4V T) T.g_z16 T.F_z16.kp T.b_z16 (A0 1 (A0 3 (A0 7 A1)))))) (A3 (A5 B5)) B4) (A4 (A9 9 a0U.nd (A7 (a2V T) T.g_z11 T.F_z11.kp T.b_z11 (A0 0 (A0 A2 A1)))) (A4 (A9 10 a0U.nd (D3 a0C T.z_list a0E (A0 3 A1))) (E1 (B2 (C7 (D5 (B1 (a1n hr.units) (A6 a0F 9 A2) A2 (a0v _)) (D7 (B1 (a4F hr.units) 10 (B7 A1) (a0v _))))) (A3 (C6 (C4 Qz PySem.F.slot_list_pop PySem.F.type_list_pop a9E 10 (A0 (A6 a0F (A6 a1x 9 A2) (B8 a0s T.z_len a0u (A0 10 A1))) A1)))) (A3 (C6 (C4 Qz Xe Xf a0B 10 (A0 (A8 a0k (A8 a0k 1 A2) (A6 a0F (A6 a1x 9 A2) (B8 a0s T.z_len a0u (A0 (A8 a0k 1 A2) A1)))) A1))))) (A4 (B2 (B9 (A7 (a8L T) T.g_z1f T.F_z1f.kp T.b_z1f (A0 2 (A0 (D0 (A0 (D3 a0C T.z_list a0E (A0 10 A1)) (A0 (B7 A1) A1))) A1)))) (A3 (A5 B5)) B4) (A4 (B2 (B1 (a4F hr.units) (A7 (b0L T) T.g_z15 T.F_z15.kp T.b_z15 (A0 (B7 (A0 2 (A0 1 (A0 10 A1)))) (A0 (C9 a1o 5 D2 (C5 A2)) A1))) (B7 A1) (a0v _)) (A3 (A5 B5)) B4) (A4 (C2 (E3 (A0 (A6 a0m (B8 a0s T.z_len a0u (A0 4 A1)) A2) A1)) (B0 11 a0U.nd) (A3 (B2 (D8 (B9 (A7 (a8L T) T.g_z1f T.F_z1f.kp T.b_z1f (A0 2 (A0 (D0 (A0 (D3 a0C T.z_list a0E (A0 3 A1)) (A0 (C9 a1o 4 D2 (C5 11)) A1))) A1))))) (A3 (A5 B5)) B4))) (A3 (A5 B5))))))))))))))))›,?_⟩
  rw [show a0q a4W [V.ref a]=[some (V.ref a),none,none,none,none,none,none,none,none,none,none,none] from rfl]
  simp only [a1y,a2m,a0z,a0i,a0o,Qa,tC,a0y,Qf,a0w,a9p,tCB,tOp,Qg,Qh,Qb,a2W,a0A,a1c,a0b,a0r,tSl,a2o,a2B]
  refine ⟨a,ns,rfl,hS,hl,fun s T0 P0 E zr ps pl ev H1 s1 hs=>?_⟩
  have hS1:SqL K H1 a (ns.map V.int):=s1.seq hS
  refine a0n (SqL.of hs.s) rfl ⟨T0,_,rfl,.inl (SqL.of hs.r.1),fun Rl hRl=>?_⟩
  obtain ⟨H2,e2,s2,h2⟩:=a0J hRl (.lst (zr.map (·.1)));rw [e2]
  refine a0n (SqL.of (s2 _ _ hs.s)) rfl ⟨P0,_,rfl,.inl (SqL.of (s2 _ _ hs.p)),fun Pl hPl=>?_⟩
  obtain ⟨H3,e3,s3,h3⟩:=a0J hPl (.lst ps);rw [e3]
  have s13:=s2.trans s3
  intro g dx ng ndx ne
  obtain ⟨s4,h4⟩:=b3j (C:=t.C_Ground) ng ndx
  obtain ⟨H4,e4⟩:∃H4,upd (upd H3 dx (.own g)) g (.ins t.C_Ground dx [])=H4:=⟨_,rfl⟩
  rw [e4] at s4 h4 ⊢
  have hU:a1G t H1 (zr.map (·.1)) (zr.map (·.2)):=⟨by simp,fun i r e=>by
   rw [Qy] at e
   obtain ⟨p,ep,rfl⟩:=Uz.mp e
   exact ⟨p.1,by rw [Qy,ep];rfl,(hs.r.2.1 p (Ji ep)).1⟩⟩
  have s14:=s13.trans s4
  have hO:∀r∈zr.map (·.2),a3t r:=fun r hr=>by
   obtain ⟨p,hp,rfl⟩:=Qn.mp hr
   exact (hs.r.2.2.2 p hp).1
  have hrl:=hs.r.2.2.1
  have hrm:(zr.map (·.2)).length≤63:=by rw [Qc];omega
  refine ⟨g,dx,Rl,Pl,_,_,ps,pl,rfl,h4,s4 _ _ (s3 _ _ h2),hU.same s14,hO,hrm,s4 _ _ h3,a0l.same s14 hs.prs,by have:=hs.pn;omega,fun H5 k5 hG5=>⟨rfl,?_⟩⟩
  have s35:a0h H3 H5:=fun b o e=>k5 b o (s4 _ _ e) (a0c e ng)
  have s15:=s13.trans s35
  have hS5:SqL K H5 a (ns.map V.int):=s15.seq hS1
  have hs5:=hs.same s15
  clear s1 s2 s3 s4 s13 s14 s15 s35 h2 h3 h4 hU hS1 hS k5 e4 e2 e3
  have hen:=hs.en
  have sok:∀z∈ev,Xk z=true:=fun z hz=>((hs.eo z hz).ok ‹dc›).1
  refine ⟨s,T0,P0,E,zr,ps,pl,ev,rfl,hs5,fun Su S H6 s6 hSun hSu hiS=>?_⟩
  have hSf:S.length≤30∧∀z∈S,z∈ev:=by
   have h0:=hiS
   unfold isS at h0
   rw [Qs] at h0
   obtain ⟨_,b1,b2⟩:=a2F h0.1
   rw [Qc] at b2
   refine ⟨by omega,fun z hz=>?_⟩
   obtain ⟨r,hr,e⟩:=b1 z hz
   obtain ⟨p,hp,rfl⟩:=Qn.mp hr
   rw [←e];exact (hs.ez p hp).1
  refine ⟨s,T0,P0,E,Su,zr,ps,pl,ev,S,rfl,hs5.same s6,hSu,fun Cl G qG H7 s7 hCln hCl hPG hG hGC=>?_⟩
  have hGl:=hG.len
  have hqG:=a0l.len hPG
  rw [Qc] at hqG
  have s57:=s6.trans s7
  refine .inr (.inl ⟨a,_,rfl,s57.seq hS5,fun W1 hW1=>?_⟩)
  obtain ⟨c0,ec0,hc0⟩:=a8d ns (some 27) (some 63)
  rw [ec0]
  obtain ⟨H8,e8,s8,g8⟩:=a0J hW1 (.lst (c0.map V.int));rw [e8]
  refine ⟨W1,rfl,⟨_,SqL.of g8⟩,?_⟩
  refine a4B (a2E (xs:=c0.map V.int)) (Qi (show (c0.map V.int).length≤1000 by rw [Qc];omega) ‹dc›) [] rfl (fun i v=>∃n,v=V.int n) (fun H' s'=>SqL.of (s' _ _ g8)) (fun i H' R hi s' hR=>?_) (fun Ce H9 ys hCen s9 hCe hyl hv=>?_)
  ·have hi':i < c0.length:=by simpa using hi
   have e2:((c0.map V.int)[i]?).getD .non=V.int c0[i]:=by rw [Qy,Qe hi'];rfl
   rw [e2]
   simp only [a0z,a0i,a0o,Qa,tC,a0y,Qf,a0b,a1I]
   exact fun r _=>hR _ _ (a0h.refl _) ⟨r,rfl⟩
  obtain ⟨cs,rfl⟩:=b5x hv
  rw [Qc,Qc] at hyl
  have s59:=(s57.trans s8).trans s9
  refine ⟨by simp only [Qj,Qr];decide,fun Wo hWo=>?_⟩
  obtain ⟨H10,e10,s10,g10⟩:=a0J hWo (.lst [V.ref g,V.ref s,V.ref Su]);rw [e10]
  have s510:=s59.trans s10
  have s610:=((s7.trans s8).trans s9).trans s10
  have s710:=(s8.trans s9).trans s10
  refine ⟨Wo,g,s,T0,P0,E,Su,Ce,zr,ps,pl,ev,S,cs,rfl,g10,hG5.same s510,hs5.same s510,s610 _ _ hSu,by omega,s10 _ _ hCe,by omega,fun Ro R H11 s11 hRon hRo hRL hRn _=>?_⟩
  have hRl:=b5i hRn (fun c hc=>by obtain ⟨_,_,_,h⟩:=hRo;exact h c hc)
  have s511:=s510.trans s11
  have s611:=s610.trans s11
  have s711:=s710.trans s11
  obtain ⟨qR,hRo1,hRo2,hRe⟩:=id hRo
  have hin:=a8o hG hGC hRL (fun _ h=>by cases h) hRe
  have hok:∀(L:List (Bool×Str)),(∀c∈L,c.2∈ev)→∀p∈L.map cw,Xk p.1=true∧Xk p.2=true:=fun L hL p hp=>by
   obtain ⟨d,hd,rfl⟩:=Qn.mp hp
   exact ⟨a5D _,sok _ (hL d hd)⟩
  have hqR:=a0l.len hRo2
  rw [Qc] at hqR
  refine ⟨Ro,rfl,⟨_,SqL.of hRo1⟩,?_⟩
  refine a0P (K:=K) (a:=Ro) (xs:=qR) (fun i σ H'=>H'=H11∧∃(x8:Option V),σ=[some (V.ref a),some (V.ref s),some (V.ref g),some (V.ref Su),some (V.ref Cl),some (V.ref Ce),some (V.ref Wo),some (V.ref Ro),x8,none,none,none]) ⟨rfl,_,rfl⟩ (fun i σ H' _ ⟨e,_⟩=>by rw [e];exact SqL.of hRo1) ?_ ?_
  ·rintro i x σ H' hi ⟨rfl,x8,rfl⟩
   have hi':i < R.length:=by rw [←hqR];exact (Qv.mp hi).1
   obtain ⟨x',ex,hx⟩:=a0l.at hRo2 (i:=i) (by rw [Qc];exact hi')
   rw [hi] at ex
   cases ex
   rw [Zg] at hx
   have hcR:=Qq hi'
   generalize R[i]=c at hx hcR
   simp only [a0w,a1J,a0I,tOp,a0o,Qg,Qh,Qb,Qa,a0K,tC,a0L,a0b]
   refine ⟨x',Cl,_,_,qG,G.map cw,rfl,rfl,hx,SqL.of (s711 _ _ hCl),a0l.same s711 hPG,⟨a5D _,sok _ (hRe c hcR)⟩,hok G hG.e,?_⟩
   rw [decide_eq_true (show ((cw c).1,(cw c).2)∈G.map cw from b0p.mpr (hin c hcR))]
   simp only [a1p,Xb,b2R]
   exact ⟨trivial,_,rfl⟩
  rintro σ H' ⟨rfl,x8,rfl⟩
  simp only [a1y,a1J,a6L,tB,a0z,a0i,a0o,Qb,Qa,a0y,Qf,Xb,a0K,tC,a0L,a2m,a0w,tCB,Qg,Qh,a0b]
  refine ⟨s,T0,P0,E,Su,Ro,zr,ps,pl,ev,S,R,rfl,hs5.same s511,s611 _ _ hSu,hRo,by omega,hRL,fun H12 s12=>⟨_,rfl,?_⟩⟩
  rw [if_neg ‹dc›]
  have s512:=s511.trans s12
  have s612:=s611.trans s12
  have s712:=s711.trans s12
  refine ⟨a,ns,27,rfl,s512.seq hS5,hl,by decide,by decide,fun cc=>?_⟩
  refine ⟨Su,_,rfl,.inl (SqL.of (s612 _ _ hSu)),fun B hB=>?_⟩
  obtain ⟨H13,e13,s13,g13⟩:=a0J hB (.lst (S.map V.str));rw [e13]
  have hs13:=hs5.same (s512.trans s13)
  have upB:∀o,a0h H12 (upd H13 B o):=fun o b x e=>by rw [a0d (a0c e hB)];exact s13 _ _ e
  refine ⟨fun σ' H'=>∃S':List Str,σ'=[some (V.ref a),some (V.ref s),some (V.ref g),some (V.ref Su),some (V.ref Cl),some (V.ref Ce),some (V.ref Wo),some (V.ref Ro),x8,some (V.int cc),some (V.ref B),none]∧a0h H12 H'∧H' B=some (.lst (S'.map V.str))∧S'.length≠S.length∧S'.length≤31,?_,?_⟩
  ·have app:∀Hx,a0h H13 Hx→(tyV K "list" (V.ref B) Hx∧rIx K (V.ref s) (V.int 2) Hx fun x H1=>((0:Int) < 3∧(3:Int) < 1073741824)∧rIx K (V.ref s) (V.int 2) H1 fun x_1 H1=>b1R K [x_1] H1 fun y H2=>rI (fun _ j=>0 < j) (fun i j=>V.int (i % j)) (V.int (cc / 3)) y H2 fun y H2=>rIx K x y H2 fun x H1=>a7w (V.ref B) [x] H1 fun _ H1=>∃S':List Str,True∧a0h H12 H1∧H1 B=some (HO.lst (Vg V.str S'))∧S'.length≠S.length∧S'.length≤31):=by
    intro Hx sx
    have hBx:=sx _ _ g13
    have hsx:=hs13.same sx
    refine ⟨.inl ⟨rfl,_,SqL.of hBx⟩,a0n (SqL.of hsx.s) rfl ⟨by decide,a0n (SqL.of hsx.s) rfl (a0t (SqL.of hsx.e) ?_)⟩⟩
    rw [Qc]
    have m1:=a1i (i:=cc / 3) (j:=(ev.length:Int)) ‹om›
    obtain ⟨v,e,hv,_⟩:=a2e (xs:=ev.map V.str) (i:=cc / 3 % (ev.length:Int)) m1.1 (by rw [Qc];exact m1.2)
    obtain ⟨z,hz,rfl⟩:=Qn.mp hv
    simp only [a0Y]
    refine ⟨by omega,a0n (SqL.of hsx.e) e ⟨B,_,_,rfl,rfl,hBx,Xj (show _≤1000 by rw [Qc];omega) ‹dc›,S++[z],trivial,fun b x e=>by rw [a0d (a0c e hB)];exact sx _ _ (s13 _ _ e),by rw [a0f,Xo];rfl,by rw [Xa,Yy];omega,by rw [Xa,Yy];omega⟩⟩
   simp only [a1J,a8l,a0I,tOp,a0o,Qb,Qa,tC,a2W,a0y,a2y,tBM,a0i,tCB,a0b,a0Y,a8V,a2g,a1r,a1p,decide_eq_true_eq]
   refine ⟨by decide,a1d (fun c1=>?_) (fun _=>app _ (a0h.refl _))⟩
   refine ⟨Xr _,fun p hp=>?_⟩
   obtain ⟨Hx,ex,sx,gx⟩:=a0J hp (.lst []);rw [ex]
   have hBx:=sx _ _ g13
   refine a8N (SqL.of hBx) (SqL.of gx) (fun z hz=>sok z (hSf.2 z hz)) ⟨_,rfl,?_⟩
   by_cases hS0:S=[]
   ·rw [decide_eq_true hS0,if_neg ‹dc›];exact app _ sx
   ·rw [decide_eq_false hS0,if_pos ‹dc›]
    refine ⟨.inl ⟨rfl,_,SqL.of hBx⟩,by decide,a0t (SqL.of hBx) ?_⟩
    rw [Qc]
    have hSp:0 < S.length:=List.length_pos_iff.mpr hS0
    have m1:=a1i (i:=cc / 3) (j:=(S.length:Int)) ‹om›
    obtain ⟨v,e,_⟩:=a2e (xs:=S.map V.str) (i:=cc / 3 % (S.length:Int)) m1.1 (by rw [Qc];exact m1.2)
    obtain ⟨j,j1,j2,j3,_⟩:=a3G e
    rw [Qc] at j3
    have:=hSf.1
    simp only [a0Y]
    refine ⟨by omega,B,_,_,j,v,rfl,rfl,hBx,by omega,by omega,j1,j2,S.eraseIdx j,trivial,fun b x e=>by rw [a0d (a0c e hB)];exact sx _ _ (s13 _ _ e),by rw [a0f,b0A],by rw [Jx j3];omega,by rw [Jx j3];omega⟩
  ·rintro σ' H14 ⟨S',rfl,s14,hB14,hne,hSl'⟩
   have hnot:isS (zr.map (·.2)) S'=false:=Yp.mpr fun z=>hne (b1Y z hiS)
   simp only [a1y,a1J,tB,a0z,a0i,a0o,Qb,Qa,a5a,tCB,a0y,a2W,Qf,a0K,tC,a0L,a0I,tOp,tSl,a1w,a2o,a0A,a5j,a0b,a2B]
   refine ⟨B,_,rfl,.inl (SqL.of hB14),fun p1 hp1=>?_⟩
   obtain ⟨H15,e15,s15,g15⟩:=a0J hp1 (.lst (S'.map V.str));rw [e15]
   refine ⟨Xr _,fun p2 hp2=>⟨by simp only [Qj,Qr];decide,fun p3 hp3=>?_⟩⟩
   obtain ⟨H16,e16,s16,g16⟩:=a0J hp2 (.lst []);rw [e16] at hp3 ⊢
   obtain ⟨H17,e17,s17,g17⟩:=a0J hp3 (.tup [V.ref p1,V.ref p2]);rw [e17]
   have s1417:=(s15.trans s16).trans s17
   have s1217:=s14.trans s1417
   refine ⟨g,p3,p1,p2,_,pl,S',[],[],rfl,hG5.same (s512.trans s1217),hO,hrm,g17,s17 _ _ (s16 _ _ g15),by omega,s17 _ _ g16,⟨[],rfl,rfl,fun i a p e=>(by cases e)⟩,Xr _,fun c hc=>(by cases hc),fun H18 s18=>⟨_,rfl,?_⟩⟩
   rw [hnot,Zb,if_neg ‹dc›]
   refine ⟨by simp only [Qj,Qr];decide,fun p4 hp4=>?_⟩
   obtain ⟨H19,e19,s19,g19⟩:=a0J hp4 (.lst [V.ref g,V.ref s,V.ref B]);rw [e19]
   have s1419:=(s1417.trans s18).trans s19
   have s1219:=s14.trans s1419
   have hCe12:=s12 _ _ (s11 _ _ (s10 _ _ hCe))
   refine .inr (.inl ⟨Ce,_,rfl,SqL.of (s1219 _ _ hCe12),fun p5 hp5=>?_⟩)
   obtain ⟨c2,ec2,hc2⟩:=a8d cs none (some 12);rw [ec2]
   obtain ⟨H20,e20,s20,g20⟩:=a0J hp5 (.lst (c2.map V.int));rw [e20]
   have s1220:=s1219.trans s20
   refine ⟨p4,g,s,T0,P0,E,B,p5,zr,ps,pl,ev,S',c2,rfl,s20 _ _ g19,hG5.same (s512.trans s1220),hs5.same (s512.trans s1220),s20 _ _ (s1419 _ _ hB14),by omega,g20,by omega,fun Ro2 R2 H21 s21 hn2 hR2 _ _ hi2=>?_⟩
   have hR0:R2=[]:=Classical.byContradiction fun h=>by rw [hi2 h] at hnot;cases hnot
   subst hR0
   obtain ⟨q2,hq2,hp2',_⟩:=hR2
   have hq0:q2=[]:=Zh.mp (a0l.len hp2')
   subst hq0
   refine ⟨Xr _,fun p6 hp6=>?_⟩
   obtain ⟨H22,e22,s22,g22⟩:=a0J hp6 (.lst []);rw [e22]
   refine a8N (zs:=[]) (SqL.of (s22 _ _ hq2)) (SqL.of g22) (fun _ h=>by cases h) ⟨_,rfl,?_⟩
   rw [decide_eq_true rfl,if_neg ‹dc›]
   have s1222:=(s1220.trans s21).trans s22
   have hCl12:=s712 _ _ hCl
   refine a0t (SqL.of (s1222 _ _ hCl12)) ?_
   rw [hqG]
   simp only [a0N]
   refine ⟨_,rfl,by omega,by omega,?_⟩
   refine a1D (n:=((G.length:Int)+1).toNat) (lo:=0) (fun k σ H'=>∃(x11:Option V),σ=[some (V.ref a),some (V.ref s),some (V.ref g),some (V.ref Su),some (V.ref Cl),some (V.ref Ce),some (V.ref Wo),some (V.ref Ro),x8,some (V.int cc),some (V.ref B),x11]∧a0h H12 H') ⟨_,rfl,s1222⟩ ?_ ?_
   ·rintro k σ H23 hk ⟨x11,rfl,s23⟩
    have hk':k≤G.length:=by omega
    rw [Int.zero_add]
    have ec:a2x qG none (some (k:Int))=qG.take k:=by
     unfold a2x
     rw [HT.sIx_nat]
     show (qG.drop 0).take (min k qG.length - 0)=_
     rw [Zl,Jj,Jk ‹om›]
    simp only [a0w,a1J,a6L,tB,a0z,a0i,a0o,Qg,Qh,Qb,Qa,a5a,tCB,a0y,tSl,a1w,a2o,Qf,Xb,a0K,tC,a0L,a0b,a2B]
    refine ⟨Su,_,rfl,.inl (SqL.of (s23 _ _ (s612 _ _ hSu))),fun p7 hp7=>?_⟩
    obtain ⟨H24,e24,s24,g24⟩:=a0J hp7 (.lst (S.map V.str));rw [e24]
    refine .inr (.inl ⟨Cl,_,rfl,SqL.of (s24 _ _ (s23 _ _ hCl12)),fun p8 hp8=>?_⟩)
    rw [ec]
    obtain ⟨H25,e25,s25,g25⟩:=a0J hp8 (.lst (qG.take k));rw [e25]
    refine ⟨by simp only [Qj,Qr];decide,fun p9 hp9=>?_⟩
    obtain ⟨H26,e26,s26,g26⟩:=a0J hp9 (.tup [V.ref p7,V.ref p8]);rw [e26]
    have s1226:=((s23.trans s24).trans s25).trans s26
    refine ⟨g,p9,p7,p8,_,pl,S,qG.take k,G.take k,rfl,hG5.same (s512.trans s1226),hO,hrm,g26,s26 _ _ (s25 _ _ g24),by omega,s26 _ _ g25,by rw [Yn];exact a2c (a0l.same (s712.trans s1226) hPG) k,by rw [Xp];omega,fun c hc=>Qi (hs.eo _ (hG.e c (Zm hc))).len ‹dc›,fun H27 s27=>⟨_,rfl,?_⟩⟩
    rw [hiS,a2S k hG.l,if_neg ‹dc›]
    exact ⟨_,rfl,s1226.trans s27⟩
   ·rintro σ H23 ⟨x11,rfl,s23⟩
    simp only [a0K,tC]
    exact q _
end
end K54
open PySem PySem.W PyProof.Rows
namespace K54
open PySem PySem.W L2
noncomputable def adr:Adr:=⟨28,kG "keyed" "keyed" a8i m1 27,33,kG "all_among" "all_among" a6I m1 32,38,kG "any_among" "any_among" a6c m1 37,45,kG "opposite" "opposite" a7N m2 44,50,kG "is_sure_set" "is_sure_set" a3H m3 49,55,kG "is_beaten" "is_beaten" a6z m4 54,60,kG "holds_by" "holds_by" a5l m4 59,65,kG "refused_by" "refused_by" a5n m4 64,70,kG "with_word" "with_word" a6w m5 69,77,kG "follows" "follows" a7f m5 76,82,kG "lets_by" "lets_by" a6i m5 81,96,kG "__init__" "Rule.__init__" a7R m6 95,110,kG "speaks" "Rule.speaks" a8w m6 109,117,kG "is_sure" "Rule.is_sure" a8J m6 116,166,kG "__init__" "Fact.__init__" a7Q m6 165,173,kG "word" "Fact.word" a6W m6 172,180,kG "is_sure" "Fact.is_sure" a8B m6 179,213,kG "word" "Sure.word" a8U m6 212,220,kG "is_sure" "Sure.is_sure" a8A m6 219,246,kG "word" "Most.word" a7m m6 245,272,kG "word" "Block.word" a8D m6 271,279,kG "speaks" "Block.speaks" a8m m6 278,305,kG "__init__" "Ground.__init__" a7n m7 304,312,kG "rules" "Ground.rules" a7u m7 311,319,kG "ruling" "Ground.ruling" a7W m7 318,324,kG "speaking" "Ground.speaking" a6m m7 323,331,kG "against" "Ground.against" a8K m7 330,338,kG "beats" "Ground.beats" a8H m7 337,366,kG "_law_cell_at" "_law_cell_at" a8p m8 365,373,kG "_law_mix" "_law_mix" a8r m8 372,378,kG "_law_words" "_law_words" a6h m8 377,385,kG "_law_opposed" "_law_opposed" a7V m8 384,392,kG "_law_pool" "_law_pool" a8b m8 391,399,kG "_law_drawn" "_law_drawn" a8h m8 398,406,kG "_law_numbers" "_law_numbers" a7C m8 405,411,kG "_law_rule" "_law_rule" a5Y m8 410,418,kG "_law_pairs" "_law_pairs" a7O m8 417,425,kG "_law_turned" "_law_turned" a7r m8 424,430,kG "_law_scene" "_law_scene" a6q m8 429,437,kG "_law_firm" "_law_firm" a7D m8 436,444,kG "_law_stands" "_law_stands" a7S m8 443,451,kG "_law_falls" "_law_falls" a7h m8 450,456,kG "_law_speaking" "_law_speaking" a5U m8 455,461,kG "_law_against" "_law_against" a6x m8 460,468,kG "_law_beaten" "_law_beaten" a7e m8 467,473,kG "_law_may_hold" "_law_may_hold" a6e m8 472,478,kG "_law_may_refuse" "_law_may_refuse" a6D m8 477,485,kG "_law_sures" "_law_sures" a8j m8 484,492,kG "_law_grown" "_law_grown" a8n m8 491,497,kG "_law_drawn_claims" "_law_drawn_claims" a5V m8 496,504,kG "_law_written" "_law_written" a7x m8 503,509,kG "_law_follows" "_law_follows" a5k m8 508,514,kG "law" "law" a2r m8 513,148,197,230,256,289,355⟩
theorem b3c {K:Qd} {n q:String} {s:Stmt} {m:Value} {f c:Nat} (l:K.lookup f=some (kF n q s m c)) (e:Jr K (.ref c) q=true) (k:Zc K (.ref f)=true):Fun K n q s f (kG n q s m c):=b4Y l e k
theorem txt (P:Params) {h:Heap} {mg:Str→Option Value} (X:(a3Z P).In h) (G:h.Ns mainGlobals mg):Txt (a3Z P) mg adr:=by
 constructor
 case k_HELD=>exact ⟨236,Vm X G (by kernel_rfl)⟩
 case k_REFUSED=>exact ⟨238,Vm X G (by kernel_rfl)⟩
 all_goals first
  | exact b3c (by kernel_rfl) (by kernel_rfl) (by kernel_rfl)
  | exact .all fun us hl=>match us,hl with | [_],_=>rfl
  | exact .all fun us hl=>match us,hl with | [_,_],_=>rfl
  | exact .all fun us hl=>match us,hl with | [_,_,_],_=>rfl
  | exact .all fun us hl=>match us,hl with | [_,_,_,_],_=>rfl
  | exact .all fun us hl=>match us,hl with | [_,_,_,_,_],_=>rfl
  | exact Vm X G (by kernel_rfl)
  | exact PySem.W.mg_none_of X G (by kernel_rfl)
  | kernel_rfl
  | exact ⟨by kernel_rfl,by kernel_rfl,by kernel_rfl⟩
  | exact ⟨by kernel_rfl,by kernel_rfl,by kernel_rfl,by kernel_rfl⟩
  | exact (by kernel_rfl:Yj _ _ _=_)
  | exact b2V (by k_is) (by kernel_rfl) (by kernel_rfl) (by kernel_rfl)
end K54
theorem K54.said0:PySem.Challenge.rw_mostwise_k54_whole_no_paper_lies.wellSaid=true:=by kernel_rfl
set_option maxRecDepth 100000 in
set_option maxHeartbeats 0 in
theorem PySem.Challenge.cw_mostwise_k54_whole_no_paper_lies_holds : PySem.Challenge.rw_mostwise_k54_whole_no_paper_lies.Holds := by
 w_on;refine PySem.W.holds_law K54.said0 fun said=>?_
 refine PySem.W.holds_open (q:=K54.b1d) (loose:=[]) (Xt:=fun s=>PySem.W.xlAt K54.b1d [] s && PySem.W.recOk (PySem.W.RowW.records (PySem.W.OpenRow.toRowW PySem.Challenge.rw_mostwise_k54_whole_no_paper_lies.row)) s) (XP:=PySem.W.XL K54.b1d []) (Yf:=Jl.obs (Jd K54.a3Z K54.a6b K54.a8c)) (Ya:=Jl.val (Jd K54.a3Z K54.a6b K54.a8c)) (YP:=Jl.says (Jd K54.a3Z K54.a6b K54.a8c)) (N:=6756) ?hl (Jl.of (Jd K54.a3Z K54.a6b K54.a8c)) (Jl.keeps (Jd K54.a3Z K54.a6b K54.a8c)) (fun s e=>PySem.W.xl_of s (Vi.mp e).1) PySem.W.XL.keeps (by rfl) (by rfl) (by rfl) (fun s e=>PySem.W.recFacts_of (Vi.mp e).2) (by rfl) (by first | assumption | decide+kernel) ‹dk› ⟨rfl,rfl,rfl,rfl,rfl,by decide+kernel⟩ ?hw ?hc
 (case hl=>refine PySem.W.LeftO.of_pieces (H₀:=K54.H0) (H₁:=K54.H1) (gs₀:=#[]) (gs₁:=#[]) (d₀:={}) (d₁:={}) (k₀:=181) (k₁:=838) (m₀:=11) (ann:=(some (.ref 6))) (M:=3332) K54.b4B ?_ K54.b6I rfl ?_<;>(intro w;kernel_rfl))
 (case hw=>w_witness2)
 k_fill
 refine L2.a9v (l:=PySem.Challenge.rw_mostwise_k54_whole_no_paper_lies) (n:=63) (k:=8) (x:="_law_script") (CX:=L2.CX0) (sp:=K54.b1l) rfl ‹dc› rfl ⟨rfl,by decide,by decide⟩ (fun w h Y=>PySem.W.kIn_of Y) ?F (fun K H a ns hl hO hS=>K54.a8Y hl hO hS) (fun _ _ _ _ z=>z)
 case F=>
  intro w mg fa h KX G hmg
  have T:K54.Txt (L2.KOf KX) mg K54.adr:=K54.txt w.params KX G
  obtain ⟨_,_,_,_,_,_,_,_,_,e2,_,_⟩:=T.F_d_law.ex
  have e0:=hmg.symm.trans T.g_d_law
  cases e0
  exact ⟨K54.adr.fd_d_law,fun s u=>by rw [e2];exact .of_eq rfl,fun base kb nb=>K54.a9G T⟩
